import PyProof.Rows.All
import Wide.All
import OpenK.AllK
import Wide.FinOn
import HandS.ForMost
import HandS.Star
import HandS.Style
import HandS.Wide
import HandS.IsInst
import HandS.EndBits
import HandS.More
import HandS.TupAny
import HandS.Evl
import KE.KeyNested
import PyProof.DictMoreH
import HandS.SetKeys
import HandS.DictComp
import PyProof.ReprRoads
import KE.SortData
import KE.DataCmp
import HandS.SortRule
import HandS.Lambda
import HandS.Deep
import HandS.Text
import HandS.Iter
import PyProof.CallFns
import PyProof.Rows.TupDisplay
import HandS.TupLen
import HandS.Defaults
import HandS.Conv
import HandS.Flow
import HandS.SetFor
import HandS.OwnEq
import HandS.Dict
import KE.DataMinMax
import HandS.SortKw
import KE.SortKeyHeap
import HandS.NestedK
import PySem.Challenge.RW_leafround_k11_whole_just_one_row
set_option Elab.async false
set_option linter.all false
set_option maxRecDepth 100000
namespace Lf
open PySem PySem.Spec PyProof.Rows L2

/-- an own def: where it stands, its promise, how it is called -/
def Callee (P : Program) (w : World) (K : PySem.W.Frag) (mg : Str → Option Value) (base : Heap) (k : Nat) (x : Str) (ps : List Str) (sp : Sp) : Prop :=
  ∃ (f : Addr) (fd : FuncData), FnOk P w K mg base CX0 k f fd ps sp ∧ mg x = some (.ref f) ∧ PySem.W.keepIn K (.ref f) = true ∧ Binds K fd ps []
section
variable {X : Cx} {k : Nat} {x : Str} {ps : List Str} {sp : Sp} {e : Expr} {es : List Expr} {t : TA} {p pos : Pos}
theorem pe_own (C : Callee X.prog X.w X.K X.mg X.base k x ps sp) (hr : Room k X.A) (hg : Gl X x) (ha : PA X (e :: es) t)
    (hdb : (x == ("__debug__" : Str)) = false := by decide) (he : starEach (e :: es) X.env = (false, eval e X.env) :: starEach es X.env := by rfl) (hpl : (backTo pos (starEach es X.env)).any (·.1) = false := by rfl) :
    PE X (.Call (.Name x p) (e :: es) [] pos) (tCall sp [] E0 t) := by
  obtain ⟨f, fd, F, hm, hk, hb⟩ := C
  exact pe_call F hr hg hm hk hb .nil pass0 ha hdb he hpl
end

/-- all but the object at a stays -/
def Kp (a : Addr) (H H' : Hp) : Prop := ∀ b o, b ≠ a → H b = some o → H' b = some o
theorem Kp.refl (a : Addr) (H : Hp) : Kp a H H := fun _ _ _ h => h
theorem Kp.trans {a : Addr} {H H1 H2 : Hp} (x : Kp a H H1) (y : Kp a H1 H2) : Kp a H H2 := fun b o n h => y b o n (x b o n h)
theorem Kp.new {a p : Addr} {H H' : Hp} {o : HO} (x : Kp a H H') (h : H' p = none) : Kp a H (upd H' p o) := fun b u n e => by
  rw [upd_ne (ne_of_none (x b u n e) h)]
  exact x b u n e
theorem Kp.mut {a : Addr} {H H' : Hp} {o : HO} (x : Kp a H H') : Kp a H (upd H' a o) := fun b u n e => by
  rw [upd_ne n]
  exact x b u n e
theorem Kp.seqL {K : PySem.W.Frag} {a p : Addr} {H H' : Hp} {xs : List V} (x : Kp a H H') (n : p ≠ a) (h : SqL K H p xs) : SqL K H' p xs := by
  rcases h with (h | ⟨o, h⟩) | h
  · exact .inl (.inl (x _ _ n h))
  · exact .inl (.inr ⟨o, x _ _ n h⟩)
  · exact .inr h

/-- the tape: two ints -/
def TapeAt (H : Hp) (a : Addr) : Prop := ∃ u v : Int, H a = some (.lst [.int u, .int v]) ∧ 0 ≤ u ∧ 0 ≤ v ∧ v < 2147483648
theorem TapeAt.keep {a b : Addr} {H H' : Hp} (h : TapeAt H a) (k : Kp b H H') (n : a ≠ b) : TapeAt H' a := by
  obtain ⟨u, v, e, r⟩ := h
  exact ⟨u, v, k _ _ n e, r⟩
theorem TapeAt.new {a p : Addr} {H : Hp} {o : HO} (h : TapeAt H a) (n : H p = none) : TapeAt (upd H p o) a := by
  obtain ⟨u, v, e, r⟩ := h
  exact ⟨u, v, by rw [upd_ne (ne_of_none e n)]; exact e, r⟩
def spDigit : Sp := fun vs H Q _ => ∃ (a : Addr) (n : Int), vs = [.ref a, .int n] ∧ TapeAt H a ∧ 0 < n ∧ n ≤ 10 ^ 60 ∧
  ∀ (v : Int) (H' : Hp), Kp a H H' → TapeAt H' a → 0 ≤ v → v < n → Q (.int v) H'
/-- an object that H does not know may change -/
theorem Kp.mutN {a p : Addr} {H H' : Hp} {o : HO} (x : Kp a H H') (h : H p = none) : Kp a H (upd H' p o) := fun b u n e => by
  rw [upd_ne (ne_of_none e h)]
  exact x b u n e
theorem Kp.fresh {a p : Addr} {H H' : Hp} (x : Kp a H H') (h : H' p = none) (n : p ≠ a) : H p = none := by
  cases e : H p with
  | none => rfl
  | some o =>
    rw [x p o n e] at h
    cases h
theorem Kp.get {a b : Addr} {H H' : Hp} {o : HO} (x : Kp a H H') (n : b ≠ a) (h : H b = some o) : H' b = some o := x b o n h
theorem TapeAt.ne {a p : Addr} {H : Hp} (h : TapeAt H a) (n : H p = none) : p ≠ a := fun e => by
  obtain ⟨u, v, h, _⟩ := h
  rw [e, h] at n
  cases n
theorem TapeAt.mut {a p : Addr} {H : Hp} {o : HO} (h : TapeAt H a) (n : p ≠ a) : TapeAt (upd H p o) a := by
  obtain ⟨u, v, e, r⟩ := h
  exact ⟨u, v, by rw [upd_ne n.symm]; exact e, r⟩
theorem atI_mem {α : Type} {xs : List α} {i : Int} (h0 : 0 ≤ i) (h1 : i < xs.length) : ∃ x, x ∈ xs ∧ atI xs i = some x := by
  obtain ⟨n, rfl⟩ := Int.eq_ofNat_of_zero_le h0
  have h : n < xs.length := by omega
  exact ⟨xs[n], List.getElem_mem h, atI_nat (List.getElem?_eq_getElem h)⟩
theorem str_len_append (x y : Str) : (x ++ y).length = x.length + y.length := by
  show (x.cps ++ y.cps).size = _
  rw [Array.size_append]
  rfl
theorem join_len (sep : Str) (hs : sep.length = 0) : ∀ ys : List Str, (Str.join sep ys).length = (ys.map (·.length)).sum
  | [] => rfl
  | [x] => by
    show x.length = x.length + 0
    omega
  | x :: y :: r => by
    show (x ++ sep ++ Str.join sep (y :: r)).length = x.length + ((y :: r).map (·.length)).sum
    rw [str_len_append, str_len_append, join_len sep hs (y :: r), hs]
    omega
theorem sum_ones : ∀ {ys : List Str}, (∀ y ∈ ys, y.length = 1) → (ys.map (·.length)).sum = ys.length
  | [], _ => rfl
  | y :: r, h => by
    rw [List.map_cons, List.sum_cons, h y (List.mem_cons_self ..), sum_ones fun z hz => h z (List.mem_cons_of_mem _ hz)]
    show 1 + r.length = r.length + 1
    omega
end Lf
namespace L2
open PySem
theorem Same.kp {a : Addr} {H H' : Hp} (s : Same H H') : Lf.Kp a H H' := fun b o _ h => s b o h
theorem same_new {H : Hp} {p : Addr} {o : HO} (h : H p = none) : Same H (upd H p o) := fun b x e => by
  rw [upd_ne (ne_of_none e h)]
  exact e
theorem Same.tr {H H1 H2 : Hp} (x : Same H H1) (y : Same H1 H2) : Same H H2 := fun b o h => y b o (x b o h)
theorem Same.fresh {H H' : Hp} {p : Addr} (s : Same H H') (h : H' p = none) : H p = none := by
  cases e : H p with
  | none => rfl
  | some o =>
    rw [s p o e] at h
    cases h
theorem Same.mutN {H H' : Hp} {p : Addr} {o : HO} (s : Same H H') (h : H p = none) : Same H (upd H' p o) := fun b u e => by
  rw [upd_ne (ne_of_none e h)]
  exact s b u e
theorem same_refl (H : Hp) : Same H H := fun _ _ h => h
end L2
namespace Lf
open PySem PySem.Spec PyProof.Rows L2
/-- a comprehension over enumerate(list): each turn's pair is a new tuple at T -/
theorem lc_enum {K : PySem.W.Frag} {a : Addr} {xs : List V} {g : TG} {tt : TT} {te : TE} {vs : List Nat} {σ : L2.St} {H1 : Hp} {D : Addr} {Qd : Hp → Prop} (Pv : Nat → Hp → Prop)
    (h0 : Pv 0 (upd H1 D (.lst []))) (hl : ∀ i H, Pv i H → SqL K H a xs)
    (hs : ∀ i x T H, xs[i]? = some x → H T = none → Pv i H → g (.ref T) (wipe σ vs) (upd H T (.tup [.int (i : Nat), x])) fun σ2 H2 => wipe σ2 vs = wipe σ vs ∧ tt σ2 H2 fun b H3 =>
      if b = true then te σ2 H3 fun y H4 => ∃ acc, H4 D = some (.lst acc) ∧ acc.length < sizeLine ∧ Pv (i + 1) (upd H4 D (.lst (acc ++ [y]))) else Pv (i + 1) H3)
    (hd : ∀ H, Pv xs.length H → Qd H) :
    ∃ W : Nat → Nat → Hp → Prop, (∃ m, W 0 m (upd H1 D (.lst []))) ∧ ∀ i m H, W i m H → ((Ite K a).stop i H ∧ Qd H) ∨
      ((Ite K a).go i H ∧ ∃ Nx : Hp → Prop, (∀ H', Nx H' → ∃ m', m' < m ∧ W (i + 1) m' H') ∧ ∀ x H', (Ite K a).yld i H x H' → g x (wipe σ vs) H' fun σ2 H2 => wipe σ2 vs = wipe σ vs ∧ tt σ2 H2 fun b H3 =>
        if b = true then te σ2 H3 fun y H4 => ∃ acc, H4 D = some (.lst acc) ∧ acc.length < sizeLine ∧ Nx (upd H4 D (.lst (acc ++ [y]))) else Nx H3) := by
  refine ⟨fun i m H => i + m = xs.length ∧ Pv i H, ⟨xs.length, Nat.zero_add _, h0⟩, fun i m H ⟨em, p⟩ => ?_⟩
  by_cases hi : i < xs.length
  · refine .inr ⟨⟨xs, xs[i], hl i H p, List.getElem?_eq_getElem hi⟩, Pv (i + 1), fun H' p' => ⟨m - 1, by omega, by omega, p'⟩, fun x H' y => ?_⟩
    obtain ⟨T, z, rfl, hT, rfl, hz⟩ := y
    exact hs i z T H (hz xs (hl i H p)) hT p
  · have e : i = xs.length := by omega
    exact .inl ⟨⟨xs, hl i H p, by omega⟩, hd H (e ▸ p)⟩
end Lf
namespace Lf
open PySem PySem.Spec PyProof.Rows L2
/-- signs that a text may hold -/
abbrev SOk (x : Str) : Prop := ∀ c ∈ x.cps.toList, c < 0x110000
theorem sok_append {x y : Str} (h1 : SOk x) (h2 : SOk y) : SOk (x ++ y) := fun c hc => by
  have e : (x ++ y).cps.toList = x.cps.toList ++ y.cps.toList := by
    show (x.cps ++ y.cps).toList = _
    rw [Array.toList_append]
  rw [e] at hc
  rcases List.mem_append.mp hc with h | h
  · exact h1 c h
  · exact h2 c h
theorem sok_join {sep : Str} (hs : SOk sep) : ∀ {ys : List Str}, (∀ y ∈ ys, SOk y) → SOk (Str.join sep ys)
  | [], _ => fun c hc => by
    have h : c ∈ ([] : List Nat) := hc
    cases h
  | [x], h => h x (List.mem_cons_self ..)
  | x :: y :: r, h => sok_append (sok_append (h x (List.mem_cons_self ..)) hs) (sok_join hs fun z hz => h z (List.mem_cons_of_mem _ hz))
end Lf
namespace Lf
open PySem PySem.Spec PyProof.Rows L2
theorem len_K {X : Cx} : CallR X (.builtin "len") (Evl.rLenS X.K) := call_len_seq
end Lf
/-! Dicts whose keys are data of any depth: None, whole numbers, tuples of what they like. -/
namespace Vd
open PySem
section
variable {prog : Program} {w : World} {A : Around} {E : Value → Shared → Prop} {s : Shared}
abbrev Row := NestedKey × Value × Value
/-- what may be a key here: not too deep -/
structure KeyOk (k : NestedKey) : Prop where
  deep : k.depth ≤ 8
  noText : ∀ x, k = .text x → True
def ent (w : World) (x : Row) : DictEntry := { hash := x.1.hash w, key := x.2.1, val := x.2.2 }
/-- these rows may stand in a dict of the heap h -/
structure Rows (h : Heap) (xs : List Row) : Prop where
  ok : ∀ x ∈ xs, KeyOk x.1
  is : ∀ x ∈ xs, NestedIs h x.1 x.2.1
  nd : (xs.map (·.1)).Nodup
theorem one_place {xs : List Row} (hn : (xs.map (·.1)).Nodup) {i j : Nat} {k : NestedKey} {p q : Value × Value} (hi : xs[i]? = some (k, p)) (hj : xs[j]? = some (k, q)) : i = j := by
  have a : (xs.map (·.1))[i]? = some k := by rw [List.getElem?_map, hi]; rfl
  have b : (xs.map (·.1))[j]? = some k := by rw [List.getElem?_map, hj]; rfl
  exact (List.getElem?_inj (List.getElem?_eq_some_iff.mp a).1 hn).mp (a.trans b.symm)
theorem ent_at {es : Array DictEntry} {xs : List Row} (he : es.toList = xs.map (ent w)) (j : Nat) : es[j]? = (xs[j]?).map (ent w) := by
  rw [← Array.getElem?_toList, he, List.getElem?_map]
theorem ent_size {es : Array DictEntry} {xs : List Row} (he : es.toList = xs.map (ent w)) : es.size = xs.length := by
  rw [← Array.length_toList, he, List.length_map]
theorem eq_key {x y : NestedKey} {a b : Value} {Q : Bool → Shared → Prop} (hx : NestedIs s.heap x a) (hy : NestedIs s.heap y b) (ox : x.depth ≤ 8) (hu : A.units + 8 < cLine) (h : Q (decide (x = y)) s) :
    wpAny (model prog w) A (eqBool a b) Q E s := by
  have hm : A.units + min x.depth y.depth < cLine := by omega
  exact eqAt_key x y A s _ _ hx hy hm _ _ _ _ (by rw [← NestedKey.decide_eq]; exact h)
/-- the places asked are those of one hash -/
theorem places_mem {n i : Nat} {f : Nat → Option Int} {h : Int} : i ∈ placesWithHash n f h ↔ i < n ∧ (f i == some h) = true := by
  unfold placesWithHash
  rw [List.mem_filter, List.mem_range]
theorem places_nodup {n : Nat} {f : Nat → Option Int} {h : Int} : (placesWithHash n f h).Nodup := by
  unfold placesWithHash
  exact List.Pairwise.filter _ List.nodup_range
theorem may_tell {key : Value} {k : NestedKey} {stored : List Value} {Q : Bool → Shared → Prop} (hk : NestedIs s.heap k key) (ok : k.depth ≤ 8) (hst : ∀ v ∈ stored, ∃ j, NestedIs s.heap j v ∧ j.depth ≤ 8) (h : Q false s) :
    wpAny (model prog w) A (tableMayTell key stored) Q E s := by
  unfold tableMayTell
  split
  · exact wpAny_pure h
  · refine wpAny_bind (quiet_key k key 8 s hk ok A E _ ?_)
    rw [if_neg (by simp)]
    refine wpAny_bind (wpAny_forIn_list _ (fun rest r s' => s' = s ∧ r = (none, ()) ∧ ∀ v ∈ rest, ∃ j, NestedIs s.heap j v ∧ j.depth ≤ 8) _ ?_ ?_ _ _ ⟨rfl, rfl, hst⟩)
    · rintro x rest r s' ⟨rfl, rfl, hr⟩
      obtain ⟨j, hj, oj⟩ := hr x (List.mem_cons_self ..)
      refine wpAny_bind (quiet_key j x 8 s' hj oj A E _ ?_)
      rw [if_neg (by simp)]
      exact wpAny_pure ⟨rfl, rfl, fun v hv => hr v (List.mem_cons_of_mem _ hv)⟩
    · rintro r s' ⟨rfl, rfl, _⟩
      exact wpAny_pure h
theorem wIf {M : Model} {α : Type} {c : Prop} [Decidable c] {x y : Sem α} {Q : α → Shared → Prop} (h1 : c → wpAny M A x Q E s) (h2 : ¬ c → wpAny M A y Q E s) : wpAny M A (if c then x else y) Q E s := by
  by_cases h : c
  · rw [if_pos h]; exact h1 h
  · rw [if_neg h]; exact h2 h
/-- where a key stands, if anywhere -/
theorem find {d : Addr} {key : Value} {o : Obj} {es : Array DictEntry} {ep : Nat} {xs : List Row} {k : NestedKey} {Q : Option Nat → Shared → Prop} (hu : A.units + 8 < cLine) (hk : NestedIs s.heap k key) (ok : KeyOk k)
    (ho : s.heap.get? d = some o) (hd : o.data = .dict es ep) (he : es.toList = xs.map (ent w)) (R : Rows s.heap xs)
    (h0 : (∀ (j : Nat) (p : Value × Value), xs[j]? ≠ some (k, p)) → Q none s) (h1 : ∀ (j : Nat) (p : Value × Value), xs[j]? = some (k, p) → Q (some j) s) :
    wpAny (model prog w) A (dictFind d key (k.hash w)) Q E s := by
  have hsz : es.size = xs.length := ent_size he
  have row : ∀ i : Nat, i < es.size → ∃ (z : NestedKey) (p : Value × Value), xs[i]? = some (z, p) ∧ es[i]? = some (ent w (z, p)) ∧ NestedIs s.heap z p.1 ∧ KeyOk z := by
    intro i hi
    have hx : xs[i]? = some (xs[i]'(by omega)) := List.getElem?_eq_getElem _
    refine ⟨(xs[i]'(by omega)).1, (xs[i]'(by omega)).2, hx, ?_, R.is _ (List.mem_of_getElem? hx), R.ok _ (List.mem_of_getElem? hx)⟩
    rw [ent_at he i, hx]
    rfl
  have rowm : ∀ e ∈ es, ∃ z p, e = ent w (z, p) ∧ NestedIs s.heap z p.1 ∧ KeyOk z := by
    intro e hin
    obtain ⟨i, hi⟩ := Array.mem_iff_getElem?.mp hin
    obtain ⟨z, p, _, e2, r1, r2⟩ := row i (Array.getElem?_eq_some_iff.mp hi).1
    exact ⟨z, p, Option.some.inj (hi.symm.trans e2), r1, r2⟩
  generalize hpl : placesWithHash es.size (fun i => es[i]?.map (·.hash)) (k.hash w) = places
  have pm : ∀ i ∈ places, i < es.size ∧ ((es[i]?.map (·.hash)) == some (k.hash w)) = true := fun i hi => places_mem.mp (hpl ▸ hi)
  have pin : ∀ (j : Nat) (p : Value × Value), xs[j]? = some (k, p) → j ∈ places := by
    intro j p hj
    rw [← hpl]
    refine places_mem.mpr ⟨?_, ?_⟩
    · rw [hsz]
      exact (List.getElem?_eq_some_iff.mp hj).1
    · show (es[j]?.map (·.hash) == some (k.hash w)) = true
      rw [ent_at he j, hj]
      simp [ent]
  have pnd : places.Nodup := hpl ▸ places_nodup
  have turn : ∀ x ∈ places, ∃ (z : NestedKey) (p : Value × Value), xs[x]? = some (z, p) ∧ es[x]? = some (ent w (z, p)) ∧ NestedIs s.heap z p.1 ∧ KeyOk z ∧ z.hash w = k.hash w := by
    intro x hx
    obtain ⟨a, b⟩ := pm x hx
    obtain ⟨z, p, e1, e2, r1, r2⟩ := row x a
    refine ⟨z, p, e1, e2, r1, r2, ?_⟩
    rw [e2] at b
    simpa [ent] using b
  have walk : wpAny (model prog w) A (dictWalkPlain d key (k.hash w) es places) Q E s := by
    unfold dictWalkPlain
    refine wpAny_bind (wpAny_forIn_list _ (fun rest r s' => s' = s ∧ r = (none, ()) ∧ (∀ i ∈ rest, i ∈ places) ∧ ∀ (j : Nat) (p : Value × Value), xs[j]? = some (k, p) → j ∈ rest) _ ?_ ?_ _ _ ⟨rfl, rfl, fun _ h => h, pin⟩)
    · rintro x rest r s' ⟨rfl, rfl, hr, hj⟩
      obtain ⟨z, p, e1, e2, r1, r2, r3⟩ := turn x (hr x (List.mem_cons_self ..))
      have later : z ≠ k → ∀ (j : Nat) (p : Value × Value), xs[j]? = some (k, p) → j ∈ rest := fun ne j q hq => by
        rcases List.mem_cons.mp (hj j q hq) with e | h
        · subst e
          rw [e1] at hq
          cases hq
          exact absurd rfl ne
        · exact h
      rw [e2]
      dsimp only [ent]
      rw [if_pos (by rw [r3]; simp)]
      refine wpAny_bind (wpAny_dictEpoch ho hd (wpAny_bind (eq_key r1 hk r2.deep hu (wpAny_bind (wpAny_dictEpoch ho hd ?_)))))
      rw [if_neg (by simp)]
      by_cases c : z = k
      · rw [decide_eq_true c, if_pos rfl]
        subst c
        exact wpAny_bind (wpAny_rule (wpAny_pure (wpAny_pure (h1 x p e1))))
      · rw [decide_eq_false c, if_neg (by simp)]
        exact wpAny_bind (wpAny_rule (wpAny_pure ⟨rfl, rfl, fun i hi => hr i (List.mem_cons_of_mem _ hi), later c⟩))
    · rintro r s' ⟨rfl, rfl, _, hj⟩
      exact wpAny_pure (h0 fun j p hp => nomatch hj j p hp)
  have stq : ∀ v ∈ places.filterMap (fun i => es[i]?.map (·.key)), ∃ j, NestedIs s.heap j v ∧ j.depth ≤ 8 := by
    intro v hv
    obtain ⟨i, hi, e⟩ := List.mem_filterMap.mp hv
    obtain ⟨z, p, _, e2, r1, r2, _⟩ := turn i hi
    rw [e2] at e
    cases e
    exact ⟨z, r1, r2.deep⟩
  unfold dictFind
  refine wpAny_holding ?_
  refine wpAny_bind (wpAny_dictEntries ho hd ?_)
  have nany : ∀ a : Addr, key = .ref a → ¬ (es.any fun e => e.key == Value.ref a && e.hash != k.hash w) = true := by
    rintro a rfl
    rw [← Array.any_toList, List.any_eq_true]
    rintro ⟨e, hin, hc⟩
    obtain ⟨z, p, rfl, r1, r2⟩ := rowm e (Array.mem_toList_iff.mp hin)
    simp only [ent, Bool.and_eq_true, beq_iff_eq, bne_iff_ne, ne_eq] at hc
    have q := hc.1 ▸ r1
    exact hc.2 (by rw [NestedIs.inj _ _ _ q hk])
  have loop : ∀ f : Nat → Option (Option Nat) × Option Nat → Sem (ForInStep (Option (Option Nat) × Option Nat)),
      (∀ (i : Nat) (z : NestedKey) (p : Value × Value) (hit : Option Nat) (P : ForInStep (Option (Option Nat) × Option Nat) → Shared → Prop), es[i]? = some (ent w (z, p)) → NestedIs s.heap z p.1 → KeyOk z → z.hash w = k.hash w →
        (z = k → hit = none ∧ P (.done (some (some i), hit)) s ∧ P (.yield (none, some i)) s) → (z ≠ k → P (.yield (none, hit)) s) → wpAny (model prog w) A (f i (none, hit)) P E s) →
      wpAny (model prog w) A (forIn places (none, none) f) (fun r s' => s' = s ∧ ((∃ i p, xs[i]? = some (k, p) ∧ (r.1 = some (some i) ∨ (r.1 = none ∧ r.2 = some i))) ∨ ((∀ (j : Nat) (p : Value × Value), xs[j]? ≠ some (k, p)) ∧ r.1 = none ∧ r.2 = none))) E s := by
    intro f hf
    refine wpAny_forIn_list _ (fun rest r s' => s' = s ∧ rest.Nodup ∧ (∀ i ∈ rest, i ∈ places) ∧ r.1 = none ∧
      ((r.2 = none ∧ ∀ (j : Nat) (p : Value × Value), xs[j]? = some (k, p) → j ∈ rest) ∨ ∃ j p, r.2 = some j ∧ xs[j]? = some (k, p) ∧ j ∉ rest)) _ ?_ ?_ _ _ ⟨rfl, pnd, fun _ h => h, rfl, .inl ⟨rfl, pin⟩⟩
    · rintro x rest ⟨r1, hit⟩ s' ⟨rfl, hn, hr, e, hj⟩
      dsimp only at e hj
      subst e
      obtain ⟨z, p, e1, e2, i1, i2, i3⟩ := turn x (hr x (List.mem_cons_self ..))
      have hn' := List.nodup_cons.mp hn
      refine hf x z p hit _ e2 i1 i2 i3 (fun c => ?_) fun c => ⟨rfl, hn'.2, fun i hi => hr i (List.mem_cons_of_mem _ hi), rfl, ?_⟩
      · subst c
        have hz : hit = none := by
          rcases hj with ⟨a, _⟩ | ⟨j, q, _, b, c⟩
          · exact a
          · exact absurd (one_place R.nd e1 b ▸ List.mem_cons_self ..) c
        exact ⟨hz, ⟨rfl, .inl ⟨x, p, e1, .inl rfl⟩⟩, rfl, hn'.2, fun i hi => hr i (List.mem_cons_of_mem _ hi), rfl, .inr ⟨x, p, rfl, e1, hn'.1⟩⟩
      · rcases hj with ⟨a, b⟩ | ⟨j, q, a, b, c'⟩
        · refine .inl ⟨a, fun j q hq => ?_⟩
          rcases List.mem_cons.mp (b j q hq) with e | h
          · subst e
            rw [e1] at hq
            cases hq
            exact absurd rfl c
          · exact h
        · exact .inr ⟨j, q, a, b, fun h => c' (List.mem_cons_of_mem _ h)⟩
    · rintro ⟨r1, hit⟩ s' ⟨rfl, _, _, e, hj⟩
      dsimp only at e hj
      subst e
      rcases hj with ⟨rfl, b⟩ | ⟨j, q, rfl, b, _⟩
      · exact ⟨rfl, .inr ⟨fun j p hp => (nomatch b j p hp), rfl, rfl⟩⟩
      · exact ⟨rfl, .inl ⟨j, q, b, .inr ⟨rfl, rfl⟩⟩⟩
  have hk' := hk
  have bindW : ∀ W : Sem (Option Nat), wpAny (model prog w) A W Q E s → wpAny (model prog w) A (W >>= fun r => pure r) Q E s := fun W h => wpAny_bind (wpAny_mono h (fun _ _ h => wpAny_pure h) fun _ _ h => h)
  have walk' := bindW _ walk
  have tell : wpAny (model prog w) A (tableMayTell key (places.filterMap fun i => es[i]?.map (·.key))) (fun b s' => b = false ∧ s' = s) E s := may_tell hk ok.deep stq ⟨rfl, rfl⟩
  have step : ∀ {α : Type} {z : NestedKey} {p : Value × Value} {rest : Bool → Sem α} {P : α → Shared → Prop}, NestedIs s.heap z p.1 → KeyOk z → wpAny (model prog w) A (rest (decide (z = k))) P E s →
      wpAny (model prog w) A (eqBool p.1 key >>= rest) P E s := fun a b c => wpAny_bind (eq_key a hk b.deep hu c)
  have dec : ∀ z : NestedKey, z = k ∨ z ≠ k := fun z => Decidable.em _
  cases hk with
  | text x t =>
    dsimp only
    simp only [hpl]
    refine wIf (fun hall => ?_) fun _ => ?_
    · unfold foundByValue
      cases hf : es.findIdx? (fun e => e.key.isStr x) with
      | none =>
        refine wpAny_pure (h0 fun j p hj => ?_)
        have hx := ent_at (w := w) he j
        rw [hj] at hx
        have := Array.findIdx?_eq_none_iff.mp hf (ent w (.text x, p)) (Array.mem_of_getElem? hx)
        have r := R.is _ (List.mem_of_getElem? hj)
        dsimp only [ent] at this r
        generalize p.1 = v at this r
        cases r
        simp [Value.isStr] at this
      | some i =>
        have hi : i < es.size := (Array.findIdx?_eq_some_iff_getElem.mp hf).1
        have hs := (Array.findIdx?_eq_some_iff_getElem.mp hf).2.1
        obtain ⟨z, p, e1, e2, r1, r2⟩ := row i hi
        have ez : z = .text x := by
          have e3 : es[i] = ent w (z, p) := Option.some.inj ((Array.getElem?_eq_getElem hi).symm.trans e2)
          rw [e3] at hs
          dsimp only [ent] at hs
          generalize p.1 = v at hs r1
          cases r1 with
          | text y u =>
            simp [Value.isStr] at hs
            rw [hs]
          | _ => simp [Value.isStr] at hs
        subst ez
        dsimp only
        rw [e2]
        dsimp only [ent]
        refine wpAny_bind (wpAny_dictEpoch ho hd (wpAny_bind (eq_key r1 hk' r2.deep hu (wpAny_bind (wpAny_dictEpoch ho hd ?_)))))
        rw [if_neg (by simp), decide_eq_true rfl, if_pos rfl]
        exact wpAny_bind (wpAny_rule (wpAny_pure (h1 i p e1)))
    · skip
      refine wIf (fun ca => ?_) fun _ => ?_
      · first | exact walk | exact walk' | (simp [carriedByValue] at ca)
      · first | (refine wIf (fun c => absurd c (nany _ rfl)) fun _ => ?_) | skip
        refine wIf (fun _ => ?_) fun _ => ?_ <;>
          (first | refine wpAny_bind (wpAny_pure ?_) | refine wpAny_bind (wpAny_mono tell (fun b s' h => ?_) fun _ _ h => h); obtain ⟨rfl, rfl⟩ := h)
        all_goals
          rw [if_neg (by simp)]
          refine wpAny_bind (wpAny_mono (loop _ fun i z p hit P e2 i1 i2 i3 yes no => ?_) (fun r s' h => ?_) fun _ _ h => h)
          rotate_left
          · obtain ⟨rfl, ⟨i, p, e1, e | ⟨e, e'⟩⟩ | ⟨no, e, e'⟩⟩ := h <;> rw [e]
            · exact wpAny_pure (h1 i p e1)
            · dsimp only
              rw [e']
              exact wpAny_pure (h1 i p e1)
            · dsimp only
              rw [e']
              exact wpAny_pure (h0 no)
          rw [e2]
          dsimp only [ent]
          rw [if_pos (by rw [i3]; simp)]
          refine wpAny_bind (wpAny_dictEpoch ho hd (step i1 i2 (wpAny_bind (wpAny_dictEpoch ho hd ?_))))
          rw [if_neg (by simp)]
          rcases dec z with c | c
          · obtain ⟨rfl, y1, y2⟩ := yes c
            rw [decide_eq_true c, if_pos rfl, if_neg (by simp)]
            refine wpAny_bind (wpAny_rule ?_)
            split
            · exact wpAny_pure y1
            · exact wpAny_pure y2
          · rw [decide_eq_false c, if_neg (by simp)]
            refine wpAny_bind (wpAny_rule ?_)
            rw [if_neg (by simp)]
            exact wpAny_pure (no c)
  | _ =>
    dsimp only
    simp only [hpl]
    refine wIf (fun ca => ?_) fun _ => ?_
    · first | exact walk | exact walk' | (simp [carriedByValue] at ca)
    · first | (refine wIf (fun c => absurd c (nany _ rfl)) fun _ => ?_) | skip
      refine wIf (fun _ => ?_) fun _ => ?_ <;>
        (first | refine wpAny_bind (wpAny_pure ?_) | refine wpAny_bind (wpAny_mono tell (fun b s' h => ?_) fun _ _ h => h); obtain ⟨rfl, rfl⟩ := h)
      all_goals
        rw [if_neg (by simp)]
        refine wpAny_bind (wpAny_mono (loop _ fun i z p hit P e2 i1 i2 i3 yes no => ?_) (fun r s' h => ?_) fun _ _ h => h)
        rotate_left
        · obtain ⟨rfl, ⟨i, p, e1, e | ⟨e, e'⟩⟩ | ⟨no, e, e'⟩⟩ := h <;> rw [e]
          · exact wpAny_pure (h1 i p e1)
          · dsimp only
            rw [e']
            exact wpAny_pure (h1 i p e1)
          · dsimp only
            rw [e']
            exact wpAny_pure (h0 no)
        rw [e2]
        dsimp only [ent]
        rw [if_pos (by rw [i3]; simp)]
        refine wpAny_bind (wpAny_dictEpoch ho hd (step i1 i2 (wpAny_bind (wpAny_dictEpoch ho hd ?_))))
        rw [if_neg (by simp)]
        rcases dec z with c | c
        · obtain ⟨rfl, y1, y2⟩ := yes c
          rw [decide_eq_true c, if_pos rfl, if_neg (by simp)]
          refine wpAny_bind (wpAny_rule ?_)
          split
          · exact wpAny_pure y1
          · exact wpAny_pure y2
        · rw [decide_eq_false c, if_neg (by simp)]
          refine wpAny_bind (wpAny_rule ?_)
          rw [if_neg (by simp)]
          exact wpAny_pure (no c)
end
end Vd
namespace Vd
open PySem PySem.Calls PyProof.Rows
section
variable {prog : Program} {w : World} {A : Around} {E : Value → Shared → Prop} {s : Shared}
/-- what stands under a key -/
def look : List Row → NestedKey → Option Value
  | [], _ => none
  | x :: r, k => if x.1 = k then some x.2.2 else look r k
/-- a value put under a key: the key that stands there stays, a new one comes behind all -/
def put : List Row → NestedKey → Value → Value → List Row
  | [], k, a, v => [(k, a, v)]
  | x :: r, k, a, v => if x.1 = k then (x.1, x.2.1, v) :: r else x :: put r k a v
theorem look_none : ∀ {xs : List Row} {k : NestedKey}, (∀ (j : Nat) (p : Value × Value), xs[j]? ≠ some (k, p)) → look xs k = none
  | [], _, _ => rfl
  | x :: r, k, h => by
    rw [look, if_neg fun e => h 0 x.2 (by rw [← e]; rfl)]
    exact look_none fun j p e => h (j + 1) p e
theorem look_at : ∀ {xs : List Row} {j : Nat} {k : NestedKey} {p : Value × Value}, (xs.map (·.1)).Nodup → xs[j]? = some (k, p) → look xs k = some p.2
  | x :: r, 0, k, p, _, h => by
    cases h
    rw [look, if_pos rfl]
  | x :: r, j + 1, k, p, hn, h => by
    have hn' := List.nodup_cons.mp hn
    have hm : k ∈ r.map (·.1) := List.mem_map.mpr ⟨_, List.mem_of_getElem? (show r[j]? = some (k, p) from h), rfl⟩
    have ne : ¬ x.1 = k := fun e => hn'.1 (by show x.1 ∈ _; rw [e]; exact hm)
    rw [look, if_neg ne]
    exact look_at hn'.2 h
theorem put_new : ∀ {xs : List Row} {k : NestedKey} (a v : Value), (∀ (j : Nat) (p : Value × Value), xs[j]? ≠ some (k, p)) → put xs k a v = xs ++ [(k, a, v)]
  | [], _, _, _, _ => rfl
  | x :: r, k, a, v, h => by
    rw [put, if_neg fun e => h 0 x.2 (by rw [← e]; rfl), put_new a v fun j p e => h (j + 1) p e]
    rfl
theorem put_old (a v : Value) {k : NestedKey} {p : Value × Value} (xs : List Row) : ∀ {j : Nat}, (xs.map (·.1)).Nodup → xs[j]? = some (k, p) → put xs k a v = xs.set j (k, p.1, v) := by
  induction xs with
  | nil => intro j _ h; cases h
  | cons x r ih =>
    intro j hn h
    have hn' := List.nodup_cons.mp hn
    cases j with
    | zero =>
      have e : x = (k, p) := Option.some.inj h
      subst e
      rw [put, if_pos rfl]
      rfl
    | succ j =>
      have h' : r[j]? = some (k, p) := h
      have hm : k ∈ r.map (·.1) := List.mem_map.mpr ⟨_, List.mem_of_getElem? h', rfl⟩
      have ne : ¬ x.1 = k := fun e => hn'.1 (by show x.1 ∈ _; rw [e]; exact hm)
      rw [put, if_neg ne, ih hn'.2 h', List.set_cons_succ]
theorem put_keys : ∀ (xs : List Row) (k : NestedKey) (a v : Value), (put xs k a v).map (·.1) = if k ∈ xs.map (·.1) then xs.map (·.1) else xs.map (·.1) ++ [k]
  | [], k, a, v => rfl
  | x :: r, k, a, v => by
    rw [put]
    by_cases e : x.1 = k
    · rw [if_pos e, List.map_cons, List.map_cons, if_pos (by rw [e]; exact List.mem_cons_self ..)]
    · have ne : k ≠ x.1 := fun z => e z.symm
      rw [if_neg e, List.map_cons, List.map_cons, put_keys r k a v]
      by_cases m : k ∈ r.map (·.1)
      · rw [if_pos m, if_pos (List.mem_cons_of_mem _ m)]
      · rw [if_neg m, if_neg fun h => (List.mem_cons.mp h).elim ne m]
        rfl
theorem put_nd {xs : List Row} {k : NestedKey} {a v : Value} (h : (xs.map (·.1)).Nodup) : ((put xs k a v).map (·.1)).Nodup := by
  rw [put_keys]
  split
  · exact h
  · rename_i m
    refine List.nodup_append.mpr ⟨h, by simp, fun x hx y hy => ?_⟩
    rw [List.mem_singleton.mp hy]
    exact fun e => m (e ▸ hx)
theorem put_mem : ∀ {xs : List Row} {k : NestedKey} {a v : Value} {x : Row}, x ∈ put xs k a v → (x.1 = k ∧ x.2.1 = a) ∨ ∃ y ∈ xs, y.1 = x.1 ∧ y.2.1 = x.2.1
  | [], k, a, v, x, h => by
    rw [List.mem_singleton.mp h]
    exact .inl ⟨rfl, rfl⟩
  | z :: r, k, a, v, x, h => by
    rw [put] at h
    split at h
    · rcases List.mem_cons.mp h with e | h
      · rw [e]
        exact .inr ⟨z, List.mem_cons_self .., rfl, rfl⟩
      · exact .inr ⟨x, List.mem_cons_of_mem _ h, rfl, rfl⟩
    · rcases List.mem_cons.mp h with e | h
      · rw [e]
        exact .inr ⟨z, List.mem_cons_self .., rfl, rfl⟩
      · rcases put_mem h with h | ⟨y, h, e⟩
        · exact .inl h
        · exact .inr ⟨y, List.mem_cons_of_mem _ h, e⟩
theorem put_len (xs : List Row) (k : NestedKey) (a v : Value) : (put xs k a v).length ≤ xs.length + 1 := by
  have h := congrArg List.length (put_keys xs k a v)
  rw [List.length_map] at h
  rw [h]
  split <;> simp
/-- the object of a dict with these rows -/
def Holds (w : World) (h : Heap) (d : Addr) (xs : List Row) : Prop := ∃ o es ep, h.get? d = some o ∧ o.ExactDict ∧ o.data = .dict es ep ∧ es.toList = xs.map (ent w)
theorem Holds.ty {d : Addr} {xs : List Row} (x : Holds w s.heap d xs) : s.TypeIs (.ref d) "dict" := let ⟨o, _, _, e, c, _⟩ := x; ⟨o, e, c.1⟩
theorem Holds.stay {h h' : Heap} {d : Addr} {xs : List Row} (x : Holds w h d xs) (k : ∀ o, h.get? d = some o → h'.get? d = some o) : Holds w h' d xs := let ⟨o, es, ep, e, r⟩ := x; ⟨o, es, ep, k o e, r⟩
theorem Holds.new (h : Heap) : Holds w (h.push { cls := .type "dict", data := .dict #[] }) h.objs.size [] := ⟨_, #[], 0, Heap.get?_push_size _ rfl, ⟨rfl, rfl, rfl⟩, rfl, rfl⟩
/-- keys stay keys while a dict changes -/
theorem key_stays {h h' : Heap} {d : Addr} {o : Obj} {es : Array DictEntry} {ep : Nat} (ho : h.get? d = some o) (hd : o.data = .dict es ep) (sb : Heap.SameBut d h h') {k : NestedKey} {v : Value} (x : NestedIs h k v) : NestedIs h' k v :=
  NestedIs.at (fun b ob vs n hb hc => (sb.2 b fun e => by
    subst e
    rw [ho] at hb
    cases hb
    rw [hd] at hc
    cases hc).trans hb) k v x
theorem get {d : Addr} {key : Value} {xs : List Row} {k : NestedKey} {Q : Option Value → Shared → Prop} (hu : A.units + 8 < cLine) (hk : NestedIs s.heap k key) (ok : KeyOk k) (hm : Holds w s.heap d xs) (R : Rows s.heap xs)
    (h : Q (look xs k) { s with toks := s.toks + k.draws }) : wpAny (model prog w) A (dictGet d key) Q E s := by
  have hd8 := ok.deep
  obtain ⟨o, es, ep, ho, hc, hd, he⟩ := hm
  unfold dictGet
  refine wpAny_holding (wpAny_bind (pyHash_key k key A s _ hk (by omega) (wpAny_bind (find (s := { s with toks := s.toks + k.draws }) hu hk ok ho hd he ⟨R.ok, R.is, R.nd⟩ (fun no => ?_) fun j p hj => ?_))))
  · rw [look_none no] at h
    exact wpAny_pure h
  · rw [look_at R.nd hj] at h
    refine wpAny_bind (wpAny_dictEntries ho hd ?_)
    rw [ent_at he j, hj]
    exact wpAny_pure h
theorem set {d : Addr} {key v : Value} {xs : List Row} {k : NestedKey} {Q : Unit → Shared → Prop} (hu : A.units + 8 < cLine) (hk : NestedIs s.heap k key) (ok : KeyOk k) (hm : Holds w s.heap d xs) (R : Rows s.heap xs) (hz : xs.length ≤ sizeLine)
    (h : ∀ h', Holds w h' d (put xs k key v) → Rows h' (put xs k key v) → Heap.SameBut d s.heap h' → Q () { s with heap := h', toks := s.toks + k.draws }) : wpAny (model prog w) A (dictSet d key v) Q E s := by
  have hd8 := ok.deep
  obtain ⟨o, es, ep, ho, hc, hd, he⟩ := hm
  have hes := ent_size he
  have R' : ∀ h', Heap.SameBut d s.heap h' → Rows h' (put xs k key v) := fun h' sb => ⟨fun x hx => by
    rcases put_mem hx with ⟨e, _⟩ | ⟨y, hy, e, _⟩
    · rw [e]; exact ok
    · rw [← e]; exact R.ok y hy, fun x hx => by
    rcases put_mem hx with ⟨e, e'⟩ | ⟨y, hy, e, e'⟩
    · rw [e, e']; exact key_stays ho hd sb hk
    · rw [← e, ← e']; exact key_stays ho hd sb (R.is y hy), put_nd R.nd⟩
  unfold dictSet
  refine wpAny_holding (wpAny_bind (pyHash_key k key A s _ hk (by omega) ?_))
  unfold dictSetHashed
  refine wpAny_holding (wpAny_bind (find (s := { s with toks := s.toks + k.draws }) hu hk ok ho hd he ⟨R.ok, R.is, R.nd⟩ (fun no => ?_) fun j p hj => ?_))
  · refine wpAny_bind (wpAny_rule (wpAny_updateDictKeys (hz := by omega) ho hd (h _ ⟨_, _, ep + 1, Heap.get?_update_self _ ho (Obj.isFreed_of_dict (Obj.data_mapDictKeys hd _)), hc.mapDictKeys _, Obj.data_mapDictKeys hd _, ?_⟩ (R' _ (Heap.SameBut.update ..)) (Heap.SameBut.update ..))))
    rw [put_new _ _ no]
    simp [he, ent]
  · refine wpAny_bind (wpAny_rule (wpAny_bind (wpAny_updateDict ho hd (wpAny_point (h _ ⟨_, _, ep, Heap.get?_update_self _ ho (Obj.isFreed_of_dict (Obj.data_mapDict hd _)), hc.mapDict _, Obj.data_mapDict hd _, ?_⟩ (R' _ (Heap.SameBut.update ..)) (Heap.SameBut.update ..))))))
    have e1 : es[j]? = some (ent w (k, p)) := by rw [ent_at he j, hj]; rfl
    have e2 : (xs.map (ent w))[j]? = some (ent w (k, p)) := by rw [List.getElem?_map, hj]; rfl
    rw [put_old _ _ xs R.nd hj, Array.toList_modify, he]
    refine List.ext_getElem? fun i => ?_
    rw [List.getElem?_modify, List.map_set, List.getElem?_set]
    by_cases c : j = i
    · subst c
      have hlt : j < (xs.map (ent w)).length := (List.getElem?_eq_some_iff.mp e2).1
      rw [if_pos rfl, e2, if_pos hlt]
      simp [ent]
    · simp [c]
theorem setdefault {d : Addr} {key v : Value} {xs : List Row} {k : NestedKey} {Q : Value → Shared → Prop} (hu : A.units + 8 < cLine) (hk : NestedIs s.heap k key) (ok : KeyOk k) (hm : Holds w s.heap d xs) (R : Rows s.heap xs) (hz : xs.length ≤ sizeLine)
    (h1 : ∀ u, look xs k = some u → Q u { s with toks := s.toks + k.draws })
    (h2 : look xs k = none → ∀ h', Holds w h' d (put xs k key v) → Rows h' (put xs k key v) → Heap.SameBut d s.heap h' → Q v { s with heap := h', toks := s.toks + k.draws }) : wpAny (model prog w) A (dictSetDefault d key v) Q E s := by
  have hd8 := ok.deep
  obtain ⟨o, es, ep, ho, hc, hd, he⟩ := hm
  have hes := ent_size he
  have R' : ∀ h', Heap.SameBut d s.heap h' → Rows h' (put xs k key v) := fun h' sb => ⟨fun x hx => by
    rcases put_mem hx with ⟨e, _⟩ | ⟨y, hy, e, _⟩
    · rw [e]; exact ok
    · rw [← e]; exact R.ok y hy, fun x hx => by
    rcases put_mem hx with ⟨e, e'⟩ | ⟨y, hy, e, e'⟩
    · rw [e, e']; exact key_stays ho hd sb hk
    · rw [← e, ← e']; exact key_stays ho hd sb (R.is y hy), put_nd R.nd⟩
  unfold dictSetDefault
  refine wpAny_holding (wpAny_bind (pyHash_key k key A s _ hk (by omega) (wpAny_bind (find (s := { s with toks := s.toks + k.draws }) hu hk ok ho hd he ⟨R.ok, R.is, R.nd⟩ (fun no => ?_) fun j p hj => ?_))))
  · refine wpAny_bind (wpAny_rule (wpAny_bind (wpAny_updateDictKeys (hz := by omega) ho hd (wpAny_pure (h2 (look_none no) _ ⟨_, _, ep + 1, Heap.get?_update_self _ ho (Obj.isFreed_of_dict (Obj.data_mapDictKeys hd _)), hc.mapDictKeys _, Obj.data_mapDictKeys hd _, ?_⟩ (R' _ (Heap.SameBut.update ..)) (Heap.SameBut.update ..))))))
    rw [put_new _ _ no]
    simp [he, ent]
  · refine wpAny_bind (wpAny_dictEntries ho hd ?_)
    rw [ent_at he j, hj]
    exact wpAny_bind (wpAny_rule (wpAny_pure (h1 p.2 (look_at R.nd hj))))
end
end Vd
/-! Such dicts over the abstract heap. -/
namespace Vd
open PySem PySem.Spec PyProof.Rows L2
abbrev KVR := NestedKey × V × V
mutual
/-- the value y is the key k -/
def KeyAt (H : Hp) : NestedKey → V → Prop
  | .none, y => y = .non
  | .num i, y => y = .int i
  | .text x, y => y = .str x
  | .tup ks, y => ∃ a ys, y = .ref a ∧ H a = some (.tup ys) ∧ KeysAt H ks ys
def KeysAt (H : Hp) : List NestedKey → List V → Prop
  | [], ys => ys = []
  | k :: ks, ys => ∃ y r, ys = y :: r ∧ KeyAt H k y ∧ KeysAt H ks r
end
/-- the tuples of H stand in H' -/
def Tups (H H' : Hp) : Prop := ∀ a xs, H a = some (.tup xs) → H' a = some (.tup xs)
mutual
theorem KeyAt.keep {H H' : Hp} (t : Tups H H') : ∀ {k : NestedKey} {y : V}, KeyAt H k y → KeyAt H' k y
  | .none, _, h => h
  | .num _, _, h => h
  | .text _, _, h => h
  | .tup ks, _, h => by
    simp only [KeyAt] at h ⊢
    obtain ⟨a, ys, e, ha, hk⟩ := h
    exact ⟨a, ys, e, t a ys ha, KeysAt.keep t hk⟩
theorem KeysAt.keep {H H' : Hp} (t : Tups H H') : ∀ {ks : List NestedKey} {ys : List V}, KeysAt H ks ys → KeysAt H' ks ys
  | [], _, h => h
  | k :: ks, _, h => by
    simp only [KeysAt] at h ⊢
    obtain ⟨y, r, e, h1, h2⟩ := h
    exact ⟨y, r, e, KeyAt.keep t h1, KeysAt.keep t h2⟩
end
mutual
theorem KeyAt.is {P : Program} {w : World} {H : Hp} {h : Heap} (ok : HOk P w H h) : ∀ {k : NestedKey} {y : V} {u : Value}, KeyAt H k y → RelV y u → NestedIs h k u
  | .none, _, _, e, r => by
    simp only [KeyAt] at e
    subst e
    cases r
    exact .none
  | .num i, _, _, e, r => by
    simp only [KeyAt] at e
    subst e
    obtain ⟨t, rfl⟩ := r
    exact .int i t
  | .text x, _, _, e, r => by
    simp only [KeyAt] at e
    subst e
    obtain ⟨t, rfl⟩ := r
    exact .text x t
  | .tup ks, _, _, e, r => by
    simp only [KeyAt] at e
    obtain ⟨a, ys, rfl, ha, hk⟩ := e
    cases r
    obtain ⟨_, its, rv, o, ho, hc, n, hd⟩ := (show ObjOk P w H h a (.tup ys) from ok a _ ha)
    exact .tup ho hc hd (KeysAt.are ok hk rv)
theorem KeysAt.are {P : Program} {w : World} {H : Hp} {h : Heap} (ok : HOk P w H h) : ∀ {ks : List NestedKey} {ys : List V} {us : List Value}, KeysAt H ks ys → Vals ys us → NestedAll h ks us
  | [], _, _, e, r => by
    simp only [KeysAt] at e
    subst e
    cases r
    exact .nil
  | k :: ks, _, _, e, r => by
    simp only [KeysAt] at e
    obtain ⟨y, ys, rfl, h1, h2⟩ := e
    cases r with
    | cons r1 r2 => exact .cons (KeyAt.is ok h1 r1) (KeysAt.are ok h2 r2)
end
def RelR (p : KVR) (q : Row) : Prop := p.1 = q.1 ∧ RelV p.2.1 q.2.1 ∧ RelV p.2.2 q.2.2
def lookV : List KVR → NestedKey → Option V
  | [], _ => none
  | x :: r, k => if x.1 = k then some x.2.2 else lookV r k
def putV : List KVR → NestedKey → V → V → List KVR
  | [], k, y, v => [(k, y, v)]
  | x :: r, k, y, v => if x.1 = k then (x.1, x.2.1, v) :: r else x :: putV r k y v
theorem rel_look {kvs : List KVR} {xs : List Row} (r : Paired RelR kvs xs) (k : NestedKey) : RelO (lookV kvs k) (look xs k) := by
  induction r with
  | nil => exact True.intro
  | cons h _ ih =>
    rw [lookV, look, ← h.1]
    split
    · exact h.2.2
    · exact ih
theorem rel_put {kvs : List KVR} {xs : List Row} (r : Paired RelR kvs xs) (k : NestedKey) {y v : V} {a u : Value} (ry : RelV y a) (rv : RelV v u) : Paired RelR (putV kvs k y v) (put xs k a u) := by
  induction r with
  | nil => exact .cons ⟨rfl, ry, rv⟩ .nil
  | cons h t ih =>
    rw [putV, put, ← h.1]
    split
    · exact .cons ⟨rfl, h.2.1, rv⟩ t
    · exact .cons h ih
theorem rel_keys {kvs : List KVR} {xs : List Row} (r : Paired RelR kvs xs) : kvs.map (·.1) = xs.map (·.1) := by
  induction r with
  | nil => rfl
  | cons h _ ih => rw [List.map_cons, List.map_cons, ih, h.1]
theorem putV_len : ∀ (kvs : List KVR) (k : NestedKey) (y v : V), (putV kvs k y v).length ≤ kvs.length + 1
  | [], _, _, _ => Nat.le_refl _
  | x :: r, k, y, v => by
    rw [putV]
    split
    · exact Nat.le_succ _
    · exact Nat.succ_le_succ (putV_len r k y v)
theorem putV_keys : ∀ (xs : List KVR) (k : NestedKey) (a v : V), (putV xs k a v).map (·.1) = if k ∈ xs.map (·.1) then xs.map (·.1) else xs.map (·.1) ++ [k]
  | [], k, a, v => rfl
  | x :: r, k, a, v => by
    rw [putV]
    by_cases e : x.1 = k
    · rw [if_pos e, List.map_cons, List.map_cons, if_pos (by rw [e]; exact List.mem_cons_self ..)]
    · have ne : k ≠ x.1 := fun z => e z.symm
      rw [if_neg e, List.map_cons, List.map_cons, putV_keys r k a v]
      by_cases m : k ∈ r.map (·.1)
      · rw [if_pos m, if_pos (List.mem_cons_of_mem _ m)]
      · rw [if_neg m, if_neg fun h => (List.mem_cons.mp h).elim ne m]
        rfl
theorem putV_mem : ∀ {xs : List KVR} {k : NestedKey} {a v : V} {x : KVR}, x ∈ putV xs k a v → (x.1 = k ∧ x.2.1 = a) ∨ ∃ y ∈ xs, y.1 = x.1 ∧ y.2.1 = x.2.1
  | [], k, a, v, x, h => by
    rw [List.mem_singleton.mp h]
    exact .inl ⟨rfl, rfl⟩
  | z :: r, k, a, v, x, h => by
    rw [putV] at h
    split at h
    · rcases List.mem_cons.mp h with e | h
      · rw [e]
        exact .inr ⟨z, List.mem_cons_self .., rfl, rfl⟩
      · exact .inr ⟨x, List.mem_cons_of_mem _ h, rfl, rfl⟩
    · rcases List.mem_cons.mp h with e | h
      · rw [e]
        exact .inr ⟨z, List.mem_cons_self .., rfl, rfl⟩
      · rcases putV_mem h with h | ⟨y, h, e⟩
        · exact .inl h
        · exact .inr ⟨y, List.mem_cons_of_mem _ h, e⟩
theorem lookV_put : ∀ (kvs : List KVR) (k j : NestedKey) (y v : V), lookV (putV kvs k y v) j = if k = j then some v else lookV kvs j
  | [], k, j, y, v => rfl
  | x :: r, k, j, y, v => by
    rw [putV]
    by_cases e : x.1 = k
    · rw [if_pos e, lookV, lookV, e]
      by_cases c : k = j
      · rw [if_pos c, if_pos c]
      · rw [if_neg c, if_neg c, if_neg c]
    · rw [if_neg e, lookV, lookV, lookV_put r k j y v]
      by_cases c : k = j
      · subst c
        rw [if_neg e, if_pos rfl, if_pos rfl]
      · rw [if_neg c, if_neg c]
/-- what stands at the address of such a dict -/
def dV (w : World) (d : Addr) (kvs : List KVR) : HO := .ext fun h => (d == sysModules) = false ∧ kvs.length ≤ sizeLine ∧ ∃ xs, Paired RelR kvs xs ∧ Holds w h d xs
theorem dV_ok {P : Program} {w : World} {H : Hp} {h : Heap} {d : Addr} {kvs : List KVR} {xs : List Row} (hd : (d == sysModules) = false) (hz : kvs.length ≤ sizeLine) (r : Paired RelR kvs xs) (m : Holds w h d xs) : ObjOk P w H h d (dV w d kvs) :=
  ⟨⟨hd, hz, xs, r, m⟩, (let ⟨o, _, _, e, _⟩ := m; ⟨o, e⟩), fun _ _ p k => let ⟨a, b, ys, c, m⟩ := p; ⟨a, b, ys, c, m.stay k⟩⟩
/-- a dict of these entries -/
structure DAt (w : World) (H : Hp) (d : Addr) (kvs : List KVR) : Prop where
  «at» : Rd H d (dV w d kvs)
  ok : ∀ p ∈ kvs, KeyOk p.1 ∧ KeyAt H p.1 p.2.1
  nd : (kvs.map (·.1)).Nodup
theorem paired_mem {kvs : List KVR} {xs : List Row} (r : Paired RelR kvs xs) {x : Row} (hx : x ∈ xs) : ∃ p ∈ kvs, RelR p x := by
  induction r with
  | nil => cases hx
  | cons h _ ih =>
    rcases List.mem_cons.mp hx with e | hx
    · rw [e]
      exact ⟨_, List.mem_cons_self .., h⟩
    · obtain ⟨p, hp, q⟩ := ih hx
      exact ⟨p, List.mem_cons_of_mem _ hp, q⟩
theorem DAt.out {P : Program} {w : World} {H : Hp} {h : Heap} {d : Addr} {kvs : List KVR} (D : DAt w H d kvs) (ok : HOk P w H h) :
    (d == sysModules) = false ∧ kvs.length ≤ sizeLine ∧ ∃ xs, Paired RelR kvs xs ∧ Holds w h d xs ∧ Rows h xs := by
  obtain ⟨⟨hd, hz, xs, r, m⟩, _⟩ := (show ObjOk P w H h d (dV w d kvs) from D.at.ok ok)
  refine ⟨hd, hz, xs, r, m, ?_, ?_, by rw [← rel_keys r]; exact D.nd⟩
  · intro x hx
    obtain ⟨p, hp, q⟩ := paired_mem r hx
    rw [← q.1]
    exact (D.ok p hp).1
  · intro x hx
    obtain ⟨p, hp, q⟩ := paired_mem r hx
    rw [← q.1]
    exact (D.ok p hp).2.is ok q.2.1
theorem DAt.keep {w : World} {H H' : Hp} {d : Addr} {kvs : List KVR} (D : DAt w H d kvs) (t : Tups H H') (e : Rd H' d (dV w d kvs)) : DAt w H' d kvs := ⟨e, fun p hp => ⟨(D.ok p hp).1, (D.ok p hp).2.keep t⟩, D.nd⟩
theorem DAt.put {w : World} {H : Hp} {d : Addr} {kvs : List KVR} {k : NestedKey} {y v : V} (D : DAt w H d kvs) (hd : H d = some (dV w d kvs)) (ok : KeyOk k) (hy : KeyAt H k y) : DAt w (upd H d (dV w d (putV kvs k y v))) d (putV kvs k y v) := by
  have t : Tups H (upd H d (dV w d (putV kvs k y v))) := fun a xs e => by
    rw [upd_ne (ne_of e hd (fun z => nomatch z))]
    exact e
  refine ⟨.inl upd_same, fun p hp => ?_, ?_⟩
  · rcases putV_mem hp with ⟨e, e'⟩ | ⟨q, hq, e, e'⟩
    · rw [e, e']
      exact ⟨ok, hy.keep t⟩
    · rw [← e, ← e']
      exact ⟨(D.ok q hq).1, (D.ok q hq).2.keep t⟩
  · rw [putV_keys]
    split
    · exact D.nd
    · rename_i m
      refine List.nodup_append.mpr ⟨D.nd, by simp, fun x hx z hz => ?_⟩
      rw [List.mem_singleton.mp hz]
      exact fun e => m (e ▸ hx)
end Vd
namespace Vd
open PySem PySem.Spec PyProof.Rows L2
section
variable {X : Cx} {pins : List (Addr × Obj)} {σ : L2.St} {H : Hp} {s : Shared} {a : Addr} {kvs : List KVR} {k : NestedKey} {y z : V} {u r : Value} {A : Around} {E : Value → Shared → Prop}
/-- room for a call that looks a key up -/
theorem room8 (hu : A.units + 64 < cLine) : A.in1.units + 8 < cLine := by rw [Around.in1_units]; omega
theorem look_cases {kvs : List KVR} {xs : List Row} (r : Paired RelR kvs xs) (k : NestedKey) : (lookV kvs k = none ∧ look xs k = none) ∨ ∃ v u, lookV kvs k = some v ∧ look xs k = some u ∧ RelV v u := by
  have h := rel_look r k
  cases e1 : lookV kvs k with
  | none =>
    cases e2 : look xs k with
    | none => exact .inl ⟨rfl, rfl⟩
    | some u => rw [e1, e2] at h; exact h.elim
  | some v =>
    cases e2 : look xs k with
    | none => rw [e1, e2] at h; exact h.elim
    | some u => rw [e1, e2] at h; exact .inr ⟨v, u, rfl, rfl, h⟩
theorem inv_tok {n : Nat} (I : Inv X pins σ H s) : Inv X pins σ H { s with toks := n } := I.tok _
theorem c_get2 {Q : Value → Shared → Prop} (hu : A.units + 64 < cLine) (I : Inv X pins σ H s) (D : DAt X.w H a kvs) (ok : KeyOk k) (ky : KeyAt H k y) (ry : RelV y u) (rz : RelV z r) (h : ∀ w' s', Inv X pins σ H s' → RelV ((lookV kvs k).getD z) w' → Q w' s') :
    wpAny (model X.prog X.w) A (call (.builtin "dict.get") [.ref a, u, r]) Q E s := by
  obtain ⟨hd, hz, xs, rel, m, R⟩ := D.out I.hok
  refine call_meetsIn PySem.F.slot_dict_get m.ty PySem.F.entry_dict_get (PySem.F.args_dict_get_3 _ _ _) (S := fun A' R s' => A' = A ∧ s' = s ∧ ∀ w' s2, Inv X pins σ H s2 → RelV ((lookV kvs k).getD z) w' → R (.ok (.ret w')) s2) (.of_wp fun A' R' s' hS => ?_) ⟨rfl, rfl, fun w' s2 i q => h w' s2 i q⟩
  obtain ⟨rfl, rfl, hq⟩ := hS
  show wpAny _ _ (dictGet a u >>= _) _ _ _
  refine wpAny_bind (get (room8 hu) (ky.is I.hok ry) ok m R ?_)
  rcases look_cases rel k with ⟨e1, e2⟩ | ⟨v, w', e1, e2, rv⟩
  · rw [e2]
    rw [e1] at hq
    show wpAny _ _ (Builtin.Dict.missed a u >>= _) _ _ _
    exact wpAny_bind (wpAny_missed_other hd (wpAny_pure ⟨r, rfl, hq r _ (I.tok _) rz⟩))
  · rw [e2]
    rw [e1] at hq
    exact wpAny_pure ⟨w', rfl, hq w' _ (I.tok _) rv⟩
theorem c_setd {Q : Value → Shared → Prop} (hu : A.units + 64 < cLine) (I : Inv X pins σ H s) (hD : H a = some (dV X.w a kvs)) (D : DAt X.w H a kvs) (ok : KeyOk k) (ky : KeyAt H k y) (ry : RelV y u) (rz : RelV z r) (hl : kvs.length < sizeLine)
    (h1 : ∀ v, lookV kvs k = some v → ∀ w' s', Inv X pins σ H s' → RelV v w' → Q w' s') (h2 : lookV kvs k = none → ∀ w' s', Inv X pins σ (upd H a (dV X.w a (putV kvs k y z))) s' → RelV z w' → Q w' s') :
    wpAny (model X.prog X.w) A (call (.builtin "dict.setdefault") [.ref a, u, r]) Q E s := by
  obtain ⟨hd, hz, xs, rel, m, R⟩ := D.out I.hok
  have hzx : xs.length ≤ sizeLine := by rw [← Paired.length rel]; exact hz
  have hzp : (putV kvs k y z).length ≤ sizeLine := by have := putV_len kvs k y z; omega
  refine call_meetsIn PySem.F.slot_dict_setdefault m.ty PySem.F.entry_dict_setdefault (PySem.F.args_dict_setdefault_3 _ _ _) (S := fun A' R s' => A' = A ∧ s' = s ∧ (∀ v, lookV kvs k = some v → ∀ w' s', Inv X pins σ H s' → RelV v w' → R (.ok (.ret w')) s') ∧
    (lookV kvs k = none → ∀ w' s', Inv X pins σ (upd H a (dV X.w a (putV kvs k y z))) s' → RelV z w' → R (.ok (.ret w')) s')) (.of_wp fun A' R' s' hS => ?_) ⟨rfl, rfl, h1, h2⟩
  obtain ⟨rfl, rfl, q1, q2⟩ := hS
  unfold Builtin.«dict.setdefault»
  refine wpAny_bind ?_
  unfold Builtin.Dict.keyAndDefault
  refine wpAny_bind (wpAny_notOrdered_dict m.ty ?_)
  show wpAny _ _ (pure (a, u, some r)) _ _ _
  refine wpAny_pure ?_
  show wpAny _ _ (if (a == sysModules) = true then _ else (dictSetDefault a u r >>= _)) _ _ _
  rw [if_neg (by rw [hd]; exact Bool.false_ne_true)]
  refine wpAny_bind (setdefault (room8 hu) (ky.is I.hok ry) ok m R hzx (fun v hv => ?_) fun hn h' m' R2 sb => ?_)
  · rcases look_cases rel k with ⟨e1, e2⟩ | ⟨v', w', e1, e2, rv⟩
    · rw [e2] at hv; cases hv
    · rw [e2] at hv
      cases hv
      exact wpAny_pure ⟨v, rfl, q1 v' e1 v _ (I.tok _) rv⟩
  · rcases look_cases rel k with ⟨e1, e2⟩ | ⟨v', w', e1, e2, rv⟩
    · refine wpAny_pure ⟨r, rfl, q2 e1 r _ (d_write I (by rw [hD]; exact True.intro) sb (let ⟨o, _, _, e, _⟩ := m'; ⟨o, e⟩) (dV_ok hd hzp (rel_put rel k ry rz) m')) rz⟩
    · rw [e2] at hn; cases hn
theorem c_item {v : V} {Q : Value → Shared → Prop} (hu : A.units + 64 < cLine) (I : Inv X pins σ H s) (D : DAt X.w H a kvs) (ok : KeyOk k) (ky : KeyAt H k y) (ry : RelV y u) (hv : lookV kvs k = some v) (h : ∀ w' s', Inv X pins σ H s' → RelV v w' → Q w' s') :
    wpAny (model X.prog X.w) A (getItem (.ref a) u) Q E s := by
  obtain ⟨hd, hz, xs, rel, m, R⟩ := D.out I.hok
  unfold getItem
  refine wpAny_holding (wpAny_bind (wpAny_sequenceKey m.ty (by decide) ?_))
  refine wpAny_bind (wpAny_callSpecial?_slot (name := Str.ofString "__getitem__") m.ty slot_dict_getitem (wpAny_call_entry slot_dict_getitem m.ty entry_dict_getitem ?_ (args_dict_getitem _ _)))
  show wpAny _ _ (dictGet a u >>= _) _ _ _
  refine wpAny_bind (get (room8 hu) (ky.is I.hok ry) ok m R ?_)
  rcases look_cases rel k with ⟨e1, e2⟩ | ⟨v', w', e1, e2, rv⟩
  · rw [e1] at hv; cases hv
  · rw [e1] at hv
    cases hv
    rw [e2]
    exact wpAny_pure ⟨w', rfl, wpAny_pure (h w' _ (I.tok _) rv)⟩
theorem c_in {Q : Bool → Shared → Prop} (hu : A.units + 64 < cLine) (I : Inv X pins σ H s) (D : DAt X.w H a kvs) (ok : KeyOk k) (ky : KeyAt H k y) (ry : RelV y u) (h : ∀ s', Inv X pins σ H s' → Q (lookV kvs k).isSome s') :
    wpAny (model X.prog X.w) A (contains (.ref a) u) Q E s := by
  obtain ⟨hd, hz, xs, rel, m, R⟩ := D.out I.hok
  refine wpAny_contains_slot m.ty PySem.F.slot_dict_contains ?_
  refine call_meetsIn PySem.F.slot_dict_contains m.ty PySem.F.entry_dict_contains (PySem.F.args_dict_contains_2 _ _) (S := fun A' R s' => A' = A ∧ s' = s ∧ ∀ s2, Inv X pins σ H s2 → R (.ok (.ret (.bool (lookV kvs k).isSome))) s2) (fun A' R' s' hS => ?_) ⟨rfl, rfl, fun s2 i => wpAny_truthy_bool (h s2 i)⟩
  obtain ⟨rfl, rfl, hq⟩ := hS
  show wpAny _ _ (dictGet a u >>= _) _ _ _
  refine wpAny_bind (get (room8 hu) (ky.is I.hok ry) ok m R ?_)
  rcases look_cases rel k with ⟨e1, e2⟩ | ⟨v', w', e1, e2, rv⟩
  · rw [e2]
    rw [e1] at hq
    show wpAny _ _ (Builtin.Dict.pendingKey? a u >>= _) _ _ _
    exact wpAny_bind (wpAny_pendingKey_other hd (wpAny_pure (hq _ (I.tok _))))
  · rw [e2]
    rw [e1] at hq
    exact wpAny_pure (hq _ (I.tok _))
theorem c_put {Q : Unit → Shared → Prop} (hu : A.units + 64 < cLine) (I : Inv X pins σ H s) (hD : H a = some (dV X.w a kvs)) (D : DAt X.w H a kvs) (ok : KeyOk k) (ky : KeyAt H k y) (ry : RelV y u) (rz : RelV z r) (hl : kvs.length < sizeLine)
    (h : ∀ s', Inv X pins σ (upd H a (dV X.w a (putV kvs k y z))) s' → Q () s') : wpAny (model X.prog X.w) A (dictSet a u r) Q E s := by
  obtain ⟨hd, hz, xs, rel, m, R⟩ := D.out I.hok
  have hzx : xs.length ≤ sizeLine := by rw [← Paired.length rel]; exact hz
  have hzp : (putV kvs k y z).length ≤ sizeLine := by have := putV_len kvs k y z; omega
  have h8 : A.units + 8 < cLine := by omega
  exact set h8 (ky.is I.hok ry) ok m R hzx fun h' m' R2 sb => h _ (d_write I (by rw [hD]; exact True.intro) sb (let ⟨o, _, _, e, _⟩ := m'; ⟨o, e⟩) (dV_ok hd hzp (rel_put rel k ry rz) m'))
theorem c_store {Q : Unit → Shared → Prop} (hu : A.units + 64 < cLine) (I : Inv X pins σ H s) (hD : H a = some (dV X.w a kvs)) (D : DAt X.w H a kvs) (ok : KeyOk k) (ky : KeyAt H k y) (ry : RelV y u) (rz : RelV z r) (hl : kvs.length < sizeLine)
    (h : ∀ s', Inv X pins σ (upd H a (dV X.w a (putV kvs k y z))) s' → Q () s') : wpAny (model X.prog X.w) A (setItem (.ref a) u r) Q E s := by
  obtain ⟨hd, hz, xs, rel, m, R⟩ := D.out I.hok
  have hu' : A.in1.units + 62 < cLine := by rw [Around.in1_units]; omega
  unfold setItem
  refine wpAny_holding (wpAny_bind (wpAny_sequenceKey m.ty (by decide) ?_))
  refine wpAny_bind (wpAny_callSpecial?_slot (name := Str.ofString "__setitem__") m.ty slot_dict_setitem (wpAny_call_entry slot_dict_setitem m.ty entry_dict_setitem ?_ (args_dict_setitem _ _ _)))
  show wpAny _ _ (Builtin.Dict.notOrdered "__setitem__" ⟨[.ref a, u, r], []⟩ >>= _) _ _ _
  refine wpAny_bind (wpAny_notOrdered_dict m.ty ?_)
  show wpAny _ _ (dictSet a u r >>= _) _ _ _
  have hzx : xs.length ≤ sizeLine := by rw [← Paired.length rel]; exact hz
  have hzp : (putV kvs k y z).length ≤ sizeLine := by have := putV_len kvs k y z; omega
  exact wpAny_bind (set (room8 hu) (ky.is I.hok ry) ok m R hzx fun h' m' R2 sb => wpAny_pure ⟨.none, rfl, wpAny_pure (h _ (d_write I (by rw [hD]; exact True.intro) sb (let ⟨o, _, _, e, _⟩ := m'; ⟨o, e⟩) (dV_ok hd hzp (rel_put rel k ry rz) m')))⟩)
end
end Vd
/-! The rules: {}, d.get(k, x), d.setdefault(k, x), d[k], d[k] = v, k in d; the keys walked. -/
namespace Vd
open PySem PySem.Spec PyProof.Rows L2
/-- some dict of this layer stands at a -/
def Some (w : World) (H : Hp) (a : Addr) : Prop := ∃ kvs, Rd H a (dV w a kvs)
theorem some_at {X : Cx} {pins : List (Addr × Obj)} {σ : L2.St} {H : Hp} {s : Shared} {a : Addr} (I : Inv X pins σ H s) (d : Some X.w H a) :
    s.TypeIs (.ref a) "dict" ∧ ∀ b, Value.ref a = .ref b → ∃ ob, s.heap.get? b = some ob ∧ ob.dict = none := by
  obtain ⟨kvs, e⟩ := d
  obtain ⟨⟨_, _, xs, _, m⟩, _⟩ := (show ObjOk X.prog X.w H s.heap a (dV X.w a kvs) from e.ok I.hok)
  refine ⟨m.ty, fun b q => ?_⟩
  cases q
  obtain ⟨o, _, _, h1, h2, _⟩ := m
  exact ⟨o, h1, h2.2.1⟩
/-- {} -/
def tNew (w : World) : TE := fun _ H Q => ∀ p, H p = none → Q (.ref p) (upd H p (dV w p []))
/-- d.get(k, x) -/
def tGet2 (w : World) (td ty tx : TE) : TE := fun σ H Q => td σ H fun x H1 => ∃ a, x = .ref a ∧ Some w H1 a ∧ ty σ H1 fun y H2 => tx σ H2 fun z H3 => ∃ kvs k, DAt w H3 a kvs ∧ KeyOk k ∧ KeyAt H3 k y ∧ Q ((lookV kvs k).getD z) H3
/-- d.setdefault(k, x) -/
def tSetd (w : World) (td ty tx : TE) : TE := fun σ H Q => td σ H fun x H1 => ∃ a, x = .ref a ∧ Some w H1 a ∧ ty σ H1 fun y H2 => tx σ H2 fun z H3 => ∃ kvs k, H3 a = some (dV w a kvs) ∧ DAt w H3 a kvs ∧ KeyOk k ∧ KeyAt H3 k y ∧ kvs.length < sizeLine ∧
  (∀ v, lookV kvs k = some v → Q v H3) ∧ (lookV kvs k = none → Q z (upd H3 a (dV w a (putV kvs k y z))))
/-- d[k], the key there -/
def tIx (w : World) (td ty : TE) : TE := fun σ H Q => td σ H fun x H1 => ty σ H1 fun y H2 => ∃ a kvs k v, x = .ref a ∧ DAt w H2 a kvs ∧ KeyOk k ∧ KeyAt H2 k y ∧ lookV kvs k = some v ∧ Q v H2
/-- k in d -/
def tIn (w : World) (ty td : TE) : TE := fun σ H Q => ty σ H fun y H1 => td σ H1 fun x H2 => ∃ a kvs k, x = .ref a ∧ DAt w H2 a kvs ∧ KeyOk k ∧ KeyAt H2 k y ∧ Q (.bl (lookV kvs k).isSome) H2
def tNotIn (w : World) (ty td : TE) : TE := fun σ H Q => ty σ H fun y H1 => td σ H1 fun x H2 => ∃ a kvs k, x = .ref a ∧ DAt w H2 a kvs ∧ KeyOk k ∧ KeyAt H2 k y ∧ Q (.bl (!(lookV kvs k).isSome)) H2
/-- d[k] = v -/
def sPut (w : World) (td ty tv : TE) : TS := fun D σ H => tv σ H fun v H1 => td σ H1 fun x H2 => ty σ H2 fun y H3 => ∃ a kvs k, x = .ref a ∧ H3 a = some (dV w a kvs) ∧ DAt w H3 a kvs ∧ KeyOk k ∧ KeyAt H3 k y ∧ kvs.length < sizeLine ∧ D.nx σ (upd H3 a (dV w a (putV kvs k y v)))
section
variable {X : Cx} {o i e f value : Expr} {pos pos' apos cpos : Pos} {td ty tx tv : TE}
theorem pe_new : PE X (.Dict [] [] pos) (tNew X.w) := ⟨fun pins s σ H Q I h =>
  wpAny_Dict_empty ⟨.ref s.heap.objs.size, _, I.laid (a := s.heap.objs.size) (o := dV X.w s.heap.objs.size []) (t' := s.toks) (fun _ _ q => Heap.get?_push_of_some _ q) (Nat.le_refl _)
    (dV_ok (beq_eq_false_iff_ne.mpr (Ne.symm (Nat.ne_of_lt I.big))) (Nat.zero_le _) .nil (Holds.new s.heap)), rfl, h _ (I.hok.fresh (Nat.le_refl _))⟩⟩
theorem pe_get2 (hu : X.A.units + 64 < cLine) (ho : PE X o td) (he : PE X e ty) (hf : PE X f tx) (m : M2 X o "get" apos e f cpos) : PE X (.Call (.Attribute o "get" apos) [e, f] [] cpos) (tGet2 X.w td ty tx) := by
  refine ⟨fun pins s σ H Q I h => ?_⟩
  refine wpAny_Call_method m.base m.few m.line PySem.F.plainAttrs_dict PySem.F.slot_dict_get PySem.F.type_dict_get (thn (ho.run pins s σ H _ I h) fun u s1 ⟨x, H1, I1, rx, a, ex, d, q1⟩ => ?_)
  subst ex
  cases (show u = Value.ref a from rx)
  refine ⟨(some_at I1 d).1, (some_at I1 d).2, ?_⟩
  rw [m.trees]
  refine Calls.callWith_builtin rfl (Calls.evalArgs_plain (Calls.spliced_cons (thn (he.run pins s1 σ H1 _ I1 q1) fun iv s2 ⟨y, H2, I2, ry, q2⟩ => Calls.spliced_cons (thn (hf.run pins s2 σ H2 _ I2 q2) fun fv s3 ⟨z, H3, I3, rz, kvs, k, D, ok, ky, q3⟩ => Calls.spliced_nil ?_))))
  exact c_get2 hu I3 D ok ky ry rz fun w' s4 I4 rw' => ⟨_, H3, I4, rw', q3⟩
theorem pe_setd (hu : X.A.units + 64 < cLine) (ho : PE X o td) (he : PE X e ty) (hf : PE X f tx) (m : M2 X o "setdefault" apos e f cpos) : PE X (.Call (.Attribute o "setdefault" apos) [e, f] [] cpos) (tSetd X.w td ty tx) := by
  refine ⟨fun pins s σ H Q I h => ?_⟩
  refine wpAny_Call_method m.base m.few m.line PySem.F.plainAttrs_dict PySem.F.slot_dict_setdefault PySem.F.type_dict_setdefault (thn (ho.run pins s σ H _ I h) fun u s1 ⟨x, H1, I1, rx, a, ex, d, q1⟩ => ?_)
  subst ex
  cases (show u = Value.ref a from rx)
  refine ⟨(some_at I1 d).1, (some_at I1 d).2, ?_⟩
  rw [m.trees]
  refine Calls.callWith_builtin rfl (Calls.evalArgs_plain (Calls.spliced_cons (thn (he.run pins s1 σ H1 _ I1 q1) fun iv s2 ⟨y, H2, I2, ry, q2⟩ => Calls.spliced_cons (thn (hf.run pins s2 σ H2 _ I2 q2) fun fv s3 ⟨z, H3, I3, rz, kvs, k, hD, D, ok, ky, hl, q3, q4⟩ => Calls.spliced_nil ?_))))
  exact c_setd hu I3 hD D ok ky ry rz hl (fun v hv w' s4 I4 rw' => ⟨v, _, I4, rw', q3 v hv⟩) fun hn w' s4 I4 rw' => ⟨z, _, I4, rw', q4 hn⟩
theorem pe_ix (hu : X.A.units + 64 < cLine) (ho : PE X o td) (hi : PE X i ty) (hs : NoSl i) : PE X (.Subscript o i pos) (tIx X.w td ty) := by
  refine ⟨fun pins s σ H Q I h => ?_⟩
  refine subD_of PySem.F.slot_dict_getitem.lookup hs (thn (ho.run pins s σ H _ I h) fun u s1 ⟨x, H1, I1, rx, q1⟩ => thn (hi.run pins s1 σ H1 _ I1 q1) fun iv s2 ⟨y, H2, I2, ry, a, kvs, k, v, ex, D, ok, ky, hv, q2⟩ => ?_)
  subst ex
  cases (show u = Value.ref a from rx)
  exact ⟨(some_at I2 ⟨kvs, D.at⟩).1, c_item hu I2 D ok ky ry hv fun w' s3 I3 rw' => ⟨v, H2, I3, rw', q2⟩⟩
theorem pc_in (hu : X.A.units + 64 < cLine) (hi : PE X i ty) (ho : PE X o td) : PC X .In i o (tIn X.w ty td) := by
  refine ⟨fun pins s σ H Q I h => ?_⟩
  refine thn (hi.run pins s σ H _ I h) fun iv s1 ⟨y, H1, I1, ry, q1⟩ => thn (ho.run pins s1 σ H1 _ I1 q1) fun u s2 ⟨x, H2, I2, rx, a, kvs, k, ex, D, ok, ky, q2⟩ => ?_
  subst ex
  cases (show u = Value.ref a from rx)
  show wpAny _ _ (contains (.ref a) iv >>= fun b => pure (Value.bool b)) _ _ _
  exact wpAny_bind (c_in hu I2 D ok ky ry fun s3 I3 => wpAny_pure ⟨.bl (lookV kvs k).isSome, H2, I3, rfl, q2⟩)
theorem pc_notin (hu : X.A.units + 64 < cLine) (hi : PE X i ty) (ho : PE X o td) : PC X .NotIn i o (tNotIn X.w ty td) := by
  refine ⟨fun pins s σ H Q I h => ?_⟩
  refine thn (hi.run pins s σ H _ I h) fun iv s1 ⟨y, H1, I1, ry, q1⟩ => thn (ho.run pins s1 σ H1 _ I1 q1) fun u s2 ⟨x, H2, I2, rx, a, kvs, k, ex, D, ok, ky, q2⟩ => ?_
  subst ex
  cases (show u = Value.ref a from rx)
  show wpAny _ _ (contains (.ref a) iv >>= fun b => pure (Value.bool (!b))) _ _ _
  exact wpAny_bind (c_in hu I2 D ok ky ry fun s3 I3 => wpAny_pure ⟨.bl (!(lookV kvs k).isSome), H2, I3, rfl, q2⟩)
theorem ps_put (hu : X.A.units + 64 < cLine) (ho : PE X o td) (hi : PE X i ty) (hv : PE X value tv) (hs : swapsWith value (some (.Subscript o i pos')) pos.line X.env = pure false) :
    PS X (.Assign [.Subscript o i pos'] value pos) (sPut X.w td ty tv) := by
  refine ⟨fun pins s σ H D I h => ?_⟩
  refine wpAny_Assign_Subscript (thn (hv.run pins s σ H _ I h) fun r s1 ⟨v, H1, I1, rv, q1⟩ => thn (ho.run pins s1 σ H1 _ I1 q1) fun u s2 ⟨x, H2, I2, rx, q2⟩ => thn (hi.run pins s2 σ H2 _ I2 q2) fun iv s3 ⟨y, H3, I3, ry, a, kvs, k, ex, hD, D3, ok, ky, hl, q3⟩ => ?_) hs
  subst ex
  cases (show u = Value.ref a from rx)
  exact c_store hu I3 hD D3 ok ky ry rv hl fun s4 I4 => ⟨σ, _, I4, q3⟩
end
/-! ### the keys walked -/
/-- the keys of the locked dict at d, in their order -/
def Itk (w : World) (d : Addr) (o : Obj) (kvs : List KVR) : It where
  go := fun i H => H d = some (.frz o (dV w d kvs)) ∧ i < kvs.length
  yld := fun i H x H' => H' = H ∧ ∃ p, kvs[i]? = some p ∧ x = p.2.1
  stop := fun i H => H d = some (.frz o (dV w d kvs)) ∧ kvs.length ≤ i
theorem frz_out {X : Cx} {pins : List (Addr × Obj)} {σ : L2.St} {H : Hp} {s : Shared} {d : Addr} {o : Obj} {kvs : List KVR} (I : Inv X pins σ H s) (h : H d = some (.frz o (dV X.w d kvs))) :
    (d == sysModules) = false ∧ s.heap.get? d = some o ∧ o.ExactDict ∧ ∃ (es : Array DictEntry) (ep : Nat), o.data = .dict es ep ∧ es.size = kvs.length ∧ ∀ (i : Nat) (p : KVR), kvs[i]? = some p → ∃ en : DictEntry, es[i]? = some en ∧ RelV p.2.1 en.key := by
  obtain ⟨ho, ⟨hd, hz, xs, r, o', es, ep, ho', hx, hdt, he⟩, _⟩ := I.hok d _ h
  rw [ho] at ho'
  cases ho'
  refine ⟨hd, ho, hx, es, ep, hdt, ?_, fun i p e => ?_⟩
  · rw [ent_size he, ← Paired.length r]
  · obtain ⟨q, hq, rq⟩ := paired_get r e
    refine ⟨ent X.w q, ?_, rq.2.1⟩
    rw [ent_at he i, hq]
    rfl
section
variable {w : World} {P : Program} {K : PySem.W.Frag} {tg : Expr} {d : Addr} {o : Obj} {es : Array DictEntry} {ep : Nat}
theorem turn_keys {kvs : List KVR} (it : Addr) (hod : o.data = .dict es ep) : Turn P w K tg (Itk w d o kvs) [it] it (fun i h => h.IsKeyIter it d i kvs.length ep) where
  mem := List.mem_singleton.mpr rfl
  obj := by
    intro i h st b hb
    rw [List.mem_singleton.mp hb]
    obtain ⟨oi, e, c, dd⟩ := st
    exact ⟨oi, e, fun v z => by rw [dd] at z; cases z⟩
  keep := fun i h h' st k => st.at fun oi e => k it (List.mem_singleton.mpr rfl) oi e
  item := by
    intro X hP hw hK hc i pins s σ H E I hf st hg
    subst hP hw hK
    have F := hf it (List.mem_singleton.mpr rfl)
    obtain ⟨hs, hgd, hx, es', ep', hdt, hsz, hm⟩ := frz_out I hg.1
    obtain ⟨rfl, rfl⟩ := dict_ep hod hdt
    have hlt : i < kvs.length := hg.2
    have hp : kvs[i]? = some (kvs[i]'hlt) := List.getElem?_eq_getElem hlt
    obtain ⟨en, hen, ren⟩ := hm i _ hp
    refine next_key_item st hgd hdt hsz hen fun h' stays sb => ?_
    have I1 : Inv X pins σ H { s with heap := h' } := I.turned (t' := s.toks) (fun b ob hb e => (sb.2 b hb).trans e) F.1 F.2.1 F.2.2.2.1 F.2.2.2.2.1 F.2.2.2.2.2
    obtain ⟨oi, e, c, dd⟩ := id stays
    exact ⟨en.key, rfl, go_of (s := { s with heap := h' }) e c dd (by decide) ⟨_, H, I1, ren, ⟨rfl, _, hp, rfl⟩, stays, fun b hb => (hf b hb).1⟩⟩
  done := by
    intro X hP hw hK hc i pins s σ H E I hf st hg
    subst hP hw hK
    have F := hf it (List.mem_singleton.mpr rfl)
    obtain ⟨hs, hgd, hx, es', ep', hdt, hsz, hm⟩ := frz_out I hg.1
    obtain ⟨rfl, rfl⟩ := dict_ep hod hdt
    exact next_key_end (I.ok.hd hc) st hgd hdt hsz hg.2 fun h' eb => ⟨rfl, I.turned (t' := s.toks) (fun b ob hb e => eb b ob hb e) F.1 F.2.1 F.2.2.2.1 F.2.2.2.2.1 F.2.2.2.2.2⟩
  self := fun A i s Q E st h => wpAny_pyIter_keyiter st h
end
/-- for k in d, the dict locked -/
def iKeys (w : World) (td : TE) : TI := fun σ H R => td σ H fun x H1 => ∃ d o kvs, x = .ref d ∧ H1 d = some (.frz o (dV w d kvs)) ∧ R (Itk w d o kvs) H1
theorem pi_keys {X : Cx} {tg e : Expr} {td : TE} (he : PE X e td) : PI X tg e (iKeys X.w td) := by
  refine ⟨fun pins s σ H R I h => thn (he.run pins s σ H _ I h) fun u s1 ⟨x, H1, I1, rx, d, o, kvs, ex, hd, q⟩ => ?_⟩
  subst ex
  cases (show u = Value.ref d from rx)
  obtain ⟨hs, hgd, hx, es, ep, hdt, hsz, hm⟩ := frz_out I1 hd
  refine iter_keys hs hgd hx hdt (pi_one (tk := s1.toks) I1 _ (turn_keys _ hdt) ⟨_, Heap.get?_push_size _ rfl, rfl, ?_⟩ q)
  rw [hsz]
  rfl
end Vd
/-! A dict comprehension whose dict is of this layer. -/
namespace Vd
open PySem PySem.Spec PyProof.Rows L2
/-- what an entry of the comprehension asks: D holds kvs still, the key is a key -/
def tEntry (w : World) (D : Addr) (tk tv : TE) (Nx : Hp → Prop) : L2.St → Hp → Prop := fun σ H => tk σ H fun y H1 => tv σ H1 fun z H2 => ∃ kvs k, H2 D = some (dV w D kvs) ∧ DAt w H2 D kvs ∧ KeyOk k ∧ KeyAt H2 k y ∧ kvs.length < sizeLine ∧ Nx (upd H2 D (dV w D (putV kvs k y z)))
/-- {k: v for target in iter if ..}: D the new dict -/
def tDc (w : World) (wi : TI) (g : TG) (tt : TT) (tk tv : TE) (vs : List Nat) : TE := fun σ H Q => wi σ H fun J H1 => ∀ D, H1 D = none → ∃ W : Nat → Nat → Hp → Prop, (∃ m, W 0 m (upd H1 D (dV w D []))) ∧ ∀ i m H, W i m H →
  (J.stop i H ∧ Q (.ref D) H) ∨ (J.go i H ∧ ∃ Nx : Hp → Prop, (∀ H', Nx H' → ∃ m', m' < m ∧ W (i + 1) m' H') ∧ ∀ x H', J.yld i H x H' → g x (wipe σ vs) H' fun σ2 H2 => wipe σ2 vs = wipe σ vs ∧ tt σ2 H2 fun b H3 => if b = true then tEntry w D tk tv Nx σ2 H3 else Nx H3)
section
variable {X : Cx}
theorem pe_dc {kx vx tg iter : Expr} {ifs : List Expr} {scope : Scope} {own : List (Str × Nat)} {pos : Pos} {wi : TI} {g : TG} {tt : TT} {tk tv : TE} (hu : X.A.units + 64 < cLine) (hc : X.calm = true) (hN : X.N.Nodup) (hi : PI X tg iter wi) (ok : BlkOk X.N X.env.scope scope own)
    (hg : ∀ (s : Shared) (H : Hp) (C : Addr) (cl : List (Str × Addr)) (fp : List Addr), PG (X.blk s H scope (compEnvC scope cl C X.env) fp) tg g) (ht : ∀ (s : Shared) (H : Hp) (C : Addr) (cl : List (Str × Addr)) (fp : List Addr), PTs (X.blk s H scope (compEnvC scope cl C X.env) fp) ifs tt)
    (hk : ∀ (s : Shared) (H : Hp) (C : Addr) (cl : List (Str × Addr)) (fp : List Addr), PE (X.blk s H scope (compEnvC scope cl C X.env) fp) kx tk) (he : ∀ (s : Shared) (H : Hp) (C : Addr) (cl : List (Str × Addr)) (fp : List Addr), PE (X.blk s H scope (compEnvC scope cl C X.env) fp) vx tv)
    (hs : ∀ x, foldedSetIterable iter X.env x = pure x := by intro _; rfl) : PE X (.DictComp kx vx [⟨tg, iter, ifs, 0⟩] scope pos) (tDc X.w wi g tt tk tv (own.map (·.2))) := by
  refine ⟨fun pins s σ H Q I h => ?_⟩
  rw [arm_eval_DictComp]
  have there : ∀ y ∈ scope.names, y.2 = .free → ∃ c, X.env.cells.lookup y.1 = some c := fun y hy e => (ok.free y hy e).elim (fun k => I.ok.has _ (.inl k)) fun k => I.ok.has _ (.inr k)
  refine wpAny_comprehension_free rfl hs (closure_ok there) ok.kind (fun y hy e => by rw [ok.uniq y hy, e]) (thn (hi.run pins s σ H _ I h) fun _ _ hx => thn hx fun _ s2 ⟨it, fp, tn, J, H2, e, I2, T, st2, f2, q⟩ => ?_)
  subst e
  refine wpAny_newObj_type (newEnv_comp ?_)
  -- the new dict stands at D
  obtain ⟨D, hD⟩ : ∃ D, s2.heap.objs.size = D := ⟨_, rfl⟩
  rw [hD]
  obtain ⟨W, ⟨m0, w0⟩, turn⟩ := q D (I2.hok.fresh (Nat.le_of_eq hD))
  obtain ⟨s3, hs3⟩ : ∃ s3 : Shared, { s2 with heap := s2.heap.push { cls := .type "dict", data := .dict #[] } } = s3 := ⟨_, rfl⟩
  rw [hs3]
  have h3 : s3.heap = s2.heap.push { cls := .type "dict", data := .dict #[] } := hs3 ▸ rfl
  have I3 : Inv X pins σ (upd H2 D (dV X.w D [])) s3 := by
    rw [← hs3]
    refine I2.laid (t' := s2.toks) (fun _ _ there => Heap.get?_push_of_some _ there) (Nat.le_of_eq hD) ?_
    rw [← hD]
    exact dV_ok (beq_eq_false_iff_ne.mpr (Ne.symm (Nat.ne_of_lt I2.big))) (Nat.zero_le _) .nil (Holds.new s2.heap)
  have up : ∀ b ∈ fp, ∀ o, s2.heap.get? b = some o → s3.heap.get? b = some o := fun b _ o e => by rw [h3]; exact Heap.get?_push_of_some _ e
  have old : ∀ b ∈ fp, b < s2.heap.objs.size := fun b hb => let ⟨_, e, _⟩ := T.obj _ _ st2 b hb; Heap.lt_size e
  have f3 : ∀ b ∈ fp, FpOk X pins (upd H2 D (dV X.w D [])) b ∧ b < s3.heap.objs.size := fun b hb =>
    ⟨⟨by rw [upd_ne (fun e => Nat.lt_irrefl _ (Nat.lt_of_lt_of_eq (old b hb) (hD.trans e.symm)))]; exact (f2 b hb).1, (f2 b hb).2⟩, by rw [h3, Heap.size_push]; exact Nat.lt_succ_of_lt (old b hb)⟩
  have I4 := block_start I3 ok hN f3
  obtain ⟨C, hC⟩ : ∃ C, s3.heap.objs.size = C := ⟨_, rfl⟩
  rw [hC] at I4
  obtain ⟨cl, hcl⟩ : ∃ cl, cellsFrom (C + 1) scope.names (cloFrom X.env.cells scope.names []) = cl := ⟨_, rfl⟩
  rw [hcl] at I4
  have pg := hg s3 (upd H2 D (dV X.w D [])) C cl fp
  have pt := ht s3 (upd H2 D (dV X.w D [])) C cl fp
  have pk := hk s3 (upd H2 D (dV X.w D [])) C cl fp
  have pv := he s3 (upd H2 D (dV X.w D [])) C cl fp
  obtain ⟨ce, hce⟩ : ∃ ce, compEnvC scope cl C X.env = ce := ⟨_, rfl⟩
  have cL : ce.locals = C := hce ▸ rfl
  rw [hce] at I4 pg pt pk pv
  obtain ⟨s4, hs4⟩ : ∃ s4 : Shared, { s3 with heap := pushCells (s3.heap.push { cls := .type "dict", data := .dict #[] }) scope.names } = s4 := ⟨_, rfl⟩
  rw [hs4] at I4
  obtain ⟨H3, hH3⟩ : ∃ H3, upd H2 D (dV X.w D []) = H3 := ⟨_, rfl⟩
  rw [hH3] at I3 I4 pg pt pk pv w0 f3
  have st4 : tn 0 s4.heap := T.keep _ _ _ (T.keep _ _ _ st2 up) fun b _ o e => by rw [← hs4]; exact pushCells_keeps _ _ _ _ (Heap.get?_push_of_some _ e)
  have stat : ∀ {σ' : L2.St} {H' : Hp} {s' : Shared}, Inv (X.blk s3 H3 scope ce fp) [] σ' H' s' → (∀ b ∈ fp, H' b = none) → ∀ b ∈ fp, FpOk (X.blk s3 H3 scope ce fp) [] H' b := fun I' hn b hb =>
    ⟨hn b hb, (I'.ok.exf b hb).1, I'.ok.exfs b hb, .inl hb, fun x c e => (I'.ok.exf b hb).2 x c e, fun p hp => by cases hp⟩
  have post : ∀ (s' : Shared) (H' : Hp), Inv X pins σ H' s' → Q (.ref D) H' → ∀ m, s'.heap.Ns C m → FpOk X pins H' C → compPost (model X.prog X.w) X.A X.xe none (EP X pins σ Q) (.ref D) C (.ok .next) s' := fun s' H' I' q m hn f =>
    ⟨m, hn, fun h'' sb => ⟨.ref D, H', I'.turned (t' := s'.toks) (fun b o hb e => (sb.2 b hb).trans e) f.1 f.2.1 f.2.2.2.1 f.2.2.2.2.1 f.2.2.2.2.2, rfl, q⟩⟩
  have loop : codeAny (model X.prog X.w) X.A (.compLoop (.DictComp kx vx [⟨tg, iter, ifs, 0⟩] scope pos) 0 (.ref it) (.ref D) ce) (compPost (model X.prog X.w) X.A X.xe none (EP X pins σ Q) (.ref D) C) s4 := by
    refine compLoop_anyD (fun n s' => ∃ i H', Inv (X.blk s3 H3 scope ce fp) [] (wipe σ (own.map (·.2))) H' s' ∧ tn i s'.heap ∧ (∀ b ∈ fp, H' b = none) ∧ W i n H') ?_ m0 ⟨0, H3, I4, st4, fun b hb => (f3 b hb).1.1, w0⟩
    rintro n sT ⟨i, HT, jT, tT, zT, wT⟩
    rcases turn i n HT wT with ⟨ends, qq⟩ | ⟨goes, Nx, hNx, then_⟩
    · refine thnF (T.done (X.blk s3 H3 scope ce fp) rfl rfl rfl hc i [] sT _ HT (fun _ _ => False) jT (stat jT zT) tT ends) fun r sN ⟨hr, jN⟩ => ?_
      subst hr
      have jA : Inv X pins σ HT sN := I3.call' (ch := fp) jN.os jN.base jN.hok jN.bare fun b hb => ⟨(f3 b hb).1.2.2.2.1, (f3 b hb).1.2.1, (f3 b hb).1.2.2.2.2.1, (f3 b hb).1.2.2.2.2.2⟩
      have nC : HT C = none := cL ▸ (show HT ce.locals = none from jN.free)
      obtain ⟨m, hn, _⟩ := jN.loc
      exact post sN HT jA qq m (cL ▸ (show sN.heap.Ns ce.locals m from hn)) (I3.fpOk (Nat.le_of_eq hC) nC)
    · refine thnF (T.item (X.blk s3 H3 scope ce fp) rfl rfl rfl hc i [] sT _ HT (fun _ _ => False) jT (stat jT zT) tT goes) fun r sN ⟨u, hr, hN⟩ => ?_
      subst hr
      refine thnF hN fun _ sA ⟨x, HA, jA, rA, yA, tA, zA⟩ => ?_
      refine thnF (pg.run _ sA _ HA x u _ (jA.pinned (stat jA zA) (T.obj _ _ tA)) rA (then_ x HA yA)) fun _ sG ⟨τ, HG, jG, same, qG⟩ => ?_
      refine thnF (pt.run _ sG τ HG _ jG qG) fun b sI ⟨HI, jI, qI⟩ => ?_
      have fin : ∀ {s' : Shared} {H' : Hp}, Inv (X.blk s3 H3 scope ce fp) ([] ++ pinsAt fp sA.heap) τ H' s' → Nx H' → ∃ m, m < n ∧ ∃ i H', Inv (X.blk s3 H3 scope ce fp) [] (wipe σ (own.map (·.2))) H' s' ∧ tn i s'.heap ∧ (∀ b ∈ fp, H' b = none) ∧ W i m H' := fun {s' H'} I' next => by
        obtain ⟨m', hm, w'⟩ := hNx H' next
        have pin : ∀ b ∈ fp, ∀ o, sA.heap.get? b = some o → s'.heap.get? b = some o ∧ H' b = none := fun b hb o e => let z := I'.pin (b, o) (List.mem_append_right _ (List.mem_append_right _ (mem_pinsAt hb e))); ⟨z.1, z.2.1⟩
        have len : (wipe σ (own.map (·.2))).length = τ.length := by rw [← same, wipe_length]
        exact ⟨m', hm, i + 1, H', (I'.unpinned (pins := [])).weak len (fun j v e => (wipe_some (same ▸ e)).1), T.keep _ _ _ tA fun b hb o e => (pin b hb o e).1, fun b hb => let ⟨o, e, _⟩ := T.obj _ _ tA b hb; (pin b hb o e).2, w'⟩
      cases b with
      | false => exact fin jI qI
      | true =>
        refine thnF (pk.run _ sI τ HI _ jI qI) fun z sK ⟨yk, HK, jK, r10, qK⟩ => ?_
        refine thnF (pv.run _ sK τ HK _ jK qK) fun z2 sV ⟨yv, HV, jV, r11, kvs, k, hD11, D11, okk, ky, hz11, next⟩ => ?_
        exact c_put (X := X.blk s3 H3 scope ce fp) hu jV hD11 D11 okk ky r10 r11 hz11 fun sE jE => fin jE next
  rw [← hce, ← hcl, ← hC, ← hs4] at loop
  exact codeAny_compStart_dict loop (T.self X.A 0 _ _ _ (hs4 ▸ st4) loop)
end
end Vd
/-! name = {..} on one line. -/
namespace Vd
open PySem PySem.Spec PyProof.Rows L2
section
variable {X : Cx}
theorem dc_core {pins : List (Addr × Obj)} {s : Shared} {σ : L2.St} {H : Hp} {Q : VK} {kx vx tg iter : Expr} {ifs : List Expr} {scope : Scope} {own : List (Str × Nat)} {pos pos' : Pos} {wi : TI} {g : TG} {tt : TT} {tk tv : TE} {use : Option (Value → Sem Unit)} {Qf : Value → Shared → Prop}
    (hu : X.A.units + 64 < cLine) (hc : X.calm = true) (hN : X.N.Nodup) (I : Inv X pins σ H s) (hi : PI X tg iter wi) (ok : BlkOk X.N X.env.scope scope own)
    (hg : ∀ (s : Shared) (H : Hp) (C : Addr) (cl : List (Str × Addr)) (fp : List Addr), PG (X.blk s H scope (compEnvC scope cl C X.env) fp) tg g) (ht : ∀ (s : Shared) (H : Hp) (C : Addr) (cl : List (Str × Addr)) (fp : List Addr), PTs (X.blk s H scope (compEnvC scope cl C X.env) fp) ifs tt)
    (hk : ∀ (s : Shared) (H : Hp) (C : Addr) (cl : List (Str × Addr)) (fp : List Addr), PE (X.blk s H scope (compEnvC scope cl C X.env) fp) kx tk) (he : ∀ (s : Shared) (H : Hp) (C : Addr) (cl : List (Str × Addr)) (fp : List Addr), PE (X.blk s H scope (compEnvC scope cl C X.env) fp) vx tv)
    (hs : ∀ x, foldedSetIterable iter X.env x = pure x) (h : tDc X.w wi g tt tk tv (own.map (·.2)) σ H Q)
    (hRR : ∀ D C s' m H', Inv X pins σ H' s' → Q (.ref D) H' → s'.heap.Ns C m → FpOk X pins H' C → compPost (model X.prog X.w) X.A X.xe use Qf (.ref D) C (.ok .next) s') :
    wpAny (model X.prog X.w) X.A (comprehension (.DictComp kx vx [⟨tg, iter, ifs, 0⟩] scope pos) scope X.env pos' newDict false (eval iter X.env) use) Qf X.xe s := by
  have there : ∀ y ∈ scope.names, y.2 = .free → ∃ c, X.env.cells.lookup y.1 = some c := fun y hy e => (ok.free y hy e).elim (fun k => I.ok.has _ (.inl k)) fun k => I.ok.has _ (.inr k)
  refine wpAny_comprehension_free (use := use) rfl hs (closure_ok there) ok.kind (fun y hy e => by rw [ok.uniq y hy, e]) (thn (hi.run pins s σ H _ I h) fun _ _ hx => thn hx fun _ s2 ⟨it, fp, tn, J, H2, e, I2, T, st2, f2, q⟩ => ?_)
  subst e
  refine wpAny_newObj_type (newEnv_comp ?_)
  -- the new dict stands at D
  obtain ⟨D, hD⟩ : ∃ D, s2.heap.objs.size = D := ⟨_, rfl⟩
  rw [hD]
  obtain ⟨W, ⟨m0, w0⟩, turn⟩ := q D (I2.hok.fresh (Nat.le_of_eq hD))
  obtain ⟨s3, hs3⟩ : ∃ s3 : Shared, { s2 with heap := s2.heap.push { cls := .type "dict", data := .dict #[] } } = s3 := ⟨_, rfl⟩
  rw [hs3]
  have h3 : s3.heap = s2.heap.push { cls := .type "dict", data := .dict #[] } := hs3 ▸ rfl
  have I3 : Inv X pins σ (upd H2 D (dV X.w D [])) s3 := by
    rw [← hs3]
    refine I2.laid (t' := s2.toks) (fun _ _ there => Heap.get?_push_of_some _ there) (Nat.le_of_eq hD) ?_
    rw [← hD]
    exact dV_ok (beq_eq_false_iff_ne.mpr (Ne.symm (Nat.ne_of_lt I2.big))) (Nat.zero_le _) .nil (Holds.new s2.heap)
  have up : ∀ b ∈ fp, ∀ o, s2.heap.get? b = some o → s3.heap.get? b = some o := fun b _ o e => by rw [h3]; exact Heap.get?_push_of_some _ e
  have old : ∀ b ∈ fp, b < s2.heap.objs.size := fun b hb => let ⟨_, e, _⟩ := T.obj _ _ st2 b hb; Heap.lt_size e
  have f3 : ∀ b ∈ fp, FpOk X pins (upd H2 D (dV X.w D [])) b ∧ b < s3.heap.objs.size := fun b hb =>
    ⟨⟨by rw [upd_ne (fun e => Nat.lt_irrefl _ (Nat.lt_of_lt_of_eq (old b hb) (hD.trans e.symm)))]; exact (f2 b hb).1, (f2 b hb).2⟩, by rw [h3, Heap.size_push]; exact Nat.lt_succ_of_lt (old b hb)⟩
  have I4 := block_start I3 ok hN f3
  obtain ⟨C, hC⟩ : ∃ C, s3.heap.objs.size = C := ⟨_, rfl⟩
  rw [hC] at I4
  obtain ⟨cl, hcl⟩ : ∃ cl, cellsFrom (C + 1) scope.names (cloFrom X.env.cells scope.names []) = cl := ⟨_, rfl⟩
  rw [hcl] at I4
  have pg := hg s3 (upd H2 D (dV X.w D [])) C cl fp
  have pt := ht s3 (upd H2 D (dV X.w D [])) C cl fp
  have pk := hk s3 (upd H2 D (dV X.w D [])) C cl fp
  have pv := he s3 (upd H2 D (dV X.w D [])) C cl fp
  obtain ⟨ce, hce⟩ : ∃ ce, compEnvC scope cl C X.env = ce := ⟨_, rfl⟩
  have cL : ce.locals = C := hce ▸ rfl
  rw [hce] at I4 pg pt pk pv
  obtain ⟨s4, hs4⟩ : ∃ s4 : Shared, { s3 with heap := pushCells (s3.heap.push { cls := .type "dict", data := .dict #[] }) scope.names } = s4 := ⟨_, rfl⟩
  rw [hs4] at I4
  obtain ⟨H3, hH3⟩ : ∃ H3, upd H2 D (dV X.w D []) = H3 := ⟨_, rfl⟩
  rw [hH3] at I3 I4 pg pt pk pv w0 f3
  have st4 : tn 0 s4.heap := T.keep _ _ _ (T.keep _ _ _ st2 up) fun b _ o e => by rw [← hs4]; exact pushCells_keeps _ _ _ _ (Heap.get?_push_of_some _ e)
  have stat : ∀ {σ' : L2.St} {H' : Hp} {s' : Shared}, Inv (X.blk s3 H3 scope ce fp) [] σ' H' s' → (∀ b ∈ fp, H' b = none) → ∀ b ∈ fp, FpOk (X.blk s3 H3 scope ce fp) [] H' b := fun I' hn b hb =>
    ⟨hn b hb, (I'.ok.exf b hb).1, I'.ok.exfs b hb, .inl hb, fun x c e => (I'.ok.exf b hb).2 x c e, fun p hp => by cases hp⟩
  have loop : codeAny (model X.prog X.w) X.A (.compLoop (.DictComp kx vx [⟨tg, iter, ifs, 0⟩] scope pos) 0 (.ref it) (.ref D) ce) (compPost (model X.prog X.w) X.A X.xe use Qf (.ref D) C) s4 := by
    refine compLoop_anyD (fun n s' => ∃ i H', Inv (X.blk s3 H3 scope ce fp) [] (wipe σ (own.map (·.2))) H' s' ∧ tn i s'.heap ∧ (∀ b ∈ fp, H' b = none) ∧ W i n H') ?_ m0 ⟨0, H3, I4, st4, fun b hb => (f3 b hb).1.1, w0⟩
    rintro n sT ⟨i, HT, jT, tT, zT, wT⟩
    rcases turn i n HT wT with ⟨ends, qq⟩ | ⟨goes, Nx, hNx, then_⟩
    · refine thnF (T.done (X.blk s3 H3 scope ce fp) rfl rfl rfl hc i [] sT _ HT (fun _ _ => False) jT (stat jT zT) tT ends) fun r sN ⟨hr, jN⟩ => ?_
      subst hr
      have jA : Inv X pins σ HT sN := I3.call' (ch := fp) jN.os jN.base jN.hok jN.bare fun b hb => ⟨(f3 b hb).1.2.2.2.1, (f3 b hb).1.2.1, (f3 b hb).1.2.2.2.2.1, (f3 b hb).1.2.2.2.2.2⟩
      have nC : HT C = none := cL ▸ (show HT ce.locals = none from jN.free)
      obtain ⟨m, hn, _⟩ := jN.loc
      exact hRR D C sN m HT jA qq (cL ▸ (show sN.heap.Ns ce.locals m from hn)) (I3.fpOk (Nat.le_of_eq hC) nC)
    · refine thnF (T.item (X.blk s3 H3 scope ce fp) rfl rfl rfl hc i [] sT _ HT (fun _ _ => False) jT (stat jT zT) tT goes) fun r sN ⟨u, hr, hN⟩ => ?_
      subst hr
      refine thnF hN fun _ sA ⟨x, HA, jA, rA, yA, tA, zA⟩ => ?_
      refine thnF (pg.run _ sA _ HA x u _ (jA.pinned (stat jA zA) (T.obj _ _ tA)) rA (then_ x HA yA)) fun _ sG ⟨τ, HG, jG, same, qG⟩ => ?_
      refine thnF (pt.run _ sG τ HG _ jG qG) fun b sI ⟨HI, jI, qI⟩ => ?_
      have fin : ∀ {s' : Shared} {H' : Hp}, Inv (X.blk s3 H3 scope ce fp) ([] ++ pinsAt fp sA.heap) τ H' s' → Nx H' → ∃ m, m < n ∧ ∃ i H', Inv (X.blk s3 H3 scope ce fp) [] (wipe σ (own.map (·.2))) H' s' ∧ tn i s'.heap ∧ (∀ b ∈ fp, H' b = none) ∧ W i m H' := fun {s' H'} I' next => by
        obtain ⟨m', hm, w'⟩ := hNx H' next
        have pin : ∀ b ∈ fp, ∀ o, sA.heap.get? b = some o → s'.heap.get? b = some o ∧ H' b = none := fun b hb o e => let z := I'.pin (b, o) (List.mem_append_right _ (List.mem_append_right _ (mem_pinsAt hb e))); ⟨z.1, z.2.1⟩
        have len : (wipe σ (own.map (·.2))).length = τ.length := by rw [← same, wipe_length]
        exact ⟨m', hm, i + 1, H', (I'.unpinned (pins := [])).weak len (fun j v e => (wipe_some (same ▸ e)).1), T.keep _ _ _ tA fun b hb o e => (pin b hb o e).1, fun b hb => let ⟨o, e, _⟩ := T.obj _ _ tA b hb; (pin b hb o e).2, w'⟩
      cases b with
      | false => exact fin jI qI
      | true =>
        refine thnF (pk.run _ sI τ HI _ jI qI) fun z sK ⟨yk, HK, jK, r10, qK⟩ => ?_
        refine thnF (pv.run _ sK τ HK _ jK qK) fun z2 sV ⟨yv, HV, jV, r11, kvs, k, hD11, D11, okk, ky, hz11, next⟩ => ?_
        exact c_put (X := X.blk s3 H3 scope ce fp) hu jV hD11 D11 okk ky r10 r11 hz11 fun sE jE => fin jE next
  rw [← hce, ← hcl, ← hC, ← hs4] at loop
  exact codeAny_compStart_dict loop (T.self X.A 0 _ _ _ (hs4 ▸ st4) loop)
theorem ps_setDc {i : Nat} {y : Str} {py : Pos} {kx vx tg iter : Expr} {ifs : List Expr} {scope : Scope} {own : List (Str × Nat)} {pos spos : Pos} {wi : TI} {g : TG} {tt : TT} {tk tv : TE} (hu : X.A.units + 64 < cLine) (hc : X.calm = true) (hN : X.N.Nodup) (hy : X.N[i]? = some y) (hyl : X.env.scope.names.lookup y = some .local)
    (hsw : swapsWith (.DictComp kx vx [⟨tg, iter, ifs, 0⟩] scope pos) (some (.Name y py)) spos.line X.env = pure true) (hi : PI X tg iter wi) (ok : BlkOk X.N X.env.scope scope own)
    (hg : ∀ (s : Shared) (H : Hp) (C : Addr) (cl : List (Str × Addr)) (fp : List Addr), PG (X.blk s H scope (compEnvC scope cl C X.env) fp) tg g) (ht : ∀ (s : Shared) (H : Hp) (C : Addr) (cl : List (Str × Addr)) (fp : List Addr), PTs (X.blk s H scope (compEnvC scope cl C X.env) fp) ifs tt)
    (hk : ∀ (s : Shared) (H : Hp) (C : Addr) (cl : List (Str × Addr)) (fp : List Addr), PE (X.blk s H scope (compEnvC scope cl C X.env) fp) kx tk) (he : ∀ (s : Shared) (H : Hp) (C : Addr) (cl : List (Str × Addr)) (fp : List Addr), PE (X.blk s H scope (compEnvC scope cl C X.env) fp) vx tv)
    (hs : ∀ x, foldedSetIterable iter X.env x = pure x := by intro _; rfl) :
    PS X (.Assign [.Name y py] (.DictComp kx vx [⟨tg, iter, ifs, 0⟩] scope pos) spos) (tAsg (tDc X.w wi g tt tk tv (own.map (·.2))) (gName i)) := by
  refine ⟨fun pins s σ H D I h => ?_⟩
  rw [exec_Assign_Name_used _ _ _ _ hsw]
  refine wpAny_bind (wpAny_standAt (wpAny_bind ?_))
  show wpAny _ X.A (do let _ ← comprehension (.DictComp kx vx [⟨tg, iter, ifs, 0⟩] scope pos) scope X.env (firstIterPos [⟨tg, iter, ifs, 0⟩] pos) newDict false (eval iter X.env) (some (assign (.Name y py) X.env))) _ _ s
  have h : tDc X.w wi g tt tk tv (own.map (·.2)) σ H (fun x H1 => gName i x σ H1 D.nx) := h
  refine wpAny_bind (thn (dc_core (Qf := fun _ s' => SP X pins D .next s') hu hc hN I hi ok hg ht hk he hs h fun L C s' m H' I' q hn f => ?_) fun _ s' hq => wpAny_pure (wpAny_pure hq))
  show wpAny _ _ (assign (.Name y py) X.env (.ref L)) _ _ _
  refine wpAny_assign_Name (store_ok2 (v := V.ref L) I' hN hy (.inl hyl) rfl (fun s2 I2 ⟨a, sb, ha⟩ => ?_) (.inr hyl))
  obtain ⟨g0, g1, g2, g3, g4, g5⟩ := f
  have other : C ≠ a := ha.elim (fun z => z ▸ g1) fun z e => g4 y a z e.symm
  exact ⟨m, hn.sameBut sb other, fun h3 sb3 => ⟨_, H', I2.turned (t' := s2.toks) (fun b o hb e => (sb3.2 b hb).trans e) g0 g1 g3 g4 g5, q⟩⟩
theorem sw_trueD {kx vx : Expr} {gs : List Comprehension} {scope : Scope} {pos py : Pos} {y : Str} {l : Nat} {env : Env} (hk : env.scope.kind = .function) (hy : env.scope.names.lookup y = some .local) (hl : (py.line == pos.line) = true)
    (ha : (scope.names.any fun (n, k) => n == y && (k == .local || k == .cell)) = false) : swapsWith (.DictComp kx vx gs scope pos) (some (.Name y py)) l env = pure true := by
  have e1 : env.kindOf y = some .local := hy
  have e2 : env.blockKind = .function := by unfold Env.blockKind; rw [hk]; rfl
  unfold swapsWith
  simp only [e2, e1, ha, Expr.pos, hl]
  rfl
end
end Vd
/-! A law's own def, run where the law is entered: there no guard stands around it, so repr of lists and tuples can be told. -/
namespace Gd
open PySem PySem.Spec PyProof.Rows L2
/-- the promise of a def at one place A alone -/
def RunAt (A : Around) (P : Program) (w : World) (K : PySem.W.Frag) (mg : Str → Option Value) (base : Heap) (f : Addr) (fd : FuncData) (ps : List Str) (sp : Sp) : Prop :=
  ∀ outer s H args us vs Q E, Env0 P w K mg base A outer s H → BindsTo s fd args (ps.zip us) → Vals vs us → sp vs H Q E → codeAny (model P w) A (.call (.ref f) args) (CR CX0 outer P w H s Q E) s
/-- the body's judgement, at this place, gives it -/
theorem runAt {A : Around} {P : Program} {w : World} {K : PySem.W.Frag} {mg : Str → Option Value} {base : Heap} {k : Nat} {x qual : Str} {st : Stmt} {f : Addr} {fd : FuncData} {N ps : List Str} {sp : Sp}
    (F : Fun K x qual st f fd) (S : FnScope N ps (defScope st)) (rm : Room (k + 1) A) (len : ∀ vs H Q E, sp vs H Q E → vs.length = ps.length)
    (body : ∀ cdv outer s H vs Q E, sp vs H Q E → ∃ t, PSs (cxOf CX0 P w K mg base N qual (defScope st) f cdv A outer s H E).nox (defBody st) t ∧ t { nx := fun _ H' => Q .non H', rt := Q } (start N vs) H) :
    RunAt A P w K mg base f fd ps sp := by
  obtain ⟨oc, od, kV, doc, pm, an, cdv, ct, osl, rfl, lk, hcd⟩ := F.ex
  intro outer s H args us vs Q E e0 hb rv hsp
  have inK : K.In s.heap := e0.mod.kin.keeps fun b o e => (e0.bs b o e).1
  refine codeAny_call_function rm.depth (inK _ _ lk) rfl S.co S.gen rfl (PySem.W.codeRec_of inK hcd) (hb _ _ _ _ ?_)
  refine wpAny_newFunctionEnv_cells S.kind (fun ⟨n, v⟩ hm => (S.par n (List.of_mem_zip hm).1).imp id fun c => ⟨c, PySem.W.cellsFrom_some _ _ _ (.inl c)⟩) fun env he s1 ic => ?_
  subst he
  obtain ⟨t, ht, hq⟩ := body cdv outer s H vs Q E hsp
  refine ⟨(e0.mod.nolimit.keeps fun b o e => (e0.bs b o e).1).keeps ic.toInCall.keep, codeAny_func (wpAny_mono (ht.nox.run [] s1 (start N vs) H _ (inv_start S rm.hd e0 (len _ _ _ _ hsp) rv ic) hq) (fun fl s' hs => ?_) fun _ _ h => h)⟩
  cases fl with
  | ret u => exact let ⟨v, _, H', J, r, q⟩ := hs; ⟨v, H', J.os, J.bare, J.base, J.hok, r, q⟩
  | next => exact let ⟨_, H', J, q⟩ := hs; ⟨V.non, H', J.os, J.bare, J.base, J.hok, rfl, q⟩
  | brk => exact (let ⟨_, _, _, q⟩ := hs; q : False).elim
  | cont => exact (let ⟨_, _, _, q⟩ := hs; q : False).elim
/-- what is tracked where the law is entered: at most the script, locked -/
def entry (a : Addr) (t : Bool) (o : Obj) (xs : List V) : Hp := fun b => if b = a ∧ t = true then some (.frz o (.lst xs)) else none
theorem entry_some {a b : Addr} {t : Bool} {o : Obj} {xs : List V} {u : HO} (h : entry a t o xs b = some u) : b = a ∧ t = true ∧ u = .frz o (.lst xs) := by
  unfold entry at h
  split at h
  · rename_i c
    exact ⟨c.1, c.2, (Option.some.inj h).symm⟩
  · cases h
theorem law_at {P : Program} {w : World} {K : PySem.W.Frag} {mg mb : Str → Option Value} {fa a : Addr} {fd : FuncData} {x : Str} {sp : Sp} {s : Shared} {vs : List Value} {ns : List Int}
    (inK : K.In s.heap) (glob : s.heap.Ns mainGlobals mg) (hb : s.heap.Ns builtinsNs mb) (boot : ∀ x : Str, x ≠ "__name__" → mb x = bootBuiltins x) (lim : s.heap.NoLimit) (hg : s.gens = #[])
    (at_ : s.heap.get? a = some { cls := .type "list", data := .seq vs.toArray }) (hi : IntsAre vs ns) (hl : ns.length ≤ sizeLine)
    (run : ∀ base : Heap, K.In base → base.Ns mainGlobals mg → RunAt callerA P w K mg base fa fd [x] sp) (binds : ∀ (s : Shared) (u : Value), BindsTo s fd ⟨[u], []⟩ [(x, u)])
    (hsp : ∀ H : Hp, Only H → SqL K H a (ns.map V.int) → sp [.ref a] H (fun v _ => v = .bl true) fun _ _ _ => False) :
    codeAny (model P w) callerA (.call (.ref fa) ⟨[.ref a], []⟩) (fun r s' => r = .ok (.ret (.bool true)) ∧ OldK s.heap s'.heap ∧ s'.os = s.os ∧ AllBare s'.gens) s := by
  have rv := vals_ints hi
  obtain ⟨t, ht⟩ : ∃ t : Bool, t = true ↔ K.lookup a = none := ⟨(K.lookup a).isNone, Option.isNone_iff_eq_none⟩
  let o : Obj := { cls := .type "list", data := .seq vs.toArray }
  let H : Hp := entry a t o (ns.map V.int)
  have none_of : ∀ {b : Addr} {u : Obj}, s.heap.get? b = some u → (b = a → t = true → u ≠ o) → H b = none := fun {b u} e n => by
    cases q : H b with
    | none => rfl
    | some z =>
      obtain ⟨rfl, h1, _⟩ := entry_some q
      rw [at_] at e
      exact absurd (Option.some.inj e).symm (n rfl h1)
  have names : ∀ {b : Addr} {m : Str → Option Value}, s.heap.Ns b m → (hidT s.heap H).Ns b m := fun {b m} ⟨u, es, ep, e, d, r⟩ =>
    ⟨u, es, ep, hidT_get e (none_of e fun _ _ z => by rw [z] at d; cases (show Data.seq vs.toArray _ = Data.dict es ep from d)), d, r⟩
  have kept : K.In (hidT s.heap H) := fun b u e => hidT_get (inK b u e) (none_of (inK b u e) fun h1 h2 _ => by rw [h1, ht.mp h2] at e; cases e)
  have ok : HOk P w H s.heap := fun b u q => by
    obtain ⟨rfl, _, rfl⟩ := entry_some q
    exact ⟨at_, by rw [List.length_map]; exact hl, vs, _, rv, at_⟩
  have only : Only H := fun b => by
    cases q : H b with
    | none => exact .inl rfl
    | some u => exact .inr ⟨_, _, congrArg some (entry_some q).2.2⟩
  have script : SqL K H a (ns.map V.int) := by
    cases q : K.lookup a with
    | none => exact .inl (.inr ⟨o, if_pos ⟨rfl, ht.mpr q⟩⟩)
    | some u =>
      obtain rfl : o = u := Option.some.inj (at_.symm.trans (inK a u q))
      exact .inr ⟨_, vs.toArray, _, q, rfl, rfl, rfl, by rw [List.size_toArray, hi.length]; exact hl, by simpa using rv⟩
  have env : Env0 P w K mg (hidT s.heap H) callerA [] s H :=
    { frames := rfl, mod := ⟨kept, names glob, ⟨mb, names hb, boot⟩, let ⟨mc, h1, h2⟩ := lim; ⟨mc, names h1, h2⟩⟩, bs := fun _ _ e => of_hidT e, bsz := Nat.le_of_eq (hidT_size _ _), funs := trivial, frf := fun b hb => absurd hb List.not_mem_nil, hok := ok, bare := .of_eq hg }
  refine codeAny_mono (run _ kept (names glob) [] s H ⟨[.ref a], []⟩ [.ref a] [.ref a] _ _ env (binds s _) (.cons rfl .nil) (hsp H only script)) fun r s' h => ?_
  match r, h with
  | .ok (.ret u), ⟨v, H', os, bare, un, hok', r', q⟩ =>
    obtain rfl : v = .bl true := q
    refine ⟨by rw [show u = Value.bool true from r'], OldK.of_keep fun b z e => ?_, os, bare⟩
    cases hb : H b with
    | none => exact un.keep b z e hb (by intro z; cases z) (by simp)
    | some y =>
      obtain ⟨rfl, _, rfl⟩ := entry_some hb
      have e2 := (hok' b _ (un.frzs b o _ hb)).1
      rw [at_] at e
      exact (Option.some.inj e) ▸ e2
/-- the end of a text: as L2.walk_of, the law's def run where it is entered -/
theorem walk_at {l : PySem.W.OpenLaw} {n : Nat} {q : Program} {loose : List Str} {XP : (Str → Option Value) → Heap → Prop} {YP : World → Heap → Prop} {d : DefRec} {K : Params → PySem.W.Frag} {sp : World → Sp} {x : Str}
    (hn : l.most = some n) (hn2 : n ≤ sizeLine) (hdf : d.params.defaults = []) (hY : ∀ (w : World) (h : Heap), YP w h → (K w.params).In h)
    (F : ∀ (w : World) (mg : Str → Option Value) (fa : Addr) (h : Heap), (K w.params).In h → h.Ns mainGlobals mg → mg d.name = some (.ref fa) →
      ∃ fd : FuncData, (∀ (s : Shared) (u : Value), BindsTo s fd ⟨[u], []⟩ [(x, u)]) ∧ ∀ base : Heap, (K w.params).In base → base.Ns mainGlobals mg → RunAt callerA l.prog w (K w.params) mg base fa fd [x] (sp w))
    (hsp : ∀ (w : World) (H : Hp) (a : Addr) (ns : List Int), ns.length ≤ n → Only H → SqL (K w.params) H a (ns.map V.int) → sp w [.ref a] H (fun v _ => v = .bl true) fun _ _ _ => False) :
    PySem.W.WalkO q loose XP YP l.row.toRowW d [] (fun f vs => PySem.call f vs) := by
  refine Att.attach_call hn hdf fun w _ s mg mb fa o pm cd doc a vs ns G Y ho hd hcd hmg hobj hints hlen hg => ?_
  obtain ⟨fd, hb, hF⟩ := F w mg fa _ (hY w _ Y) G.T.g hmg
  exact law_at (hY w _ Y) G.T.g G.T.b G.T.builtins G.T.nolimit hg hobj hints (Nat.le_trans hlen hn2) hF hb fun H hO hS => hsp w H a ns hlen hO hS
/-- no guard stands around the law's own def -/
theorem no_guards (env : Env) : (callerA.deeper env).guards = some [] := rfl
/-- repr of data at any depth -/
def rRepr (K : PySem.W.Frag) : List V → Hp → VK → Prop := fun vs H Q => ∃ (a : Addr) (d : PyData), vs = [.ref a] ∧ Dp K H (.ref a) d ∧ d.showable = true ∧ d.hasDict = false ∧ d.depth ≤ 60 ∧ d.shown.length ≤ sizeLine ∧ Q (.str d.shown) H
theorem call_repr {X : Cx} (hg : X.A.guards = some []) (hu : X.A.units + 64 < cLine) : CallR X (.builtin "repr") (rRepr X.K) := by
  intro pins s σ H xs us Q I r h
  obtain ⟨a, d, rfl, dp, hs, hd, hdep, hl, q⟩ := h
  obtain rfl := Vals.ref1 r
  obtain ⟨as, rd⟩ := Dp.reads I d _ _ dp rfl
  exact repr_of_reads' rd hs (fun z => by rw [hd] at z; cases z) hg (by omega) (fun _ _ e => e) (fun h' u tk hk => ⟨.str d.shown, H, I.kept hk, ⟨u, rfl⟩, q⟩) hl
end Gd
/-! Data at any depth, alike: <, >, <=, >=, sorted. -/
namespace Dt
open PySem PySem.Spec PySem.W PyProof.Rows L2
section
variable {X : Cx}
def rCmpD (K : PySem.W.Frag) (f : PyData → PyData → Bool) : R2 := fun x y H Q => ∃ d e, Dp K H x d ∧ Dp K H y e ∧ PySem.W.alike d e = true ∧ d ≠ .none ∧ d.depth ≤ 50 ∧ Q (.bl (f d e)) H
theorem op_ltD (hu : X.A.units + 64 < cLine) : OpR X (compareOp .Lt) (rCmpD X.K fun d e => dataLt d e) := by
  intro pins s σ H x y v u Q I rx ry h
  obtain ⟨d, e, hd, he, al, dn, dp, q⟩ := h
  obtain ⟨as, r1⟩ := Dp.reads I d x v hd rx
  obtain ⟨bs, r2⟩ := Dp.reads I e y u he ry
  exact lt_data r1 r2 al dn (by have := Nat.min_le_left d.depth e.depth; omega) ⟨.bl _, H, I, rfl, q⟩
theorem op_gtD (hu : X.A.units + 64 < cLine) : OpR X (compareOp .Gt) (rCmpD X.K fun d e => dataLt e d) := by
  intro pins s σ H x y v u Q I rx ry h
  obtain ⟨d, e, hd, he, al, dn, dp, q⟩ := h
  obtain ⟨as, r1⟩ := Dp.reads I d x v hd rx
  obtain ⟨bs, r2⟩ := Dp.reads I e y u he ry
  exact gt_data r1 r2 al dn (by have := Nat.min_le_left d.depth e.depth; omega) ⟨.bl _, H, I, rfl, q⟩
theorem op_leD (hu : X.A.units + 64 < cLine) : OpR X (compareOp .LtE) (rCmpD X.K fun d e => !dataLt e d) := by
  intro pins s σ H x y v u Q I rx ry h
  obtain ⟨d, e, hd, he, al, dn, dp, q⟩ := h
  obtain ⟨as, r1⟩ := Dp.reads I d x v hd rx
  obtain ⟨bs, r2⟩ := Dp.reads I e y u he ry
  exact le_data r1 r2 al dn (by have := Nat.min_le_left d.depth e.depth; omega) ⟨.bl _, H, I, rfl, q⟩
theorem op_geD (hu : X.A.units + 64 < cLine) : OpR X (compareOp .GtE) (rCmpD X.K fun d e => !dataLt d e) := by
  intro pins s σ H x y v u Q I rx ry h
  obtain ⟨d, e, hd, he, al, dn, dp, q⟩ := h
  obtain ⟨as, r1⟩ := Dp.reads I d x v hd rx
  obtain ⟨bs, r2⟩ := Dp.reads I e y u he ry
  exact ge_data r1 r2 al dn (by have := Nat.min_le_left d.depth e.depth; omega) ⟨.bl _, H, I, rfl, q⟩
/-- sorted(xs): the items with what they are -/
def rSortedD (K : PySem.W.Frag) : List V → Hp → VK → Prop := fun vs H Q => ∃ (a : Addr) (bs : List (V × PyData)), vs = [.ref a] ∧ SqL K H a (bs.map (·.1)) ∧ (∀ b ∈ bs, Dp K H b.1 b.2) ∧ AllAlike (bs.map (·.2)) ∧ Sortable (bs.map (·.2)) ∧
  (∀ b ∈ bs, b.2.depth ≤ 50) ∧ ∀ p, H p = none → Q (.ref p) (upd H p (.lst ((bs.mergeSort (dataLe false (·.2))).map (·.1))))
theorem each_out : ∀ {out : List Value} {bs : List (V × PyData)}, EachIs (fun u (b : V × PyData) => RelV b.1 u) out bs → Vals (bs.map (·.1)) out
  | [], [], _ => .nil
  | _ :: _, _ :: _, .cons h1 h2 => .cons h1 (each_out h2)
theorem each_in : ∀ {bs : List (V × PyData)} {us : List Value}, Vals (bs.map (·.1)) us → EachIs (fun u (b : V × PyData) => RelV b.1 u) us bs
  | [], _, r => by
    cases r
    exact .nil
  | b :: bs, _, r => by
    cases r with
    | cons h1 h2 => exact .cons h1 (each_in h2)
theorem each_both {α β : Type} {R S : α → β → Prop} : ∀ {as : List α} {bs : List β}, EachIs R as bs → (∀ a b, b ∈ bs → R a b → S a b) → EachIs S as bs
  | _, _, .nil, _ => .nil
  | _, _, .cons h1 h2, f => .cons (f _ _ (List.mem_cons_self ..) h1) (each_both h2 fun a b m r => f a b (List.mem_cons_of_mem _ m) r)
theorem cr_sortedD (hu : X.A.units + 64 < cLine) : CallR X (.builtin "sorted") (rSortedD X.K) := by
  intro pins s σ H vs us Q I r h
  obtain ⟨a, bs, rfl, hs, hd, al, so, dep, q⟩ := h
  obtain ⟨its, rv, hl, hz⟩ := I.list hs
  obtain rfl := Vals.ref1 r
  have e := each_in rv
  have er : EachIs (fun u (b : V × PyData) => ∃ as, Reads s.heap u b.2 as) its bs := each_both e fun u b m rb => Dp.reads I b.2 b.1 u (hd b m) rb
  have hbl : bs.length ≤ sizeLine := by
    rw [List.length_map] at hz
    exact hz
  refine sorted_data (enc := fun b : V × PyData => b.2) hl.isList e er al so hbl (fun b m => by have := dep b m; omega) fun out hlen ho => ?_
  obtain ⟨ep, he'⟩ := PyProof.Rows.sortedAll_at s.heap its out.toArray
  have hlen2 : ((bs.mergeSort (dataLe false (·.2))).map (·.1)).length ≤ sizeLine := by
    rw [List.length_map, List.length_mergeSort]
    exact hbl
  exact ⟨.ref _, upd H (s.heap.objs.size + 1) (.lst ((bs.mergeSort (dataLe false (·.2))).map (·.1))), I.laid (t' := s.toks) (fun _ _ => PyProof.Rows.sortedAll_old) (Nat.le_succ _) ⟨hlen2, out, ep, each_out ho, he'⟩, rfl, q _ (I.hok.fresh (Nat.le_succ _))⟩
end
end Dt
/-! sorted of tuples that are alike, or unlike by their first items (which are alike): what stands behind is not asked. -/
namespace Sa
open PySem PySem.Spec PySem.W PySem.Calls PyProof.Rows L2 SrtO
/-- d < d' can be told: they are alike, or tuples whose first items are alike and not equal -/
def Akin (d d' : PyData) : Prop := alike d d' = true ∨ ∃ x r x' r', d = .tuple (x :: r) ∧ d' = .tuple (x' :: r') ∧ alike x x' = true ∧ PyData.eqv x x' = false
theorem swo_data {α : Type} (k : α → PyData) : Swo fun x y => dataLt (k x) (k y) := by
  refine ⟨fun x y h => ?_, fun x y z h1 h2 => ?_⟩
  · cases e : dataLt (k y) (k x) with
    | false => rfl
    | true =>
      have z := lex_trans (O := itemOrd) _ _ _ h e
      have z2 : dataLt (k x) (k x) = false := lex_irrefl _
      have z3 : dataLt (k x) (k x) = true := z
      rw [z2] at z3
      cases z3
  · cases e : dataLt (k z) (k x) with
    | false => rfl
    | true =>
      rcases lex_negTrans (O := itemOrd) (keyToks (k z)) (keyToks (k y)) (keyToks (k x)) e with q | q
      · exact absurd (show dataLt (k z) (k y) = true from q) (by rw [h2]; simp)
      · exact absurd (show dataLt (k y) (k x) = true from q) (by rw [h1]; simp)
section
variable {prog : Program} {w : World} {A : Around} {s : Shared}
theorem akin_cmp {vs : List Value} {k : Value → PyData} (T : Value) (hr : ∀ v ∈ vs, ∃ as x r, Reads s.heap v (k v) as ∧ k v = .tuple (x :: r) ∧ dataType x = T) (hk : ∀ v ∈ vs, ∀ u ∈ vs, Akin (k v) (k u)) (hu : ∀ v ∈ vs, A.units + (k v).depth < cLine) :
    Cmp prog w A s (tuples' (T != Value.type "tuple")) (fun p => p.1 ∈ vs) (lt2 fun v u => dataLt (k v) (k u)) := by
  intro p q hm hm'
  show wpAny (model prog w) A (keyLt' _ p.1 q.1) (fun r s' => s' = s ∧ r = dataLt (k p.1) (k q.1)) (fun _ _ => False) s
  obtain ⟨as, x1, r1, ra, e1, t1⟩ := hr _ hm
  obtain ⟨bs, x2, r2, rb, e2, t2⟩ := hr _ hm'
  have ak := hk _ hm _ hm'
  have room := hu _ hm
  rw [e1] at ra ak room ⊢
  rw [e2] at rb ak ⊢
  have hd : (PyData.tuple (x1 :: r1)).depth = PyData.depthAll (x1 :: r1) + 1 := by simp [PyData.depth]
  have hd1 : x1.depth ≤ PyData.depthAll (x1 :: r1) := by
    simp only [PyData.depthAll]
    exact Nat.le_max_left _ _
  have htop : (T != Value.type "tuple") = true → ∀ t, x1 ≠ .tuple t := fun hb t e => by
    rw [← t1, e] at hb
    have hb' : (Value.type "tuple" != Value.type "tuple") = true := hb
    exact absurd hb' (by decide)
  revert ra rb
  generalize p.1 = va
  generalize q.1 = vb
  intro ra rb
  cases ra with
  | @tuple l o xs n _ _ h1 h2 h3 h4 =>
  cases rb with
  | @tuple l' o' xs' n' _ _ k1 k2 k3 k4 =>
  have n1 : xs.size = (x1 :: r1).length := by simpa using SeqAt.ReadsAll.length _ _ _ h4
  have n2 : xs'.size = (x2 :: r2).length := by simpa using SeqAt.ReadsAll.length _ _ _ k4
  rw [dataLt_tuple]
  rcases ak with al | ⟨y, r, y', r', ey, ey', al, ne⟩
  · exact kat_lt h1 h3 k1 k3 (katLex_alike (x1 :: r1) (x2 :: r2) 0 _ _ _ _ h4 k4 (by simpa [alike] using al) (by have := Nat.min_le_left (PyData.depthAll (x1 :: r1)) (PyData.depthAll (x2 :: r2)); omega)
      (fun hb _ x r t ex => by obtain ⟨rfl, rfl⟩ := List.cons.inj ex; exact htop hb t) (by rw [n1, n2]) ⟨rfl, rfl⟩)
  · cases ey
    cases ey'
    have dn : x1 ≠ .none := ne_none_of al ne
    refine kat_lt h1 h3 k1 k3 ?_
    cases hx : xs.toList with
    | nil =>
      rw [hx] at h4
      cases h4
    | cons f fr =>
    cases hx' : xs'.toList with
    | nil =>
      rw [hx'] at k4
      cases k4
    | cons g gr =>
    rw [hx] at h4
    rw [hx'] at k4
    cases h4 with
    | cons ra1 ra2 =>
    cases k4 with
    | cons rb1 rb2 =>
    have hroom : A.units + min x1.depth x2.depth < cLine := by
      have := Nat.min_le_left x1.depth x2.depth
      omega
    refine kat_cons ((eqAt_alike x1 x2 A s f g _ _ ra1 rb1 al hroom) prog w _ _ ?_)
    rw [ne]
    refine kat_no (oneLt_alike (fun hb t e => ?_) ra1 rb1 al dn hroom ⟨rfl, (dataLt_all_no al ne).symm⟩)
    rw [Bool.and_eq_true] at hb
    exact htop hb.1 t e
end
/-- sorted(xs) of such tuples: sorted by what they are, stable -/
def rSortedA (K : PySem.W.Frag) : List V → Hp → VK → Prop := fun vs H Q => ∃ (a : Addr) (xs : List V) (k : V → PyData) (T : Value), vs = [.ref a] ∧ SqL K H a xs ∧ (∀ x ∈ xs, ∃ t y r, x = .ref t ∧ Dp K H x (k x) ∧ k x = .tuple (y :: r) ∧ dataType y = T) ∧
  (∀ x ∈ xs, ∀ y ∈ xs, Akin (k x) (k y)) ∧ (∀ x ∈ xs, (k x).depth ≤ 50) ∧
  ∀ ys p, Srtd (fun x y => dataLt (k x) (k y)) ys → Stb (fun x y => dataLt (k x) (k y)) ys xs → H p = none → Q (.ref p) (upd H p (.lst ys))
section
variable {X : Cx}
theorem cr_sortedA (hu : X.A.units + 64 < cLine) : CallR X (.builtin "sorted") (rSortedA X.K) := by
  intro pins s σ H vs us Q I r h
  obtain ⟨a, xs, k, T, rfl, hs, hx, hk, dep, q⟩ := h
  obtain ⟨its, rv, hl, hz⟩ := I.list hs
  obtain rfl := Vals.ref1 r
  obtain ⟨e1, e2⟩ := refs_back rv fun x m => by
    obtain ⟨t, _, _, e, _⟩ := hx x m
    exact ⟨t, e⟩
  have mem : ∀ v ∈ its, backV v ∈ xs := fun v hv => by
    rw [e1]
    exact List.mem_map.mpr ⟨_, hv, rfl⟩
  have read : ∀ v ∈ its, ∃ as y r, Reads s.heap v (k (backV v)) as ∧ k (backV v) = .tuple (y :: r) ∧ dataType y = T := fun v hv => by
    obtain ⟨t, y, r, et, dp, ek, ty⟩ := hx _ (mem v hv)
    obtain ⟨b, rfl⟩ := e2 v hv
    obtain ⟨as, rd⟩ := Dp.reads I _ _ (.ref b) dp rfl
    exact ⟨as, y, r, rd, ek, ty⟩
  refine sorted_ord (ltv := fun v u => dataLt (k (backV v)) (k (backV u))) (swo_data fun v => k (backV v)) hl.isList (by rw [← rv.length]; exact hz) (fun h2 h₁ a' ha kk h' keep => ?_) fun out h1 h2 => ?_
  · have up : ∀ b o, s.heap.get? b = some o → h'.get? b = some o := fun b o e => keep b o (kk b o e).1 (kk b o e).2
    have read' : ∀ v ∈ its, ∃ as y r, Reads h' v (k (backV v)) as ∧ k (backV v) = .tuple (y :: r) ∧ dataType y = T := fun v hv => by
      obtain ⟨as, y, r, rd, ek, ty⟩ := read v hv
      exact ⟨as, y, r, PyProof.Rows.Reads.keeps up rd, ek, ty⟩
    refine ⟨tuples' (T != Value.type "tuple"), fun Q' E hq => ?_, akin_cmp T read' (fun v hv u hu' => hk _ (mem v hv) _ (mem u hu')) fun v hv => ?_⟩
    · obtain ⟨fs, t1, t2, t3⟩ : ∃ fs, KatTups h' its fs ∧ fs.length = its.length ∧ ∀ f ∈ fs, ∃ y as, Reads h' f y as ∧ dataType y = T := by
        clear hq h2 ha hl rv e1 mem read hz
        revert read' e2
        generalize its = vs
        intro e2 read'
        induction vs with
        | nil => exact ⟨[], KatTups.nil, rfl, fun f hf => absurd hf List.not_mem_nil⟩
        | cons v vs ih =>
          obtain ⟨fs, t1, t2, t3⟩ := ih (fun u hu => e2 u (List.mem_cons_of_mem _ hu)) fun u hu => read' u (List.mem_cons_of_mem _ hu)
          obtain ⟨as, y, r, rd, ek, ty⟩ := read' v (List.mem_cons_self ..)
          rw [ek] at rd
          cases rd with
          | @tuple a o xs n _ _ ho hc hd hr =>
            cases qq : xs.toList with
            | nil =>
              rw [qq] at hr
              cases hr
            | cons f fr =>
              rw [qq] at hr
              cases hr with
              | cons r1 r2 =>
                have hf : xs[0]? = some f := by rw [← Array.getElem?_toList, qq]; rfl
                refine ⟨f :: fs, KatTups.cons ho hc hd hf t1, by rw [List.length_cons, List.length_cons, t2], fun g hg => ?_⟩
                rcases List.mem_cons.mp hg with rfl | hg
                · exact ⟨y, _, r1, ty⟩
                · exact t3 g hg
      refine kat_kind (T := T) t1 (by omega) (fun f hf => ?_) (by obtain ⟨y, as, _, ty⟩ := t3 (fs[0]'(by omega)) (List.getElem_mem _); rw [← ty]; exact beq_self_eq_true _) hq
      obtain ⟨y, as, rd, ty⟩ := t3 f hf
      rw [← ty]
      exact looks_reads rd
    · have := dep _ (mem v hv)
      show X.A.units + 1 + 1 + _ < cLine
      omega
  · have h3 : ∀ u ∈ out, ∃ a, u = Value.ref a := fun u hu => e2 u (h2.perm.mem_iff.mp hu)
    obtain ⟨ep, he'⟩ := PyProof.Rows.sortedAll_at s.heap its out.toArray
    have hb : Stb (fun x y => dataLt (k x) (k y)) (out.map backV) xs := by
      rw [e1]
      exact Stb.map (swo_data k) backV h2
    exact ⟨.ref _, upd H (s.heap.objs.size + 1) (.lst (out.map backV)), I.laid (t' := s.toks) (fun _ _ => PyProof.Rows.sortedAll_old) (Nat.le_succ _) ⟨by rw [hb.len]; exact hz, out, ep, vals_back h3, he'⟩, rfl, q _ _ (srtd_map h1) hb (I.hok.fresh (Nat.le_succ _))⟩
end
end Sa
/-! A layer without heap: values are data or places of a store of one's own objects. -/
namespace Zl
open PySem PySem.Spec PyProof.Rows L2
/-! ### data that nobody changes any more -/
mutual
inductive Dz (Z : Hp) : V → PyData → Prop
  | non : Dz Z .non .none
  | bl (b : Bool) : Dz Z (.bl b) (.bool b)
  | int (i : Int) : Dz Z (.int i) (.int i)
  | str (x : Str) : Dz Z (.str x) (.str x)
  | lst {a : Addr} {xs : List V} {ds : List PyData} : Z a = some (.lst xs) → DzAll Z xs ds → Dz Z (.ref a) (.list ds)
  | tup {a : Addr} {xs : List V} {ds : List PyData} : Z a = some (.tup xs) → DzAll Z xs ds → Dz Z (.ref a) (.tuple ds)
inductive DzAll (Z : Hp) : List V → List PyData → Prop
  | nil : DzAll Z [] []
  | cons {v : V} {vs : List V} {d : PyData} {ds : List PyData} : Dz Z v d → DzAll Z vs ds → DzAll Z (v :: vs) (d :: ds)
end
mutual
theorem Dz.mono {Z Z' : Hp} (g : ∀ x o, Z x = some o → Z' x = some o) : ∀ (d : PyData) (v : V), Dz Z v d → Dz Z' v d
  | .none, _, h => by cases h; exact .non
  | .bool b, _, h => by cases h; exact .bl b
  | .int i, _, h => by cases h; exact .int i
  | .str x, _, h => by cases h; exact .str x
  | .list ds, _, h => by
    cases h with
    | lst h1 h2 => exact .lst (g _ _ h1) (DzAll.mono g ds _ h2)
  | .tuple ds, _, h => by
    cases h with
    | tup h1 h2 => exact .tup (g _ _ h1) (DzAll.mono g ds _ h2)
  | .dict _, _, h => by cases h
theorem DzAll.mono {Z Z' : Hp} (g : ∀ x o, Z x = some o → Z' x = some o) : ∀ (ds : List PyData) (vs : List V), DzAll Z vs ds → DzAll Z' vs ds
  | [], _, h => by cases h; exact .nil
  | d :: ds, _, h => by
    cases h with
    | cons h1 h2 => exact .cons (Dz.mono g d _ h1) (DzAll.mono g ds _ h2)
end
mutual
theorem Dz.dp {K : PySem.W.Frag} {Z : Hp} : ∀ (d : PyData) (v : V), Dz Z v d → Dp K Z v d
  | .none, _, h => by cases h; exact .non
  | .bool b, _, h => by cases h; exact .bl b
  | .int i, _, h => by cases h; exact .int i
  | .str x, _, h => by cases h; exact .str x
  | .list ds, _, h => by
    cases h with
    | lst h1 h2 => exact .lst (SqL.of h1) (DzAll.dp ds _ h2)
  | .tuple ds, _, h => by
    cases h with
    | tup h1 h2 => exact .tup (SqT.of h1) (DzAll.dp ds _ h2)
  | .dict _, _, h => by cases h
theorem DzAll.dp {K : PySem.W.Frag} {Z : Hp} : ∀ (ds : List PyData) (vs : List V), DzAll Z vs ds → DpAll K Z vs ds
  | [], _, h => by cases h; exact .nil
  | d :: ds, _, h => by
    cases h with
    | cons h1 h2 => exact .cons (Dz.dp d _ h1) (DzAll.dp ds _ h2)
end
/-! ### values, objects of one's own -/
inductive Val where
  | dat (d : PyData) | ptr (a : Addr) | scr (ns : List Int) | prt (k : PyData) (a : Addr)
inductive Node where
  | lst (xs : List Val)
  | dv (kvs : List (NestedKey × Val))
  | dvl (ob : Obj) (ks : List Vd.KVR) (kvs : List (NestedKey × Val))
  | ins (C dx : Addr) (fs : List (Str × Val))
  | tab (q : Str)
abbrev Store := List (Addr × Node)
def Fz (μ : Store) (H : Hp) : Hp := fun x => if x ∈ μ.map (·.1) then none else H x
theorem Fz.sub {μ : Store} {H : Hp} {x : Addr} {o : HO} (h : Fz μ H x = some o) : x ∉ μ.map (·.1) ∧ H x = some o := by
  unfold Fz at h
  split at h
  · cases h
  · rename_i c
    exact ⟨c, h⟩
theorem Fz.of {μ : Store} {H : Hp} {x : Addr} {o : HO} (h : x ∉ μ.map (·.1)) (e : H x = some o) : Fz μ H x = some o := by
  unfold Fz
  rw [if_neg h]
  exact e
def RV (K : PySem.W.Frag) (Z : Hp) (v : V) : Val → Prop
  | .dat d => Dz Z v d
  | .ptr a => v = .ref a
  | .scr ns => ∃ a, v = .ref a ∧ SqL K Z a (ns.map V.int)
  | .prt k a => ∃ t u, v = .ref t ∧ Z t = some (.tup [u, .ref a]) ∧ Dz Z u k
theorem sqL_mono {K : PySem.W.Frag} {Z Z' : Hp} {a : Addr} {xs : List V} (g : ∀ x o, Z x = some o → Z' x = some o) (h : SqL K Z a xs) : SqL K Z' a xs := by
  rcases h with (h | ⟨o, h⟩) | h
  · exact .inl (.inl (g _ _ h))
  · exact .inl (.inr ⟨o, g _ _ h⟩)
  · exact .inr h
theorem RV.mono {K : PySem.W.Frag} {Z Z' : Hp} (g : ∀ x o, Z x = some o → Z' x = some o) {v : V} {x : Val} (h : RV K Z v x) : RV K Z' v x := by
  cases x with
  | dat d => exact Dz.mono g d v h
  | ptr a => exact h
  | scr ns => exact h.imp fun a z => ⟨z.1, sqL_mono g z.2⟩
  | prt k a => exact h.imp fun t z => z.imp fun u z => ⟨z.1, g _ _ z.2.1, Dz.mono g k _ z.2.2⟩
def RVo (K : PySem.W.Frag) (Z : Hp) : Option V → Option Val → Prop
  | some v, some x => RV K Z v x
  | none, some _ => False
  | _, none => True
theorem RVo.mono {K : PySem.W.Frag} {Z Z' : Hp} (g : ∀ x o, Z x = some o → Z' x = some o) {v : Option V} {x : Option Val} (h : RVo K Z v x) : RVo K Z' v x := by
  cases x with
  | none => cases v <;> trivial
  | some x =>
    cases v with
    | none => exact h
    | some v => exact RV.mono g h
abbrev RVs (K : PySem.W.Frag) (Z : Hp) : List V → List Val → Prop := Paired (RV K Z)
def RF (K : PySem.W.Frag) (Z : Hp) (p : Str × V) (q : Str × Val) : Prop := p.1 = q.1 ∧ RV K Z p.2 q.2
def RK (K : PySem.W.Frag) (Z : Hp) (p : Vd.KVR) (q : NestedKey × Val) : Prop := p.1 = q.1 ∧ Vd.KeyOk p.1 ∧ Vd.KeyAt Z p.1 p.2.1 ∧ RV K Z p.2.2 q.2
def RN (w : World) (K : PySem.W.Frag) (Z H : Hp) (a : Addr) : Node → Prop
  | .lst xs => ∃ vs, H a = some (.lst vs) ∧ RVs K Z vs xs
  | .dv kvs => ∃ ks : List Vd.KVR, H a = some (Vd.dV w a ks) ∧ (ks.map (·.1)).Nodup ∧ Paired (RK K Z) ks kvs
  | .dvl ob ks kvs => H a = some (.frz ob (Vd.dV w a ks)) ∧ (ks.map (·.1)).Nodup ∧ Paired (RK K Z) ks kvs
  | .ins C dx fs => ∃ gs, H a = some (.ins C dx gs) ∧ Paired (RF K Z) gs fs
  | .tab q => ∃ ps : Array Value, H a = some (.tbl ps) ∧ TriplesOk ps.toList ∧ ∀ pos cv, codeAmong pos ps.toList = some cv → ∃ c, cv = .ref c ∧ Z c = some (LamX.CodeO c q)
theorem RN.mono {w : World} {K : PySem.W.Frag} {Z Z' H H' : Hp} (g : ∀ x o, Z x = some o → Z' x = some o) {a : Addr} {n : Node} (h : RN w K Z H a n) (e : H' a = H a) : RN w K Z' H' a n := by
  cases n with
  | lst xs => exact h.imp fun vs z => ⟨e.trans z.1, L2.Paired.mapP z.2 fun _ _ => RV.mono g⟩
  | dv kvs => exact h.imp fun ks z => ⟨e.trans z.1, z.2.1, L2.Paired.mapP z.2.2 fun _ _ k => ⟨k.1, k.2.1, k.2.2.1.keep fun a xs h => g _ _ h, RV.mono g k.2.2.2⟩⟩
  | dvl ob ks kvs => exact ⟨e.trans h.1, h.2.1, L2.Paired.mapP h.2.2 fun _ _ k => ⟨k.1, k.2.1, k.2.2.1.keep fun a xs h => g _ _ h, RV.mono g k.2.2.2⟩⟩
  | ins C dx fs => exact h.imp fun gs z => ⟨e.trans z.1, L2.Paired.mapP z.2 fun _ _ k => ⟨k.1, RV.mono g k.2⟩⟩
  | tab q => exact h.imp fun ps z => ⟨e.trans z.1, z.2.1, fun pos cv h => (z.2.2 pos cv h).imp fun c k => ⟨k.1, g _ _ k.2⟩⟩
theorem RN.live {w : World} {K : PySem.W.Frag} {Z H : Hp} {a : Addr} {n : Node} (h : RN w K Z H a n) : H a ≠ none := by
  cases n with
  | lst xs =>
    obtain ⟨_, e, _⟩ := h
    rw [e]
    intro z
    cases z
  | dv kvs =>
    obtain ⟨_, e, _⟩ := h
    rw [e]
    intro z
    cases z
  | dvl ob ks kvs =>
    obtain ⟨e, _⟩ := h
    rw [e]
    intro z
    cases z
  | ins C dx fs =>
    obtain ⟨_, e, _⟩ := h
    rw [e]
    intro z
    cases z
  | tab q =>
    obtain ⟨_, e, _⟩ := h
    rw [e]
    intro z
    cases z
/-! ### the relation -/
abbrev DR := List (Option Val)
abbrev DK := Val → Store → Prop
/-- what stands behind: what nobody changes, what one's own hide for a while -/
structure Base where
  hp : Hp
  fr : Store
structure RL (w : World) (K : PySem.W.Frag) (B : Base) (H : Hp) (σ : List (Option V)) (ρ : DR) (μ : Store) : Prop where
  nd : ((B.fr ++ μ).map (·.1)).Nodup
  base : ∀ x o, B.hp x = some o → Fz (B.fr ++ μ) H x = some o
  sl : Paired (RVo K (Fz (B.fr ++ μ) H)) σ ρ
  st : ∀ p, p ∈ B.fr ++ μ → RN w K (Fz (B.fr ++ μ) H) H p.1 p.2
section
variable {w : World} {K : PySem.W.Frag} {B : Base} {H H' : Hp} {σ σ' : List (Option V)} {ρ ρ' : DR} {μ μ' : Store} {p a : Addr} {o : HO} {n n' : Node}
theorem RL.step (R : RL w K B H σ ρ μ) (nd : ((B.fr ++ μ').map (·.1)).Nodup) (g : ∀ x o, Fz (B.fr ++ μ) H x = some o → Fz (B.fr ++ μ') H' x = some o) (st : ∀ p, p ∈ B.fr ++ μ' → RN w K (Fz (B.fr ++ μ') H') H' p.1 p.2) : RL w K B H' σ ρ μ' :=
  ⟨nd, fun x o h => g _ _ (R.base x o h), L2.Paired.mapP R.sl fun _ _ => RVo.mono g, st⟩
theorem RL.live (R : RL w K B H σ ρ μ) (h : H p = none) : p ∉ (B.fr ++ μ).map (·.1) := fun z => by
  obtain ⟨q, hq, rfl⟩ := List.mem_map.mp z
  exact (R.st q hq).live h
/-- a new object of one's own -/
theorem RL.new (R : RL w K B H σ ρ μ) (hp : H p = none) (hn : RN w K (Fz (B.fr ++ μ) H) (upd H p o) p n) : RL w K B (upd H p o) σ ρ (μ ++ [(p, n)]) := by
  have lv := R.live hp
  have g : ∀ x u, Fz (B.fr ++ μ) H x = some u → Fz (B.fr ++ (μ ++ [(p, n)])) (upd H p o) x = some u := fun x u h => by
    obtain ⟨h1, h2⟩ := Fz.sub h
    have ne : x ≠ p := ne_of_none h2 hp
    refine Fz.of ?_ (by rw [upd_ne ne]; exact h2)
    rw [← List.append_assoc, List.map_append, List.mem_append]
    rintro (z | z)
    · exact h1 z
    · exact ne (List.mem_singleton.mp z)
  refine R.step ?_ g fun q hq => ?_
  · rw [← List.append_assoc, List.map_append, List.nodup_append]
    refine ⟨R.nd, by simp, fun x hx y hy => ?_⟩
    rw [List.map_singleton, List.mem_singleton] at hy
    rintro rfl
    rw [hy] at hx
    exact lv hx
  · rw [← List.append_assoc] at hq
    rcases List.mem_append.mp hq with hq | hq
    · refine (R.st q hq).mono g (upd_ne fun z => lv ?_)
      rw [← z]
      exact List.mem_map_of_mem hq
    · rw [List.mem_singleton.mp hq]
      exact hn.mono g rfl
/-- a new object that nobody changes -/
theorem RL.newZ (R : RL w K B H σ ρ μ) (hp : H p = none) : RL w K B (upd H p o) σ ρ μ ∧ (∀ x u, Fz (B.fr ++ μ) H x = some u → Fz (B.fr ++ μ) (upd H p o) x = some u) ∧ Fz (B.fr ++ μ) (upd H p o) p = some o := by
  have lv := R.live hp
  have g : ∀ x u, Fz (B.fr ++ μ) H x = some u → Fz (B.fr ++ μ) (upd H p o) x = some u := fun x u h => by
    obtain ⟨h1, h2⟩ := Fz.sub h
    exact Fz.of h1 (by rw [upd_ne (ne_of_none h2 hp)]; exact h2)
  refine ⟨R.step R.nd g fun q hq => (R.st q hq).mono g (upd_ne fun z => lv ?_), g, Fz.of lv upd_same⟩
  rw [← z]
  exact List.mem_map_of_mem hq
/-- an object of one's own is changed -/
theorem map_set_fst {j : Nat} (h : μ[j]? = some (a, n)) : (μ.set j (a, n')).map (·.1) = μ.map (·.1) := by
  rw [List.map_set]
  refine List.ext_getElem? fun i => ?_
  rw [List.getElem?_set]
  split
  · rename_i e
    subst e
    rw [List.getElem?_map, h, List.length_map, if_pos (List.getElem?_eq_some_iff.mp h).1]
    rfl
  · rfl
theorem RL.put (R : RL w K B H σ ρ μ) {j : Nat} (hj : μ[j]? = some (a, n)) (hn : RN w K (Fz (B.fr ++ μ) H) (upd H a o) a n') : RL w K B (upd H a o) σ ρ (μ.set j (a, n')) := by
  have em : (B.fr ++ μ.set j (a, n')).map (·.1) = (B.fr ++ μ).map (·.1) := by rw [List.map_append, List.map_append, map_set_fst hj]
  have ha : a ∈ (B.fr ++ μ).map (·.1) := List.mem_map.mpr ⟨_, List.mem_append_right _ (List.mem_of_getElem? hj), rfl⟩
  have g : ∀ x u, Fz (B.fr ++ μ) H x = some u → Fz (B.fr ++ μ.set j (a, n')) (upd H a o) x = some u := fun x u h => by
    obtain ⟨h1, h2⟩ := Fz.sub h
    exact Fz.of (by rw [em]; exact h1) (by rw [upd_ne (show x ≠ a from fun z => h1 (by rw [z]; exact ha))]; exact h2)
  have nd := R.nd
  rw [List.map_append, List.nodup_append] at nd
  refine R.step (by rw [em]; exact R.nd) g fun q hq => ?_
  rcases List.mem_append.mp hq with hq | hq
  · refine (R.st _ (List.mem_append_left _ hq)).mono g (upd_ne fun z => ?_)
    exact nd.2.2 _ (List.mem_map_of_mem hq) _ (List.mem_map_of_mem (List.mem_of_getElem? hj)) z
  · obtain ⟨i, hi, rfl⟩ := List.mem_iff_getElem.mp hq
    rw [List.length_set] at hi
    by_cases e : j = i
    · subst e
      rw [List.getElem_set_self]
      exact hn.mono g rfl
    · rw [List.getElem_set_ne e]
      refine (R.st _ (List.mem_append_right _ (List.getElem_mem hi))).mono g (upd_ne fun z => e ?_)
      have h1 : (μ.map (·.1))[j]? = some a := by rw [List.getElem?_map, hj]; rfl
      have h2 : (μ.map (·.1))[i]? = some a := by rw [List.getElem?_map, List.getElem?_eq_getElem hi, ← z]; rfl
      exact (List.getElem?_inj (by rw [List.length_map]; exact (List.getElem?_eq_some_iff.mp hj).1) nd.2.1).mp (h1.trans h2.symm)
/-- what is known of an object -/
theorem RL.at (R : RL w K B H σ ρ μ) {j : Nat} (hj : μ[j]? = some (a, n)) : RN w K (Fz (B.fr ++ μ) H) H a n := R.st _ (List.mem_append_right _ (List.mem_of_getElem? hj))
/-- the same under another base: objects in another order, fewer of them, hidden -/
theorem RL.as {B' : Base} (R : RL w K B H σ ρ μ) (nd : ((B'.fr ++ μ').map (·.1)).Nodup) (s : ∀ p, p ∈ B'.fr ++ μ' → p ∈ B.fr ++ μ) (hb : ∀ x o, B'.hp x = some o → Fz (B'.fr ++ μ') H x = some o) :
    RL w K B' H σ ρ μ' ∧ ∀ x u, Fz (B.fr ++ μ) H x = some u → Fz (B'.fr ++ μ') H x = some u := by
  have g : ∀ x u, Fz (B.fr ++ μ) H x = some u → Fz (B'.fr ++ μ') H x = some u := fun x u h => by
    obtain ⟨h1, h2⟩ := Fz.sub h
    refine Fz.of (fun z => h1 ?_) h2
    obtain ⟨q, hq, rfl⟩ := List.mem_map.mp z
    exact List.mem_map_of_mem (s _ hq)
  exact ⟨⟨nd, hb, L2.Paired.mapP R.sl fun _ _ => RVo.mono g, fun q hq => (R.st q (s _ hq)).mono g rfl⟩, g⟩
theorem RL.sub (R : RL w K B H σ ρ μ) (nd : (μ'.map (·.1)).Nodup) (s : ∀ p, p ∈ μ' → p ∈ μ) : RL w K B H σ ρ μ' ∧ ∀ x u, Fz (B.fr ++ μ) H x = some u → Fz (B.fr ++ μ') H x = some u := by
  have s' : ∀ p, p ∈ B.fr ++ μ' → p ∈ B.fr ++ μ := fun p hp => by
    rcases List.mem_append.mp hp with h | h
    · exact List.mem_append_left _ h
    · exact List.mem_append_right _ (s _ h)
  have nd0 := R.nd
  rw [List.map_append, List.nodup_append] at nd0
  have g : ∀ x u, Fz (B.fr ++ μ) H x = some u → Fz (B.fr ++ μ') H x = some u := fun x u h => by
    obtain ⟨h1, h2⟩ := Fz.sub h
    refine Fz.of (fun z => h1 ?_) h2
    obtain ⟨q, hq, rfl⟩ := List.mem_map.mp z
    exact List.mem_map_of_mem (s' _ hq)
  refine R.as ?_ s' fun x o h => g _ _ (R.base _ _ h)
  rw [List.map_append, List.nodup_append]
  refine ⟨nd0.1, nd, fun x hx y hy => ?_⟩
  obtain ⟨q, hq, rfl⟩ := List.mem_map.mp hy
  exact nd0.2.2 _ hx _ (List.mem_map_of_mem (s _ hq))
theorem RL.perm (R : RL w K B H σ ρ μ) (h : μ'.Perm μ) : RL w K B H σ ρ μ' := by
  have nd0 := R.nd
  rw [List.map_append, List.nodup_append] at nd0
  exact (R.sub ((h.map _).nodup_iff.mpr nd0.2.1) fun p hp => h.mem_iff.mp hp).1
theorem RL.cons (R : RL w K B H σ ρ μ) {v : V} {x : Val} (h : RV K (Fz (B.fr ++ μ) H) v x) : RL w K B H (some v :: σ) (some x :: ρ) μ := ⟨R.nd, R.base, .cons h R.sl, R.st⟩
theorem RL.head {v : V} {x : Val} (R : RL w K B H (some v :: σ) (some x :: ρ) μ) : RV K (Fz (B.fr ++ μ) H) v x := by
  obtain ⟨_, _, h, _⟩ := R
  cases h with
  | cons h1 h2 => exact h1
theorem RL.tail {v : Option V} {x : Option Val} (R : RL w K B H (v :: σ) (x :: ρ) μ) : RL w K B H σ ρ μ := by
  obtain ⟨h1, h2, h, h3⟩ := R
  cases h with
  | cons _ h => exact ⟨h1, h2, h, h3⟩
theorem paired_get {α β : Type} {F : α → β → Prop} : ∀ {l₁ : List α} {l₂ : List β} {i : Nat} {y : β}, Paired F l₁ l₂ → l₂[i]? = some y → ∃ x, l₁[i]? = some x ∧ F x y
  | _, _, _, _, .nil, e => by simp at e
  | _, _, 0, _, .cons r _, e => by simp at e; subst e; exact ⟨_, rfl, r⟩
  | _, _, i + 1, _, .cons _ t, e => by simpa using paired_get (i := i) t (by simpa using e)
theorem paired_app {α β : Type} {F : α → β → Prop} : ∀ {a : List α} {b : List β} {c : List α} {d : List β}, Paired F a b → Paired F c d → Paired F (a ++ c) (b ++ d)
  | _, _, _, _, .nil, h => h
  | _, _, _, _, .cons r t, h => .cons r (paired_app t h)
theorem paired_split {α β : Type} {F : α → β → Prop} : ∀ {a : List α} {b : List β} {c : List α} {d : List β}, a.length = b.length → Paired F (a ++ c) (b ++ d) → Paired F a b ∧ Paired F c d
  | [], [], _, _, _, h => ⟨.nil, h⟩
  | _ :: _, _ :: _, _, _, l, .cons r t => by
    obtain ⟨h1, h2⟩ := paired_split (by simpa using l) t
    exact ⟨.cons r h1, h2⟩
theorem paired_set {α β : Type} {F : α → β → Prop} {x : α} {y : β} : ∀ {l₁ : List α} {l₂ : List β} (i : Nat), Paired F l₁ l₂ → F x y → Paired F (l₁.set i x) (l₂.set i y)
  | _, _, _, .nil, _ => .nil
  | _, _, 0, .cons _ t, h => .cons h t
  | _, _, i + 1, .cons r t, h => .cons r (paired_set i t h)
theorem RL.rest {a : List (Option V)} {b : DR} (R : RL w K B H (a ++ σ) (b ++ ρ) μ) (l : a.length = b.length) : RL w K B H σ ρ μ := ⟨R.nd, R.base, (paired_split l R.sl).2, R.st⟩
theorem RL.get (R : RL w K B H σ ρ μ) {i : Nat} {x : Val} (h : ρ[i]? = some (some x)) : ∃ v, σ[i]? = some (some v) ∧ RV K (Fz (B.fr ++ μ) H) v x := by
  obtain ⟨v, e, r⟩ := paired_get R.sl h
  cases v with
  | none => exact absurd r (by intro z; exact z)
  | some v => exact ⟨v, e, r⟩
/-- slots otherwise -/
theorem RL.slots (R : RL w K B H σ ρ μ) (s : Paired (RVo K (Fz (B.fr ++ μ) H)) σ' ρ') : RL w K B H σ' ρ' μ := ⟨R.nd, R.base, s, R.st⟩
end
end Zl
namespace Zl
open PySem PySem.Spec PyProof.Rows L2
abbrev DTE := DR → Store → DK → Prop
abbrev DTA := DR → Store → (List Val → Store → Prop) → Prop
abbrev DTT := DR → Store → (Bool → Store → Prop) → Prop
structure DEnds where
  nx : DR → Store → Prop
  rt : DK
  bk : DR → Store → Prop := fun _ _ => False
  ct : DR → Store → Prop := fun _ _ => False
abbrev DTS := DEnds → DR → Store → Prop
/-- what follows, above and below -/
abbrev Low (X : Cx) (B : Base) (σ : List (Option V)) (ρ : DR) (Q0 : DK) (Q : VK) : Prop := ∀ x μ, Q0 x μ → ∀ v H, RL X.w X.K B H (some v :: σ) (some x :: ρ) μ → Q v H
def up (X : Cx) (B : Base) (f : DTE) : TE := fun σ H Q => ∃ (hv : List (Option V)) (hx ρ : DR) (μ : Store) (Q0 : DK), hv.length = hx.length ∧ RL X.w X.K B H (hv ++ σ) (hx ++ ρ) μ ∧ f ρ μ Q0 ∧ Low X B (hv ++ σ) (hx ++ ρ) Q0 Q
def upA (X : Cx) (B : Base) (f : DTA) : TA := fun σ H Q => ∃ (hv : List (Option V)) (hx ρ : DR) (μ : Store) (Q0 : List Val → Store → Prop), hv.length = hx.length ∧ RL X.w X.K B H (hv ++ σ) (hx ++ ρ) μ ∧ f ρ μ Q0 ∧
  ∀ xs μ', Q0 xs μ' → ∀ vs H', vs.length = xs.length → RL X.w X.K B H' (vs.map some ++ (hv ++ σ)) (xs.map some ++ (hx ++ ρ)) μ' → Q vs H'
def upT (X : Cx) (B : Base) (f : DTT) : TT := fun σ H Q => ∃ (hv : List (Option V)) (hx ρ : DR) (μ : Store) (Q0 : Bool → Store → Prop), hv.length = hx.length ∧ RL X.w X.K B H (hv ++ σ) (hx ++ ρ) μ ∧ f ρ μ Q0 ∧
  ∀ b μ', Q0 b μ' → ∀ H', RL X.w X.K B H' (hv ++ σ) (hx ++ ρ) μ' → Q b H'
structure Below (X : Cx) (B : Base) (E : DEnds) (D : Ends) : Prop where
  nx : ∀ ρ μ, E.nx ρ μ → ∀ σ H, RL X.w X.K B H σ ρ μ → D.nx σ H
  rt : ∀ x μ, E.rt x μ → ∀ v H, RL X.w X.K B H [some v] [some x] μ → D.rt v H
  bk : ∀ ρ μ, E.bk ρ μ → ∀ σ H, RL X.w X.K B H σ ρ μ → D.bk σ H
  ct : ∀ ρ μ, E.ct ρ μ → ∀ σ H, RL X.w X.K B H σ ρ μ → D.ct σ H
def upS (X : Cx) (B : Base) (t : DTS) : TS := fun D σ H => ∃ (ρ : DR) (μ : Store) (E : DEnds), RL X.w X.K B H σ ρ μ ∧ t E ρ μ ∧ Below X B E D
structure DE (X : Cx) (e : Expr) (f : DTE) : Prop where
  run : ∀ B : Base, PE X e (up X B f)
structure DA (X : Cx) (es : List Expr) (f : DTA) : Prop where
  run : ∀ B : Base, PA X es (upA X B f)
structure DT (X : Cx) (e : Expr) (f : DTT) : Prop where
  run : ∀ B : Base, PT X e (upT X B f)
structure DW (X : Cx) (e : Expr) (f : DTT) : Prop where
  run : ∀ B : Base, PW X e (upT X B f)
structure DS (X : Cx) (s : Stmt) (f : DTS) : Prop where
  run : ∀ B : Base, PS X s (upS X B f)
structure DSs (X : Cx) (s : List Stmt) (f : DTS) : Prop where
  run : ∀ B : Base, PSs X s (upS X B f)
section
variable {X : Cx} {B : Base}
theorem PE.weak {e : Expr} {t t' : TE} (h : PE X e t) (w : ∀ σ H Q, t' σ H Q → t σ H Q) : PE X e t' := ⟨fun pins s σ H Q I q => h.run pins s σ H Q I (w _ _ _ q)⟩
theorem PT.weak {e : Expr} {t t' : TT} (h : PT X e t) (w : ∀ σ H Q, t' σ H Q → t σ H Q) : PT X e t' := ⟨fun pins s σ H Q I q => h.run pins s σ H Q I (w _ _ _ q)⟩
theorem PW.weak {e : Expr} {t t' : TT} (h : PW X e t) (w : ∀ σ H Q, t' σ H Q → t σ H Q) : PW X e t' := ⟨fun wh pins s σ H Q I q => h.run wh pins s σ H Q I (w _ _ _ q)⟩
theorem PA.weak {e : List Expr} {t t' : TA} (h : PA X e t) (w : ∀ σ H Q, t' σ H Q → t σ H Q) : PA X e t' := ⟨fun pos pins s σ H Q I q => h.run pos pins s σ H Q I (w _ _ _ q)⟩
theorem PS.weak {e : Stmt} {t t' : TS} (h : PS X e t) (w : ∀ D σ H, t' D σ H → t D σ H) : PS X e t' := ⟨fun pins s σ H D I q => h.run pins s σ H D I (w _ _ _ q)⟩
theorem PSs.weak {e : List Stmt} {t t' : TS} (h : PSs X e t) (w : ∀ D σ H, t' D σ H → t D σ H) : PSs X e t' := ⟨fun pins s σ H D I q => h.run pins s σ H D I (w _ _ _ q)⟩
theorem OpR.weak {f : Value → Value → Sem Value} {r r' : R2} (h : OpR X f r) (w : ∀ x y H Q, r' x y H Q → r x y H Q) : OpR X f r' := fun pins s σ H x y v u Q I rx ry q => h pins s σ H x y v u Q I rx ry (w _ _ _ _ q)
/-! ### operators -/
abbrev DR2 := Val → Val → Store → DK → Prop
/-- r asks no more than R -/
def Op2 (X : Cx) (B : Base) (r : R2) (R : DR2) : Prop := ∀ (σ : List (Option V)) (ρ : DR) (H : Hp) (μ : Store) (u v : V) (x y : Val) (Q0 : DK) (Q : VK), RL X.w X.K B H (some v :: some u :: σ) (some y :: some x :: ρ) μ → R x y μ Q0 → Low X B σ ρ Q0 Q → r u v H Q
structure OpZ (X : Cx) (f : Value → Value → Sem Value) (R : DR2) : Prop where
  ex : ∃ r : R2, OpR X f r ∧ ∀ B : Base, Op2 X B r R
abbrev dOp (R : DR2) (fa fb : DTE) : DTE := fun ρ μ Q => fa ρ μ fun x μ1 => fb ρ μ1 fun y μ2 => R x y μ2 Q
theorem up_op {r : R2} {R : DR2} {fa fb : DTE} (S : Op2 X B r R) {σ : L2.St} {H : Hp} {Q : VK} (h : up X B (dOp R fa fb) σ H Q) : tOp r (up X B fa) (up X B fb) σ H Q := by
  obtain ⟨hv, hx, ρ, μ, Q0, hl, R0, h, low⟩ := h
  refine ⟨hv, hx, ρ, μ, _, hl, R0, h, fun x μ1 h1 u H1 R1 => ?_⟩
  refine ⟨some u :: hv, some x :: hx, ρ, μ1, _, by simp [hl], R1, h1, fun y μ2 h2 v H2 R2 => ?_⟩
  exact S _ _ _ _ _ _ _ _ _ _ R2 h2 low
theorem d_bin {a b : Expr} {op : Operator} {R : DR2} {fa fb : DTE} {pos : Pos} (o : OpZ X (binaryOp op) R) (ha : DE X a fa) (hb : DE X b fb) : DE X (.BinOp a op b pos) (dOp R fa fb) := by
  obtain ⟨r, h1, h2⟩ := o.ex
  exact ⟨fun B => PE.weak (pe_op h1 (ha.run B) (hb.run B)) fun _ _ _ h => up_op (h2 B) h⟩
theorem d_cmp {a b : Expr} {op : CmpOp} {R : DR2} {fa fb : DTE} {pos : Pos} (o : OpZ X (compareOp op) R) (ha : DE X a fa) (hb : DE X b fb) (hm : behindInMarks op b = false) : DE X (.Compare a [op] [b] pos) (dOp R fa fb) := by
  obtain ⟨r, h1, h2⟩ := o.ex
  exact ⟨fun B => PE.weak (pe_cmpR h1 (ha.run B) (hb.run B) hm) fun _ _ _ h => up_op (h2 B) h⟩
/-- a value as a test -/
abbrev dB (f : DTE) : DTT := fun ρ μ Q => f ρ μ fun x μ1 => match x with | .dat (.bool b) => Q b μ1 | _ => False
theorem up_B {f : DTE} {σ : L2.St} {H : Hp} {Q : Bool → Hp → Prop} (h : upT X B (dB f) σ H Q) : tTest (up X B f) σ H Q := by
  obtain ⟨hv, hx, ρ, μ, Q0, hl, R0, h, low⟩ := h
  refine ⟨hv, hx, ρ, μ, _, hl, R0, h, fun x μ1 h1 u H1 R1 => ?_⟩
  have hd := R1.head
  match x, h1, hd with
  | .dat (.bool b), h1, hd =>
    cases (hd : Dz _ u (.bool b))
    exact ⟨b, rfl, low _ _ h1 _ R1.tail⟩
theorem dt_cmp {a b : Expr} {op : CmpOp} {R : DR2} {fa fb : DTE} {pos : Pos} (o : OpZ X (compareOp op) R) (ha : DE X a fa) (hb : DE X b fb) (hm : behindInMarks op b = false) : DT X (.Compare a [op] [b] pos) (dB (dOp R fa fb)) := by
  obtain ⟨r, h1, h2⟩ := o.ex
  refine ⟨fun B => PT.weak (pt_cmpR h1 (ha.run B) (hb.run B) hm) fun _ _ _ h => ?_⟩
  obtain ⟨hv, hx, ρ, μ, Q0, hl, R0, h, low⟩ := h
  refine up_op (h2 B) ⟨hv, hx, ρ, μ, _, hl, R0, h, fun x μ1 h1 u H1 R1 => ?_⟩
  have hd := R1.head
  match x, h1, hd with
  | .dat (.bool b), h1, hd =>
    cases (hd : Dz _ u (.bool b))
    exact ⟨b, rfl, low _ _ h1 _ R1.tail⟩
theorem dt_val {e : Expr} {f : DTE} (h : DE X e f) (he : ∀ whole, isTrue e X.env whole = (do let v ← whole; standAt e.pos; holding [v] (truthy v)) := by intro _; rfl) : DT X e (dB f) :=
  ⟨fun B => PT.weak (pt_val (h.run B) he) fun _ _ _ h => up_B h⟩
abbrev dNot (f : DTT) : DTT := fun ρ μ Q => f ρ μ fun b μ1 => Q (!b) μ1
theorem dt_not {e : Expr} {f : DTT} {pos : Pos} (h : DT X e f) : DT X (.UnaryOp .Not e pos) (dNot f) :=
  ⟨fun B => PT.weak (pt_not (h.run B)) fun _ _ _ h => by
    obtain ⟨hv, hx, ρ, μ, Q0, hl, R0, h, low⟩ := h
    exact ⟨hv, hx, ρ, μ, _, hl, R0, h, fun b μ1 h1 H1 R1 => low _ _ h1 _ R1⟩⟩
abbrev dAnd (f g : DTT) : DTT := fun ρ μ Q => f ρ μ fun b μ1 => if b = true then g ρ μ1 Q else Q false μ1
abbrev dOr (f g : DTT) : DTT := fun ρ μ Q => f ρ μ fun b μ1 => if b = true then Q true μ1 else g ρ μ1 Q
theorem dw_and {a b : Expr} {rest : List Expr} {f g : DTT} {pos : Pos} (ha : DT X a f) (hb : DW X (.BoolOp .And (b :: rest) pos) g) : DW X (.BoolOp .And (a :: b :: rest) pos) (dAnd f g) :=
  ⟨fun B => PW.weak (pw_and (ha.run B) (hb.run B)) fun _ _ _ h => by
    obtain ⟨hv, hx, ρ, μ, Q0, hl, R0, h, low⟩ := h
    refine ⟨hv, hx, ρ, μ, _, hl, R0, h, fun c μ1 h1 H1 R1 => ?_⟩
    cases c with
    | true => exact ⟨hv, hx, ρ, μ1, _, hl, R1, h1, low⟩
    | false => exact low _ _ h1 _ R1⟩
theorem dw_and1 {a : Expr} {f : DTT} {pos : Pos} (ha : DT X a f) : DW X (.BoolOp .And [a] pos) f := ⟨fun B => pw_and1 (ha.run B)⟩
theorem dw_or {a b : Expr} {rest : List Expr} {f g : DTT} {pos : Pos} (ha : DT X a f) (hb : DW X (.BoolOp .Or (b :: rest) pos) g) : DW X (.BoolOp .Or (a :: b :: rest) pos) (dOr f g) :=
  ⟨fun B => PW.weak (pw_or (ha.run B) (hb.run B)) fun _ _ _ h => by
    obtain ⟨hv, hx, ρ, μ, Q0, hl, R0, h, low⟩ := h
    refine ⟨hv, hx, ρ, μ, _, hl, R0, h, fun c μ1 h1 H1 R1 => ?_⟩
    cases c with
    | true => exact low _ _ h1 _ R1
    | false => exact ⟨hv, hx, ρ, μ1, _, hl, R1, h1, low⟩⟩
theorem dw_or1 {a : Expr} {f : DTT} {pos : Pos} (ha : DT X a f) : DW X (.BoolOp .Or [a] pos) f := ⟨fun B => pw_or1 (ha.run B)⟩
theorem DW.dt {e : Expr} {f : DTT} (h : DW X e f) : DT X e f := ⟨fun B => (h.run B).pt⟩
abbrev dIf (c : DTT) (f g : DTE) : DTE := fun ρ μ Q => c ρ μ fun b μ1 => if b = true then f ρ μ1 Q else g ρ μ1 Q
theorem d_ifExp {c a b : Expr} {fc : DTT} {fa fb : DTE} {pos : Pos} (hc : DT X c fc) (ha : DE X a fa) (hb : DE X b fb) : DE X (.IfExp c a b pos) (dIf fc fa fb) :=
  ⟨fun B => PE.weak (pe_ifExp (hc.run B) (ha.run B) (hb.run B)) fun _ _ _ h => by
    obtain ⟨hv, hx, ρ, μ, Q0, hl, R0, h, low⟩ := h
    refine ⟨hv, hx, ρ, μ, _, hl, R0, h, fun c μ1 h1 H1 R1 => ?_⟩
    cases c with
    | true => exact ⟨hv, hx, ρ, μ1, _, hl, R1, h1, low⟩
    | false => exact ⟨hv, hx, ρ, μ1, _, hl, R1, h1, low⟩⟩
/-! ### names, constants -/
abbrev dVar (i : Nat) : DTE := fun ρ μ Q => match ρ[i]? with | some (some x) => Q x μ | _ => False
theorem d_of_var {e : Expr} {i : Nat} (h : PE X e (tVar i)) : DE X e (dVar i) :=
  ⟨fun B => PE.weak h fun σ H Q q => by
    obtain ⟨hv, hx, ρ, μ, Q0, hl, R0, h, low⟩ := q
    unfold dVar at h
    split at h
    · rename_i x e
      obtain ⟨v, ev, r⟩ := (R0.rest hl).get e
      exact ⟨v, ev, low _ _ h _ _ (R0.cons r)⟩
    · exact h.elim⟩
theorem dv (i : Nat) {x : Str} {pos : Pos} (hN : X.N[i]? = some x := by rfl) (hv : Vis X.env.scope x := by first | exact Or.inl rfl | exact Or.inr (Or.inl rfl) | exact Or.inr (Or.inr rfl)) (hd : (x == ("__debug__" : Str)) = false := by decide)
    (hcd : (x == ("__classdict__" : Str)) = false := by decide) : DE X (.Name x pos) (dVar i) := d_of_var (pv i hN hv hd hcd)
abbrev dC (d : PyData) : DTE := fun _ μ Q => Q (.dat d) μ
theorem d_of_c {e : Expr} {v : V} {d : PyData} (h : PE X e (tC v)) (z : ∀ Z, Dz Z v d) : DE X e (dC d) :=
  ⟨fun B => PE.weak h fun σ H Q q => by
    obtain ⟨hv, hx, ρ, μ, Q0, hl, R0, h, low⟩ := q
    exact low _ _ h _ _ (R0.cons (z _))⟩
theorem d_int {i : Int} {j pos} : DE X (.Constant (.int i) j pos) (dC (.int i)) := d_of_c pe_int fun _ => .int i
theorem d_bl {b : Bool} {j pos} : DE X (.Constant (.bool b) j pos) (dC (.bool b)) := d_of_c pe_bl fun _ => .bl b
theorem d_non {j pos} : DE X (.Constant .none j pos) (dC .none) := d_of_c pe_non fun _ => .non
theorem d_str {x : Str} {j pos} : DE X (.Constant (.str x) j pos) (dC (.str x)) := d_of_c pe_str fun _ => .str x
/-! ### argument lists, displays -/
abbrev dNil : DTA := fun _ μ Q => Q [] μ
abbrev dCons (f : DTE) (g : DTA) : DTA := fun ρ μ Q => f ρ μ fun x μ1 => g ρ μ1 fun xs μ2 => Q (x :: xs) μ2
theorem da_nil : DA X [] dNil := ⟨fun B => PA.weak pa_nil fun _ _ _ h => by
  obtain ⟨hv, hx, ρ, μ, Q0, hl, R0, h, low⟩ := h
  exact low _ _ h [] _ rfl R0⟩
theorem RL.turn {w : World} {K : PySem.W.Frag} {H : Hp} {σ : List (Option V)} {ρ : DR} {μ : Store} {a : List (Option V)} {b : DR} {v : Option V} {x : Option Val} (l : a.length = b.length) (R : RL w K B H (a ++ (v :: σ)) (b ++ (x :: ρ)) μ) : RL w K B H (v :: (a ++ σ)) (x :: (b ++ ρ)) μ := by
  obtain ⟨h1, h2⟩ := paired_split l R.sl
  cases h2 with
  | cons h3 h4 => exact R.slots (.cons h3 (paired_app h1 h4))
theorem da_cons {e : Expr} {es : List Expr} {f : DTE} {g : DTA} (ha : DE X e f) (hr : DA X es g) (hs : starEach (e :: es) X.env = (false, eval e X.env) :: starEach es X.env := by rfl) : DA X (e :: es) (dCons f g) :=
  ⟨fun B => PA.weak (pa_cons (ha.run B) (hr.run B) hs) fun _ _ _ h => by
    obtain ⟨hv, hx, ρ, μ, Q0, hl, R0, h, low⟩ := h
    refine ⟨hv, hx, ρ, μ, _, hl, R0, h, fun x μ1 h1 u H1 R1 => ?_⟩
    refine ⟨some u :: hv, some x :: hx, ρ, μ1, _, by simp [hl], R1, h1, fun xs μ2 h2 vs H2 l R2 => ?_⟩
    exact low _ _ h2 (u :: vs) H2 (by simp [l]) (RL.turn (by simp [l]) R2)⟩
/-- data of values -/
def datOf : List Val → Option (List PyData)
  | [] => some []
  | .dat d :: r => (datOf r).map (d :: ·)
  | _ :: _ => none
theorem datOf_all {K : PySem.W.Frag} {Z : Hp} : ∀ {vs : List V} {xs : List Val} {ds : List PyData}, Paired (RV K Z) vs xs → datOf xs = some ds → DzAll Z vs ds
  | _, _, _, .nil, e => by cases e; exact .nil
  | _, .dat d :: r, ds, .cons h t, e => by
    rw [show datOf (.dat d :: r) = (datOf r).map (d :: ·) from rfl] at e
    cases er : datOf r with
    | none => rw [er] at e; cases e
    | some ds' =>
      rw [er] at e
      cases e
      exact .cons h (datOf_all t er)
  | _, .ptr _ :: _, _, .cons h t, e => by cases e
  | _, .scr _ :: _, _, .cons h t, e => by cases e
theorem heads {K : PySem.W.Frag} {Z : Hp} : ∀ {vs : List V} {xs : List Val}, Paired (RVo K Z) (vs.map some) (xs.map some) → Paired (RV K Z) vs xs
  | [], [], _ => .nil
  | _ :: _, _ :: _, .cons h t => .cons h (heads t)
  | [], _ :: _, h => by cases h
  | _ :: _, [], h => by cases h
abbrev dTup (g : DTA) : DTE := fun ρ μ Q => g ρ μ fun xs μ1 => match datOf xs with | some ds => ds.length ≤ sizeLine ∧ Q (.dat (.tuple ds)) μ1 | none => False
theorem datOf_len : ∀ {xs : List Val} {ds : List PyData}, datOf xs = some ds → ds.length = xs.length
  | [], _, e => by cases e; rfl
  | .dat d :: r, ds, e => by
    rw [show datOf (.dat d :: r) = (datOf r).map (d :: ·) from rfl] at e
    cases er : datOf r with
    | none => rw [er] at e; cases e
    | some ds' =>
      rw [er] at e
      cases e
      simp [datOf_len er]
  | .ptr _ :: _, _, e => by cases e
  | .scr _ :: _, _, e => by cases e
  | .prt _ _ :: _, _, e => by cases e
theorem d_tup {es : List Expr} {g : DTA} {x1} {pos : Pos} (h : DA X es g) : DE X (.Tuple es x1 pos) (dTup g) :=
  ⟨fun B => PE.weak (pe_tup (h.run B)) fun _ _ _ h => by
    obtain ⟨hv, hx, ρ, μ, Q0, hl, R0, h, low⟩ := h
    refine ⟨hv, hx, ρ, μ, _, hl, R0, h, fun xs μ1 h1 vs H1 l R1 => ?_⟩
    split at h1
    · rename_i ds e
      refine ⟨by rw [l, ← datOf_len e]; exact h1.1, fun p hp => ?_⟩
      obtain ⟨h2, h3⟩ := paired_split (by simp [l]) R1.sl
      obtain ⟨R2, g, ep⟩ := R1.newZ (o := .tup vs) hp
      exact low _ _ h1.2 _ _ ((R2.rest (by simp [l])).cons (.tup ep (DzAll.mono g _ _ (datOf_all (heads h2) e))))
    · exact h1.elim⟩
abbrev dLst (g : DTA) : DTE := fun ρ μ Q => g ρ μ fun xs μ1 => xs.length ≤ sizeLine ∧ ∀ p, Q (.ptr p) (μ1 ++ [(p, .lst xs)])
theorem d_lst {es : List Expr} {g : DTA} {pos : Pos} (h : DA X es g) : DE X (.List es pos) (dLst g) :=
  ⟨fun B => PE.weak (pe_lst (h.run B)) fun _ _ _ h => by
    obtain ⟨hv, hx, ρ, μ, Q0, hl, R0, h, low⟩ := h
    refine ⟨hv, hx, ρ, μ, _, hl, R0, h, fun xs μ1 h1 vs H1 l R1 => ?_⟩
    refine ⟨by rw [l]; exact h1.1, fun p hp => ?_⟩
    obtain ⟨h2, h3⟩ := paired_split (by simp [l]) R1.sl
    exact low _ _ (h1.2 p) _ _ (((R1.rest (by simp [l])).new (n := .lst xs) (o := .lst vs) hp ⟨vs, upd_same, heads h2⟩).cons rfl)⟩
end
end Zl
namespace Zl
open PySem PySem.Spec PyProof.Rows L2
section
variable {w : World} {K : PySem.W.Frag} {B : Base} {H : Hp} {σ : List (Option V)} {ρ : DR} {μ : Store}
theorem fz_le : ∀ x o, Fz μ H x = some o → H x = some o := fun _ _ h => (Fz.sub h).2
/-! ### a list or a tuple that is read -/
inductive Its (μ : Store) : Val → Bool → List Val → Prop
  | d (ds : List PyData) : Its μ (.dat (.list ds)) false (ds.map .dat)
  | t (ds : List PyData) : Its μ (.dat (.tuple ds)) true (ds.map .dat)
  | p (j : Nat) {a : Addr} {xs : List Val} : μ[j]? = some (a, .lst xs) → Its μ (.ptr a) false xs
  | s (ns : List Int) : Its μ (.scr ns) false (ns.map fun n => .dat (.int n))
theorem dz_all {Z : Hp} : ∀ {vs : List V} {ds : List PyData}, DzAll Z vs ds → Paired (RV K Z) vs (ds.map Val.dat)
  | _, [], h => by cases h; exact .nil
  | _, d :: ds, h => by
    cases h with
    | cons h1 h2 => exact .cons h1 (dz_all h2)
theorem ints_all {Z : Hp} : ∀ ns : List Int, Paired (RV K Z) (ns.map V.int) (ns.map fun n => Val.dat (.int n))
  | [] => .nil
  | n :: ns => .cons (.int n) (ints_all ns)
theorem Its.at (R : RL w K B H σ ρ μ) {v : V} {x : Val} {b : Bool} {xs : List Val} (h : Its μ x b xs) (r : RV K (Fz (B.fr ++ μ) H) v x) : ∃ a vs, v = .ref a ∧ (if b = true then SqT K H a vs else SqL K H a vs) ∧ Paired (RV K (Fz (B.fr ++ μ) H)) vs xs := by
  cases h with
  | d ds =>
    cases (r : Dz _ _ (.list ds)) with
    | lst h1 h2 => exact ⟨_, _, rfl, SqL.of (fz_le _ _ h1), dz_all h2⟩
  | t ds =>
    cases (r : Dz _ _ (.tuple ds)) with
    | tup h1 h2 => exact ⟨_, _, rfl, SqT.of (fz_le _ _ h1), dz_all h2⟩
  | p j hj =>
    obtain ⟨vs, e, h⟩ := R.at hj
    exact ⟨_, vs, r, SqL.of e, h⟩
  | s ns =>
    obtain ⟨a, e, h⟩ := r
    exact ⟨a, _, e, sqL_mono fz_le h, ints_all ns⟩
/-- a list that is tracked -/
inductive ItL (μ : Store) : Val → List Val → Prop
  | d (ds : List PyData) : ItL μ (.dat (.list ds)) (ds.map .dat)
  | p (j : Nat) {a : Addr} {xs : List Val} : μ[j]? = some (a, .lst xs) → ItL μ (.ptr a) xs
theorem ItL.at (R : RL w K B H σ ρ μ) {v : V} {x : Val} {xs : List Val} (h : ItL μ x xs) (r : RV K (Fz (B.fr ++ μ) H) v x) : ∃ a vs, v = .ref a ∧ H a = some (.lst vs) ∧ Paired (RV K (Fz (B.fr ++ μ) H)) vs xs := by
  cases h with
  | d ds =>
    cases (r : Dz _ _ (.list ds)) with
    | lst h1 h2 => exact ⟨_, _, rfl, fz_le _ _ h1, dz_all h2⟩
  | p j hj =>
    obtain ⟨vs, e, h⟩ := R.at hj
    exact ⟨_, vs, r, e, h⟩
/-- data as they are seen -/
inductive View (μ : Store) : Val → PyData → Prop
  | d (d : PyData) : View μ (.dat d) d
  | p (j : Nat) {a : Addr} {xs : List Val} {ds : List PyData} : μ[j]? = some (a, .lst xs) → datOf xs = some ds → View μ (.ptr a) (.list ds)
theorem View.at (R : RL w K B H σ ρ μ) {v : V} {x : Val} {d : PyData} (h : View μ x d) (r : RV K (Fz (B.fr ++ μ) H) v x) : Dp K H v d := by
  cases h with
  | d d => exact Dz.dp _ _ (Dz.mono fz_le _ _ r)
  | p j hj hd =>
    obtain ⟨vs, e, h⟩ := R.at hj
    rw [show v = .ref _ from r]
    exact .lst (SqL.of e) (DzAll.dp _ _ (DzAll.mono fz_le _ _ (datOf_all h hd)))
end
section
variable {X : Cx} {B : Base}
/-! ### arithmetic -/
theorem oz_ints {f : Value → Value → Sem Value} {C : Int → Int → Prop} {g : Int → Int → Int} (h : OpR X f (rI C fun i j => .int (g i j))) :
    OpZ X f fun x y μ Q => match x, y with | .dat (.int i), .dat (.int j) => C i j ∧ Q (.dat (.int (g i j))) μ | _, _ => False :=
  ⟨_, h, fun B σ ρ H μ u v x y Q0 Q R q low => by
    have hy := R.head
    have hx := R.tail.head
    match x, y, q, hx, hy with
    | .dat (.int i), .dat (.int j), q, hx, hy =>
      cases (hx : Dz _ u (.int i))
      cases (hy : Dz _ v (.int j))
      exact ⟨i, j, rfl, rfl, q.1, low _ _ q.2 _ _ (R.tail.tail.cons (.int _))⟩⟩
theorem oz_ints0 {f : Value → Value → Sem Value} {g : Int → Int → Int} (h : OpR X f (rI0 fun i j => .int (g i j))) :
    OpZ X f fun x y μ Q => match x, y with | .dat (.int i), .dat (.int j) => Q (.dat (.int (g i j))) μ | _, _ => False :=
  ⟨_, h, fun B σ ρ H μ u v x y Q0 Q R q low => by
    have hy := R.head
    have hx := R.tail.head
    match x, y, q, hx, hy with
    | .dat (.int i), .dat (.int j), q, hx, hy =>
      cases (hx : Dz _ u (.int i))
      cases (hy : Dz _ v (.int j))
      exact ⟨i, j, rfl, rfl, low _ _ q _ _ (R.tail.tail.cons (.int _))⟩⟩
def zSub : DR2 := fun x y μ Q => match x, y with | .dat (.int i), .dat (.int j) => Q (.dat (.int (i - j))) μ | _, _ => False
theorem oz_sub : OpZ X (binaryOp .Sub) zSub := oz_ints0 op_sub
def zMod : DR2 := fun x y μ Q => match x, y with | .dat (.int i), .dat (.int j) => 0 < j ∧ Q (.dat (.int (i % j))) μ | _, _ => False
theorem oz_mod : OpZ X (binaryOp .Mod) zMod := oz_ints op_mod
def zDiv : DR2 := fun x y μ Q => match x, y with | .dat (.int i), .dat (.int j) => CDivW i j ∧ Q (.dat (.int (i / j))) μ | _, _ => False
theorem oz_div : OpZ X (binaryOp .FloorDiv) zDiv := oz_ints op_fdivW
def zPow : DR2 := fun x y μ Q => match x, y with | .dat (.int i), .dat (.int j) => CPow i j ∧ Q (.dat (.int (i ^ j.toNat))) μ | _, _ => False
theorem oz_pow : OpZ X (binaryOp .Pow) zPow := oz_ints op_pow
/-- ints, texts, lists, tuples -/
def zAdd : DR2 := fun x y μ Q => match x, y with
  | .dat (.int i), .dat (.int j) => Q (.dat (.int (i + j))) μ
  | .dat (.str a), .dat (.str b) => a.length + b.length ≤ sizeLine ∧ Q (.dat (.str (a ++ b))) μ
  | x, y => ∃ xs ys, ItL μ x xs ∧ ItL μ y ys ∧ xs.length + ys.length ≤ sizeLine ∧ ∀ p, Q (.ptr p) (μ ++ [(p, .lst (xs ++ ys))])
theorem add_lists {σ : List (Option V)} {ρ : DR} {H : Hp} {μ : Store} {u v : V} {x y : Val} {Q0 : DK} {Q : VK} (R : RL X.w X.K B H (some v :: some u :: σ) (some y :: some x :: ρ) μ)
    (q : ∃ xs ys, ItL μ x xs ∧ ItL μ y ys ∧ xs.length + ys.length ≤ sizeLine ∧ ∀ p, Q0 (.ptr p) (μ ++ [(p, .lst (xs ++ ys))])) (low : Low X B σ ρ Q0 Q) : rCat u v H Q := by
  obtain ⟨xs, ys, h1, h2, hl, q⟩ := q
  obtain ⟨a, vs, rfl, e1, r1⟩ := h1.at R.tail R.tail.head
  obtain ⟨b, us, rfl, e2, r2⟩ := h2.at R R.head
  refine ⟨a, b, vs, us, rfl, rfl, e1, e2, by rw [r1.length, r2.length]; exact hl, fun p hp => low _ _ (q p) _ _ ?_⟩
  exact (R.tail.tail.new (n := .lst (xs ++ ys)) hp ⟨_, upd_same, paired_app r1 r2⟩).cons rfl
theorem oz_add : OpZ X (binaryOp .Add) zAdd :=
  ⟨_, OpR.or op_add (OpR.or op_add_str op_cat), fun B σ ρ H μ u v x y Q0 Q R q low => by
    have hy := R.head
    have hx := R.tail.head
    unfold zAdd at q
    split at q
    · rename_i i j
      cases (hx : Dz _ u (.int i))
      cases (hy : Dz _ v (.int j))
      exact .inl ⟨i, j, rfl, rfl, low _ _ q _ _ (R.tail.tail.cons (.int _))⟩
    · rename_i a b
      cases (hx : Dz _ u (.str a))
      cases (hy : Dz _ v (.str b))
      exact .inr (.inl ⟨a, b, rfl, rfl, q.1, low _ _ q.2 _ _ (R.tail.tail.cons (.str _))⟩)
    · exact .inr (.inr (add_lists R q low))⟩
/-- ints; a list times an int; a text of one sign -/
def zMul : DR2 := fun x y μ Q => match x, y with
  | .dat (.int i), .dat (.int j) => CMulW i j ∧ Q (.dat (.int (i * j))) μ
  | x, .dat (.int k) => ∃ xs, ItL μ x xs ∧ -(2 ^ 63) ≤ k ∧ k < 2 ^ 63 ∧ xs.length * k.toNat ≤ sizeLine ∧ ∀ p, Q (.ptr p) (μ ++ [(p, .lst (List.replicate k.toNat xs).flatten)])
  | _, _ => False
theorem paired_rep {α β : Type} {F : α → β → Prop} {a : List α} {b : List β} (h : Paired F a b) : ∀ n : Nat, Paired F (List.replicate n a).flatten (List.replicate n b).flatten
  | 0 => .nil
  | n + 1 => by
    rw [List.replicate_succ, List.replicate_succ, List.flatten_cons, List.flatten_cons]
    exact paired_app h (paired_rep h n)
theorem oz_mul : OpZ X (binaryOp .Mult) zMul :=
  ⟨_, OpR.or op_mulW op_rep, fun B σ ρ H μ u v x y Q0 Q R q low => by
    have hy := R.head
    have hx := R.tail.head
    unfold zMul at q
    split at q
    · rename_i i j
      cases (hx : Dz _ u (.int i))
      cases (hy : Dz _ v (.int j))
      exact .inl ⟨i, j, rfl, rfl, q.1, low _ _ q.2 _ _ (R.tail.tail.cons (.int _))⟩
    · rename_i k _
      cases (hy : Dz _ v (.int k))
      obtain ⟨xs, h1, k1, k2, hl, q⟩ := q
      obtain ⟨a, vs, rfl, e1, r1⟩ := h1.at R.tail R.tail.head
      refine .inr ⟨a, k, vs, rfl, rfl, e1, k1, k2, by rw [r1.length]; exact hl, fun p hp => low _ _ (q p) _ _ ?_⟩
      exact (R.tail.tail.new (n := .lst (List.replicate k.toNat xs).flatten) hp ⟨_, upd_same, paired_rep r1 _⟩).cons rfl
    · exact q.elim⟩
/-! ### comparisons -/
def eqS : PyData → PyData → Option Bool
  | .none, .none => some true
  | .none, .int _ => some false
  | .none, .str _ => some false
  | .none, .bool _ => some false
  | .int _, .none => some false
  | .str _, .none => some false
  | .bool _, .none => some false
  | .int i, .int j => some (decide (i = j))
  | .str a, .str b => some (decide (a = b))
  | .bool a, .bool b => some (decide (a = b))
  | .int _, .str _ => some false
  | .str _, .int _ => some false
  | .bool _, .str _ => some false
  | .str _, .bool _ => some false
  | _, _ => none
theorem eqS_ok {Z : Hp} {u v : V} {d e : PyData} {b : Bool} (h1 : Dz Z u d) (h2 : Dz Z v e) (h : eqS d e = some b) : scal u v = true ∧ decide (u = v) = b := by
  unfold eqS at h
  split at h <;> cases h1 <;> cases h2 <;> cases h <;> refine ⟨rfl, ?_⟩ <;> simp
def zEqq (g : Bool → Bool) : DR2 := fun x y μ Q => match x, y with
  | .dat d, .dat e => (match eqS d e with | some b => Q (.dat (.bool (g b))) μ | none => SeqAt.shaped d = true ∧ SeqAt.shaped e = true ∧ Q (.dat (.bool (g (PyData.eqv d e)))) μ)
  | x, y => ∃ d e, View μ x d ∧ View μ y e ∧ SeqAt.shaped d = true ∧ SeqAt.shaped e = true ∧ Q (.dat (.bool (g (PyData.eqv d e)))) μ
abbrev zEq : DR2 := zEqq id
abbrev zNe : DR2 := zEqq not
theorem eq_any {g : Bool → Bool} {σ : List (Option V)} {ρ : DR} {H : Hp} {μ : Store} {u v : V} {x y : Val} {Q0 : DK} {Q : VK} (R : RL X.w X.K B H (some v :: some u :: σ) (some y :: some x :: ρ) μ) (q : zEqq g x y μ Q0) (low : Low X B σ ρ Q0 Q) :
    (scal u v = true ∧ Q (.bl (g (decide (u = v)))) H) ∨ ∃ d e, Dp X.K H u d ∧ Dp X.K H v e ∧ SeqAt.shaped d = true ∧ SeqAt.shaped e = true ∧ Q (.bl (g (PyData.eqv d e))) H := by
  have hy := R.head
  have hx := R.tail.head
  have fin : ∀ b, Q0 (.dat (.bool b)) μ → Q (.bl b) H := fun b q => low _ _ q _ _ (R.tail.tail.cons (.bl b))
  unfold zEqq at q
  split at q
  · rename_i d e
    split at q
    · rename_i b eb
      obtain ⟨h1, h2⟩ := eqS_ok hx hy eb
      exact .inl ⟨h1, by rw [h2]; exact fin _ q⟩
    · exact .inr ⟨d, e, (View.d d).at R.tail hx, (View.d e).at R hy, q.1, q.2.1, fin _ q.2.2⟩
  · obtain ⟨d, e, h1, h2, h3, h4, q⟩ := q
    exact .inr ⟨d, e, h1.at R.tail hx, h2.at R hy, h3, h4, fin _ q⟩
theorem oz_eq (hu : X.A.units + 64 < cLine) : OpZ X (compareOp .Eq) zEq := ⟨_, OpR.or op_eq (op_eqD hu), fun B σ ρ H μ u v x y Q0 Q R q low => eq_any R q low⟩
theorem oz_ne (hu : X.A.units + 64 < cLine) : OpZ X (compareOp .NotEq) zNe := ⟨_, OpR.or op_ne (op_neD hu), fun B σ ρ H μ u v x y Q0 Q R q low => eq_any R q low⟩
/-- ints, texts, data -/
def zCmp (gi : Int → Int → Bool) (gs : Str → Str → Bool) (gd : PyData → PyData → Bool) : DR2 := fun x y μ Q => match x, y with
  | .dat (.int i), .dat (.int j) => Q (.dat (.bool (gi i j))) μ
  | .dat (.str a), .dat (.str b) => Q (.dat (.bool (gs a b))) μ
  | .dat d, .dat e => PySem.W.alike d e = true ∧ d ≠ .none ∧ d.depth ≤ 50 ∧ Q (.dat (.bool (gd d e))) μ
  | _, _ => False
theorem oz_cmp {f : Value → Value → Sem Value} {gi : Int → Int → Bool} {gs : Str → Str → Bool} {gd : PyData → PyData → Bool} (h1 : OpR X f (rI0 fun i j => .bl (gi i j))) (h2 : OpR X f fun x y H Q => ∃ i j, x = .str i ∧ y = .str j ∧ Q (.bl (gs i j)) H)
    (h3 : OpR X f (Dt.rCmpD X.K gd)) : OpZ X f (zCmp gi gs gd) :=
  ⟨_, OpR.or h1 (OpR.or h2 h3), fun B σ ρ H μ u v x y Q0 Q R q low => by
    have hy := R.head
    have hx := R.tail.head
    have fin : ∀ b, Q0 (.dat (.bool b)) μ → Q (.bl b) H := fun b q => low _ _ q _ _ (R.tail.tail.cons (.bl b))
    unfold zCmp at q
    split at q
    · rename_i i j
      cases (hx : Dz _ u (.int i))
      cases (hy : Dz _ v (.int j))
      exact .inl ⟨i, j, rfl, rfl, fin _ q⟩
    · rename_i a b
      cases (hx : Dz _ u (.str a))
      cases (hy : Dz _ v (.str b))
      exact .inr (.inl ⟨a, b, rfl, rfl, fin _ q⟩)
    · rename_i d e _ _
      exact .inr (.inr ⟨d, e, (View.d d).at R.tail hx, (View.d e).at R hy, q.1, q.2.1, q.2.2.1, fin _ q.2.2.2⟩)
    · exact q.elim⟩
abbrev sLt (a b : Str) : Bool := decide (a.cps.toList < b.cps.toList)
abbrev zLt : DR2 := zCmp (fun i j => decide (i < j)) sLt fun d e => PySem.W.dataLt d e
abbrev zLe : DR2 := zCmp (fun i j => decide (i ≤ j)) (fun a b => !sLt b a) fun d e => !PySem.W.dataLt e d
abbrev zGt : DR2 := zCmp (fun i j => decide (j < i)) (fun a b => sLt b a) fun d e => PySem.W.dataLt e d
abbrev zGe : DR2 := zCmp (fun i j => decide (j ≤ i)) (fun a b => !sLt a b) fun d e => !PySem.W.dataLt d e
theorem oz_lt (hu : X.A.units + 64 < cLine) : OpZ X (compareOp .Lt) zLt := oz_cmp op_lt op_lt_str (Dt.op_ltD hu)
theorem oz_le (hu : X.A.units + 64 < cLine) : OpZ X (compareOp .LtE) zLe := oz_cmp op_le op_le_str (Dt.op_leD hu)
theorem oz_gt (hu : X.A.units + 64 < cLine) : OpZ X (compareOp .Gt) zGt := oz_cmp op_gt op_gt_str (Dt.op_gtD hu)
theorem oz_ge (hu : X.A.units + 64 < cLine) : OpZ X (compareOp .GtE) zGe := oz_cmp op_ge op_ge_str (Dt.op_geD hu)
def isN : Val → Bool
  | .dat .none => true
  | _ => false
def zIs (g : Bool → Bool) : DR2 := fun x y μ Q => match y with | .dat .none => Q (.dat (.bool (g (isN x)))) μ | _ => False
theorem isN_ok {Z : Hp} {u : V} {x : Val} {K : PySem.W.Frag} (h : RV K Z u x) : decide (u = .non) = isN x := by
  cases x with
  | dat d =>
    cases (h : Dz _ u d) <;> simp [isN]
  | ptr a =>
    cases (h : u = .ref a)
    rfl
  | scr ns =>
    obtain ⟨a, rfl, _⟩ := h
    rfl
  | prt k a =>
    obtain ⟨t, u, rfl, _⟩ := h
    rfl
theorem oz_isN : OpZ X (compareOp .Is) (zIs id) := ⟨_, op_isN, fun B σ ρ H μ u v x y Q0 Q R q low => by
  unfold zIs at q
  split at q
  · have hy := R.head
    cases (hy : Dz _ v .none)
    exact ⟨rfl, by rw [isN_ok R.tail.head]; exact low _ _ q _ _ (R.tail.tail.cons (.bl _))⟩
  · exact q.elim⟩
theorem oz_notN : OpZ X (compareOp .IsNot) (zIs not) := ⟨_, op_notN, fun B σ ρ H μ u v x y Q0 Q R q low => by
  unfold zIs at q
  split at q
  · have hy := R.head
    cases (hy : Dz _ v .none)
    exact ⟨rfl, by rw [isN_ok R.tail.head]; exact low _ _ q _ _ (R.tail.tail.cons (.bl _))⟩
  · exact q.elim⟩
/-! ### x[i] -/
structure IxZ (X : Cx) (R : DR2) : Prop where
  ex : ∃ r : R2, IxR X r ∧ ∀ B : Base, Op2 X B r R
theorem d_ixR {a b : Expr} {R : DR2} {fa fb : DTE} {pos : Pos} (o : IxZ X R) (ha : DE X a fa) (hb : DE X b fb) (hs : PlainIx b) : DE X (.Subscript a b pos) (dOp R fa fb) := by
  obtain ⟨r, h1, h2⟩ := o.ex
  exact ⟨fun B => PE.weak (pe_ix h1 (ha.run B) (hb.run B) hs) fun _ _ _ h => up_op (h2 B) h⟩
def zIx : DR2 := fun x y μ Q => match x, y with
  | .dat (.tuple ds), .dat (.int i) => ∃ d, atI ds i = some d ∧ Q (.dat d) μ
  | .dat (.list ds), .dat (.int i) => ∃ d, atI ds i = some d ∧ Q (.dat d) μ
  | .dat (.str z), .dat (.int i) => z.length ≤ sizeLine ∧ ∃ c, atI z.cps.toList i = some c ∧ Q (.dat (.str ⟨#[c]⟩)) μ
  | .scr ns, .dat (.int i) => ∃ n, atI ns i = some n ∧ Q (.dat (.int n)) μ
  | .ptr a, .dat (.int i) => ∃ (j : Nat) (xs : List Val) (x : Val), μ[j]? = some (a, Node.lst xs) ∧ atI xs i = some x ∧ Q x μ
  | _, _ => False
theorem paired_at {α β : Type} {F : α → β → Prop} {l₁ : List α} {l₂ : List β} {i : Int} {y : β} (h : Paired F l₁ l₂) (e : atI l₂ i = some y) : ∃ x, atI l₁ i = some x ∧ F x y := by
  unfold atI at e ⊢
  rw [h.length]
  cases ej : ixN l₂.length i with
  | none => rw [ej] at e; cases e
  | some j =>
    rw [ej] at e
    exact paired_get h e
theorem atI_map {α β : Type} {f : α → β} {xs : List α} {i : Int} {x : α} (e : atI xs i = some x) : atI (xs.map f) i = some (f x) := by
  unfold atI at e ⊢
  rw [List.length_map]
  cases ej : ixN xs.length i with
  | none => rw [ej] at e; cases e
  | some j =>
    rw [ej] at e
    show (xs.map f)[j]? = _
    rw [List.getElem?_map, show xs[j]? = some x from e]
    rfl
theorem ix_its {σ : List (Option V)} {ρ : DR} {H : Hp} {μ : Store} {u : V} {x : Val} {b : Bool} {xs : List Val} {i : Int} {z : Val} {Q0 : DK} {Q : VK} (R : RL X.w X.K B H (some u :: σ) (some x :: ρ) μ) (h : Its μ x b xs) (e : atI xs i = some z) (q : Q0 z μ) (low : Low X B σ ρ Q0 Q) :
    rIxL X.K u (.int i) H Q ∨ rIxT X.K u (.int i) H Q := by
  obtain ⟨a, vs, rfl, hs, r⟩ := h.at R R.head
  obtain ⟨v, ev, rv⟩ := paired_at r e
  have fin := low _ _ q _ _ (R.tail.cons rv)
  cases b with
  | true => exact .inr ⟨a, vs, i, v, rfl, rfl, hs, ev, fin⟩
  | false => exact .inl ⟨a, vs, i, v, rfl, rfl, hs, ev, fin⟩
theorem iz_seq : IxZ X zIx := ⟨_, ix_seq, fun B σ ρ H μ u v x y Q0 Q R q low => by
  have hy := R.head
  have hx := R.tail.head
  have fin : ∀ {b : Bool} {xs : List Val} {i : Int} {z : Val}, Its μ x b xs → atI xs i = some z → Q0 z μ → v = .int i → rIx X.K u v H Q := fun h e q ev => by
    rw [ev]
    rcases ix_its R.tail h e q low with z | z
    · exact .inl z
    · exact .inr (.inl z)
  unfold zIx at q
  split at q
  · cases (hy : Dz _ v (.int _))
    obtain ⟨d, e, q⟩ := q
    exact fin (.t _) (atI_map e) q rfl
  · cases (hy : Dz _ v (.int _))
    obtain ⟨d, e, q⟩ := q
    exact fin (.d _) (atI_map e) q rfl
  · rename_i z i
    cases (hy : Dz _ v (.int i))
    cases (hx : Dz _ u (.str z))
    obtain ⟨hz, c, e, q⟩ := q
    exact .inr (.inr ⟨z, i, c, rfl, rfl, hz, e, low _ _ q _ _ (R.tail.tail.cons (.str _))⟩)
  · cases (hy : Dz _ v (.int _))
    obtain ⟨n, e, q⟩ := q
    exact fin (.s _) (atI_map e) q rfl
  · cases (hy : Dz _ v (.int _))
    obtain ⟨j, xs, z, hj, e, q⟩ := q
    exact fin (.p j hj) e q rfl
  · exact q.elim⟩
theorem d_ix {a b : Expr} {fa fb : DTE} {pos : Pos} (ha : DE X a fa) (hb : DE X b fb) (hs : PlainIx b) : DE X (.Subscript a b pos) (dOp zIx fa fb) := d_ixR iz_seq ha hb hs
/-! ### -x -/
abbrev dNeg (f : DTE) : DTE := fun ρ μ Q => f ρ μ fun x μ1 => match x with | .dat (.int i) => Q (.dat (.int (-i))) μ1 | _ => False
theorem d_neg {a : Expr} {fa : DTE} {pos : Pos} (ha : DE X a fa) : DE X (.UnaryOp .USub a pos) (dNeg fa) :=
  ⟨fun B => PE.weak (pe_un un_neg (ha.run B)) fun _ _ _ h => by
    obtain ⟨hv, hx, ρ, μ, Q0, hl, R0, h, low⟩ := h
    refine ⟨hv, hx, ρ, μ, _, hl, R0, h, fun x μ1 h1 u H1 R1 => ?_⟩
    have hd := R1.head
    match x, h1, hd with
    | .dat (.int i), h1, hd =>
      cases (hd : Dz _ u (.int i))
      exact ⟨i, rfl, low _ _ h1 _ _ (R1.tail.cons (.int _))⟩⟩
/-! ### calls of builtins by values -/
structure CaZ (X : Cx) (f : Value) (R : List Val → Store → DK → Prop) : Prop where
  ex : ∃ r : List V → Hp → VK → Prop, CallR X f r ∧ ∀ (B : Base) (σ : List (Option V)) (ρ : DR) (H : Hp) (μ : Store) (vs : List V) (xs : List Val) (Q0 : DK) (Q : VK), vs.length = xs.length → RL X.w X.K B H (vs.map some ++ σ) (xs.map some ++ ρ) μ → R xs μ Q0 → Low X B σ ρ Q0 Q → r vs H Q
abbrev dCB (R : List Val → Store → DK → Prop) (g : DTA) : DTE := fun ρ μ Q => g ρ μ fun xs μ1 => R xs μ1 Q
theorem up_CB {r : List V → Hp → VK → Prop} {R : List Val → Store → DK → Prop} {g : DTA}
    (S : ∀ (σ : List (Option V)) (ρ : DR) (H : Hp) (μ : Store) (vs : List V) (xs : List Val) (Q0 : DK) (Q : VK), vs.length = xs.length → RL X.w X.K B H (vs.map some ++ σ) (xs.map some ++ ρ) μ → R xs μ Q0 → Low X B σ ρ Q0 Q → r vs H Q)
    {σ : L2.St} {H : Hp} {Q : VK} (h : up X B (dCB R g) σ H Q) : tCB r (upA X B g) σ H Q := by
  obtain ⟨hv, hx, ρ, μ, Q0, hl, R0, h, low⟩ := h
  exact ⟨hv, hx, ρ, μ, _, hl, R0, h, fun xs μ1 h1 vs H1 l R1 => S _ _ _ _ _ _ _ _ l R1 h1 low⟩
theorem d_callB {x : Str} {id : String} {R : List Val → Store → DK → Prop} {e : Expr} {es : List Expr} {g : DTA} {p pos : Pos} (c : CaZ X (.builtin id) R) (hg : Gl X x) (hm : X.mg x = none) (hv : bootBuiltins x = some (.builtin id)) (ha : DA X (e :: es) g)
    (hn : x ≠ "__name__" := by decide) (hdb : (x == ("__debug__" : Str)) = false := by decide) (he : starEach (e :: es) X.env = (false, eval e X.env) :: starEach es X.env := by rfl) (hpl : (backTo pos (starEach es X.env)).any (·.1) = false := by rfl) :
    DE X (.Call (.Name x p) (e :: es) [] pos) (dCB R g) := by
  obtain ⟨r, h1, h2⟩ := c.ex
  exact ⟨fun B => PE.weak (pe_callB h1 hg hm hv (ha.run B) hn hdb he hpl) fun _ _ _ h => up_CB (h2 B) h⟩
def lenOf (μ : Store) (x : Val) (Q : Nat → Prop) : Prop := match x with
  | .dat (.list ds) => Q ds.length
  | .dat (.tuple ds) => Q ds.length
  | .dat (.str z) => z.length ≤ sizeLine ∧ Q z.length
  | .scr ns => Q ns.length
  | .ptr a => ∃ (j : Nat) (xs : List Val), μ[j]? = some (a, Node.lst xs) ∧ Q xs.length
  | _ => False
def zLen : List Val → Store → DK → Prop := fun xs μ Q => match xs with | [x] => lenOf μ x fun n => Q (.dat (.int (n : Nat))) μ | _ => False
theorem one_arg {σ : List (Option V)} {ρ : DR} {H : Hp} {μ : Store} {vs : List V} {x : Val} (l : vs.length = [x].length) (R : RL X.w X.K B H (vs.map some ++ σ) ([x].map some ++ ρ) μ) : ∃ v, vs = [v] ∧ RL X.w X.K B H (some v :: σ) (some x :: ρ) μ := by
  match vs, l, R with
  | [v], _, R => exact ⟨v, rfl, R⟩
theorem two_args {σ : List (Option V)} {ρ : DR} {H : Hp} {μ : Store} {vs : List V} {x y : Val} (l : vs.length = [x, y].length) (R : RL X.w X.K B H (vs.map some ++ σ) ([x, y].map some ++ ρ) μ) : ∃ v u, vs = [v, u] ∧ RL X.w X.K B H (some v :: some u :: σ) (some x :: some y :: ρ) μ := by
  match vs, l, R with
  | [v, u], _, R => exact ⟨v, u, rfl, R⟩
theorem ca_len : CaZ X (.builtin "len") zLen := by
  refine ⟨fun vs H Q => (∃ p ys, vs = [.ref p] ∧ (SqL X.K H p ys ∨ SqT X.K H p ys) ∧ Q (.int (ys.length : Nat)) H) ∨ ∃ z, vs = [.str z] ∧ z.length ≤ sizeLine ∧ Q (.int (z.length : Nat)) H, ?_, ?_⟩
  · intro pins s σ H xs us Q I r h
    rcases h with h | h
    · exact call_len_seq pins s σ H xs us Q I r h
    · exact call_len_str pins s σ H xs us Q I r h
  · intro B σ ρ H μ vs xs Q0 Q l R q low
    match xs, l, R, q with
    | [x], l, R, q =>
      obtain ⟨v, rfl, R⟩ := one_arg l R
      have hx := R.head
      have fin : ∀ {b : Bool} {ys : List Val}, Its μ x b ys → Q0 (.dat (.int (ys.length : Nat))) μ → ∃ p us, [v] = [V.ref p] ∧ (SqL X.K H p us ∨ SqT X.K H p us) ∧ Q (.int (us.length : Nat)) H := fun {b ys} h q => by
        obtain ⟨a, us, rfl, hs, r⟩ := h.at R hx
        refine ⟨a, us, rfl, ?_, by rw [r.length]; exact low _ _ q _ _ (R.tail.cons (.int _))⟩
        cases b with
        | true => exact .inr hs
        | false => exact .inl hs
      have q : lenOf μ x (fun n => Q0 (.dat (.int (n : Nat))) μ) := q
      unfold lenOf at q
      split at q
      · exact .inl (fin (.d _) (by rw [List.length_map]; exact q))
      · exact .inl (fin (.t _) (by rw [List.length_map]; exact q))
      · cases (hx : Dz _ v (.str _))
        exact .inr ⟨_, rfl, q.1, low _ _ q.2 _ _ (R.tail.cons (.int _))⟩
      · exact .inl (fin (.s _) (by rw [List.length_map]; exact q))
      · obtain ⟨j, ys, hj, q⟩ := q
        exact .inl (fin (.p j hj) q)
      · exact q.elim
end
end Zl
namespace Zl
open PySem PySem.Spec PyProof.Rows L2 Lf
/-! ### what a def promises -/
abbrev DSp := List Val → Store → DK → Prop
def spZ (w : World) (K : PySem.W.Frag) (F : DSp) : Sp := fun vs H Q _ => ∃ (B : Base) (xs : List Val) (μ : Store) (Q0 : DK), vs.length = xs.length ∧ RL w K B H (vs.map some) (xs.map some) μ ∧ F xs μ Q0 ∧
  ∀ x μ', Q0 x μ' → ∀ v H', RL w K B H' [some v] [some x] μ' → Q v H'
/-- what follows is all that is wanted -/
abbrev CalZ (P : Program) (w : World) (K : PySem.W.Frag) (mg : Str → Option Value) (base : Heap) (k : Nat) (x : Str) (ps : List Str) (F : DSp) : Prop := Callee P w K mg base k x ps (spZ w K F)
def startZ (N : List Str) (xs : List Val) : DR := xs.map some ++ List.replicate (N.length - xs.length) none
/-- what nobody wants any more is forgotten -/
abbrev dEnd (Q : DK) : DEnds := { nx := fun _ μ => ∃ μ', List.Sublist μ' μ ∧ Q (.dat .none) μ', rt := fun x μ => ∃ μ', List.Sublist μ' μ ∧ Q x μ' }
theorem RL.less {w : World} {K : PySem.W.Frag} {B : Base} {H : Hp} {σ : List (Option V)} {ρ : DR} {μ μ' : Store} (R : RL w K B H σ ρ μ) (h : List.Sublist μ' μ) : RL w K B H σ ρ μ' := by
  have nd := R.nd
  rw [List.map_append, List.nodup_append] at nd
  exact (R.sub ((h.map _).nodup nd.2.1) fun p hp => h.subset hp).1
theorem paired_none {K : PySem.W.Frag} {Z : Hp} : ∀ n : Nat, Paired (RVo K Z) (List.replicate n none) (List.replicate n none)
  | 0 => .nil
  | n + 1 => .cons trivial (paired_none n)
theorem Fun.okZ {P : Program} {w : World} {K : PySem.W.Frag} {mg : Str → Option Value} {base : Heap} {x qual : Str} {st : Stmt} {f : Addr} {fd : FuncData} {N ps : List Str} {k : Nat} {F : DSp} (FF : Fun K x qual st f fd) (S : FnScope N ps (defScope st))
    (len : ∀ xs μ Q, F xs μ Q → xs.length = ps.length)
    (body : ∀ (cdv : Value) (A : Around) (outer : List Env) (s : Shared) (H : Hp) (E : XK), Room k (A.deeper (envOfC qual (defScope st) s.heap.objs.size f cdv)) →
      ∃ t : DTS, DSs (cxOf CX0 P w K mg base N qual (defScope st) f cdv A outer s H E).nox (defBody st) t ∧ ∀ xs μ Q, F xs μ Q → t (dEnd Q) (startZ N xs) μ) : FnOk P w K mg base CX0 (k + 1) f fd ps (spZ w K F) := by
  refine FF.ok S (fun vs H Q E h => ?_) fun cdv A outer s H vs Q E hr h => ?_
  · obtain ⟨B, xs, μ, Q0, l, _, h, _⟩ := h
    rw [l]
    exact len _ _ _ h
  · obtain ⟨B, xs, μ, Q0, l, R, h, low⟩ := h
    obtain ⟨t, d, q⟩ := body cdv A outer s H E hr
    refine ⟨_, (d.run B), startZ N xs, μ, dEnd Q0, ?_, q xs μ Q0 h, ?_⟩
    · refine R.slots ?_
      unfold L2.start startZ
      rw [l]
      exact paired_app R.sl (paired_none _)
    · exact ⟨fun ρ μ ⟨μ', h, q⟩ σ H R => low _ _ q _ _ ((R.less h).slots (.cons .non .nil)), fun x μ ⟨μ', h, q⟩ v H R => low _ _ q _ _ (R.less h), fun _ _ q => q.elim, fun _ _ q => q.elim⟩
section
variable {X : Cx} {B : Base} {k : Nat} {x : Str} {ps : List Str} {F : DSp} {e : Expr} {es : List Expr} {g : DTA} {p pos : Pos}
theorem nodup_perm {μ μ' : Store} (h : μ.Perm μ') (n : (μ.map (·.1)).Nodup) : (μ'.map (·.1)).Nodup := ((h.map _).nodup_iff).mp n
/-- the callee gets some of the objects, the others are hidden from it -/
theorem call_z {H : Hp} {σ : List (Option V)} {ρ : DR} {μ1 μ0 μr : Store} {vs : List V} {xs : List Val} {Q0 : DK} {Q : VK} (l : vs.length = xs.length) (R : RL X.w X.K B H (vs.map some ++ σ) (xs.map some ++ ρ) μ1) (pm : μ1.Perm (μ0 ++ μr))
    (f : F xs μ0 fun x ν => ∃ μ2, μ2.Perm (ν ++ μr) ∧ Q0 x μ2) (low : Low X B σ ρ Q0 Q) : spZ X.w X.K F vs H Q E0 := by
  have p1 : (B.fr ++ μ1).Perm ((B.fr ++ μr) ++ μ0) := by
    rw [List.append_assoc]
    exact (pm.trans List.perm_append_comm).append_left _
  obtain ⟨R1, g1⟩ := R.as (B' := ⟨Fz (B.fr ++ μ1) H, B.fr ++ μr⟩) (μ' := μ0) (nodup_perm p1 R.nd) (fun p hp => p1.mem_iff.mpr hp) fun x o h => by
    obtain ⟨h1, h2⟩ := Fz.sub h
    refine Fz.of (fun z => h1 ?_) h2
    exact ((p1.map (·.1)).mem_iff).mpr z
  refine ⟨⟨Fz (B.fr ++ μ1) H, B.fr ++ μr⟩, xs, μ0, _, l, R1.slots (paired_split (by simp [l]) R1.sl).1, f, fun x ν ⟨μ2, p2, q⟩ v H' R2 => low x μ2 q v H' ?_⟩
  have p3 : ((B.fr ++ μr) ++ ν).Perm (B.fr ++ μ2) := by
    rw [List.append_assoc]
    exact (List.perm_append_comm.trans p2.symm).append_left _
  have g2 : ∀ x u, Fz ((B.fr ++ μr) ++ ν) H' x = some u → Fz (B.fr ++ μ2) H' x = some u := fun x u h => by
    obtain ⟨h1, h2⟩ := Fz.sub h
    exact Fz.of (fun z => h1 (((p3.map (·.1)).mem_iff).mpr z)) h2
  have g3 : ∀ x u, Fz (B.fr ++ μ1) H x = some u → Fz (B.fr ++ μ2) H' x = some u := fun x u h => g2 _ _ (R2.base _ _ h)
  refine ⟨nodup_perm p3 R2.nd, fun x o h => g3 _ _ (R.base _ _ h), .cons (RVo.mono g2 (v := some v) (x := some x) R2.head) ?_, fun q hq => (R2.st q (p3.mem_iff.mpr hq)).mono g2 rfl⟩
  exact L2.Paired.mapP (R.rest (by simp [l])).sl fun _ _ => RVo.mono g3
/-- no object is handed over -/
abbrev dOwn0 (F : DSp) (g : DTA) : DTE := fun ρ μ Q => g ρ μ fun xs μ1 => F xs [] fun x ν => Q x (μ1 ++ ν)
/-- one object, the j-th, is handed over, and comes back in its place -/
abbrev dOwn1 (F : DSp) (g : DTA) : DTE := fun ρ μ Q => g ρ μ fun xs μ1 => ∃ (j : Nat) (a : Addr) (n : Node), μ1[j]? = some (a, n) ∧ F xs [(a, n)] fun x ν => ∃ n' ext, ν = (a, n') :: ext ∧ Q x (μ1.set j (a, n') ++ ext)
/-- any objects -/
abbrev dOwnG (F : DSp) (g : DTA) : DTE := fun ρ μ Q => g ρ μ fun xs μ1 => ∃ μ0 μr, μ1.Perm (μ0 ++ μr) ∧ F xs μ0 fun x ν => ∃ μ2, μ2.Perm (ν ++ μr) ∧ Q x μ2
theorem d_ownG (C : CalZ X.prog X.w X.K X.mg X.base k x ps F) (hr : Room k X.A) (hg : Gl X x) (ha : DA X (e :: es) g)
    (hdb : (x == ("__debug__" : Str)) = false := by decide) (he : starEach (e :: es) X.env = (false, eval e X.env) :: starEach es X.env := by rfl) (hpl : (backTo pos (starEach es X.env)).any (·.1) = false := by rfl) :
    DE X (.Call (.Name x p) (e :: es) [] pos) (dOwnG F g) :=
  ⟨fun B => PE.weak (pe_own C hr hg (ha.run B) hdb he hpl) fun σ H Q h => by
    obtain ⟨hv, hx, ρ, μ, Q0, hl, R0, h, low⟩ := h
    refine ⟨hv, hx, ρ, μ, _, hl, R0, h, fun xs μ1 h1 vs H1 l R1 => ?_⟩
    obtain ⟨μ0, μr, pm, f⟩ := h1
    show spZ _ _ _ (vs ++ []) _ _ _
    rw [List.append_nil]
    exact call_z l R1 pm f low⟩
theorem d_weak {e : Expr} {f f' : DTE} (h : DE X e f) (w : ∀ ρ μ Q, f' ρ μ Q → f ρ μ Q) : DE X e f' :=
  ⟨fun B => PE.weak (h.run B) fun σ H Q q => by
    obtain ⟨hv, hx, ρ, μ, Q0, hl, R0, h, low⟩ := q
    exact ⟨hv, hx, ρ, μ, Q0, hl, R0, w _ _ _ h, low⟩⟩
theorem perm_at {α : Type} : ∀ {l : List α} {j : Nat} {x : α}, l[j]? = some x → l.Perm (x :: l.eraseIdx j)
  | [], _, _, h => by simp at h
  | y :: r, 0, x, h => by
    cases (Option.some.inj h : y = x)
    exact .refl _
  | y :: r, j + 1, x, h => by
    have := perm_at (l := r) (j := j) (x := x) (by simpa using h)
    exact (this.cons y).trans (.swap x y _)
theorem erase_set {α : Type} : ∀ {l : List α} {j : Nat} {x : α}, (l.set j x).eraseIdx j = l.eraseIdx j
  | [], _, _ => rfl
  | _ :: _, 0, _ => rfl
  | y :: r, j + 1, x => congrArg (y :: ·) (erase_set (l := r) (j := j) (x := x))
theorem perm_get {μ : Store} {j : Nat} {a : Addr} {n : Node} (h : μ[j]? = some (a, n)) : μ.Perm ((a, n) :: μ.eraseIdx j) := perm_at h
theorem perm_set {μ : Store} {j : Nat} {a : Addr} {n : Node} (h : μ[j]? = some (a, n)) (n' : Node) : (μ.set j (a, n')).Perm ((a, n') :: μ.eraseIdx j) := by
  have := perm_at (l := μ.set j (a, n')) (j := j) (x := (a, n')) (by rw [List.getElem?_set_self]; exact (List.getElem?_eq_some_iff.mp h).1)
  rw [erase_set] at this
  exact this
/-- a promise may be used with fewer wishes -/
def MonoF (F : DSp) : Prop := ∀ xs μ (Q Q' : DK), (∀ x ν, Q x ν → Q' x ν) → F xs μ Q → F xs μ Q'
theorem call_mono {σ : List (Option V)} {H : Hp} {vs : List V} {Q : VK} {E : XK} {F F' : DSp} (w : ∀ xs μ (Q : DK), F' xs μ Q → ∃ Q', F xs μ Q' ∧ ∀ x ν, Q' x ν → Q x ν) (h : spZ X.w X.K F' vs H Q E) : spZ X.w X.K F vs H Q E := by
  obtain ⟨B, xs, μ, Q0, l, R, f, low⟩ := h
  obtain ⟨Q', f', m⟩ := w _ _ _ f
  exact ⟨B, xs, μ, Q', l, R, f', fun x ν q => low x ν (m _ _ q)⟩
/-- the wishes closed above -/
def Cl (F : DSp) : DSp := fun xs μ Q => ∃ Q', F xs μ Q' ∧ ∀ x ν, Q' x ν → Q x ν
theorem cal_cl {P : Program} {w : World} {K : PySem.W.Frag} {mg : Str → Option Value} {base : Heap} (C : CalZ P w K mg base k x ps F) : CalZ P w K mg base k x ps (Cl F) := by
  obtain ⟨f, fd, h1, h2⟩ := C
  refine ⟨f, fd, h1.imp fun vs H Q E h => ?_, h2⟩
  obtain ⟨B, xs, μ, Q0, l, R, ⟨Q', f', m⟩, low⟩ := h
  exact ⟨B, xs, μ, Q', l, R, f', fun x ν q => low x ν (m _ _ q)⟩
theorem d_own0 (C : CalZ X.prog X.w X.K X.mg X.base k x ps F) (hr : Room k X.A) (hg : Gl X x) (ha : DA X (e :: es) g)
    (hdb : (x == ("__debug__" : Str)) = false := by decide) (he : starEach (e :: es) X.env = (false, eval e X.env) :: starEach es X.env := by rfl) (hpl : (backTo pos (starEach es X.env)).any (·.1) = false := by rfl) :
    DE X (.Call (.Name x p) (e :: es) [] pos) (dOwn0 F g) :=
  ⟨fun B => PE.weak (pe_own (cal_cl C) hr hg (ha.run B) hdb he hpl) fun σ H Q h => by
    obtain ⟨hv, hx, ρ, μ, Q0, hl, R0, h, low⟩ := h
    refine ⟨hv, hx, ρ, μ, _, hl, R0, h, fun xs μ1 h1 vs H1 l R1 => ?_⟩
    show spZ _ _ _ (vs ++ []) _ _ _
    rw [List.append_nil]
    exact call_z (F := Cl F) l R1 (μ0 := []) (μr := μ1) (.refl _) ⟨_, h1, fun x ν q => ⟨_, List.perm_append_comm, q⟩⟩ low⟩
theorem d_own1 (C : CalZ X.prog X.w X.K X.mg X.base k x ps F) (hr : Room k X.A) (hg : Gl X x) (ha : DA X (e :: es) g)
    (hdb : (x == ("__debug__" : Str)) = false := by decide) (he : starEach (e :: es) X.env = (false, eval e X.env) :: starEach es X.env := by rfl) (hpl : (backTo pos (starEach es X.env)).any (·.1) = false := by rfl) :
    DE X (.Call (.Name x p) (e :: es) [] pos) (dOwn1 F g) :=
  ⟨fun B => PE.weak (pe_own (cal_cl C) hr hg (ha.run B) hdb he hpl) fun σ H Q h => by
    obtain ⟨hv, hx, ρ, μ, Q0, hl, R0, h, low⟩ := h
    refine ⟨hv, hx, ρ, μ, _, hl, R0, h, fun xs μ1 h1 vs H1 l R1 => ?_⟩
    obtain ⟨j, a, n, hj, f⟩ := h1
    show spZ _ _ _ (vs ++ []) _ _ _
    rw [List.append_nil]
    refine call_z (F := Cl F) l R1 (perm_get hj : μ1.Perm ([(a, n)] ++ _)) ⟨_, f, fun x ν ⟨n', ext, e, q⟩ => ⟨_, ?_, q⟩⟩ low
    subst e
    refine ((perm_set hj n').append_right ext).trans ?_
    exact List.Perm.cons _ List.perm_append_comm⟩
end
/-! ### statements -/
section
variable {X : Cx} {B : Base}
abbrev dSeq (t u : DTS) : DTS := fun E ρ μ => t { E with nx := u E } ρ μ
abbrev dNext : DTS := fun E ρ μ => E.nx ρ μ
theorem upS_iff {t : DTS} {D : Ends} {σ : L2.St} {H : Hp} {ρ : DR} {μ : Store} {E : DEnds} (R : RL X.w X.K B H σ ρ μ) (q : t E ρ μ) (b : Below X B E D) : upS X B t D σ H := ⟨ρ, μ, E, R, q, b⟩
theorem dss_nil : DSs X [] dNext := ⟨fun B => PSs.weak pss_nil fun D σ H ⟨ρ, μ, E, R, q, b⟩ => b.nx _ _ q _ _ R⟩
theorem dss_one {s : Stmt} {t : DTS} (h : DS X s t) : DSs X [s] t := ⟨fun B => PSs.weak (pss_one (h.run B)) fun D σ H q => q⟩
theorem dss_cons {s : Stmt} {r : List Stmt} {t u : DTS} (h1 : DS X s t) (h2 : DSs X r u) : DSs X (s :: r) (dSeq t u) :=
  ⟨fun B => PSs.weak (pss_cons (h1.run B) (h2.run B)) fun D σ H ⟨ρ, μ, E, R, q, b⟩ => ⟨ρ, μ, _, R, q, ⟨fun ρ' μ' q' σ' H' R' => ⟨ρ', μ', E, R', q', b⟩, b.rt, b.bk, b.ct⟩⟩⟩
/-- what follows is shown once -/
abbrev dCut (t u : DTS) : DTS := fun E ρ μ => ∃ M : DR → Store → Prop, t { E with nx := M } ρ μ ∧ ∀ ρ' μ', M ρ' μ' → u E ρ' μ'
theorem dss_cut {s : Stmt} {r : List Stmt} {t u : DTS} (h1 : DS X s t) (h2 : DSs X r u) : DSs X (s :: r) (dCut t u) :=
  ⟨fun B => PSs.weak (pss_cons (h1.run B) (h2.run B)) fun D σ H ⟨ρ, μ, E, R, ⟨M, q, m⟩, b⟩ => ⟨ρ, μ, { E with nx := M }, R, q, ⟨fun ρ' μ' hM σ' H' R' => ⟨ρ', μ', E, R', m _ _ hM, b⟩, b.rt, b.bk, b.ct⟩⟩⟩
/-- the objects seen otherwise: some forgotten, some whom nobody changes any more -/
def Weak (X : Cx) (ρ : DR) (μ : Store) (ρ' : DR) (μ' : Store) : Prop := ∀ (B : Base) (H : Hp) (σ : List (Option V)), RL X.w X.K B H σ ρ μ → RL X.w X.K B H σ ρ' μ'
abbrev dWeak (X : Cx) (t : DTS) : DTS := fun E ρ μ => ∃ ρ' μ', Weak X ρ μ ρ' μ' ∧ t E ρ' μ'
theorem weak_sub {ρ : DR} {μ μ' : Store} (h : List.Sublist μ' μ) : Weak X ρ μ ρ μ' := fun _ _ _ R => R.less h
theorem dss_weak {r : List Stmt} {t : DTS} (h : DSs X r t) : DSs X r (dWeak X t) :=
  ⟨fun B => PSs.weak (h.run B) fun D σ H ⟨ρ, μ, E, R, ⟨ρ', μ', w, q⟩, b⟩ => ⟨ρ', μ', E, w _ _ _ R, q, b⟩⟩
theorem ds_weak {r : Stmt} {t : DTS} (h : DS X r t) : DS X r (dWeak X t) :=
  ⟨fun B => PS.weak (h.run B) fun D σ H ⟨ρ, μ, E, R, ⟨ρ', μ', w, q⟩, b⟩ => ⟨ρ', μ', E, w _ _ _ R, q, b⟩⟩
abbrev dDrop (f : DTE) : DTS := fun E ρ μ => f ρ μ fun _ μ1 => E.nx ρ μ1
theorem ds_expr {e : Expr} {f : DTE} {pos : Pos} (h : DE X e f) (hs : swapsWith e none pos.line X.env = pure false := by rfl) : DS X (.Expr e pos) (dDrop f) :=
  ⟨fun B => PS.weak (ps_expr (h.run B) hs) fun D σ H ⟨ρ, μ, E, R, q, b⟩ => ⟨[], [], ρ, μ, _, rfl, R, q, fun x μ1 q1 v H1 R1 => b.nx _ _ q1 _ _ R1.tail⟩⟩
theorem ds_doc {x j pos pos'} : DS X (.Expr (.Constant (.str x) j pos) pos') dNext := ⟨fun B => PS.weak ps_doc fun D σ H ⟨ρ, μ, E, R, q, b⟩ => b.nx _ _ q _ _ R⟩
theorem ds_pass {pos} : DS X (.Pass pos) dNext := ⟨fun B => PS.weak ps_pass fun D σ H ⟨ρ, μ, E, R, q, b⟩ => b.nx _ _ q _ _ R⟩
abbrev dBreak : DTS := fun E ρ μ => E.bk ρ μ
abbrev dCont : DTS := fun E ρ μ => E.ct ρ μ
theorem ds_break {pos} : DS X (.Break pos) dBreak := ⟨fun B => PS.weak ps_break fun D σ H ⟨ρ, μ, E, R, q, b⟩ => b.bk _ _ q _ _ R⟩
theorem ds_continue {pos} : DS X (.Continue pos) dCont := ⟨fun B => PS.weak ps_continue fun D σ H ⟨ρ, μ, E, R, q, b⟩ => b.ct _ _ q _ _ R⟩
abbrev dRet (f : DTE) : DTS := fun E ρ μ => f ρ μ E.rt
theorem ds_ret {e : Expr} {f : DTE} {pos : Pos} (h : DE X e f) : DS X (.Return (some e) pos) (dRet f) :=
  ⟨fun B => PS.weak (ps_ret (h.run B)) fun D σ H ⟨ρ, μ, E, R, q, b⟩ => ⟨[], [], ρ, μ, _, rfl, R, q, fun x μ1 q1 v H1 R1 => b.rt _ _ q1 _ _ (R1.slots (.cons R1.head .nil))⟩⟩
abbrev dRetN : DTS := fun E _ μ => E.rt (.dat .none) μ
theorem ds_retN {pos : Pos} : DS X (.Return none pos) dRetN :=
  ⟨fun B => PS.weak ps_retN fun D σ H ⟨ρ, μ, E, R, q, b⟩ => b.rt _ _ q _ _ (R.slots (.cons .non .nil))⟩
abbrev dIfS (c : DTT) (t u : DTS) : DTS := fun E ρ μ => c ρ μ fun b μ1 => if b = true then t E ρ μ1 else u E ρ μ1
theorem ds_if {c : Expr} {a b : List Stmt} {fc : DTT} {t u : DTS} {pos : Pos} (hc : DT X c fc) (ha : DSs X a t) (hb : DSs X b u) : DS X (.If c a b pos) (dIfS fc t u) :=
  ⟨fun B => PS.weak (ps_if (hc.run B) (ha.run B) (hb.run B)) fun D σ H ⟨ρ, μ, E, R, q, b⟩ => ⟨[], [], ρ, μ, _, rfl, R, q, fun c μ1 q1 H1 R1 => by
    cases c with
    | true => exact ⟨ρ, μ1, E, R1, q1, b⟩
    | false => exact ⟨ρ, μ1, E, R1, q1, b⟩⟩⟩
/-! ### targets -/
abbrev DTG := Val → DR → Store → (DR → Store → Prop) → Prop
abbrev DTGs := List PyData → DR → Store → (DR → Store → Prop) → Prop
def upG (X : Cx) (B : Base) (g : DTG) : TG := fun v σ H Q => ∃ (hv : List (Option V)) (hx : DR) (x : Val) (ρ : DR) (μ : Store) (Q0 : DR → Store → Prop), hv.length = hx.length ∧ RL X.w X.K B H (some v :: (hv ++ σ)) (some x :: (hx ++ ρ)) μ ∧ g x ρ μ Q0 ∧
  ∀ ρ' μ', Q0 ρ' μ' → ∀ σ' H', RL X.w X.K B H' (hv ++ σ') (hx ++ ρ') μ' → Q σ' H'
def upGs (X : Cx) (B : Base) (g : DTGs) : TGs := fun vs σ H Q => ∃ (hv : List (Option V)) (hx : DR) (ds : List PyData) (ρ : DR) (μ : Store) (Q0 : DR → Store → Prop), hv.length = hx.length ∧ vs.length = ds.length ∧
  RL X.w X.K B H (vs.map some ++ (hv ++ σ)) (ds.map (fun d => some (Val.dat d)) ++ (hx ++ ρ)) μ ∧ g ds ρ μ Q0 ∧ ∀ ρ' μ', Q0 ρ' μ' → ∀ σ' H', RL X.w X.K B H' (hv ++ σ') (hx ++ ρ') μ' → Q σ' H'
structure DG (X : Cx) (e : Expr) (g : DTG) : Prop where
  run : ∀ B : Base, PG X e (upG X B g)
structure DGs (X : Cx) (es : List Expr) (g : DTGs) : Prop where
  run : ∀ B : Base, PGs X es (upGs X B g)
theorem PG.weak {e : Expr} {t t' : TG} (h : PG X e t) (w : ∀ v σ H Q, t' v σ H Q → t v σ H Q) : PG X e t' := ⟨fun pins s σ H v u Q I r q => h.run pins s σ H v u Q I r (w _ _ _ _ q)⟩
theorem PGs.weak {e : List Expr} {t t' : TGs} (h : PGs X e t) (w : ∀ v σ H Q, t' v σ H Q → t v σ H Q) : PGs X e t' := ⟨fun pins s σ H v u Q I r q => h.run pins s σ H v u Q I r (w _ _ _ _ q)⟩
def zName (i : Nat) : DTG := fun x ρ μ Q => Q (ρ.set i (some x)) μ
theorem RL.into {w : World} {K : PySem.W.Frag} {H : Hp} {σ : List (Option V)} {ρ : DR} {μ : Store} {hv : List (Option V)} {hx : DR} {v : V} {x : Val} (l : hv.length = hx.length) (R : RL w K B H (some v :: (hv ++ σ)) (some x :: (hx ++ ρ)) μ) (i : Nat) : RL w K B H (hv ++ σ.set i (some v)) (hx ++ ρ.set i (some x)) μ := by
  obtain ⟨h1, h2⟩ := paired_split l R.tail.sl
  exact R.slots (paired_app h1 (paired_set i h2 R.head))
theorem dg_of_name {e : Expr} {i : Nat} (h : PG X e (gName i)) : DG X e (zName i) :=
  ⟨fun B => PG.weak h fun v σ H Q ⟨hv, hx, x, ρ, μ, Q0, l, R, q, low⟩ => low _ _ q _ _ (R.into l i)⟩
def zgNil : DTGs := fun ds ρ μ Q => match ds with | [] => Q ρ μ | _ => False
def zgCons (g : DTG) (u : DTGs) : DTGs := fun ds ρ μ Q => match ds with | d :: r => g (.dat d) ρ μ fun ρ' μ' => u r ρ' μ' Q | [] => False
theorem dgs_nil : DGs X [] zgNil := ⟨fun B => PGs.weak pgs_nil fun vs σ H Q ⟨hv, hx, ds, ρ, μ, Q0, l, l2, R, q, low⟩ => by
  match ds, vs, l2, R, q with
  | [], [], _, R, q => exact ⟨rfl, low _ _ q _ _ R⟩⟩
theorem dgs_cons {e : Expr} {es : List Expr} {g : DTG} {u : DTGs} (h1 : DG X e g) (h2 : DGs X es u) (hs : (assignEach (e :: es) X.env).map (·.2) = assign e X.env :: (assignEach es X.env).map (·.2) := by rfl) : DGs X (e :: es) (zgCons g u) :=
  ⟨fun B => PGs.weak (pgs_cons (h1.run B) (h2.run B) hs) fun vs σ H Q ⟨hv, hx, ds, ρ, μ, Q0, l, l2, R, q, low⟩ => by
    match ds, vs, l2, R, q with
    | d :: r, v :: vr, l2, R, q =>
      have l3 : vr.length = r.length := by simpa using l2
      refine ⟨v, vr, rfl, vr.map some ++ hv, r.map (fun d => some (Val.dat d)) ++ hx, .dat d, ρ, μ, _, by simp [l, l3], by rw [List.append_assoc, List.append_assoc]; exact R, q, fun ρ' μ' q' σ' H' R' => ?_⟩
      exact ⟨hv, hx, r, ρ', μ', Q0, l, l3, by rw [List.append_assoc, List.append_assoc] at R'; exact R', q', low⟩⟩
def zgTup (n : Nat) (u : DTGs) : DTG := fun x ρ μ Q => match x with | .dat (.tuple ds) => ds.length = n ∧ u ds ρ μ Q | _ => False
theorem dz_some {K : PySem.W.Frag} {Z : Hp} : ∀ {vs : List V} {ds : List PyData}, DzAll Z vs ds → Paired (RVo K Z) (vs.map some) (ds.map fun d => some (Val.dat d))
  | _, [], h => by cases h; exact .nil
  | _, d :: ds, h => by
    cases h with
    | cons h1 h2 => exact .cons h1 (dz_some h2)
theorem dzAll_len {Z : Hp} : ∀ {vs : List V} {ds : List PyData}, DzAll Z vs ds → vs.length = ds.length
  | _, [], h => by cases h; rfl
  | _, d :: ds, h => by
    cases h with
    | cons h1 h2 => simp [dzAll_len h2]
theorem dg_tup {es : List Expr} {k n : Nat} {u : DTGs} {pos : Pos} (hc : X.calm = true) (h : DGs X es u) (hn : (assignEach es X.env).length = n := by rfl) (hst : (assignEach es X.env).findIdx? (·.1) = none := by rfl) : DG X (.Tuple es k pos) (zgTup n u) :=
  ⟨fun B => PG.weak (pg_tup hc (h.run B) hn hst) fun v σ H Q ⟨hv, hx, x, ρ, μ, Q0, l, R, q, low⟩ => by
    have hd := R.head
    match x, q, hd with
    | .dat (.tuple ds), q, hd =>
      cases (hd : Dz _ v (.tuple ds)) with
      | tup h1 h2 =>
        refine ⟨_, _, rfl, SqT.of (fz_le _ _ h1), by rw [dzAll_len h2]; exact q.1, hv, hx, ds, ρ, μ, Q0, l, dzAll_len h2, R.slots (paired_app (dz_some h2) R.tail.sl), q.2, low⟩⟩
/-- xs[i] = v, xs an own list -/
def zSetL (fo fi : DTE) : DTG := fun x ρ μ Q => fo ρ μ fun o μ1 => fi ρ μ1 fun i μ2 => match o, i with
  | .ptr a, .dat (.int k) => ∃ (j : Nat) (xs : List Val) (m : Nat), μ2[j]? = some (a, Node.lst xs) ∧ ixN xs.length k = some m ∧ Q ρ (μ2.set j (a, .lst (xs.set m x)))
  | _, _ => False
theorem dg_setL {a b : Expr} {fo fi : DTE} {pos : Pos} (h1 : ∀ B : Base, PG X (.Subscript a b pos) (gSub (up X B fo) (up X B fi) rSetL)) : DG X (.Subscript a b pos) (zSetL fo fi) :=
  ⟨fun B => PG.weak (h1 B) fun v σ H Q ⟨hv, hx, x, ρ, μ, Q0, l, R, q, low⟩ => by
    refine ⟨some v :: hv, some x :: hx, ρ, μ, _, by simp [l], R, q, fun o μ1 q1 vo H1 R1 => ?_⟩
    refine ⟨some vo :: some v :: hv, some o :: some x :: hx, ρ, μ1, _, by simp [l], R1, q1, fun i μ2 q2 vi H2 R2 => ?_⟩
    have hi := R2.head
    have ho := R2.tail.head
    match o, i, q2, hi, ho with
    | .ptr a, .dat (.int k), q2, hi, ho =>
      cases (hi : Dz _ vi (.int k))
      cases (ho : vo = .ref a)
      obtain ⟨j, xs, m, hj, hm, q3⟩ := q2
      obtain ⟨vs, e, r⟩ := R2.at hj
      refine ⟨a, vs, k, m, rfl, rfl, e, by rw [r.length]; exact hm, low _ _ q3 _ _ ?_⟩
      have R3 := R2.tail.tail
      exact (R3.put (n' := .lst (xs.set m x)) hj ⟨_, upd_same, paired_set m r R3.head⟩).tail⟩
abbrev dAsg (f : DTE) (g : DTG) : DTS := fun E ρ μ => f ρ μ fun x μ1 => g x ρ μ1 E.nx
theorem ds_asg {tg e : Expr} {f : DTE} {g : DTG} {pos : Pos} (he : DE X e f) (hg : DG X tg g) (hs : swapsWithSole [tg] e pos.line X.env = pure false := by rfl) (hw : swappedStores [tg] e X.env = pure none := by rfl)
    (h1 : (assignEach [tg] X.env).map (·.2) = [assign tg X.env] := by rfl) : DS X (.Assign [tg] e pos) (dAsg f g) :=
  ⟨fun B => PS.weak (ps_asg (he.run B) (hg.run B) hs hw h1) fun D σ H ⟨ρ, μ, E, R, q, b⟩ => ⟨[], [], ρ, μ, _, rfl, R, q, fun x μ1 q1 v H1 R1 => ⟨[], [], x, ρ, μ1, _, rfl, R1, q1, fun ρ' μ' q' σ' H' R' => b.nx _ _ q' _ _ R'⟩⟩⟩
abbrev dSet (i : Nat) (f : DTE) : DTS := fun E ρ μ => f ρ μ fun x μ1 => E.nx (ρ.set i (some x)) μ1
theorem ds_of_set {i : Nat} {s : Stmt} {f : DTE} (h : ∀ B : Base, PS X s (tAsg (up X B f) (gName i))) : DS X s (dSet i f) :=
  ⟨fun B => PS.weak (h B) fun D σ H ⟨ρ, μ, E, R, q, b⟩ => ⟨[], [], ρ, μ, _, rfl, R, q, fun x μ1 q1 v H1 R1 => b.nx _ _ q1 _ _ (RL.into (hv := []) (hx := []) rfl R1 i)⟩⟩
end
end Zl
namespace Zl
open PySem PySem.Spec PyProof.Rows L2 Lf
section
variable {X : Cx}
theorem PG.ex {α : Type} {e : Expr} {t : α → TG} (h : ∀ a, PG X e (t a)) : PG X e (fun v σ H Q => ∃ a, t a v σ H Q) := ⟨fun pins s σ H v u Q I r ⟨a, q⟩ => (h a).run pins s σ H v u Q I r q⟩
theorem PSs.ex {α : Type} {e : List Stmt} {t : α → TS} (h : ∀ a, PSs X e (t a)) : PSs X e (fun D σ H => ∃ a, t a D σ H) := ⟨fun pins s σ H D I ⟨a, q⟩ => (h a).run pins s σ H D I q⟩
theorem PE.ex {α : Type} {e : Expr} {t : α → TE} (h : ∀ a, PE X e (t a)) : PE X e (fun σ H Q => ∃ a, t a σ H Q) := ⟨fun pins s σ H Q I ⟨a, q⟩ => (h a).run pins s σ H Q I q⟩
theorem PT.ex {α : Type} {e : Expr} {t : α → TT} (h : ∀ a, PT X e (t a)) : PT X e (fun σ H Q => ∃ a, t a σ H Q) := ⟨fun pins s σ H Q I ⟨a, q⟩ => (h a).run pins s σ H Q I q⟩
theorem PTs.ex {α : Type} {e : List Expr} {t : α → TT} (h : ∀ a, PTs X e (t a)) : PTs X e (fun σ H Q => ∃ a, t a σ H Q) := ⟨fun pins s σ H Q I ⟨a, q⟩ => (h a).run pins s σ H Q I q⟩
theorem PI.weak {tg e : Expr} {t t' : TI} (h : PI X tg e t) (w : ∀ σ H Q, t' σ H Q → t σ H Q) : PI X tg e t' := ⟨fun pins s σ H R I q => h.run pins s σ H R I (w _ _ _ q)⟩
theorem PI.or {tg e : Expr} {t t' : TI} (h : PI X tg e t) (h' : PI X tg e t') : PI X tg e (fun σ H R => t σ H R ∨ t' σ H R) := ⟨fun pins s σ H R I q => by
  rcases q with q | q
  · exact h.run pins s σ H R I q
  · exact h'.run pins s σ H R I q⟩
/-! ### what is walked -/
structure SeqZ (X : Cx) (B : Base) (J : It) (ys : List Val) (ok : Store → Prop) : Prop where
  go : ∀ σ ρ H μ i, RL X.w X.K B H σ ρ μ → ok μ → i < ys.length → J.go i H ∧ ∀ x H', J.yld i H x H' → ∃ y, ys[i]? = some y ∧ RL X.w X.K B H' (some x :: σ) (some y :: ρ) μ
  stop : ∀ σ ρ H μ, RL X.w X.K B H σ ρ μ → ok μ → J.stop ys.length H
  more : ∀ μ q, ok μ → ok (μ ++ [q])
abbrev DTI := DR → Store → (List Val → (Store → Prop) → Store → Prop) → Prop
/-- all that nobody changes at this moment stays -/
abbrev firm (B : Base) (μ : Store) (H : Hp) : Base := ⟨Fz (B.fr ++ μ) H, B.fr⟩
def upI (X : Cx) (B : Base) (f : DTI) : TI := fun σ H R => ∃ (hv : List (Option V)) (hx ρ : DR) (μ : Store) (Q0 : List Val → (Store → Prop) → Store → Prop), hv.length = hx.length ∧ RL X.w X.K B H (hv ++ σ) (hx ++ ρ) μ ∧ f ρ μ Q0 ∧
  ∀ ys ok μ', Q0 ys ok μ' → ∀ J H', RL X.w X.K B H' (hv ++ σ) (hx ++ ρ) μ' → SeqZ X (firm B μ' H') J ys ok → R J H'
structure DI (X : Cx) (tg e : Expr) (f : DTI) : Prop where
  run : ∀ B : Base, PI X tg e (upI X B f)
theorem RL.firm {w : World} {K : PySem.W.Frag} {B : Base} {H : Hp} {σ : List (Option V)} {ρ : DR} {μ : Store} (R : RL w K B H σ ρ μ) : RL w K (firm B μ H) H σ ρ μ := ⟨R.nd, fun _ _ h => h, R.sl, R.st⟩
theorem RL.back {w : World} {K : PySem.W.Frag} {B : Base} {H H' : Hp} {σ σ' : List (Option V)} {ρ ρ' : DR} {μ μ' : Store} (R : RL w K B H σ ρ μ) (R' : RL w K (Zl.firm B μ H) H' σ' ρ' μ') : RL w K B H' σ' ρ' μ' := ⟨R'.nd, fun _ _ h => R'.base _ _ (R.base _ _ h), R'.sl, R'.st⟩
theorem Below.firm {B : Base} {H : Hp} {σ : List (Option V)} {ρ : DR} {μ : Store} {E : DEnds} {D : Ends} (R : RL X.w X.K B H σ ρ μ) (b : Below X B E D) : Below X (Zl.firm B μ H) E D :=
  ⟨fun _ _ q _ _ R' => b.nx _ _ q _ _ (R.back R'), fun _ _ q _ _ R' => b.rt _ _ q _ _ (R.back R'), fun _ _ q _ _ R' => b.bk _ _ q _ _ (R.back R'), fun _ _ q _ _ R' => b.ct _ _ q _ _ (R.back R')⟩
def rangeZ (lo : Int) (n : Nat) : List Val := (List.range n).map fun i : Nat => .dat (.int (lo + (i : Int)))
theorem rangeZ_len {lo : Int} {n : Nat} : (rangeZ lo n).length = n := by unfold rangeZ; rw [List.length_map, List.length_range]
theorem rangeZ_get {lo : Int} {n i : Nat} (h : i < n) : (rangeZ lo n)[i]? = some (.dat (.int (lo + (i : Int)))) := by
  unfold rangeZ
  rw [List.getElem?_map, List.getElem?_range h]
  rfl
theorem seq_range {B : Base} {lo : Int} {n : Nat} : SeqZ X B (Itr lo n) (rangeZ lo n) fun _ => True :=
  ⟨fun σ ρ H μ i R _ hi => by
    rw [rangeZ_len] at hi
    refine ⟨hi, fun x H' y => ?_⟩
    obtain ⟨rfl, rfl⟩ := y
    exact ⟨_, rangeZ_get hi, R.cons (.int _)⟩, fun σ ρ H μ R _ => by
    rw [rangeZ_len]
    exact Nat.le_refl n, fun _ _ _ => trivial⟩
/-- a list or tuple that is walked stays -/
def keeps (x : Val) (xs : List Val) : Store → Prop := match x with
  | .ptr a => fun μ => ∃ j : Nat, μ[j]? = some (a, Node.lst xs)
  | _ => fun _ => True
theorem its_firm {B : Base} {H : Hp} {σ : List (Option V)} {ρ : DR} {μ : Store} {v : V} {x : Val} {b : Bool} {xs : List Val} (R : RL X.w X.K B H σ ρ μ) (h : Its μ x b xs) (r : RV X.K (Fz (B.fr ++ μ) H) v x) :
    ∃ a, v = .ref a ∧ (∃ vs, if b = true then SqT X.K H a vs else SqL X.K H a vs) ∧ ∀ σ' ρ' H' μ', RL X.w X.K (firm B μ H) H' σ' ρ' μ' → keeps x xs μ' → ∃ vs, (if b = true then SqT X.K H' a vs else SqL X.K H' a vs) ∧ Paired (RV X.K (Fz (B.fr ++ μ') H')) vs xs := by
  cases h with
  | d ds =>
    cases (r : Dz _ _ (.list ds)) with
    | lst h1 h2 => exact ⟨_, rfl, ⟨_, SqL.of (fz_le _ _ h1)⟩, fun σ' ρ' H' μ' R' _ => ⟨_, SqL.of (fz_le _ _ (R'.base _ _ h1)), dz_all (DzAll.mono R'.base _ _ h2)⟩⟩
  | t ds =>
    cases (r : Dz _ _ (.tuple ds)) with
    | tup h1 h2 => exact ⟨_, rfl, ⟨_, SqT.of (fz_le _ _ h1)⟩, fun σ' ρ' H' μ' R' _ => ⟨_, SqT.of (fz_le _ _ (R'.base _ _ h1)), dz_all (DzAll.mono R'.base _ _ h2)⟩⟩
  | p j hj =>
    obtain ⟨vs, e, _⟩ := R.at hj
    refine ⟨_, r, ⟨vs, SqL.of e⟩, fun σ' ρ' H' μ' R' k => ?_⟩
    obtain ⟨j', hj'⟩ := k
    obtain ⟨vs', e', h'⟩ := R'.at hj'
    exact ⟨vs', SqL.of e', h'⟩
  | s ns =>
    obtain ⟨a, e, h⟩ := r
    exact ⟨a, e, ⟨_, sqL_mono fz_le h⟩, fun σ' ρ' H' μ' R' _ => ⟨_, sqL_mono fz_le (sqL_mono R'.base h), ints_all ns⟩⟩
theorem seq_its {B : Base} {a : Addr} {x : Val} {b : Bool} {xs : List Val} (h : ∀ σ' ρ' H' μ', RL X.w X.K B H' σ' ρ' μ' → keeps x xs μ' → ∃ vs, (if b = true then SqT X.K H' a vs else SqL X.K H' a vs) ∧ Paired (RV X.K (Fz (B.fr ++ μ') H')) vs xs) :
    SeqZ X B (if b = true then Itt X.K a else Itl X.K a) xs (keeps x xs) := by
  refine ⟨fun σ ρ H μ i R k hi => ?_, fun σ ρ H μ R k => ?_, fun μ q k => ?_⟩
  rotate_left 2
  · unfold keeps at k ⊢
    split at k
    · obtain ⟨j, hj⟩ := k
      exact ⟨j, by rw [List.getElem?_append_left (List.getElem?_eq_some_iff.mp hj).1]; exact hj⟩
    · trivial
  · obtain ⟨vs, h1, h2⟩ := h σ ρ H μ R k
    have hi' : i < vs.length := by rw [h2.length]; exact hi
    have e := List.getElem?_eq_getElem hi'
    have ey := List.getElem?_eq_getElem hi
    obtain ⟨v, ev, rv⟩ := paired_get h2 ey
    cases b with
    | true =>
      refine ⟨⟨vs, _, h1, e⟩, fun z H' y => ?_⟩
      obtain ⟨rfl, y⟩ := y
      have := y vs h1
      rw [ev] at this
      cases this
      exact ⟨_, ey, R.cons rv⟩
    | false =>
      refine ⟨⟨vs, _, h1, e⟩, fun z H' y => ?_⟩
      obtain ⟨rfl, y⟩ := y
      have := y vs h1
      rw [ev] at this
      cases this
      exact ⟨_, ey, R.cons rv⟩
  · obtain ⟨vs, h1, h2⟩ := h σ ρ H μ R k
    cases b with
    | true => exact ⟨vs, h1, Nat.le_of_eq h2.length⟩
    | false => exact ⟨vs, h1, Nat.le_of_eq h2.length⟩
/-- a list, a tuple or a text, as it comes -/
def iAny (K : PySem.W.Frag) (te : TE) : TI := fun σ H R => te σ H fun x G => (∃ a xs, x = .ref a ∧ SqL K G a xs ∧ R (Itl K a) G) ∨ (∃ a xs, x = .ref a ∧ SqT K G a xs ∧ R (Itt K a) G) ∨ ∃ z, x = .str z ∧ R (L2.Its z) G
theorem pi_any {tg e : Expr} {te : TE} (pe : PE X e te) : PI X tg e (iAny X.K te) :=
  ⟨fun pins s σ H R J h => thn (pe.run pins s σ H _ J h) fun u z ⟨x, G, JG, rx, q⟩ => by
    have here : ∀ c : Addr, c ∈ [z.heap.objs.size] → FpOk X pins G c := fun c hc => by
      rw [List.mem_singleton.mp hc]
      exact JG.fpOk (Nat.le_refl _) (JG.hok.fresh (Nat.le_refl _))
    rcases q with ⟨a, xs, rfl, sq, q⟩ | ⟨a, xs, rfl, sq, q⟩ | ⟨w, rfl, q⟩
    · obtain rfl : u = .ref a := rx
      obtain ⟨its, _, lay, _⟩ := JG.list sq
      exact wpAny_pyIter_list lay.isList ⟨_, [z.heap.objs.size], _, _, G, rfl, JG.kept (t' := z.toks) (fun _ _ m => Heap.get?_push_of_some _ m), turn_list a _, ⟨_, Heap.get?_push_size _ rfl, rfl, rfl⟩, here, q⟩
    · obtain rfl : u = .ref a := rx
      obtain ⟨its, _, lay, _⟩ := JG.tuple sq
      exact wpAny_pyIter_tuple (items := its.toArray) lay ⟨_, [z.heap.objs.size], _, _, G, rfl, JG.kept (t' := z.toks) (fun _ _ m => Heap.get?_push_of_some _ m), turn_tuple a _, ⟨_, Heap.get?_push_size _ rfl, rfl, rfl⟩, here, q⟩
    · obtain ⟨t, rfl⟩ := rx
      cases asc : w.cps.all (· < 128)
      · exact wpAny_pyIter_wide asc (pi_one (tk := z.toks) JG _ (turn_str _ w t "str_iterator" (.inr rfl)) ⟨_, Heap.get?_push_size _ rfl, rfl, rfl⟩ q)
      · exact wpAny_pyIter_ascii asc (pi_one (tk := z.toks) JG _ (turn_str _ w t "str_ascii_iterator" (.inl rfl)) ⟨_, Heap.get?_push_size _ rfl, rfl, rfl⟩ q)⟩
def signsZ (z : Str) : List Val := z.cps.toList.map fun c => .dat (.str ⟨#[c]⟩)
theorem seq_str {B : Base} {z : Str} : SeqZ X B (L2.Its z) (signsZ z) fun _ => True :=
  ⟨fun σ ρ H μ i R _ hi => by
    unfold signsZ at hi ⊢
    rw [List.length_map] at hi
    refine ⟨(show i < z.cps.size by simpa using hi), fun x H' y => ?_⟩
    obtain ⟨rfl, c, ec, rfl⟩ := y
    refine ⟨.dat (.str ⟨#[c]⟩), ?_, R.cons (x := .dat (.str ⟨#[c]⟩)) (Dz.str _)⟩
    rw [List.getElem?_map, Array.getElem?_toList, ec]
    rfl, fun σ ρ H μ R _ => by
    unfold signsZ
    rw [List.length_map]
    show z.cps.size ≤ z.cps.toList.length
    simp, fun _ _ _ => trivial⟩
/-- over data, over the script, over a list of one's own that stays -/
abbrev dSeqI (f : DTE) : DTI := fun ρ μ Q => f ρ μ fun x μ1 => match x with
  | .dat (.list ds) => Q (ds.map .dat) (fun _ => True) μ1
  | .dat (.tuple ds) => Q (ds.map .dat) (fun _ => True) μ1
  | .dat (.str z) => Q (signsZ z) (fun _ => True) μ1
  | .scr ns => Q (ns.map fun n => .dat (.int n)) (fun _ => True) μ1
  | .ptr a => ∃ (j : Nat) (xs : List Val), μ1[j]? = some (a, Node.lst xs) ∧ Q xs (fun μ => ∃ j : Nat, μ[j]? = some (a, Node.lst xs)) μ1
  | _ => False
theorem di_seq {tg e : Expr} {f : DTE} (h : DE X e f) : DI X tg e (dSeqI f) :=
  ⟨fun B => PI.weak (pi_any (h.run B)) fun σ H R q => by
    obtain ⟨hv, hx, ρ, μ, Q0, hl, R0, q, low⟩ := q
    refine ⟨hv, hx, ρ, μ, _, hl, R0, q, fun x μ1 q v H1 R1 => ?_⟩
    have key : ∀ (b : Bool) (xs : List Val), Its μ1 x b xs → Q0 xs (keeps x xs) μ1 → (∃ a vs, v = .ref a ∧ SqL X.K H1 a vs ∧ R (Itl X.K a) H1) ∨ (∃ a vs, v = .ref a ∧ SqT X.K H1 a vs ∧ R (Itt X.K a) H1) ∨ ∃ z, v = .str z ∧ R (L2.Its z) H1 := fun b xs h q => by
      obtain ⟨a, e, ⟨vs, ex⟩, st⟩ := its_firm R1 h R1.head
      have sq := seq_its st
      cases b with
      | true => exact .inr (.inl ⟨a, vs, e, ex, low _ _ _ q _ _ R1.tail sq⟩)
      | false => exact .inl ⟨a, vs, e, ex, low _ _ _ q _ _ R1.tail sq⟩
    split at q
    · exact key _ _ (.d _) q
    · exact key _ _ (.t _) q
    · have hd := R1.head
      cases (hd : Dz _ v (.str _))
      exact .inr (.inr ⟨_, rfl, low _ _ _ q _ _ R1.tail seq_str⟩)
    · exact key _ _ (.s _) q
    · obtain ⟨j, xs, hj, q⟩ := q
      exact key _ _ (.p j hj) q
    · exact q.elim⟩
/-- range(n), range(a, b) -/
abbrev dRange1 (g : DTA) : DTI := fun ρ μ Q => g ρ μ fun xs μ1 => match xs with
  | [.dat (.int j)] => -(2 ^ 62) ≤ j ∧ j < 2 ^ 62 ∧ Q (rangeZ 0 j.toNat) (fun _ => True) μ1
  | _ => False
abbrev dRange2 (g : DTA) : DTI := fun ρ μ Q => g ρ μ fun xs μ1 => match xs with
  | [.dat (.int i), .dat (.int j)] => (-(2 ^ 62) ≤ i ∧ i < 2 ^ 62 ∧ -(2 ^ 62) ≤ j ∧ j < 2 ^ 62) ∧ Q (rangeZ i (j - i).toNat) (fun _ => True) μ1
  | _ => False
theorem di_range1 {tg a : Expr} {g : DTA} {p pos : Pos} (hg : Gl X "range") (hm : X.mg "range" = none) (h : DA X [a] g) (hs : starEach [a] X.env = [(false, eval a X.env)] := by rfl) : DI X tg (.Call (.Name "range" p) [a] [] pos) (dRange1 g) :=
  ⟨fun B => PI.weak (pi_range1 hg hm (h.run B) hs) fun σ H R q => by
    obtain ⟨hv, hx, ρ, μ, Q0, hl, R0, q, low⟩ := q
    refine ⟨hv, hx, ρ, μ, _, hl, R0, q, fun xs μ1 q vs H1 l R1 => ?_⟩
    match xs, vs, l, R1, q with
    | [.dat (.int j)], [v], l, R1, q =>
      have hd := R1.head
      cases (hd : Dz _ v (.int j))
      exact ⟨j, rfl, q.1, q.2.1, low _ _ _ q.2.2 _ _ R1.tail seq_range⟩⟩
theorem di_range2 {tg a b : Expr} {g : DTA} {p pos : Pos} (hg : Gl X "range") (hm : X.mg "range" = none) (h : DA X [a, b] g) (hs : starEach [a, b] X.env = [(false, eval a X.env), (false, eval b X.env)] := by rfl)
    (hs2 : starEach [b] X.env = [(false, eval b X.env)] := by rfl) : DI X tg (.Call (.Name "range" p) [a, b] [] pos) (dRange2 g) :=
  ⟨fun B => PI.weak (pi_range2 hg hm (h.run B) hs hs2) fun σ H R q => by
    obtain ⟨hv, hx, ρ, μ, Q0, hl, R0, q, low⟩ := q
    refine ⟨hv, hx, ρ, μ, _, hl, R0, q, fun xs μ1 q vs H1 l R1 => ?_⟩
    match xs, vs, l, R1, q with
    | [.dat (.int i), .dat (.int j)], [v, u], l, R1, q =>
      have hd := R1.head
      have he := R1.tail.head
      cases (hd : Dz _ v (.int i))
      cases (he : Dz _ u (.int j))
      exact ⟨i, j, rfl, q.1, low _ _ _ q.2 _ _ R1.tail.tail seq_range⟩⟩
/-! ### for -/
/-- what nobody wants any more is forgotten -/
def less (P : DR → Store → Prop) : DR → Store → Prop := fun ρ μ => ∃ μ', List.Sublist μ' μ ∧ P ρ μ'
abbrev dFor (fi : DTI) (g : DTG) (tb : DTS) : DTS := fun E ρ μ => fi ρ μ fun ys ok μ1 => ∃ I : Nat → DR → Store → Prop, I 0 ρ μ1 ∧ (∀ i ρ μ, i ≤ ys.length → I i ρ μ → ok μ) ∧
  (∀ i y ρ μ, ys[i]? = some y → I i ρ μ → g y ρ μ fun ρ' μ' => tb { nx := less (I (i + 1)), rt := E.rt, bk := E.nx, ct := less (I (i + 1)) } ρ' μ') ∧ ∀ ρ μ, I ys.length ρ μ → E.nx ρ μ
theorem ds_for {tg e : Expr} {body : List Stmt} {fi : DTI} {g : DTG} {tb : DTS} {pos : Pos} (hp : PassesOwn (model X.prog X.w) X.A X.env X.xe) (hc : X.calm = true) (hi : DI X tg e fi) (hg : DG X tg g) (hb : DSs X body tb)
    (hs : ∀ x, foldedSetIterable e X.env x = pure x := by intro _; rfl) : DS X (.For tg e body [] pos) (dFor fi g tb) :=
  ⟨fun B => PS.weak (ps_for hp hc (hi.run B) (PG.ex fun B' => hg.run B') (PSs.ex fun B' => hb.run B') hs) fun D σ H q => by
    obtain ⟨ρ, μ, E, R0, q, b⟩ := q
    refine ⟨[], [], ρ, μ, _, rfl, R0, q, fun ys ok μ1 q J H1 R1 sz => ?_⟩
    obtain ⟨I, i0, iok, turn, fin⟩ := q
    have R1 : RL X.w X.K B H1 σ ρ μ1 := R1
    have bf := b.firm R1
    refine ⟨fun i m σ' H' => m = ys.length - i ∧ i ≤ ys.length ∧ ∃ ρ' μ', RL X.w X.K (firm B μ1 H1) H' σ' ρ' μ' ∧ I i ρ' μ', ⟨ys.length, by simp, Nat.zero_le _, ρ, μ1, R1.firm, i0⟩, ?_⟩
    rintro i m σ' H' ⟨rfl, hi, ρ', μ', R', i'⟩
    have k := iok i ρ' μ' hi i'
    by_cases c : i < ys.length
    · obtain ⟨go, step⟩ := sz.go _ _ _ _ _ R' k c
      refine .inr ⟨go, fun σ2 H2 => ∃ ρ2 μ2, RL X.w X.K (firm B μ1 H1) H2 σ2 ρ2 μ2 ∧ I (i + 1) ρ2 μ2, fun σ2 H2 h => ⟨ys.length - (i + 1), by omega, rfl, c, h⟩, fun x H2 y => ?_⟩
      obtain ⟨z, ez, R2⟩ := step x H2 y
      refine ⟨firm B μ1 H1, [], [], z, ρ', μ', _, rfl, R2, turn i z ρ' μ' ez i', fun ρ3 μ3 q3 σ3 H3 R3 => ?_⟩
      exact ⟨firm B μ1 H1, ρ3, μ3, _, R3, q3, ⟨fun ρ4 μ4 ⟨μ5, s5, q4⟩ σ4 H4 R4 => ⟨ρ4, μ5, R4.less s5, q4⟩, bf.rt, fun ρ4 μ4 q4 σ4 H4 R4 => bf.nx _ _ q4 _ _ R4, fun ρ4 μ4 ⟨μ5, s5, q4⟩ σ4 H4 R4 => ⟨ρ4, μ5, R4.less s5, q4⟩⟩⟩
    · have e : i = ys.length := by omega
      subst e
      exact .inl ⟨sz.stop _ _ _ _ R' k, bf.nx _ _ (fin _ _ i') _ _ R'⟩⟩
/-! ### while -/
abbrev dWhile (c : DTT) (tb : DTS) : DTS := fun E ρ μ => ∃ (I : DR → Store → Prop) (m : DR → Store → Nat), I ρ μ ∧ ∀ ρ μ, I ρ μ → c ρ μ fun b μ1 => if b = true then
  tb { nx := less fun ρ' μ' => I ρ' μ' ∧ m ρ' μ' < m ρ μ, rt := E.rt, bk := E.nx, ct := less fun ρ' μ' => I ρ' μ' ∧ m ρ' μ' < m ρ μ } ρ μ1 else E.nx ρ μ1
theorem ds_while {c : Expr} {body : List Stmt} {fc : DTT} {tb : DTS} {pos : Pos} (hp : PassesOwn (model X.prog X.w) X.A X.env X.xe) (hc : DT X c fc) (hb : DSs X body tb) : DS X (.While c body [] pos) (dWhile fc tb) :=
  ⟨fun B => PS.weak (ps_while hp (hc.run B) (hb.run B)) fun D σ H q => by
    obtain ⟨ρ, μ, E, R0, ⟨I, ms, i0, turn⟩, b⟩ := q
    refine ⟨fun m σ' H' => ∃ ρ' μ', m = ms ρ' μ' ∧ RL X.w X.K B H' σ' ρ' μ' ∧ I ρ' μ', ⟨_, ρ, μ, rfl, R0, i0⟩, ?_⟩
    rintro m σ' H' ⟨ρ', μ', rfl, R', i'⟩
    refine ⟨[], [], ρ', μ', _, rfl, R', turn ρ' μ' i', fun c μ1 q H1 R1 => ?_⟩
    cases c with
    | true =>
      refine ⟨fun σ2 H2 => ∃ ρ2 μ2, RL X.w X.K B H2 σ2 ρ2 μ2 ∧ I ρ2 μ2 ∧ ms ρ2 μ2 < ms ρ' μ', fun σ2 H2 ⟨ρ2, μ2, r, i, l⟩ => ⟨_, l, ρ2, μ2, rfl, r, i⟩, ρ', μ1, _, R1, q, ⟨fun ρ4 μ4 ⟨μ5, s5, q4⟩ σ4 H4 R4 => ⟨ρ4, μ5, R4.less s5, q4⟩, b.rt, fun ρ4 μ4 q4 σ4 H4 R4 => b.nx _ _ q4 _ _ R4, fun ρ4 μ4 ⟨μ5, s5, q4⟩ σ4 H4 R4 => ⟨ρ4, μ5, R4.less s5, q4⟩⟩⟩
    | false => exact b.nx _ _ q _ _ R1⟩
end
end Zl
namespace Zl
open PySem PySem.Spec PyProof.Rows L2 Lf
section
variable {X : Cx}
/-! ### list comprehensions -/
def wipeZ (ρ : DR) : List Nat → DR
  | [] => ρ
  | v :: vs => (wipeZ ρ vs).set v none
theorem wipe_pair {K : PySem.W.Frag} {Z : Hp} {σ : L2.St} {ρ : DR} (h : Paired (RVo K Z) σ ρ) : ∀ vs : List Nat, Paired (RVo K Z) (wipe σ vs) (wipeZ ρ vs)
  | [] => h
  | v :: vs => paired_set v (wipe_pair h vs) trivial
/-- tests of a comprehension -/
structure DTs (X : Cx) (es : List Expr) (f : DTT) : Prop where
  run : ∀ B : Base, PTs X es (upT X B f)
abbrev dYes : DTT := fun _ μ Q => Q true μ
theorem PTs.weak {e : List Expr} {t t' : TT} (h : PTs X e t) (w : ∀ σ H Q, t' σ H Q → t σ H Q) : PTs X e t' := ⟨fun pins s σ H Q I q => h.run pins s σ H Q I (w _ _ _ q)⟩
theorem dts_nil : DTs X [] dYes := ⟨fun B => PTs.weak pts_nil fun σ H Q ⟨hv, hx, ρ, μ, Q0, hl, R0, q, low⟩ => low _ _ q _ R0⟩
theorem dts_one {c : Expr} {f : DTT} (h : DT X c f) : DTs X [c] f := ⟨fun B => pts_one (h.run B)⟩
/-- the target of a comprehension: a name, or a tuple of names -/
def PutOk (X : Cx) (g : TG) (vs : List Nat) (put : Val → DR → Option DR) : Prop :=
  ∀ (B : Base) (σ : L2.St) (ρ ρ2 : DR) (H : Hp) (μ : Store) (v : V) (x : Val) (hv : List (Option V)) (hx : DR) (Q : L2.St → Hp → Prop), hv.length = hx.length → RL X.w X.K B H (some v :: (hv ++ wipe σ vs)) (some x :: (hx ++ wipeZ ρ vs)) μ → put x (wipeZ ρ vs) = some ρ2 →
    (∀ σ2, wipe σ2 vs = wipe σ vs → RL X.w X.K B H (hv ++ σ2) (hx ++ ρ2) μ → Q σ2 H) → g v (wipe σ vs) H Q
theorem wipe_set {σ : L2.St} {i : Nat} {x : Option V} : ∀ {vs : List Nat}, i ∈ vs → wipe (σ.set i x) vs = wipe σ vs
  | v :: vs, h => by
    unfold wipe
    by_cases e : i ∈ vs
    · rw [wipe_set e]
    · have e2 : i = v := by
        rcases List.mem_cons.mp h with z | z
        · exact z
        · exact absurd z e
      subst e2
      have : ∀ vs : List Nat, (wipe (σ.set i x) vs).set i none = (wipe σ vs).set i none := fun vs => by
        induction vs with
        | nil =>
          unfold wipe
          rw [List.set_set]
        | cons w ws ih =>
          unfold wipe
          by_cases ew : w = i
          · subst ew
            rw [List.set_set, List.set_set, ih]
          · rw [List.set_comm _ _ ew, List.set_comm _ _ ew, ih]
      exact this vs
theorem wipe_idem {σ : L2.St} {vs : List Nat} : wipe (wipe σ vs) vs = wipe σ vs := by
  have : ∀ us : List Nat, (∀ u ∈ us, u ∈ vs) → wipe (wipe σ us) vs = wipe σ vs := fun us => by
    induction us with
    | nil => intro _; rfl
    | cons u us ih =>
      intro h
      show wipe ((wipe σ us).set u none) vs = _
      rw [wipe_set (h u (List.mem_cons_self ..)), ih fun w hw => h w (List.mem_cons_of_mem _ hw)]
  exact this vs fun _ h => h
def putN (i : Nat) : Val → DR → Option DR := fun x ρ => some (ρ.set i (some x))
theorem put_name {i : Nat} {vs : List Nat} (hi : i ∈ vs) : PutOk X (gName i) vs (putN i) :=
  fun B σ ρ ρ2 H μ v x hv hx Q l R e q => by
    cases e
    exact q _ (by rw [wipe_set hi, wipe_idem]) (R.into l i)
def setsZ : List Nat → List PyData → DR → DR
  | i :: is, d :: ds, ρ => setsZ is ds (ρ.set i (some (.dat d)))
  | _, _, ρ => ρ
def gNames : List Nat → TGs
  | [] => gNil
  | i :: is => gCons (gName i) (gNames is)
def putT (is : List Nat) : Val → DR → Option DR := fun x ρ => match x with | .dat (.tuple ds) => if ds.length = is.length then some (setsZ is ds ρ) else none | _ => none
theorem put_tup {is vs : List Nat} {n : Nat} (hn : is.length = n) (hi : ∀ i ∈ is, i ∈ vs) : PutOk X (gTup X.K n (gNames is)) vs (putT is) :=
  fun B σ ρ ρ2 H μ v x hv hx Q l R e q => by
    have hd := R.head
    match x, e, hd with
    | .dat (.tuple ds), e, hd =>
      unfold putT at e
      dsimp only at e
      split at e
      · rename_i el
        cases e
        cases (hd : Dz _ v (.tuple ds)) with
        | tup h1 h2 =>
          refine ⟨_, _, rfl, SqT.of (fz_le _ _ h1), ((dzAll_len h2).trans el).trans hn, ?_⟩
          have : ∀ (is : List Nat) (ds : List PyData) (us : List V) (σ' : L2.St) (ρ' : DR), is.length = ds.length → (∀ i ∈ is, i ∈ vs) → DzAll (Fz (B.fr ++ μ) H) us ds → wipe σ' vs = wipe σ vs → RL X.w X.K B H (hv ++ σ') (hx ++ ρ') μ →
              (∀ σ2, wipe σ2 vs = wipe σ vs → RL X.w X.K B H (hv ++ σ2) (hx ++ setsZ is ds ρ') μ → Q σ2 H) → gNames is us σ' H Q := by
            intro is
            induction is with
            | nil =>
              intro ds us σ' ρ' l1 _ h2 hw R' q
              have e1 : ds = [] := List.eq_nil_of_length_eq_zero (by simpa using l1.symm)
              subst e1
              cases h2
              exact ⟨rfl, q _ hw R'⟩
            | cons i is ih =>
              intro ds us σ' ρ' l1 hm h2 hw R' q
              match ds, l1, h2, q with
              | d :: ds, l1, h2, q =>
                cases h2 with
                | cons h3 h4 =>
                  refine ⟨_, _, rfl, ih ds _ _ _ (by simpa using l1) (fun j hj => hm j (List.mem_cons_of_mem _ hj)) h4 ?_ ?_ q⟩
                  · rw [wipe_set (hm i (List.mem_cons_self ..)), hw]
                  · obtain ⟨p1, p2⟩ := paired_split l R'.sl
                    exact R'.slots (paired_app p1 (paired_set i p2 h3))
          exact this is ds _ _ _ el.symm hi h2 wipe_idem R.tail q
      · cases e
abbrev dLc (fi : DTI) (put : Val → DR → Option DR) (ft : DTT) (fe : DTE) (vs : List Nat) : DTE := fun ρ μ Q => fi ρ μ fun ys ok μ1 => ∃ I : Nat → List Val → Store → Prop, I 0 [] μ1 ∧ (∀ k acc μ, k ≤ ys.length → I k acc μ → ok μ) ∧
  (∀ k y acc μ, ys[k]? = some y → I k acc μ → ∃ ρ2, put y (wipeZ ρ vs) = some ρ2 ∧ ft ρ2 μ fun b μ2 => if b = true then fe ρ2 μ2 fun x μ3 => acc.length < sizeLine ∧ ∃ μ4, List.Sublist μ4 μ3 ∧ I (k + 1) (acc ++ [x]) μ4 else ∃ μ4, List.Sublist μ4 μ2 ∧ I (k + 1) acc μ4) ∧
  ∀ acc μ, I ys.length acc μ → ∀ p, Q (.ptr p) (μ ++ [(p, .lst acc)])
/-- the list that is made is hidden from what is within -/
theorem RL.hide {w : World} {K : PySem.W.Frag} {B : Base} {H : Hp} {σ : List (Option V)} {ρ : DR} {μ : Store} {D : Addr} {n : Node} (R : RL w K B H σ ρ (μ ++ [(D, n)])) :
    RL w K ⟨B.hp, B.fr ++ [(D, n)]⟩ H σ ρ μ := by
  have pm : ((B.fr ++ [(D, n)]) ++ μ).Perm (B.fr ++ (μ ++ [(D, n)])) := by
    rw [List.append_assoc]
    exact List.perm_append_comm.append_left _
  refine (R.as (B' := ⟨B.hp, B.fr ++ [(D, n)]⟩) (nodup_perm pm.symm R.nd) (fun p hp => pm.mem_iff.mp hp) fun x o h => ?_).1
  obtain ⟨h1, h2⟩ := Fz.sub (R.base _ _ h)
  exact Fz.of (fun z => h1 (((pm.map (·.1)).mem_iff).mp z)) h2
theorem RL.show {w : World} {K : PySem.W.Frag} {B : Base} {H : Hp} {σ : List (Option V)} {ρ : DR} {μ : Store} {D : Addr} {n : Node} (R : RL w K ⟨B.hp, B.fr ++ [(D, n)]⟩ H σ ρ μ) : RL w K B H σ ρ (μ ++ [(D, n)]) := by
  have pm : ((B.fr ++ [(D, n)]) ++ μ).Perm (B.fr ++ (μ ++ [(D, n)])) := by
    rw [List.append_assoc]
    exact List.perm_append_comm.append_left _
  refine (R.as (B' := B) (nodup_perm pm R.nd) (fun p hp => pm.mem_iff.mpr hp) fun x o h => ?_).1
  obtain ⟨h1, h2⟩ := Fz.sub (R.base _ _ h)
  exact Fz.of (fun z => h1 (((pm.map (·.1)).mem_iff).mpr z)) h2
theorem set_last {μ : Store} {q q' : Addr × Node} : (μ ++ [q]).set μ.length q' = μ ++ [q'] := by
  rw [List.set_append_right _ _ (Nat.le_refl _), Nat.sub_self]
  rfl
theorem lc_up {B : Base} {fi : DTI} {put : Val → DR → Option DR} {ft : DTT} {fe : DTE} {vs : List Nat} {g : TG}
    (hg : PutOk X g vs put)
    {σ : L2.St} {H : Hp} {Q : VK} (q : up X B (dLc fi put ft fe vs) σ H Q) : tLc (upI X B fi) g (fun σ H Q => ∃ B', upT X B' ft σ H Q) (fun σ H Q => ∃ B', up X B' fe σ H Q) vs σ H Q := by
  obtain ⟨hv, hx, ρ, μ, Q0, hl, R0, q, low⟩ := q
  refine ⟨hv, hx, ρ, μ, _, hl, R0, q, fun ys ok μ1 q J H1 R1 sz D hD => ?_⟩
  obtain ⟨I, i0, iok, turn, fin⟩ := q
  have Rf := R1.firm
  refine ⟨fun k m H' => m = ys.length - k ∧ k ≤ ys.length ∧ ∃ acc μ', RL X.w X.K (firm B μ1 H1) H' (hv ++ σ) (hx ++ ρ) (μ' ++ [(D, .lst acc)]) ∧ I k acc μ', ⟨ys.length, by simp, Nat.zero_le _, [], μ1, Rf.new (n := .lst []) hD ⟨[], upd_same, .nil⟩, i0⟩, ?_⟩
  rintro k m H' ⟨rfl, hk, acc, μ', R', i'⟩
  have kk := iok k acc μ' hk i'
  by_cases c : k < ys.length
  · obtain ⟨go, step⟩ := sz.go _ _ _ _ _ R' (sz.more _ _ kk) c
    refine .inr ⟨go, fun H2 => ∃ acc μ2, RL X.w X.K (firm B μ1 H1) H2 (hv ++ σ) (hx ++ ρ) (μ2 ++ [(D, .lst acc)]) ∧ I (k + 1) acc μ2, fun H2 ⟨acc, μ2, h⟩ => ⟨ys.length - (k + 1), by omega, rfl, c, acc, μ2, h⟩, fun x H2 y => ?_⟩
    obtain ⟨z, ez, R2⟩ := step x H2 y
    obtain ⟨ρ2, e2, q2⟩ := turn k z acc μ' ez i'
    have Rh := R2.hide
    have pw : Paired (RVo X.K (Fz (((firm B μ1 H1).fr ++ [(D, Node.lst acc)]) ++ μ') H2)) (wipe σ vs) (wipeZ ρ vs) := wipe_pair (paired_split hl Rh.tail.sl).2 vs
    have Rw : RL X.w X.K ⟨(firm B μ1 H1).hp, (firm B μ1 H1).fr ++ [(D, .lst acc)]⟩ H2 (some x :: ((hv ++ σ) ++ wipe σ vs)) (some z :: ((hx ++ ρ) ++ wipeZ ρ vs)) μ' := Rh.slots (.cons Rh.head (paired_app Rh.tail.sl pw))
    have ll : (hv ++ σ).length = (hx ++ ρ).length := Rh.tail.sl.length
    refine hg _ σ ρ ρ2 H2 μ' x z (hv ++ σ) (hx ++ ρ) _ ll Rw e2 fun σ2 ew R3 => ⟨ew, _, hv ++ σ, hx ++ ρ, ρ2, μ', _, ll, R3, q2, fun b μ2 q3 H3 R4 => ?_⟩
    cases b with
    | false =>
      obtain ⟨μ5, s5, q3⟩ := q3
      exact ⟨acc, μ5, RL.show (B := firm B μ1 H1) ((R4.less s5).slots (paired_split ll (R4.less s5).sl).1), q3⟩
    | true =>
      refine ⟨_, hv ++ σ, hx ++ ρ, ρ2, μ2, _, ll, R4, q3, fun u μ3 q4 v H4 R5 => ?_⟩
      have R6 : RL X.w X.K (firm B μ1 H1) H4 (some v :: (hv ++ σ)) (some u :: (hx ++ ρ)) (μ3 ++ [(D, .lst acc)]) := RL.show (R5.slots (.cons R5.head (paired_split ll R5.tail.sl).1))
      have hj : (μ3 ++ [(D, Node.lst acc)])[μ3.length]? = some (D, .lst acc) := by simp
      obtain ⟨us, eD, pr⟩ := R6.at hj
      obtain ⟨q4, μ5, s5, q6⟩ := q4
      refine ⟨us, eD, by rw [pr.length]; exact q4, acc ++ [u], μ5, ?_, q6⟩
      have := R6.put (n' := .lst (acc ++ [u])) hj ⟨us ++ [v], upd_same, paired_app pr (.cons R6.head .nil)⟩
      rw [set_last] at this
      exact this.tail.less (s5.append (.refl _))
  · have e : k = ys.length := by omega
    subst e
    exact .inl ⟨sz.stop _ _ _ _ R' (sz.more _ _ kk), low _ _ (fin acc μ' i' D) _ _ ((R1.back R').cons rfl)⟩
theorem d_lc {elt tg iter : Expr} {ifs : List Expr} {scope : Scope} {own : List (Str × Nat)} {pos : Pos} {fi : DTI} {put : Val → DR → Option DR} {ft : DTT} {fe : DTE} (hc : X.calm = true) (hN : X.N.Nodup) (hi : DI X tg iter fi) (ok : BlkOk X.N X.env.scope scope own)
    {g : TG} (hp : PutOk X g (own.map (·.2)) put)
    (hg : ∀ (s : Shared) (H : Hp) (C : Addr) (cl : List (Str × Addr)) (fp : List Addr), PG (X.blk s H scope (compEnvC scope cl C X.env) fp) tg g) (ht : ∀ (s : Shared) (H : Hp) (C : Addr) (cl : List (Str × Addr)) (fp : List Addr), DTs (X.blk s H scope (compEnvC scope cl C X.env) fp) ifs ft)
    (he : ∀ (s : Shared) (H : Hp) (C : Addr) (cl : List (Str × Addr)) (fp : List Addr), DE (X.blk s H scope (compEnvC scope cl C X.env) fp) elt fe) (hs : ∀ x, foldedSetIterable iter X.env x = pure x := by intro _; rfl) :
    DE X (.ListComp elt [⟨tg, iter, ifs, 0⟩] scope pos) (dLc fi put ft fe (own.map (·.2))) :=
  ⟨fun B => PE.weak (pe_lc (tt := fun σ H Q => ∃ B', upT X B' ft σ H Q) (te := fun σ H Q => ∃ B', up X B' fe σ H Q) hc hN (hi.run B) ok hg (fun s H C cl fp => PTs.ex fun B' => (ht s H C cl fp).run B') (fun s H C cl fp => PE.ex fun B' => (he s H C cl fp).run B') hs) fun σ H Q q => lc_up hp q⟩
theorem ds_setLc {i : Nat} {y : Str} {py : Pos} {elt tg iter : Expr} {ifs : List Expr} {scope : Scope} {own : List (Str × Nat)} {pos spos : Pos} {fi : DTI} {put : Val → DR → Option DR} {ft : DTT} {fe : DTE} (hc : X.calm = true) (hN : X.N.Nodup) (hy : X.N[i]? = some y) (hyl : X.env.scope.names.lookup y = some .local)
    (hsw : swapsWith (.ListComp elt [⟨tg, iter, ifs, 0⟩] scope pos) (some (.Name y py)) spos.line X.env = pure true) (hi : DI X tg iter fi) (ok : BlkOk X.N X.env.scope scope own)
    {g : TG} (hp : PutOk X g (own.map (·.2)) put)
    (hg : ∀ (s : Shared) (H : Hp) (C : Addr) (cl : List (Str × Addr)) (fp : List Addr), PG (X.blk s H scope (compEnvC scope cl C X.env) fp) tg g) (ht : ∀ (s : Shared) (H : Hp) (C : Addr) (cl : List (Str × Addr)) (fp : List Addr), DTs (X.blk s H scope (compEnvC scope cl C X.env) fp) ifs ft)
    (he : ∀ (s : Shared) (H : Hp) (C : Addr) (cl : List (Str × Addr)) (fp : List Addr), DE (X.blk s H scope (compEnvC scope cl C X.env) fp) elt fe) (hs : ∀ x, foldedSetIterable iter X.env x = pure x := by intro _; rfl) :
    DS X (.Assign [.Name y py] (.ListComp elt [⟨tg, iter, ifs, 0⟩] scope pos) spos) (dSet i (dLc fi put ft fe (own.map (·.2)))) :=
  ⟨fun B => PS.weak (ps_setLc (tt := fun σ H Q => ∃ B', upT X B' ft σ H Q) (te := fun σ H Q => ∃ B', up X B' fe σ H Q) hc hN hy hyl hsw (hi.run B) ok hg (fun s H C cl fp => PTs.ex fun B' => (ht s H C cl fp).run B') (fun s H C cl fp => PE.ex fun B' => (he s H C cl fp).run B') hs) fun D σ H ⟨ρ, μ, E, R, q, b⟩ =>
    lc_up hp ⟨[], [], ρ, μ, _, rfl, R, q, fun x μ1 q1 v H1 R1 => b.nx _ _ q1 _ _ (RL.into (hv := []) (hx := []) rfl R1 i)⟩⟩
end
end Zl
namespace Zl
open PySem PySem.Spec PyProof.Rows L2 Lf
section
variable {X : Cx}
/-! ### methods of lists -/
structure MeZ (X : Cx) (id : String) (R : Val → List Val → Store → DK → Prop) : Prop where
  ex : ∃ r : V → List V → Hp → VK → Prop, MtR X id r ∧ ∀ (B : Base) (σ : List (Option V)) (ρ : DR) (H : Hp) (μ : Store) (v : V) (x : Val) (vs : List V) (xs : List Val) (Q0 : DK) (Q : VK), vs.length = xs.length →
    RL X.w X.K B H (vs.map some ++ (some v :: σ)) (xs.map some ++ (some x :: ρ)) μ → R x xs μ Q0 → Low X B σ ρ Q0 Q → r v vs H Q
def isL (x : Val) (μ : Store) : Prop := match x with
  | .ptr a => ∃ (j : Nat) (xs : List Val), μ[j]? = some (a, Node.lst xs)
  | .dat (.list _) => True
  | _ => False
abbrev dLM (R : Val → List Val → Store → DK → Prop) (fo : DTE) (g : DTA) : DTE := fun ρ μ Q => fo ρ μ fun x μ1 => isL x μ1 ∧ g ρ μ1 fun xs μ2 => R x xs μ2 Q
abbrev dLM0 (R : Val → List Val → Store → DK → Prop) (fo : DTE) : DTE := fun ρ μ Q => fo ρ μ fun x μ1 => isL x μ1 ∧ R x [] μ1 Q
theorem isL_ty {B : Base} {σ : List (Option V)} {ρ : DR} {H : Hp} {μ : Store} {v : V} {x : Val} (R : RL X.w X.K B H (some v :: σ) (some x :: ρ) μ) (h : isL x μ) : tyV X.K "list" v H := by
  have hd := R.head
  unfold isL at h
  split at h
  · obtain ⟨j, xs, hj⟩ := h
    obtain ⟨vs, e, _⟩ := R.at hj
    cases (hd : v = .ref _)
    exact .inl ⟨rfl, vs, SqL.of e⟩
  · cases (hd : Dz _ v (.list _)) with
    | lst h1 h2 => exact .inl ⟨rfl, _, SqL.of (fz_le _ _ h1)⟩
  · exact h.elim
theorem d_lm {o e : Expr} {es : List Expr} {fo : DTE} {g : DTA} {name : Str} {id : String} {apos cpos : Pos} {R : Val → List Val → Store → DK → Prop} (slot : Slot "list" name id) (hty : typeOf (.builtin id) = pure (.type "method_descriptor")) (m : MeZ X id R) (ho : DE X o fo) (ha : DA X (e :: es) g)
    (hbase : attributeBase o name X.env (eval o X.env) = eval o X.env := by rfl)
    (hfew : ((backTo cpos (starEach (e :: es) X.env)).all (fun x => !x.1) && (backToKw cpos (keywordEach [] X.env)).all (fun x => x.1.isSome) && decide ((e :: es).length + ([] : List Keyword).length + (if ([] : List Keyword).isEmpty then 0 else 1) < 30)) = true := by rfl)
    (hline : (apos.endLine == cpos.line) = true := by rfl) (hs : starEach (e :: es) X.env = (false, eval e X.env) :: starEach es X.env := by rfl) (hplain : (backTo cpos (starEach es X.env)).any (·.1) = false := by rfl) :
    DE X (.Call (.Attribute o name apos) (e :: es) [] cpos) (dLM R fo g) := by
  obtain ⟨r, h1, h2⟩ := m.ex
  exact ⟨fun B => PE.weak (pe_bm PySem.F.plainAttrs_list slot hty h1 (ho.run B) (ha.run B) hbase hfew hline hs hplain) fun σ H Q q => by
    obtain ⟨hv, hx, ρ, μ, Q0, hl, R0, q, low⟩ := q
    refine ⟨hv, hx, ρ, μ, _, hl, R0, q, fun x μ1 q1 v H1 R1 => ⟨isL_ty R1 q1.1, ?_⟩⟩
    refine ⟨some v :: hv, some x :: hx, ρ, μ1, _, by simp [hl], R1, q1.2, fun xs μ2 q2 vs H2 l R2 => ?_⟩
    exact h2 B _ _ _ _ _ _ _ _ _ _ l R2 q2 low⟩
theorem d_lm0 {o : Expr} {fo : DTE} {name : Str} {id : String} {apos cpos : Pos} {R : Val → List Val → Store → DK → Prop} (slot : Slot "list" name id) (hty : typeOf (.builtin id) = pure (.type "method_descriptor")) (m : MeZ X id R) (ho : DE X o fo)
    (hbase : attributeBase o name X.env (eval o X.env) = eval o X.env := by rfl) (hline : (apos.endLine == cpos.line) = true := by rfl) : DE X (.Call (.Attribute o name apos) [] [] cpos) (dLM0 R fo) := by
  obtain ⟨r, h1, h2⟩ := m.ex
  exact ⟨fun B => PE.weak (pe_bm0 PySem.F.plainAttrs_list slot hty h1 (ho.run B) hbase hline) fun σ H Q q => by
    obtain ⟨hv, hx, ρ, μ, Q0, hl, R0, q, low⟩ := q
    exact ⟨hv, hx, ρ, μ, _, hl, R0, q, fun x μ1 q1 v H1 R1 => ⟨isL_ty R1 q1.1, h2 B _ _ _ _ _ _ [] [] _ _ rfl R1 q1.2 low⟩⟩⟩
theorem one_arg' {B : Base} {σ : List (Option V)} {ρ : DR} {H : Hp} {μ : Store} {vs : List V} {x : Val} (l : vs.length = [x].length) (R : RL X.w X.K B H (vs.map some ++ σ) ([x].map some ++ ρ) μ) : ∃ v, vs = [v] ∧ RL X.w X.K B H (some v :: σ) (some x :: ρ) μ := by
  match vs, l, R with
  | [v], _, R => exact ⟨v, rfl, R⟩
def zAppend : Val → List Val → Store → DK → Prop := fun x xs μ Q => match x, xs with
  | .ptr a, [y] => ∃ (j : Nat) (ys : List Val), μ[j]? = some (a, Node.lst ys) ∧ ys.length < sizeLine ∧ Q (.dat .none) (μ.set j (a, .lst (ys ++ [y])))
  | _, _ => False
theorem me_append : MeZ X "list.append" zAppend := ⟨_, mt_append, fun B σ ρ H μ v x vs xs Q0 Q l R q low => by
  match x, xs, l, R, q with
  | .ptr a, [y], l, R, q =>
    obtain ⟨j, ys, hj, hl, q⟩ := q
    obtain ⟨u, rfl, R⟩ := one_arg' l R
    obtain ⟨us, e, pr⟩ := R.at hj
    cases (R.tail.head : v = .ref a)
    exact ⟨a, us, u, rfl, rfl, e, by rw [pr.length]; exact hl, low _ _ q _ _ ((R.put (n' := .lst (ys ++ [y])) hj ⟨_, upd_same, paired_app pr (.cons R.head .nil)⟩).tail.tail.cons .non)⟩⟩
def zExtend : Val → List Val → Store → DK → Prop := fun x xs μ Q => match x, xs with
  | .ptr a, [y] => ∃ (j : Nat) (ys zs : List Val), μ[j]? = some (a, Node.lst ys) ∧ ItL μ y zs ∧ ys.length + zs.length ≤ sizeLine ∧ Q (.dat .none) (μ.set j (a, .lst (ys ++ zs)))
  | _, _ => False
theorem me_extend : MeZ X "list.extend" zExtend := ⟨_, mt_extend, fun B σ ρ H μ v x vs xs Q0 Q l R q low => by
  match x, xs, l, R, q with
  | .ptr a, [y], l, R, q =>
    obtain ⟨j, ys, zs, hj, hi, hl, q⟩ := q
    obtain ⟨u, rfl, R⟩ := one_arg' l R
    obtain ⟨us, e, pr⟩ := R.at hj
    obtain ⟨b, ws, rfl, e2, pr2⟩ := hi.at R R.head
    cases (R.tail.head : v = .ref a)
    exact ⟨a, b, us, ws, rfl, rfl, e, e2, by rw [pr.length, pr2.length]; exact hl, low _ _ q _ _ ((R.put (n' := .lst (ys ++ zs)) hj ⟨_, upd_same, paired_app pr pr2⟩).tail.tail.cons .non)⟩⟩
def zPop : Val → List Val → Store → DK → Prop := fun x xs μ Q => match x, xs with
  | .ptr a, [] => ∃ (j : Nat) (ys : List Val) (y : Val), μ[j]? = some (a, Node.lst ys) ∧ ys[ys.length - 1]? = some y ∧ Q y (μ.set j (a, .lst ys.dropLast))
  | .ptr a, [.dat (.int i)] => ∃ (j : Nat) (ys : List Val) (k : Nat) (y : Val), μ[j]? = some (a, Node.lst ys) ∧ (-(2 ^ 63) ≤ i ∧ i < 2 ^ 63) ∧ ixN ys.length i = some k ∧ ys[k]? = some y ∧ Q y (μ.set j (a, .lst (ys.eraseIdx k)))
  | _, _ => False
theorem paired_dropLast {α β : Type} {F : α → β → Prop} : ∀ {a : List α} {b : List β}, Paired F a b → Paired F a.dropLast b.dropLast
  | _, _, .nil => .nil
  | [_], [_], .cons _ .nil => .nil
  | _ :: _ :: _, _ :: _ :: _, .cons h (.cons h2 t) => .cons h (paired_dropLast (.cons h2 t))
theorem paired_erase {α β : Type} {F : α → β → Prop} : ∀ {a : List α} {b : List β} (k : Nat), Paired F a b → Paired F (a.eraseIdx k) (b.eraseIdx k)
  | _, _, _, .nil => .nil
  | _, _, 0, .cons _ t => t
  | _, _, k + 1, .cons h t => .cons h (paired_erase k t)
theorem me_pop : MeZ X "list.pop" zPop := ⟨_, MtR.or (show MtR X "list.pop" rPop from mt_pop) (show MtR X "list.pop" rPopAt from mt_popAt), fun B σ ρ H μ v x vs xs Q0 Q l R q low => by
  match x, xs, vs, l, R, q with
  | .ptr a, [], [], l, R, q =>
    obtain ⟨j, ys, y, hj, hy, q⟩ := q
    have R : RL X.w X.K B H (some v :: σ) (some (.ptr a) :: ρ) μ := R
    obtain ⟨us, e, pr⟩ := R.at hj
    obtain ⟨u, eu, ru⟩ := paired_get pr hy
    cases (R.head : v = .ref a)
    exact .inl ⟨a, us, u, rfl, rfl, e, by rw [pr.length]; exact eu, low _ _ q _ _ (((R.tail.cons ru).put (n' := .lst ys.dropLast) hj ⟨_, upd_same, paired_dropLast pr⟩))⟩
  | .ptr a, [.dat (.int i)], vs, l, R, q =>
    obtain ⟨j, ys, k, y, hj, hi, hk, hy, q⟩ := q
    obtain ⟨w, rfl, R⟩ := one_arg' l R
    have hd := R.head
    cases (hd : Dz _ w (.int i))
    obtain ⟨us, e, pr⟩ := R.at hj
    obtain ⟨u, eu, ru⟩ := paired_get pr hy
    cases (R.tail.head : v = .ref a)
    exact .inr ⟨a, us, i, k, u, rfl, rfl, e, hi.1, hi.2, by rw [pr.length]; exact (ixN_seq hk).1, eu, low _ _ q _ _ (((R.tail.tail.cons ru).put (n' := .lst (ys.eraseIdx k)) hj ⟨_, upd_same, paired_erase k pr⟩))⟩⟩
def zReverse : Val → List Val → Store → DK → Prop := fun x xs μ Q => match x, xs with
  | .ptr a, [] => ∃ (j : Nat) (ys : List Val), μ[j]? = some (a, Node.lst ys) ∧ Q (.dat .none) (μ.set j (a, .lst ys.reverse))
  | _, _ => False
theorem paired_reverse {α β : Type} {F : α → β → Prop} : ∀ {a : List α} {b : List β}, Paired F a b → Paired F a.reverse b.reverse
  | _, _, .nil => .nil
  | _ :: _, _ :: _, .cons h t => by
    rw [List.reverse_cons, List.reverse_cons]
    exact paired_app (paired_reverse t) (.cons h .nil)
theorem me_reverse : MeZ X "list.reverse" zReverse := ⟨_, mt_reverse, fun B σ ρ H μ v x vs xs Q0 Q l R q low => by
  match x, xs, vs, l, R, q with
  | .ptr a, [], [], l, R, q =>
    obtain ⟨j, ys, hj, q⟩ := q
    have R : RL X.w X.K B H (some v :: σ) (some (.ptr a) :: ρ) μ := R
    obtain ⟨us, e, pr⟩ := R.at hj
    cases (R.head : v = .ref a)
    exact ⟨a, us, rfl, rfl, e, low _ _ q _ _ ((R.put (n' := .lst ys.reverse) hj ⟨_, upd_same, paired_reverse pr⟩).tail.cons .non)⟩⟩
theorem paired_take {α β : Type} {F : α → β → Prop} : ∀ {a : List α} {b : List β} (n : Nat), Paired F a b → Paired F (a.take n) (b.take n)
  | _, _, 0, _ => .nil
  | _, _, _ + 1, .nil => .nil
  | _, _, n + 1, .cons r t => .cons r (paired_take n t)
theorem paired_drop {α β : Type} {F : α → β → Prop} : ∀ {a : List α} {b : List β} (n : Nat), Paired F a b → Paired F (a.drop n) (b.drop n)
  | _, _, 0, r => r
  | _, _, _ + 1, .nil => .nil
  | _, _, n + 1, .cons _ t => paired_drop n t
def zInsert : Val → List Val → Store → DK → Prop := fun x xs μ Q => match x, xs with
  | .ptr a, [.dat (.int i), y] => ∃ (j : Nat) (ys : List Val), μ[j]? = some (a, Node.lst ys) ∧ ys.length < sizeLine ∧ (0 ≤ i ∧ i < 2 ^ 63) ∧ Q (.dat .none) (μ.set j (a, .lst (ys.take i.toNat ++ [y] ++ ys.drop i.toNat)))
  | _, _ => False
theorem me_insert : MeZ X "list.insert" zInsert := ⟨_, mt_insert, fun B σ ρ H μ v x vs xs Q0 Q l R q low => by
  match x, xs, vs, l, R, q with
  | .ptr a, [.dat (.int i), y], [w, u], l, R, q =>
    obtain ⟨j, ys, hj, hl, hi, q⟩ := q
    have R : RL X.w X.K B H (some w :: some u :: some v :: σ) (some (.dat (.int i)) :: some y :: some (.ptr a) :: ρ) μ := R
    have hd := R.head
    cases (hd : Dz _ w (.int i))
    obtain ⟨us, e, pr⟩ := R.at hj
    cases (R.tail.tail.head : v = .ref a)
    exact ⟨a, us, i, u, rfl, rfl, e, by rw [pr.length]; exact hl, hi.1, hi.2, low _ _ q _ _ ((R.put (n' := .lst (ys.take i.toNat ++ [y] ++ ys.drop i.toNat)) hj ⟨_, upd_same, paired_app (paired_app (paired_take _ pr) (.cons R.tail.head .nil)) (paired_drop _ pr)⟩).tail.tail.tail.cons .non)⟩⟩
/-! ### list(x), tuple(x), sorted(x), min, max -/
def itemsOf (μ : Store) (x : Val) (P : List Val → Prop) : Prop := match x with
  | .dat (.list ds) => P (ds.map .dat)
  | .dat (.tuple ds) => P (ds.map .dat)
  | .scr ns => P (ns.map fun n => .dat (.int n))
  | .ptr a => ∃ (j : Nat) (xs : List Val), μ[j]? = some (a, Node.lst xs) ∧ P xs
  | _ => False
theorem itemsOf_its {μ : Store} {x : Val} {P : List Val → Prop} (h : itemsOf μ x P) : ∃ b xs, Its μ x b xs ∧ P xs := by
  unfold itemsOf at h
  split at h
  · exact ⟨_, _, .d _, h⟩
  · exact ⟨_, _, .t _, h⟩
  · exact ⟨_, _, .s _, h⟩
  · obtain ⟨j, xs, hj, h⟩ := h
    exact ⟨_, _, .p j hj, h⟩
  · exact h.elim
theorem d_callTy {x : Str} {T : String} {R : List Val → Store → DK → Prop} {e : Expr} {es : List Expr} {g : DTA} {p pos : Pos} (c : CaZ X (.type T) R) (hg : Gl X x) (hm : X.mg x = none) (hv : bootBuiltins x = some (.type T)) (ha : DA X (e :: es) g)
    (hn : x ≠ "__name__" := by decide) (hdb : (x == ("__debug__" : Str)) = false := by decide) (he : starEach (e :: es) X.env = (false, eval e X.env) :: starEach es X.env := by rfl) (hpl : (backTo pos (starEach es X.env)).any (·.1) = false := by rfl) :
    DE X (.Call (.Name x p) (e :: es) [] pos) (dCB R g) := by
  obtain ⟨r, h1, h2⟩ := c.ex
  exact ⟨fun B => PE.weak (pe_callTy h1 hg hm hv (ha.run B) hn hdb he hpl) fun _ _ _ h => up_CB (h2 B) h⟩
def zList : List Val → Store → DK → Prop := fun xs μ Q => match xs with | [x] => itemsOf μ x fun ys => ∀ p, Q (.ptr p) (μ ++ [(p, .lst ys)]) | _ => False
theorem ca_list : CaZ X (.type "list") zList := ⟨_, call_list_of, fun B σ ρ H μ vs xs Q0 Q l R q low => by
  match xs, l, R, q with
  | [x], l, R, q =>
    obtain ⟨v, rfl, R⟩ := one_arg' l R
    obtain ⟨b, ys, hi, q⟩ := itemsOf_its (P := fun ys => ∀ p, Q0 (.ptr p) (μ ++ [(p, Node.lst ys)])) q
    obtain ⟨a, us, rfl, hs, pr⟩ := hi.at R R.head
    refine ⟨a, us, rfl, ?_, fun p hp => low _ _ (q p) _ _ ((R.tail.new (n := .lst ys) hp ⟨us, upd_same, pr⟩).cons rfl)⟩
    cases b with
    | true => exact .inr hs
    | false => exact .inl hs⟩
def zTuple : List Val → Store → DK → Prop := fun xs μ Q => match xs with | [x] => itemsOf μ x fun ys => ∃ ds, datOf ys = some ds ∧ Q (.dat (.tuple ds)) μ | _ => False
theorem datOf_map : ∀ ds : List PyData, datOf (ds.map Val.dat) = some ds
  | [] => rfl
  | d :: ds => by
    show (datOf (ds.map Val.dat)).map (d :: ·) = _
    rw [datOf_map ds]
    rfl
theorem ca_tuple : CaZ X (.type "tuple") zTuple := ⟨_, call_tuple_of, fun B σ ρ H μ vs xs Q0 Q l R q low => by
  match xs, l, R, q with
  | [x], l, R, q =>
    obtain ⟨v, rfl, R⟩ := one_arg' l R
    obtain ⟨b, ys, hi, ds, ed, q⟩ := itemsOf_its (P := fun ys => ∃ ds, datOf ys = some ds ∧ Q0 (.dat (.tuple ds)) μ) q
    have hd := R.head
    obtain ⟨a, us, rfl, hs, pr⟩ := hi.at R hd
    refine ⟨a, us, rfl, ?_⟩
    cases b with
    | true =>
      refine .inr ⟨hs, low _ _ q _ _ (R.tail.cons ?_)⟩
      cases hi with
      | t ds' =>
        rw [datOf_map] at ed
        cases ed
        exact hd
    | false =>
      refine .inl ⟨hs, fun p hp => ?_⟩
      obtain ⟨R2, g, ep⟩ := R.tail.newZ (o := .tup us) hp
      exact low _ _ q _ _ (R2.cons (.tup ep (DzAll.mono g _ _ (datOf_all pr ed))))⟩
def zSorted : List Val → Store → DK → Prop := fun xs μ Q => match xs with
  | [x] => itemsOf μ x fun ys => isL x μ ∧ ∃ ds, datOf ys = some ds ∧ PySem.W.AllAlike ds ∧ PySem.W.Sortable ds ∧ (∀ d ∈ ds, d.depth ≤ 50) ∧ ∀ p, Q (.ptr p) (μ ++ [(p, .lst ((ds.mergeSort (PySem.W.dataLe false id)).map .dat))])
  | _ => False
theorem zip_fst {K : PySem.W.Frag} {Z : Hp} : ∀ {vs : List V} {ds : List PyData}, DzAll Z vs ds → (vs.zip ds).map (·.1) = vs ∧ (vs.zip ds).map (·.2) = ds ∧ ∀ b ∈ vs.zip ds, Dz Z b.1 b.2
  | _, [], h => by cases h; exact ⟨rfl, rfl, by simp⟩
  | _, d :: ds, h => by
    cases h with
    | cons h1 h2 =>
      obtain ⟨e1, e2, e3⟩ := zip_fst (K := K) h2
      refine ⟨by simp [e1], by simp [e2], fun b hb => ?_⟩
      rcases List.mem_cons.mp hb with rfl | hb
      · exact h1
      · exact e3 b hb
theorem pair_list {K : PySem.W.Frag} {Z : Hp} : ∀ bs : List (V × PyData), (∀ b ∈ bs, Dz Z b.1 b.2) → Paired (RV K Z) (bs.map (·.1)) ((bs.map (·.2)).map Val.dat)
  | [], _ => .nil
  | b :: bs, h => .cons (h b (List.mem_cons_self ..)) (pair_list bs fun c hc => h c (List.mem_cons_of_mem _ hc))
theorem ca_sorted (hu : X.A.units + 64 < cLine) : CaZ X (.builtin "sorted") zSorted := ⟨_, Dt.cr_sortedD hu, fun B σ ρ H μ vs xs Q0 Q l R q low => by
  match xs, l, R, q with
  | [x], l, R, q =>
    obtain ⟨v, rfl, R⟩ := one_arg' l R
    obtain ⟨b, ys, hi, il, ds, ed, al, so, dep, q⟩ := itemsOf_its (P := fun ys => isL x μ ∧ ∃ ds, datOf ys = some ds ∧ PySem.W.AllAlike ds ∧ PySem.W.Sortable ds ∧ (∀ d ∈ ds, d.depth ≤ 50) ∧ ∀ p, Q0 (.ptr p) (μ ++ [(p, Node.lst ((ds.mergeSort (PySem.W.dataLe false id)).map .dat))])) q
    obtain ⟨a, us, rfl, hs, pr⟩ := hi.at R R.head
    have hb : b = false := by
      cases hi with
      | t ds => exact il.elim
      | _ => rfl
    subst hb
    obtain ⟨e1, e2, e3⟩ := zip_fst (K := X.K) (datOf_all pr ed)
    refine ⟨a, us.zip ds, rfl, by rw [e1]; exact hs, fun c hc => Dz.dp _ _ (Dz.mono fz_le _ _ (e3 c hc)), by rw [e2]; exact al, by rw [e2]; exact so, fun c hc => dep c.2 ?_, fun p hp => low _ _ (q p) _ _ ((R.tail.new (n := .lst ((ds.mergeSort (PySem.W.dataLe false id)).map .dat)) hp ⟨_, upd_same, ?_⟩).cons rfl)⟩
    · rw [← e2]
      exact List.mem_map_of_mem hc
    · have e4 : ((us.zip ds).mergeSort (PySem.W.dataLe false (·.2))).map (·.2) = ds.mergeSort (PySem.W.dataLe false id) := by
        have := List.map_mergeSort (r := PySem.W.dataLe false (fun x : V × PyData => x.2)) (s := PySem.W.dataLe false id) (f := fun x : V × PyData => x.2) (l := us.zip ds) (fun _ _ _ _ => rfl)
        rw [this, e2]
      rw [← e4]
      exact pair_list _ fun c hc => e3 c (List.mem_mergeSort.mp hc)⟩
def zMin2 : List Val → Store → DK → Prop := fun xs μ Q => match xs with | [.dat (.int i), .dat (.int j)] => Q (.dat (.int (if j < i then j else i))) μ | _ => False
def zMax2 : List Val → Store → DK → Prop := fun xs μ Q => match xs with | [.dat (.int i), .dat (.int j)] => Q (.dat (.int (if j > i then j else i))) μ | _ => False
theorem two_ints {r : List V → Hp → VK → Prop} {g : Int → Int → Int} {f : Value} (h : CallR X f (fun xs H Q => ∃ i j, xs = [.int i, .int j] ∧ Q (.int (g i j)) H)) :
    CaZ X f fun xs μ Q => match xs with | [.dat (.int i), .dat (.int j)] => Q (.dat (.int (g i j))) μ | _ => False := ⟨_, h, fun B σ ρ H μ vs xs Q0 Q l R q low => by
  match xs, vs, l, R, q with
  | [.dat (.int i), .dat (.int j)], [v, u], l, R, q =>
    have R : RL X.w X.K B H (some v :: some u :: σ) (some (.dat (.int i)) :: some (.dat (.int j)) :: ρ) μ := R
    have h1 := R.head
    have h2 := R.tail.head
    cases (h1 : Dz _ v (.int i))
    cases (h2 : Dz _ u (.int j))
    exact ⟨i, j, rfl, low _ _ q _ _ (R.tail.tail.cons (.int _))⟩⟩
theorem ca_min2 (hc : X.calm = true) : CaZ X (.builtin "min") zMin2 := two_ints (r := fun _ _ _ => True) (call_min2 hc)
theorem ca_max2 (hc : X.calm = true) : CaZ X (.builtin "max") zMax2 := two_ints (r := fun _ _ _ => True) (call_max2 hc)
def zAbs : List Val → Store → DK → Prop := fun xs μ Q => match xs with | [.dat (.int i)] => Q (.dat (.int (if i < 0 then -i else i))) μ | _ => False
theorem ca_abs : CaZ X (.builtin "abs") zAbs := ⟨_, call_abs, fun B σ ρ H μ vs xs Q0 Q l R q low => by
  match xs, l, R, q with
  | [.dat (.int i)], l, R, q =>
    obtain ⟨v, rfl, R⟩ := one_arg' l R
    have h1 := R.head
    cases (h1 : Dz _ v (.int i))
    exact ⟨i, rfl, low _ _ q _ _ (R.tail.cons (.int _))⟩⟩
def zInt : List Val → Store → DK → Prop := fun xs μ Q => match xs with | [.dat (.int i)] => Q (.dat (.int i)) μ | [.dat (.bool k)] => Q (.dat (.int (if k then 1 else 0))) μ | _ => False
theorem ca_int : CaZ X (.type "int") zInt := ⟨_, call_int1, fun B σ ρ H μ vs xs Q0 Q l R q low => by
  match xs, l, R, q with
  | [.dat (.int i)], l, R, q =>
    obtain ⟨v, rfl, R⟩ := one_arg' l R
    have h1 := R.head
    cases (h1 : Dz _ v (.int i))
    exact .inl ⟨i, rfl, low _ _ q _ _ (R.tail.cons (.int _))⟩
  | [.dat (.bool k)], l, R, q =>
    obtain ⟨v, rfl, R⟩ := one_arg' l R
    have h1 := R.head
    cases (h1 : Dz _ v (.bool k))
    exact .inr ⟨k, rfl, low _ _ q _ _ (R.tail.cons (.int _))⟩⟩
/-- repr of lists and tuples, where no guard stands around -/
def zRepr : List Val → Store → DK → Prop := fun xs μ Q => match xs with
  | [x] => ∃ d, View μ x d ∧ (match d with | .list _ => True | .tuple _ => True | _ => False) ∧ d.showable = true ∧ d.hasDict = false ∧ d.depth ≤ 60 ∧ d.shown.length ≤ sizeLine ∧ Q (.dat (.str d.shown)) μ
  | _ => False
theorem ca_repr (hg : X.A.guards = some []) (hu : X.A.units + 64 < cLine) : CaZ X (.builtin "repr") zRepr := ⟨_, Gd.call_repr hg hu, fun B σ ρ H μ vs xs Q0 Q l R q low => by
  match xs, l, R, q with
  | [x], l, R, q =>
    obtain ⟨v, rfl, R⟩ := one_arg' l R
    obtain ⟨d, h1, h2, h3, h4, h5, h6, q⟩ := q
    have dp := h1.at R R.head
    have fin := low _ _ q _ _ (R.tail.cons (.str _))
    match d, h2, dp, h3, h4, h5, h6, fin with
    | .list ds, _, dp, h3, h4, h5, h6, fin =>
      cases dp with
      | lst e1 e2 => exact ⟨_, .list ds, rfl, .lst e1 e2, h3, h4, h5, h6, fin⟩
    | .tuple ds, _, dp, h3, h4, h5, h6, fin =>
      cases dp with
      | tup e1 e2 => exact ⟨_, .tuple ds, rfl, .tup e1 e2, h3, h4, h5, h6, fin⟩⟩
/-! ### x[a:b] -/
def cutG {α : Type} (xs : List α) (lo hi : Option Int) : List α := (xs.drop (HT.sIx xs.length 0 lo)).take (HT.sIx xs.length xs.length hi - HT.sIx xs.length 0 lo)
abbrev DTO := DR → Store → (Option Int → Store → Prop) → Prop
structure DO (X : Cx) (e : Option Expr) (f : DTO) : Prop where
  run : ∀ B : Base, PO X e fun σ H Q => ∃ (hv : List (Option V)) (hx ρ : DR) (μ : Store) (Q0 : Option Int → Store → Prop), hv.length = hx.length ∧ RL X.w X.K B H (hv ++ σ) (hx ++ ρ) μ ∧ f ρ μ Q0 ∧ ∀ o μ', Q0 o μ' → ∀ H', RL X.w X.K B H' (hv ++ σ) (hx ++ ρ) μ' → Q o H'
theorem PO.weak {e : Option Expr} {t t' : TO} (h : PO X e t) (w : ∀ σ H Q, t' σ H Q → t σ H Q) : PO X e t' := ⟨fun pins s σ H Q I q => h.run pins s σ H Q I (w _ _ _ q)⟩
abbrev dNoPart : DTO := fun _ μ Q => Q none μ
abbrev dPart (f : DTE) : DTO := fun ρ μ Q => f ρ μ fun x μ1 => match x with | .dat (.int i) => Q (some i) μ1 | _ => False
theorem do_none : DO X none dNoPart := ⟨fun B => PO.weak po_none fun σ H Q ⟨hv, hx, ρ, μ, Q0, hl, R, q, low⟩ => low _ _ q _ R⟩
theorem do_some {e : Expr} {f : DTE} (h : DE X e f) : DO X (some e) (dPart f) := ⟨fun B => PO.weak (po_some (h.run B)) fun σ H Q ⟨hv, hx, ρ, μ, Q0, hl, R, q, low⟩ => by
  refine ⟨hv, hx, ρ, μ, _, hl, R, q, fun x μ1 q1 v H1 R1 => ?_⟩
  have hd := R1.head
  match x, q1, hd with
  | .dat (.int i), q1, hd =>
    cases (hd : Dz _ v (.int i))
    exact ⟨i, rfl, low _ _ q1 _ R1.tail⟩⟩
def zCut (x : Val) (lo hi : Option Int) (μ : Store) (Q : DK) : Prop := match x with
  | .dat (.tuple ds) => Q (.dat (.tuple (cutG ds lo hi))) μ
  | .dat (.list ds) => ∀ p, Q (.ptr p) (μ ++ [(p, .lst ((cutG ds lo hi).map .dat))])
  | .scr ns => ∀ p, Q (.ptr p) (μ ++ [(p, .lst ((cutG ns lo hi).map fun n => .dat (.int n)))])
  | .ptr a => ∃ (j : Nat) (xs : List Val), μ[j]? = some (a, Node.lst xs) ∧ ∀ p, Q (.ptr p) (μ ++ [(p, .lst (cutG xs lo hi))])
  | .dat (.str z) => z.length ≤ sizeLine ∧ Q (.dat (.str (cutS z lo hi))) μ
  | _ => False
abbrev dSlice (f : DTE) (fl fh : DTO) : DTE := fun ρ μ Q => f ρ μ fun x μ1 => fl ρ μ1 fun lo μ2 => fh ρ μ2 fun hi μ3 => zCut x lo hi μ3 Q
theorem cutG_map {α β : Type} {f : α → β} {xs : List α} {lo hi : Option Int} : cutG (xs.map f) lo hi = (cutG xs lo hi).map f := by
  unfold cutG
  rw [List.length_map, List.map_take, List.map_drop]
theorem paired_cut {α β : Type} {F : α → β → Prop} {a : List α} {b : List β} (h : Paired F a b) (lo hi : Option Int) : Paired F (cutG a lo hi) (cutG b lo hi) := by
  unfold cutG
  rw [h.length]
  exact paired_take _ (paired_drop _ h)
theorem all_dz {K : PySem.W.Frag} {Z : Hp} : ∀ {vs : List V} {ds : List PyData}, Paired (RV K Z) vs (ds.map Val.dat) → DzAll Z vs ds
  | [], [], _ => .nil
  | _ :: _, _ :: _, .cons h t => .cons h (all_dz t)
  | [], _ :: _, h => by cases h
  | _ :: _, [], h => by cases h
theorem cutG_whole {α : Type} {xs : List α} {lo hi : Option Int} (h1 : HT.sIx xs.length 0 lo = 0) (h2 : HT.sIx xs.length xs.length hi = xs.length) : cutG xs lo hi = xs := by
  unfold cutG
  rw [h1, h2, List.drop_zero, Nat.sub_zero, List.take_length]
theorem d_slice {e : Expr} {lo hi : Option Expr} {f : DTE} {fl fh : DTO} {p2 pos : Pos} (he : DE X e f) (hl : DO X lo fl) (hh : DO X hi fh) : DE X (.Subscript e (.Slice lo hi none p2) pos) (dSlice f fl fh) :=
  ⟨fun B => PE.weak (pe_slice (SlR.or sl_tupA (SlR.or sl_list sl_str)) (he.run B) (hl.run B) (hh.run B)) fun σ H Q ⟨hv, hx, ρ, μ, Q0, l0, R, q, low⟩ => by
    refine ⟨hv, hx, ρ, μ, _, l0, R, q, fun x μ1 q1 v H1 R1 => ⟨some v :: hv, some x :: hx, ρ, μ1, _, by simp [l0], R1, q1, fun o μ2 q2 H2 R2 => ⟨some v :: hv, some x :: hx, ρ, μ2, _, by simp [l0], R2, q2, fun o2 μ3 q3 H3 R3 => ?_⟩⟩⟩
    have hd := R3.head
    have lst : ∀ (xs : List Val) (P : Its μ3 x false xs), (∀ p, Q0 (.ptr p) (μ3 ++ [(p, .lst (cutG xs o o2))])) → rSlL X.K v o o2 H3 Q := fun xs P q => by
      obtain ⟨a, us, rfl, hs, pr⟩ := P.at R3 hd
      exact ⟨a, us, rfl, hs, fun p hp => low _ _ (q p) _ _ ((R3.tail.new (n := .lst (cutG xs o o2)) hp ⟨_, upd_same, paired_cut pr o o2⟩).cons rfl)⟩
    unfold zCut at q3
    split at q3
    · rename_i ds
      cases (hd : Dz _ v (.tuple ds)) with
      | tup e1 e2 =>
        have len := dzAll_len e2
        refine .inl ⟨_, _, rfl, SqT.of (fz_le _ _ e1), fun ⟨w1, w2⟩ => ?_, fun _ p hp => ?_⟩
        · rw [len] at w1 w2
          rw [cutG_whole w1 w2] at q3
          exact low _ _ q3 _ _ R3
        · obtain ⟨R4, g, ep⟩ := R3.tail.newZ (o := .tup (cutV _ o o2)) hp
          refine low _ _ q3 _ _ (R4.cons (.tup ep (DzAll.mono g _ _ (all_dz (K := X.K) ?_))))
          rw [← cutG_map]
          exact paired_cut (dz_all e2) o o2
    · refine .inr (.inl (lst _ (.d _) fun p => ?_))
      rw [cutG_map]
      exact q3 p
    · refine .inr (.inl (lst _ (.s _) fun p => ?_))
      rw [cutG_map]
      exact q3 p
    · obtain ⟨j, xs, hj, q3⟩ := q3
      exact .inr (.inl (lst _ (.p j hj) q3))
    · cases (hd : Dz _ v (.str _))
      exact .inr (.inr ⟨_, rfl, q3.1, low _ _ q3.2 _ _ (R3.tail.cons (.str _))⟩)
    · exact q3.elim⟩
end
end Zl
namespace Zl
open PySem PySem.Spec PyProof.Rows L2 Lf
section
variable {X : Cx}
theorem ds_set {i : Nat} {x : Str} {e : Expr} {f : DTE} {pos' pos : Pos} (hN : X.N.Nodup) (hi : X.N[i]? = some x) (hx : Loc X.env.scope x) (he : DE X e f) (hs : swapsWith e (some (.Name x pos')) pos.line X.env = pure false := by rfl)
    (hf : X.fn x = true ∨ X.env.scope.names.lookup x = some .local := by first | exact .inl rfl | exact .inr rfl | assumption) : DS X (.Assign [.Name x pos'] e pos) (dSet i f) := ds_of_set fun B => ps_set hN hi hx (he.run B) hs hf
theorem dg_sub {a b : Expr} {fo fi : DTE} {pos : Pos} (ho : DE X a fo) (hi : DE X b fi) (st : ∀ u, assign (.Subscript a b pos) X.env u = (do
      let x ← holding [u] (eval a X.env)
      let y ← holding [u, x] (eval b X.env)
      standAt pos
      holding [u, x, y] (setItem x y u)
      release [u, x, y] []) := by intro _; rfl) : DG X (.Subscript a b pos) (zSetL fo fi) := dg_setL fun B => pg_sub (ho.run B) (hi.run B) set_list st
theorem dg_name {i : Nat} {x : Str} {pos : Pos} (hN : X.N.Nodup) (hi : X.N[i]? = some x) (hx : Loc X.env.scope x) (hf : X.fn x = true ∨ X.env.scope.names.lookup x = some .local := by first | exact .inl rfl | exact .inr rfl | assumption) : DG X (.Name x pos) (zName i) := dg_of_name (pg_name hN hi hx hf)
/-! ### truth -/
def truOf (μ : Store) (x : Val) (P : Bool → Prop) : Prop := match x with
  | .dat .none => P false
  | .dat (.bool b) => P b
  | .dat (.int i) => P (i != 0)
  | .dat (.str z) => z.length ≤ sizeLine ∧ P ((z.length : Int) != 0)
  | .dat (.list ds) => P !ds.isEmpty
  | .dat (.tuple ds) => P !ds.isEmpty
  | .ptr a => ∃ (j : Nat) (xs : List Val), μ[j]? = some (a, Node.lst xs) ∧ P !xs.isEmpty
  | _ => False
abbrev dTru (f : DTE) : DTT := fun ρ μ Q => f ρ μ fun x μ1 => truOf μ1 x fun k => Q k μ1
theorem paired_empty {α β : Type} {F : α → β → Prop} {a : List α} {b : List β} (h : Paired F a b) : a.isEmpty = b.isEmpty := by cases h <;> rfl
theorem dzAll_empty {Z : Hp} {vs : List V} {ds : List PyData} (h : DzAll Z vs ds) : vs.isEmpty = ds.isEmpty := by cases h <;> rfl
theorem dt_truth {e : Expr} {f : DTE} (h : DE X e f) (he : ∀ whole, isTrue e X.env whole = (do let v ← whole; standAt e.pos; holding [v] (truthy v)) := by intro _; rfl) : DT X e (dTru f) :=
  ⟨fun B => PT.weak (pt_truth (h.run B) he) fun σ H Q ⟨hv, hx, ρ, μ, Q0, hl, R, q, low⟩ => by
    refine ⟨hv, hx, ρ, μ, _, hl, R, q, fun x μ1 q1 v H1 R1 => ?_⟩
    have hd := R1.head
    have fin : ∀ k, Q0 k μ1 → TruV X.K v H1 k → ∃ k, TruV X.K v H1 k ∧ Q k H1 := fun k q t => ⟨k, t, low _ _ q _ R1.tail⟩
    unfold truOf at q1
    split at q1
    · cases (hd : Dz _ v .none)
      exact fin _ q1 rfl
    · cases (hd : Dz _ v (.bool _))
      exact fin _ q1 rfl
    · cases (hd : Dz _ v (.int _))
      exact fin _ q1 rfl
    · cases (hd : Dz _ v (.str _))
      exact fin _ q1.2 ⟨q1.1, rfl⟩
    · cases (hd : Dz _ v (.list _)) with
      | lst e1 e2 => exact fin _ q1 (.inl ⟨_, SqL.of (fz_le _ _ e1), by rw [dzAll_empty e2]⟩)
    · cases (hd : Dz _ v (.tuple _)) with
      | tup e1 e2 => exact fin _ q1 (.inr (.inl ⟨_, SqT.of (fz_le _ _ e1), by rw [dzAll_empty e2]⟩))
    · obtain ⟨j, xs, hj, q1⟩ := q1
      obtain ⟨us, e, pr⟩ := R1.at hj
      cases (hd : v = .ref _)
      exact fin _ q1 (.inl ⟨us, SqL.of e, by rw [paired_empty pr]⟩)
    · exact q1.elim⟩
/-- not x as a value -/
abbrev dNotV (f : DTE) : DTE := fun ρ μ Q => f ρ μ fun x μ1 => match x with | .dat (.bool b) => Q (.dat (.bool !b)) μ1 | _ => False
/-! ### i, j = a, b; x += e -/
abbrev dPar (i j : Nat) (g : DTA) : DTS := fun E ρ μ => g ρ μ fun xs μ1 => match xs with | [x, y] => E.nx ((ρ.set i (some x)).set j (some y)) μ1 | _ => False
theorem ds_of_par {i j : Nat} {s : Stmt} {g : DTA} (h : ∀ B : Base, PS X s (tPar i j (upA X B g))) : DS X s (dPar i j g) :=
  ⟨fun B => PS.weak (h B) fun D σ H ⟨ρ, μ, E, R, q, b⟩ => ⟨[], [], ρ, μ, _, rfl, R, q, fun xs μ1 q1 vs H1 l R1 => by
    match xs, vs, l, R1, q1 with
    | [x, y], [v, u], l, R1, q1 =>
      have R1 : RL X.w X.K B H1 (some v :: some u :: σ) (some x :: some y :: ρ) μ1 := R1
      exact ⟨v, u, rfl, b.nx _ _ q1 _ _ (R1.slots (paired_set j (paired_set i R1.tail.tail.sl R1.head) R1.tail.head))⟩⟩⟩
abbrev dAug (i : Nat) (g : Int → Int → Int) (f : DTE) : DTS := fun E ρ μ => match ρ[i]? with
  | some (some x) => f ρ μ fun y μ1 => match x, y with | .dat (.int a), .dat (.int b) => E.nx (ρ.set i (some (.dat (.int (g a b))))) μ1 | _, _ => False
  | _ => False
theorem ds_of_aug {i : Nat} {s : Stmt} {f : DTE} {g : Int → Int → Int} (h : ∀ B : Base, PS X s (tAug i (up X B f) (ipI g))) : DS X s (dAug i g f) :=
  ⟨fun B => PS.weak (h B) fun D σ H ⟨ρ, μ, E, R, q, b⟩ => by
    unfold dAug at q
    split at q
    · rename_i x ex
      obtain ⟨v, ev, rv⟩ := R.get ex
      refine ⟨v, ev, [some v], [some x], ρ, μ, _, rfl, R.cons rv, q, fun y μ1 q1 u H1 R1 => ?_⟩
      have h1 := R1.head
      have h2 := R1.tail.head
      match x, y, q1, h1, h2 with
      | .dat (.int a), .dat (.int c), q1, h1, h2 =>
        cases (h1 : Dz _ u (.int c))
        cases (h2 : Dz _ v (.int a))
        exact ⟨a, c, rfl, rfl, b.nx _ _ q1 _ _ (R1.tail.tail.slots (paired_set (x := some (V.int (g a c))) i R1.tail.tail.sl (Dz.int _)))⟩
    · exact q.elim⟩
end
end Zl
/-! Dicts whose keys are None, numbers and tuples. -/
namespace Zl
open PySem PySem.Spec PyProof.Rows L2 Lf
mutual
def keyD : PyData → Option NestedKey
  | .none => some .none
  | .int i => some (.num i)
  | .str x => some (.text x)
  | .tuple ds => (keyDs ds).map .tup
  | _ => none
def keyDs : List PyData → Option (List NestedKey)
  | [] => some []
  | d :: ds => match keyD d, keyDs ds with | some k, some ks => some (k :: ks) | _, _ => none
end
mutual
def datK : NestedKey → PyData
  | .none => .none
  | .num i => .int i
  | .text x => .str x
  | .tup ks => .tuple (datKs ks)
def datKs : List NestedKey → List PyData
  | [] => []
  | k :: ks => datK k :: datKs ks
end
mutual
theorem keyD_datK : ∀ k : NestedKey, keyD (datK k) = some k
  | .none => rfl
  | .num _ => rfl
  | .text _ => rfl
  | .tup ks => by
    show (keyDs (datKs ks)).map NestedKey.tup = _
    rw [keyDs_datKs ks]
    rfl
theorem keyDs_datKs : ∀ ks : List NestedKey, keyDs (datKs ks) = some ks
  | [] => rfl
  | k :: ks => by
    show (match keyD (datK k), keyDs (datKs ks) with | some k, some ks => some (k :: ks) | _, _ => none) = _
    rw [keyD_datK k, keyDs_datKs ks]
end
mutual
theorem keyAt_of {Z : Hp} : ∀ (d : PyData) (v : V) (k : NestedKey), Dz Z v d → keyD d = some k → Vd.KeyAt Z k v
  | .none, _, _, h, e => by cases h; cases e; exact rfl
  | .int i, _, _, h, e => by cases h; cases e; exact rfl
  | .str x, _, _, h, e => by cases h; cases e; exact rfl
  | .tuple ds, _, k, h, e => by
    cases h with
    | tup h1 h2 =>
      rw [show keyD (.tuple ds) = (keyDs ds).map .tup from rfl] at e
      cases ek : keyDs ds with
      | none => rw [ek] at e; cases e
      | some ks =>
        rw [ek] at e
        cases e
        exact ⟨_, _, rfl, h1, keysAt_of ds _ ks h2 ek⟩
  | .bool _, _, _, _, e => by cases e
  | .list _, _, _, _, e => by cases e
  | .dict _, _, _, _, e => by cases e
theorem keysAt_of {Z : Hp} : ∀ (ds : List PyData) (vs : List V) (ks : List NestedKey), DzAll Z vs ds → keyDs ds = some ks → Vd.KeysAt Z ks vs
  | [], _, _, h, e => by cases h; cases e; exact rfl
  | d :: ds, _, ks, h, e => by
    cases h with
    | cons h1 h2 =>
      rw [show keyDs (d :: ds) = (match keyD d, keyDs ds with | some k, some ks => some (k :: ks) | _, _ => none) from rfl] at e
      cases e1 : keyD d with
      | none => rw [e1] at e; cases e
      | some k =>
        cases e2 : keyDs ds with
        | none => rw [e1, e2] at e; cases e
        | some ks' =>
          rw [e1, e2] at e
          cases e
          exact ⟨_, _, rfl, keyAt_of d _ k h1 e1, keysAt_of ds _ ks' h2 e2⟩
end
mutual
theorem dz_key {Z : Hp} : ∀ (k : NestedKey) (v : V), Vd.KeyAt Z k v → Dz Z v (datK k)
  | .none, _, h => by cases (h : _ = V.non); exact .non
  | .num i, _, h => by cases (h : _ = V.int i); exact .int i
  | .text x, _, h => by cases (h : _ = V.str x); exact .str x
  | .tup ks, _, h => by
    obtain ⟨a, ys, rfl, e, h⟩ := h
    exact .tup e (dz_keys ks ys h)
theorem dz_keys {Z : Hp} : ∀ (ks : List NestedKey) (vs : List V), Vd.KeysAt Z ks vs → DzAll Z vs (datKs ks)
  | [], _, h => by cases (h : _ = []); exact .nil
  | k :: ks, _, h => by
    obtain ⟨y, r, rfl, h1, h2⟩ := h
    exact .cons (dz_key k y h1) (dz_keys ks r h2)
end
def lookZ : List (NestedKey × Val) → NestedKey → Option Val
  | [], _ => none
  | x :: r, k => if x.1 = k then some x.2 else lookZ r k
def putZ : List (NestedKey × Val) → NestedKey → Val → List (NestedKey × Val)
  | [], k, v => [(k, v)]
  | x :: r, k, v => if x.1 = k then (x.1, v) :: r else x :: putZ r k v
theorem putZ_len : ∀ (kvs : List (NestedKey × Val)) (k : NestedKey) (v : Val), (putZ kvs k v).length ≤ kvs.length + 1
  | [], _, _ => Nat.le_refl _
  | x :: r, k, v => by
    unfold putZ
    split
    · exact Nat.le_succ _
    · exact Nat.succ_le_succ (putZ_len r k v)
theorem lookZ_put : ∀ (kvs : List (NestedKey × Val)) (k j : NestedKey) (v : Val), lookZ (putZ kvs k v) j = if k = j then some v else lookZ kvs j
  | [], k, j, v => rfl
  | x :: r, k, j, v => by
    unfold putZ
    by_cases e : x.1 = k
    · rw [if_pos e]
      unfold lookZ
      rw [e]
      by_cases e2 : k = j
      · rw [if_pos e2, if_pos e2]
      · rw [if_neg e2, if_neg e2, if_neg e2]
    · rw [if_neg e]
      unfold lookZ
      rw [lookZ_put r k j v]
      by_cases e2 : x.1 = j
      · rw [if_pos e2, if_pos e2, if_neg (fun z => e (e2.trans z.symm))]
      · rw [if_neg e2, if_neg e2]
section
variable {X : Cx} {B : Base} {σ : List (Option V)} {ρ : DR} {H : Hp} {μ : Store}
/-- a dict that is read -/
inductive DvAt (μ : Store) (a : Addr) (kvs : List (NestedKey × Val)) : Prop
  | own (j : Nat) : μ[j]? = some (a, .dv kvs) → DvAt μ a kvs
  | lck (j : Nat) {ob : Obj} {ks : List Vd.KVR} : μ[j]? = some (a, .dvl ob ks kvs) → DvAt μ a kvs
theorem look_rel {K : PySem.W.Frag} {Z : Hp} {ks : List Vd.KVR} {kvs : List (NestedKey × Val)} (h : Paired (RK K Z) ks kvs) (k : NestedKey) : (Vd.lookV ks k = none ∧ lookZ kvs k = none) ∨ ∃ v x, Vd.lookV ks k = some v ∧ lookZ kvs k = some x ∧ RV K Z v x := by
  induction h with
  | nil => exact .inl ⟨rfl, rfl⟩
  | cons r _ ih =>
    unfold Vd.lookV lookZ
    rw [← r.1]
    split
    · exact .inr ⟨_, _, rfl, rfl, r.2.2.2⟩
    · exact ih
theorem put_rel {K : PySem.W.Frag} {Z : Hp} {ks : List Vd.KVR} {kvs : List (NestedKey × Val)} (h : Paired (RK K Z) ks kvs) {k : NestedKey} {y v : V} {x : Val} (ok : Vd.KeyOk k) (hk : Vd.KeyAt Z k y) (r : RV K Z v x) : Paired (RK K Z) (Vd.putV ks k y v) (putZ kvs k x) := by
  induction h with
  | nil => exact .cons ⟨rfl, ok, hk, r⟩ .nil
  | cons q t ih =>
    unfold Vd.putV putZ
    rw [← q.1]
    split
    · exact .cons ⟨rfl, q.2.1, q.2.2.1, r⟩ t
    · exact .cons q ih
theorem DvAt.at {a : Addr} {kvs : List (NestedKey × Val)} (R : RL X.w X.K B H σ ρ μ) (h : DvAt μ a kvs) : ∃ ks : List Vd.KVR, Vd.DAt X.w H a ks ∧ Paired (RK X.K (Fz (B.fr ++ μ) H)) ks kvs := by
  have mk : ∀ ks : List Vd.KVR, Rd H a (Vd.dV X.w a ks) → (ks.map (·.1)).Nodup → Paired (RK X.K (Fz (B.fr ++ μ) H)) ks kvs → Vd.DAt X.w H a ks := fun ks e nd pr =>
    ⟨e, fun p hp => by
      obtain ⟨i, hi, rfl⟩ := List.mem_iff_getElem.mp hp
      have hi2 : i < kvs.length := by rw [← pr.length]; exact hi
      obtain ⟨q, eq, r⟩ := paired_get pr (List.getElem?_eq_getElem hi2)
      rw [List.getElem?_eq_getElem hi] at eq
      cases eq
      exact ⟨r.2.1, r.2.2.1.keep fun a xs e => fz_le _ _ e⟩, nd⟩
  cases h with
  | own j hj =>
    obtain ⟨ks, e, nd, pr⟩ := R.at hj
    exact ⟨ks, mk ks (.inl e) nd pr, pr⟩
  | lck j hj =>
    obtain ⟨e, nd, pr⟩ := R.at hj
    exact ⟨_, mk _ (.inr ⟨_, e⟩) nd pr, pr⟩
end
section
variable {X : Cx} {o i e f value : Expr} {pos pos' apos cpos : Pos} {fd fk fx : DTE}
/-- {} -/
abbrev dDNew : DTE := fun _ μ Q => ∀ p, Q (.ptr p) (μ ++ [(p, .dv [])])
theorem d_dnew : DE X (.Dict [] [] pos) dDNew := ⟨fun B => PE.weak Vd.pe_new fun σ H Q ⟨hv, hx, ρ, μ, Q0, hl, R, q, low⟩ p hp => low _ _ (q p) _ _ ((R.new (n := .dv []) hp ⟨[], upd_same, .nil, .nil⟩).cons rfl)⟩
abbrev dGet (fd fk fx : DTE) : DTE := fun ρ μ Q => fd ρ μ fun d μ1 => match d with
  | .ptr a => (∃ kvs, DvAt μ1 a kvs) ∧ fk ρ μ1 fun y μ2 => fx ρ μ2 fun z μ3 => match y with
    | .dat dk => ∃ kvs k, DvAt μ3 a kvs ∧ keyD dk = some k ∧ Vd.KeyOk k ∧ Q ((lookZ kvs k).getD z) μ3
    | _ => False
  | _ => False
theorem d_dget (hu : X.A.units + 64 < cLine) (ho : DE X o fd) (he : DE X e fk) (hf : DE X f fx) (m : M2 X o "get" apos e f cpos) : DE X (.Call (.Attribute o "get" apos) [e, f] [] cpos) (dGet fd fk fx) :=
  ⟨fun B => PE.weak (Vd.pe_get2 hu (ho.run B) (he.run B) (hf.run B) m) fun σ H Q ⟨hv, hx, ρ, μ, Q0, hl, R, q, low⟩ => by
    refine ⟨hv, hx, ρ, μ, _, hl, R, q, fun d μ1 q1 v H1 R1 => ?_⟩
    match d, q1, R1 with
    | .ptr a, q1, R1 =>
      obtain ⟨⟨kvs, h1⟩, q1⟩ := q1
      obtain ⟨ks, D, _⟩ := h1.at R1
      cases (R1.head : v = .ref a)
      refine ⟨a, rfl, ⟨ks, D.at⟩, _ :: hv, _ :: hx, ρ, μ1, _, by simp [hl], R1, q1, fun y μ2 q2 u H2 R2 => ⟨_ :: _ :: hv, _ :: _ :: hx, ρ, μ2, _, by simp [hl], R2, q2, fun z μ3 q3 t H3 R3 => ?_⟩⟩
      match y, q3, R3 with
      | .dat dk, q3, R3 =>
        obtain ⟨kvs, k, h3, ek, ok, q3⟩ := q3
        obtain ⟨ks3, D3, pr⟩ := h3.at R3
        refine ⟨ks3, k, D3, ok, (keyAt_of dk u k R3.tail.head ek).keep fun a xs e => fz_le _ _ e, ?_⟩
        rcases look_rel pr k with ⟨e1, e2⟩ | ⟨v, x, e1, e2, rv⟩
        · rw [e2] at q3
          rw [e1]
          exact low _ _ q3 _ _ (R3.tail.tail.tail.cons R3.head)
        · rw [e2] at q3
          rw [e1]
          exact low _ _ q3 _ _ (R3.tail.tail.tail.cons rv)⟩
abbrev dSetd (fd fk fx : DTE) : DTE := fun ρ μ Q => fd ρ μ fun d μ1 => match d with
  | .ptr a => (∃ kvs, DvAt μ1 a kvs) ∧ fk ρ μ1 fun y μ2 => fx ρ μ2 fun z μ3 => match y with
    | .dat dk => ∃ (j : Nat) (kvs : List (NestedKey × Val)) (k : NestedKey), μ3[j]? = some (a, Node.dv kvs) ∧ keyD dk = some k ∧ Vd.KeyOk k ∧ kvs.length < sizeLine ∧ (∀ x, lookZ kvs k = some x → Q x μ3) ∧ (lookZ kvs k = none → Q z (μ3.set j (a, .dv (putZ kvs k z))))
    | _ => False
  | _ => False
theorem putV_nd {ks : List Vd.KVR} {k : NestedKey} {y v : V} (nd : (ks.map (·.1)).Nodup) : ((Vd.putV ks k y v).map (·.1)).Nodup := by
  rw [Vd.putV_keys]
  split
  · exact nd
  · rename_i m
    exact List.nodup_append.mpr ⟨nd, by simp, fun x hx z hz => by
      rw [List.mem_singleton.mp hz]
      exact fun e => m (by rw [← e]; exact hx)⟩
theorem RL.putD {B : Base} {H : Hp} {σ : List (Option V)} {ρ : DR} {μ : Store} {a : Addr} {j : Nat} {kvs : List (NestedKey × Val)} {ks : List Vd.KVR} {k : NestedKey} {y v : V} {x : Val} (R : RL X.w X.K B H σ ρ μ) (hj : μ[j]? = some (a, .dv kvs)) (nd : (ks.map (·.1)).Nodup) (pr : Paired (RK X.K (Fz (B.fr ++ μ) H)) ks kvs)
    (ok : Vd.KeyOk k) (hk : Vd.KeyAt (Fz (B.fr ++ μ) H) k y) (r : RV X.K (Fz (B.fr ++ μ) H) v x) : RL X.w X.K B (upd H a (Vd.dV X.w a (Vd.putV ks k y v))) σ ρ (μ.set j (a, .dv (putZ kvs k x))) :=
  R.put (n' := .dv (putZ kvs k x)) hj ⟨_, upd_same, putV_nd nd, put_rel pr ok hk r⟩
theorem d_dsetd (hu : X.A.units + 64 < cLine) (ho : DE X o fd) (he : DE X e fk) (hf : DE X f fx) (m : M2 X o "setdefault" apos e f cpos) : DE X (.Call (.Attribute o "setdefault" apos) [e, f] [] cpos) (dSetd fd fk fx) :=
  ⟨fun B => PE.weak (Vd.pe_setd hu (ho.run B) (he.run B) (hf.run B) m) fun σ H Q ⟨hv, hx, ρ, μ, Q0, hl, R, q, low⟩ => by
    refine ⟨hv, hx, ρ, μ, _, hl, R, q, fun d μ1 q1 v H1 R1 => ?_⟩
    match d, q1, R1 with
    | .ptr a, q1, R1 =>
      obtain ⟨⟨kvs, h1⟩, q1⟩ := q1
      obtain ⟨ks, D, _⟩ := h1.at R1
      cases (R1.head : v = .ref a)
      refine ⟨a, rfl, ⟨ks, D.at⟩, _ :: hv, _ :: hx, ρ, μ1, _, by simp [hl], R1, q1, fun y μ2 q2 u H2 R2 => ⟨_ :: _ :: hv, _ :: _ :: hx, ρ, μ2, _, by simp [hl], R2, q2, fun z μ3 q3 t H3 R3 => ?_⟩⟩
      match y, q3, R3 with
      | .dat dk, q3, R3 =>
        obtain ⟨j, kvs, k, hj, ek, ok, hlen, q3, q4⟩ := q3
        obtain ⟨ks3, e3, nd, pr⟩ := R3.at hj
        obtain ⟨_, D3, _⟩ := (DvAt.own j hj).at R3
        have hk := keyAt_of dk u k R3.tail.head ek
        have D3 : Vd.DAt X.w H3 a ks3 := ⟨.inl e3, fun p hp => by
          obtain ⟨i, hi, rfl⟩ := List.mem_iff_getElem.mp hp
          have hi2 : i < kvs.length := by rw [← pr.length]; exact hi
          obtain ⟨q, eq, r⟩ := paired_get pr (List.getElem?_eq_getElem hi2)
          rw [List.getElem?_eq_getElem hi] at eq
          cases eq
          exact ⟨r.2.1, r.2.2.1.keep fun a xs e => fz_le _ _ e⟩, nd⟩
        refine ⟨ks3, k, e3, D3, ok, hk.keep fun a xs e => fz_le _ _ e, by rw [pr.length]; exact hlen, fun v hv => ?_, fun hn => ?_⟩
        · rcases look_rel pr k with ⟨e1, _⟩ | ⟨v', x, e1, e2, rv⟩
          · rw [e1] at hv; cases hv
          · rw [e1] at hv
            cases hv
            exact low _ _ (q3 x e2) _ _ (R3.tail.tail.tail.cons rv)
        · rcases look_rel pr k with ⟨_, e2⟩ | ⟨v', x, e1, _, _⟩
          · have R4 := (R3.tail.tail.tail.cons R3.head).putD hj nd pr ok hk R3.head
            exact low _ _ (q4 e2) _ _ R4
          · rw [e1] at hn; cases hn⟩
abbrev dDix (fd fk : DTE) : DTE := fun ρ μ Q => fd ρ μ fun d μ1 => fk ρ μ1 fun y μ2 => match d, y with
  | .ptr a, .dat dk => ∃ kvs k x, DvAt μ2 a kvs ∧ keyD dk = some k ∧ Vd.KeyOk k ∧ lookZ kvs k = some x ∧ Q x μ2
  | _, _ => False
theorem d_dix (hu : X.A.units + 64 < cLine) (ho : DE X o fd) (hi : DE X i fk) (hs : NoSl i) : DE X (.Subscript o i pos) (dDix fd fk) :=
  ⟨fun B => PE.weak (Vd.pe_ix hu (ho.run B) (hi.run B) hs) fun σ H Q ⟨hv, hx, ρ, μ, Q0, hl, R, q, low⟩ => by
    refine ⟨hv, hx, ρ, μ, _, hl, R, q, fun d μ1 q1 v H1 R1 => ⟨_ :: hv, _ :: hx, ρ, μ1, _, by simp [hl], R1, q1, fun y μ2 q2 u H2 R2 => ?_⟩⟩
    match d, y, q2, R2 with
    | .ptr a, .dat dk, q2, R2 =>
      obtain ⟨kvs, k, x, h, ek, ok, hx, q2⟩ := q2
      obtain ⟨ks, D, pr⟩ := h.at R2
      cases (R2.tail.head : v = .ref a)
      rcases look_rel pr k with ⟨_, e2⟩ | ⟨w, x', e1, e2, rv⟩
      · rw [e2] at hx; cases hx
      · rw [e2] at hx
        cases hx
        exact ⟨a, ks, k, w, rfl, D, ok, (keyAt_of dk u k R2.head ek).keep fun a xs e => fz_le _ _ e, e1, low _ _ q2 _ _ (R2.tail.tail.cons rv)⟩⟩
abbrev dDin (g : Bool → Bool) (fk fd : DTE) : DTE := fun ρ μ Q => fk ρ μ fun y μ1 => fd ρ μ1 fun d μ2 => match d, y with
  | .ptr a, .dat dk => ∃ kvs k, DvAt μ2 a kvs ∧ keyD dk = some k ∧ Vd.KeyOk k ∧ Q (.dat (.bool (g (lookZ kvs k).isSome))) μ2
  | _, _ => False
theorem look_some {K : PySem.W.Frag} {Z : Hp} {ks : List Vd.KVR} {kvs : List (NestedKey × Val)} (h : Paired (RK K Z) ks kvs) (k : NestedKey) : (Vd.lookV ks k).isSome = (lookZ kvs k).isSome := by
  rcases look_rel h k with ⟨e1, e2⟩ | ⟨v, x, e1, e2, _⟩ <;> rw [e1, e2] <;> rfl
theorem dt_din (hu : X.A.units + 64 < cLine) (hi : DE X i fk) (ho : DE X o fd) (hm : behindInMarks .In o = false := by rfl) : DT X (.Compare i [.In] [o] pos) (dB (dDin id fk fd)) :=
  ⟨fun B => PT.weak (pt_cmp (Vd.pc_in hu (hi.run B) (ho.run B)) hm) fun σ H Q ⟨hv, hx, ρ, μ, Q0, hl, R, q, low⟩ => by
    refine ⟨hv, hx, ρ, μ, _, hl, R, q, fun y μ1 q1 v H1 R1 => ⟨_ :: hv, _ :: hx, ρ, μ1, _, by simp [hl], R1, q1, fun d μ2 q2 u H2 R2 => ?_⟩⟩
    match d, y, q2, R2 with
    | .ptr a, .dat dk, q2, R2 =>
      obtain ⟨kvs, k, h, ek, ok, q2⟩ := q2
      obtain ⟨ks, D, pr⟩ := h.at R2
      cases (R2.head : u = .ref a)
      exact ⟨a, ks, k, rfl, D, ok, (keyAt_of dk v k R2.tail.head ek).keep fun a xs e => fz_le _ _ e, _, rfl, by rw [look_some pr]; exact low _ _ q2 _ R2.tail.tail⟩⟩
theorem dt_dnotin (hu : X.A.units + 64 < cLine) (hi : DE X i fk) (ho : DE X o fd) (hm : behindInMarks .NotIn o = false := by rfl) : DT X (.Compare i [.NotIn] [o] pos) (dB (dDin not fk fd)) :=
  ⟨fun B => PT.weak (pt_cmp (Vd.pc_notin hu (hi.run B) (ho.run B)) hm) fun σ H Q ⟨hv, hx, ρ, μ, Q0, hl, R, q, low⟩ => by
    refine ⟨hv, hx, ρ, μ, _, hl, R, q, fun y μ1 q1 v H1 R1 => ⟨_ :: hv, _ :: hx, ρ, μ1, _, by simp [hl], R1, q1, fun d μ2 q2 u H2 R2 => ?_⟩⟩
    match d, y, q2, R2 with
    | .ptr a, .dat dk, q2, R2 =>
      obtain ⟨kvs, k, h, ek, ok, q2⟩ := q2
      obtain ⟨ks, D, pr⟩ := h.at R2
      cases (R2.head : u = .ref a)
      exact ⟨a, ks, k, rfl, D, ok, (keyAt_of dk v k R2.tail.head ek).keep fun a xs e => fz_le _ _ e, _, rfl, by rw [look_some pr]; exact low _ _ q2 _ R2.tail.tail⟩⟩
abbrev dDput (fd fk fv : DTE) : DTS := fun E ρ μ => fv ρ μ fun x μ1 => fd ρ μ1 fun d μ2 => fk ρ μ2 fun y μ3 => match d, y with
  | .ptr a, .dat dk => ∃ (j : Nat) (kvs : List (NestedKey × Val)) (k : NestedKey), μ3[j]? = some (a, Node.dv kvs) ∧ keyD dk = some k ∧ Vd.KeyOk k ∧ kvs.length < sizeLine ∧ E.nx ρ (μ3.set j (a, .dv (putZ kvs k x)))
  | _, _ => False
theorem ds_dput (hu : X.A.units + 64 < cLine) (ho : DE X o fd) (hi : DE X i fk) (hv : DE X value fx) (hs : swapsWith value (some (.Subscript o i pos')) pos.line X.env = pure false) : DS X (.Assign [.Subscript o i pos'] value pos) (dDput fd fk fx) :=
  ⟨fun B => PS.weak (Vd.ps_put hu (ho.run B) (hi.run B) (hv.run B) hs) fun D σ H ⟨ρ, μ, E, R, q, b⟩ => by
    refine ⟨[], [], ρ, μ, _, rfl, R, q, fun x μ1 q1 t H1 R1 => ⟨[_], [_], ρ, μ1, _, rfl, R1, q1, fun d μ2 q2 v H2 R2 => ⟨[_, _], [_, _], ρ, μ2, _, rfl, R2, q2, fun y μ3 q3 u H3 R3 => ?_⟩⟩⟩
    match d, y, q3, R3 with
    | .ptr a, .dat dk, q3, R3 =>
      obtain ⟨j, kvs, k, hj, ek, ok, hlen, q3⟩ := q3
      have R3 : RL X.w X.K B H3 (some u :: some v :: some t :: σ) (some (.dat dk) :: some (.ptr a) :: some x :: ρ) μ3 := R3
      cases (R3.tail.head : v = .ref a)
      obtain ⟨ks3, e3, nd, pr⟩ := R3.at hj
      have hk := keyAt_of dk u k R3.head ek
      have D3 : Vd.DAt X.w H3 a ks3 := ⟨.inl e3, fun p hp => by
        obtain ⟨i, hi, rfl⟩ := List.mem_iff_getElem.mp hp
        have hi2 : i < kvs.length := by rw [← pr.length]; exact hi
        obtain ⟨q, eq, r⟩ := paired_get pr (List.getElem?_eq_getElem hi2)
        rw [List.getElem?_eq_getElem hi] at eq
        cases eq
        exact ⟨r.2.1, r.2.2.1.keep fun a xs e => fz_le _ _ e⟩, nd⟩
      exact ⟨a, ks3, k, rfl, e3, D3, ok, hk.keep fun a xs e => fz_le _ _ e, by rw [pr.length]; exact hlen, b.nx _ _ q3 _ _ (R3.putD hj nd pr ok hk R3.tail.tail.head).tail.tail.tail⟩⟩
/-- a list that nobody changes any more -/
abbrev dFz (f : DTE) : DTE := fun ρ μ Q => f ρ μ fun x μ1 => match x with
  | .ptr a => ∃ (j : Nat) (xs : List Val) (ds : List PyData), μ1[j]? = some (a, Node.lst xs) ∧ datOf xs = some ds ∧ Q (.dat (.list ds)) (μ1.eraseIdx j)
  | _ => False
theorem RL.fz {B : Base} {H : Hp} {σ : List (Option V)} {ρ : DR} {μ : Store} {a : Addr} {v : V} {j : Nat} {xs : List Val} {ds : List PyData} (R : RL X.w X.K B H (some v :: σ) (some (.ptr a) :: ρ) μ) (hj : μ[j]? = some (a, .lst xs)) (hd : datOf xs = some ds) :
    RL X.w X.K B H (some v :: σ) (some (.dat (.list ds)) :: ρ) (μ.eraseIdx j) := by
  have nd := R.nd
  rw [List.map_append, List.nodup_append] at nd
  have pm := perm_get hj
  have nd2 : (((a, Node.lst xs) :: μ.eraseIdx j).map (·.1)).Nodup := nodup_perm pm nd.2.1
  rw [List.map_cons, List.nodup_cons] at nd2
  obtain ⟨R1, g⟩ := R.sub (μ' := μ.eraseIdx j) nd2.2 fun p hp => pm.mem_iff.mpr (List.mem_cons_of_mem _ hp)
  obtain ⟨vs, e, pr⟩ := R.at hj
  cases (R.head : v = .ref a)
  refine R1.tail.cons (.lst (Fz.of (fun z => ?_) e) (DzAll.mono g _ _ (datOf_all pr hd)))
  rw [List.map_append] at z
  rcases List.mem_append.mp z with z | z
  · exact nd.2.2 _ z _ (List.mem_map_of_mem (List.mem_of_getElem? hj)) rfl
  · exact nd2.1 z
theorem d_fz {e : Expr} {f : DTE} (h : DE X e f) : DE X e (dFz f) :=
  ⟨fun B => PE.weak (h.run B) fun σ H Q ⟨hv, hx, ρ, μ, Q0, hl, R, q, low⟩ => by
    refine ⟨hv, hx, ρ, μ, _, hl, R, q, fun x μ1 q1 v H1 R1 => ?_⟩
    match x, q1, R1 with
    | .ptr a, q1, R1 =>
      obtain ⟨j, xs, ds, hj, hd, q1⟩ := q1
      exact low _ _ q1 _ _ (R1.fz hj hd)⟩
end
end Zl
namespace Zl
open PySem PySem.Spec PyProof.Rows L2 Lf
section
variable {X : Cx}
/-! ### a dict is locked while its keys are walked -/
theorem dv_lock {B : Base} {H : Hp} {σ : List (Option V)} {ρ : DR} {μ : Store} {a : Addr} {j : Nat} {kvs : List (NestedKey × Val)} (R : RL X.w X.K B H σ ρ μ) (hj : μ[j]? = some (a, .dv kvs)) :
    ∃ ks : List Vd.KVR, H a = some (Vd.dV X.w a ks) ∧ ∀ od, RL X.w X.K B (upd H a (.frz od (Vd.dV X.w a ks))) σ ρ (μ.set j (a, .dvl od ks kvs)) := by
  obtain ⟨ks, e, nd, pr⟩ := R.at hj
  exact ⟨ks, e, fun od => R.put (n' := .dvl od ks kvs) hj ⟨upd_same, nd, pr⟩⟩
theorem dv_unlock {B : Base} {H : Hp} {σ : List (Option V)} {ρ : DR} {μ : Store} {a : Addr} {j : Nat} {od : Obj} {ks : List Vd.KVR} {kvs : List (NestedKey × Val)} (R : RL X.w X.K B H σ ρ μ) (hj : μ[j]? = some (a, .dvl od ks kvs)) :
    H a = some (.frz od (Vd.dV X.w a ks)) ∧ RL X.w X.K B (upd H a (Vd.dV X.w a ks)) σ ρ (μ.set j (a, .dv kvs)) := by
  obtain ⟨e, nd, pr⟩ := R.at hj
  exact ⟨e, R.put (n' := .dv kvs) hj ⟨ks, upd_same, nd, pr⟩⟩
/-- what is wanted behind the lock -/
def unlk (a : Addr) (od : Obj) (ks : List Vd.KVR) (kvs : List (NestedKey × Val)) (μ : Store) (P : Store → Prop) : Prop := ∃ j : Nat, μ[j]? = some (a, Node.dvl od ks kvs) ∧ P (μ.set j (a, .dv kvs))
abbrev dLock (t : DTS) : DTS := fun E ρ μ => ∃ (a : Addr) (j : Nat) (kvs : List (NestedKey × Val)), μ[j]? = some (a, Node.dv kvs) ∧ ∀ od ks, t { nx := fun ρ' μ' => unlk a od ks kvs μ' (E.nx ρ'), rt := fun x μ' => unlk a od ks kvs μ' (E.rt x), bk := fun ρ' μ' => unlk a od ks kvs μ' (E.bk ρ'), ct := fun ρ' μ' => unlk a od ks kvs μ' (E.ct ρ') } ρ (μ.set j (a, .dvl od ks kvs))
theorem ds_lock {s : Stmt} {t : DTS} (h : DS X s t) : DS X s (dLock t) :=
  ⟨fun B => PS.weak (ps_lock (h.run B)) fun D σ H ⟨ρ, μ, E, R, ⟨a, j, kvs, hj, q⟩, b⟩ => by
    obtain ⟨ks, e, lk⟩ := dv_lock R hj
    refine ⟨a, _, e, trivial, fun od => ⟨ρ, _, _, lk od, q od ks, ⟨fun ρ' μ' ⟨j', h', q'⟩ σ' H' R' => ?_, fun x μ' ⟨j', h', q'⟩ v H' R' => ?_, fun ρ' μ' ⟨j', h', q'⟩ σ' H' R' => ?_, fun ρ' μ' ⟨j', h', q'⟩ σ' H' R' => ?_⟩⟩⟩
    · obtain ⟨e', R2⟩ := dv_unlock R' h'
      exact ⟨e', b.nx _ _ q' _ _ R2⟩
    · obtain ⟨e', R2⟩ := dv_unlock R' h'
      exact ⟨e', b.rt _ _ q' _ _ R2⟩
    · obtain ⟨e', R2⟩ := dv_unlock R' h'
      exact ⟨e', b.bk _ _ q' _ _ R2⟩
    · obtain ⟨e', R2⟩ := dv_unlock R' h'
      exact ⟨e', b.ct _ _ q' _ _ R2⟩⟩
abbrev dLockE (f : DTE) : DTE := fun ρ μ Q => ∃ (a : Addr) (j : Nat) (kvs : List (NestedKey × Val)), μ[j]? = some (a, Node.dv kvs) ∧ ∀ od ks, f ρ (μ.set j (a, .dvl od ks kvs)) fun x μ' => unlk a od ks kvs μ' (Q x)
theorem d_lock {e : Expr} {f : DTE} (h : DE X e f) : DE X e (dLockE f) :=
  ⟨fun B => PE.weak (pe_lock (h.run B)) fun σ H Q ⟨hv, hx, ρ, μ, Q0, hl, R, ⟨a, j, kvs, hj, q⟩, low⟩ => by
    obtain ⟨ks, e, lk⟩ := dv_lock R hj
    refine ⟨a, _, e, trivial, fun od => ⟨hv, hx, ρ, _, _, hl, lk od, q od ks, fun x μ' ⟨j', h', q'⟩ v H' R' => ?_⟩⟩
    obtain ⟨e', R2⟩ := dv_unlock R' h'
    exact ⟨e', low _ _ q' _ _ R2⟩⟩
def keysZ (kvs : List (NestedKey × Val)) : List Val := kvs.map fun p => .dat (datK p.1)
theorem seq_keys {B : Base} {a : Addr} {od : Obj} {ks : List Vd.KVR} {kvs : List (NestedKey × Val)} (len : ks.length = kvs.length) : SeqZ X B (Vd.Itk X.w a od ks) (keysZ kvs) fun μ => ∃ j : Nat, μ[j]? = some (a, Node.dvl od ks kvs) :=
  ⟨fun σ ρ H μ i R ⟨j, hj⟩ hi => by
    unfold keysZ at hi ⊢
    rw [List.length_map] at hi
    obtain ⟨e, nd, pr⟩ := R.at hj
    refine ⟨⟨e, by rw [len]; exact hi⟩, fun x H' y => ?_⟩
    obtain ⟨rfl, p, ep, rfl⟩ := y
    obtain ⟨q, eq, r⟩ := paired_get pr (List.getElem?_eq_getElem hi)
    rw [ep] at eq
    cases eq
    refine ⟨.dat (datK kvs[i].1), by rw [List.getElem?_map, List.getElem?_eq_getElem hi]; rfl, R.cons (x := .dat (datK kvs[i].1)) ?_⟩
    have := dz_key _ _ r.2.2.1
    rw [r.1] at this
    exact this, fun σ ρ H μ R ⟨j, hj⟩ => by
    unfold keysZ
    rw [List.length_map]
    obtain ⟨e, nd, pr⟩ := R.at hj
    exact ⟨e, Nat.le_of_eq len⟩, fun μ q ⟨j, hj⟩ => ⟨j, by rw [List.getElem?_append_left (List.getElem?_eq_some_iff.mp hj).1]; exact hj⟩⟩
/-- over the keys of a locked dict -/
abbrev dKeys (f : DTE) : DTI := fun ρ μ Q => f ρ μ fun x μ1 => match x with
  | .ptr a => ∃ (j : Nat) (od : Obj) (ks : List Vd.KVR) (kvs : List (NestedKey × Val)), μ1[j]? = some (a, Node.dvl od ks kvs) ∧ Q (keysZ kvs) (fun μ => ∃ j : Nat, μ[j]? = some (a, Node.dvl od ks kvs)) μ1
  | _ => False
theorem di_keys {tg e : Expr} {f : DTE} (h : DE X e f) : DI X tg e (dKeys f) :=
  ⟨fun B => PI.weak (Vd.pi_keys (h.run B)) fun σ H R ⟨hv, hx, ρ, μ, Q0, hl, R0, q, low⟩ => by
    refine ⟨hv, hx, ρ, μ, _, hl, R0, q, fun x μ1 q1 v H1 R1 => ?_⟩
    match x, q1, R1 with
    | .ptr a, q1, R1 =>
      obtain ⟨j, od, ks, kvs, hj, q1⟩ := q1
      obtain ⟨e, nd, pr⟩ := R1.at hj
      cases (R1.head : v = .ref a)
      exact ⟨a, od, ks, rfl, e, low _ _ _ q1 _ _ R1.tail (seq_keys pr.length)⟩⟩
/-! ### {k: v for .. in ..} -/
abbrev dDc (fi : DTI) (put : Val → DR → Option DR) (ft : DTT) (fk fe : DTE) (vs : List Nat) : DTE := fun ρ μ Q => fi ρ μ fun ys ok μ1 => ∃ I : Nat → List (NestedKey × Val) → Store → Prop, I 0 [] μ1 ∧ (∀ n acc μ, n ≤ ys.length → I n acc μ → ok μ) ∧
  (∀ n y acc μ, ys[n]? = some y → I n acc μ → ∃ ρ2, put y (wipeZ ρ vs) = some ρ2 ∧ ft ρ2 μ fun b μ2 => if b = true then fk ρ2 μ2 fun kx μ3 => fe ρ2 μ3 fun x μ4 => match kx with
      | .dat dk => ∃ k, keyD dk = some k ∧ Vd.KeyOk k ∧ acc.length < sizeLine ∧ ∃ μ5, List.Sublist μ5 μ4 ∧ I (n + 1) (putZ acc k x) μ5
      | _ => False
    else ∃ μ5, List.Sublist μ5 μ2 ∧ I (n + 1) acc μ5) ∧
  ∀ acc μ, I ys.length acc μ → ∀ p, Q (.ptr p) (μ ++ [(p, .dv acc)])
theorem dc_up {B : Base} {fi : DTI} {put : Val → DR → Option DR} {ft : DTT} {fk fe : DTE} {vs : List Nat} {g : TG} (hg : PutOk X g vs put) {σ : L2.St} {H : Hp} {Q : VK} (q : up X B (dDc fi put ft fk fe vs) σ H Q) :
    Vd.tDc X.w (upI X B fi) g (fun σ H Q => ∃ B', upT X B' ft σ H Q) (fun σ H Q => ∃ B', up X B' fk σ H Q) (fun σ H Q => ∃ B', up X B' fe σ H Q) vs σ H Q := by
  obtain ⟨hv, hx, ρ, μ, Q0, hl, R0, q, low⟩ := q
  refine ⟨hv, hx, ρ, μ, _, hl, R0, q, fun ys ok μ1 q J H1 R1 sz D hD => ?_⟩
  obtain ⟨I, i0, iok, turn, fin⟩ := q
  have Rf := R1.firm
  refine ⟨fun k m H' => m = ys.length - k ∧ k ≤ ys.length ∧ ∃ acc μ', RL X.w X.K (firm B μ1 H1) H' (hv ++ σ) (hx ++ ρ) (μ' ++ [(D, .dv acc)]) ∧ I k acc μ', ⟨ys.length, by simp, Nat.zero_le _, [], μ1, Rf.new (n := .dv []) hD ⟨[], upd_same, .nil, .nil⟩, i0⟩, ?_⟩
  rintro k m H' ⟨rfl, hk, acc, μ', R', i'⟩
  have kk := iok k acc μ' hk i'
  by_cases c : k < ys.length
  · obtain ⟨go, step⟩ := sz.go _ _ _ _ _ R' (sz.more _ _ kk) c
    refine .inr ⟨go, fun H2 => ∃ acc μ2, RL X.w X.K (firm B μ1 H1) H2 (hv ++ σ) (hx ++ ρ) (μ2 ++ [(D, .dv acc)]) ∧ I (k + 1) acc μ2, fun H2 ⟨acc, μ2, h⟩ => ⟨ys.length - (k + 1), by omega, rfl, c, acc, μ2, h⟩, fun x H2 y => ?_⟩
    obtain ⟨z, ez, R2⟩ := step x H2 y
    obtain ⟨ρ2, e2, q2⟩ := turn k z acc μ' ez i'
    have Rh := R2.hide
    have pw : Paired (RVo X.K (Fz (((firm B μ1 H1).fr ++ [(D, Node.dv acc)]) ++ μ') H2)) (wipe σ vs) (wipeZ ρ vs) := wipe_pair (paired_split hl Rh.tail.sl).2 vs
    have Rw : RL X.w X.K ⟨(firm B μ1 H1).hp, (firm B μ1 H1).fr ++ [(D, .dv acc)]⟩ H2 (some x :: ((hv ++ σ) ++ wipe σ vs)) (some z :: ((hx ++ ρ) ++ wipeZ ρ vs)) μ' := Rh.slots (.cons Rh.head (paired_app Rh.tail.sl pw))
    have ll : (hv ++ σ).length = (hx ++ ρ).length := Rh.tail.sl.length
    refine hg _ σ ρ ρ2 H2 μ' x z (hv ++ σ) (hx ++ ρ) _ ll Rw e2 fun σ2 ew R3 => ⟨ew, _, hv ++ σ, hx ++ ρ, ρ2, μ', _, ll, R3, q2, fun b μ2 q3 H3 R4 => ?_⟩
    cases b with
    | false =>
      obtain ⟨μ5, s5, q3⟩ := q3
      exact ⟨acc, μ5, RL.show (B := firm B μ1 H1) ((R4.less s5).slots (paired_split ll (R4.less s5).sl).1), q3⟩
    | true =>
      refine ⟨_, hv ++ σ, hx ++ ρ, ρ2, μ2, _, ll, R4, q3, fun kx μ3 q4 vk H4 R5 => ⟨_, some vk :: (hv ++ σ), some kx :: (hx ++ ρ), ρ2, μ3, _, by rw [List.length_cons, List.length_cons, ll], R5, q4, fun u μ4 q5 v H5 R6 => ?_⟩⟩
      match kx, q5, R6 with
      | .dat dk, q5, R6 =>
        obtain ⟨kk, ek, okk, hlen, μ6, s6, q5⟩ := q5
        have R7 : RL X.w X.K (firm B μ1 H1) H5 (some v :: some vk :: (hv ++ σ)) (some u :: some (.dat dk) :: (hx ++ ρ)) (μ4 ++ [(D, .dv acc)]) := RL.show (R6.slots (.cons R6.head (.cons R6.tail.head (paired_split ll R6.tail.tail.sl).1)))
        have hj : (μ4 ++ [(D, Node.dv acc)])[μ4.length]? = some (D, .dv acc) := by simp
        obtain ⟨ks, eD, nd, pr⟩ := R7.at hj
        obtain ⟨_, D3, _⟩ := (DvAt.own _ hj).at R7
        have hkey := keyAt_of dk vk kk R7.tail.head ek
        have D3 : Vd.DAt X.w H5 D ks := ⟨.inl eD, fun p hp => by
          obtain ⟨i, hi, rfl⟩ := List.mem_iff_getElem.mp hp
          have hi2 : i < acc.length := by rw [← pr.length]; exact hi
          obtain ⟨q, eq, r⟩ := paired_get pr (List.getElem?_eq_getElem hi2)
          rw [List.getElem?_eq_getElem hi] at eq
          cases eq
          exact ⟨r.2.1, r.2.2.1.keep fun a xs e => fz_le _ _ e⟩, nd⟩
        refine ⟨ks, kk, eD, D3, okk, hkey.keep fun a xs e => fz_le _ _ e, by rw [pr.length]; exact hlen, putZ acc kk u, μ6, ?_, q5⟩
        have := R7.putD hj nd pr okk hkey R7.head
        rw [set_last] at this
        exact this.tail.tail.less (s6.append (.refl _))
  · have e : k = ys.length := by omega
    subst e
    exact .inl ⟨sz.stop _ _ _ _ R' (sz.more _ _ kk), low _ _ (fin acc μ' i' D) _ _ ((R1.back R').cons rfl)⟩
theorem d_dc {kx vx tg iter : Expr} {ifs : List Expr} {scope : Scope} {own : List (Str × Nat)} {pos : Pos} {fi : DTI} {put : Val → DR → Option DR} {ft : DTT} {fk fe : DTE} (hu : X.A.units + 64 < cLine) (hc : X.calm = true) (hN : X.N.Nodup) (hi : DI X tg iter fi) (ok : BlkOk X.N X.env.scope scope own)
    {g : TG} (hp : PutOk X g (own.map (·.2)) put)
    (hg : ∀ (s : Shared) (H : Hp) (C : Addr) (cl : List (Str × Addr)) (fp : List Addr), PG (X.blk s H scope (compEnvC scope cl C X.env) fp) tg g) (ht : ∀ (s : Shared) (H : Hp) (C : Addr) (cl : List (Str × Addr)) (fp : List Addr), DTs (X.blk s H scope (compEnvC scope cl C X.env) fp) ifs ft)
    (hk : ∀ (s : Shared) (H : Hp) (C : Addr) (cl : List (Str × Addr)) (fp : List Addr), DE (X.blk s H scope (compEnvC scope cl C X.env) fp) kx fk)
    (he : ∀ (s : Shared) (H : Hp) (C : Addr) (cl : List (Str × Addr)) (fp : List Addr), DE (X.blk s H scope (compEnvC scope cl C X.env) fp) vx fe) (hs : ∀ x, foldedSetIterable iter X.env x = pure x := by intro _; rfl) :
    DE X (.DictComp kx vx [⟨tg, iter, ifs, 0⟩] scope pos) (dDc fi put ft fk fe (own.map (·.2))) :=
  ⟨fun B => PE.weak (Vd.pe_dc (tt := fun σ H Q => ∃ B', upT X B' ft σ H Q) (tk := fun σ H Q => ∃ B', up X B' fk σ H Q) (tv := fun σ H Q => ∃ B', up X B' fe σ H Q) hu hc hN (hi.run B) ok hg (fun s H C cl fp => PTs.ex fun B' => (ht s H C cl fp).run B') (fun s H C cl fp => PE.ex fun B' => (hk s H C cl fp).run B') (fun s H C cl fp => PE.ex fun B' => (he s H C cl fp).run B') hs) fun σ H Q q => dc_up hp q⟩
end
end Zl
/-! list.extend of a tuple. -/
namespace Zl
open PySem PySem.Spec PyProof.Rows L2 Lf
set_option maxRecDepth 100000 in
theorem ext_tup (p q : Addr) (xs ys : Array Value) (c c2 : Nat) (dd : Option Addr) (sl : Array (Option Value)) (h0 : ¬(!xs.isEmpty && Builtin.List.listTooLong (xs.size + ys.size)) = true) (h1 : xs.size ≤ sizeLine) (h2 : xs.size + ys.size ≤ sizeLine + 1) :
    Meets (Builtin.«list.extend» ⟨[.ref p, .ref q], []⟩) fun _ T z => z.heap.get? p = some { cls := .type "list", dict := none, data := .seq xs c, slots := #[] } ∧ z.heap.get? q = some { cls := .type "tuple", dict := dd, data := .seq ys c2, slots := sl } ∧
      T (.ok (.ret Value.none)) { z with heap := z.heap.update p (Obj.mapSeq fun m => m ++ ys), toks := z.toks } :=
  .of_wp fun pr wo Ar T z h => by
    obtain ⟨h3, h4, h5, h6, h7⟩ := z
    obtain ⟨e1, e2, fin⟩ := h
    have i1 := PySem.AutoSeq1.idx_int
    have i2 := PySem.AutoSeq1.sub_tuple_tuple
    have i3 := PySem.AutoSeq1.sub_list_list
    have i4 := PySem.AutoSeq1.sub_tuple_list
    have i5 := PySem.AutoSeq1.sub_list_tuple
    have big : (xs ++ ys).size ≤ sizeLine + 1 := by rw [Array.size_append]; exact h2
    wp_walk using (wpAny_updateSeq e1 rfl (hz := h1) (_hz' := big)), wpAny_loadPart' e1, wpAny_loadPart' e2
    exact ⟨_, rfl, fin⟩
section
variable {X : Cx}
def rExtT (K : PySem.W.Frag) : V → List V → Hp → VK → Prop := fun x vs H Q => ∃ l b xs ys, x = .ref l ∧ vs = [.ref b] ∧ H l = some (.lst xs) ∧ SqT K H b ys ∧ xs.length + ys.length ≤ sizeLine ∧ Q .non (upd H l (.lst (xs ++ ys)))
theorem mt_extT : MtR X "list.extend" (rExtT X.K) := by
  intro pins z σ H x vs v us Q J rx rv h
  obtain ⟨l, b, xs, ys, rfl, rfl, hl, hb, big, q⟩ := h
  obtain rfl : v = .ref l := rx
  obtain ⟨u, rfl, ru⟩ := rv.one
  obtain rfl : u = .ref b := ru
  obtain ⟨_, its, n, r1, len, e1⟩ := J.lstM hl
  obtain ⟨jts, r2, ⟨⟨cl, dd, da, sl⟩, e2, ec, m, ed⟩, _⟩ := J.tuple hb
  simp only at ec ed
  subst ec ed
  have l2 := r2.length
  have small : its.toArray.size + jts.toArray.size ≤ sizeLine := by
    rw [List.size_toArray, List.size_toArray, ← len, ← l2]
    exact big
  have no : ¬ (!its.toArray.isEmpty && Builtin.List.listTooLong (its.toArray.size + jts.toArray.size)) = true := by
    rw [notLongL small, Bool.and_false]
    exact Bool.false_ne_true
  refine call_meets F.slot_list_extend ⟨_, e1, rfl⟩ F.entry_list_extend (F.args_list_extend_2 _ _) (ext_tup l b its.toArray jts.toArray n m dd sl no (by omega) (by omega)) ⟨e1, e2, ?_⟩
  refine ⟨.non, _, J.lset (its' := its ++ jts) hl e1 (by simp) (r1.append r2) ?_, rfl, q⟩
  rw [List.length_append]
  omega
/-- a list is extended by a list or a tuple -/
def zExtend2 : Val → List Val → Store → DK → Prop := fun x xs μ Q => match x, xs with
  | .ptr a, [.dat (.tuple ds)] => ∃ (j : Nat) (ys : List Val), μ[j]? = some (a, Node.lst ys) ∧ ys.length + ds.length ≤ sizeLine ∧ Q (.dat .none) (μ.set j (a, .lst (ys ++ ds.map .dat)))
  | x, xs => zExtend x xs μ Q
theorem me_extend2 : MeZ X "list.extend" zExtend2 := ⟨_, MtR.or (show MtR X "list.extend" rExtend from mt_extend) mt_extT, fun B σ ρ H μ v x vs xs Q0 Q l R q low => by
  unfold zExtend2 at q
  split at q
  · obtain ⟨j, ys, hj, hl, q⟩ := q
    obtain ⟨u, rfl, R⟩ := one_arg' l R
    obtain ⟨us, e, pr⟩ := R.at hj
    cases (R.tail.head : v = .ref _)
    have hd := R.head
    cases (hd : Dz _ u (.tuple _)) with
    | tup e1 e2 =>
      exact .inr ⟨_, _, us, _, rfl, rfl, e, SqT.of (fz_le _ _ e1), by rw [pr.length, dzAll_len e2]; exact hl, low _ _ q _ _ ((R.put (n' := .lst (ys ++ _)) hj ⟨_, upd_same, paired_app pr (dz_all e2)⟩).tail.tail.cons .non)⟩
  · refine .inl ?_
    match x, xs, l, R, q with
    | .ptr a, [y], l, R, q =>
      obtain ⟨j, ys, zs, hj, hi, hl, q⟩ := q
      obtain ⟨u, rfl, R⟩ := one_arg' l R
      obtain ⟨us, e, pr⟩ := R.at hj
      obtain ⟨b, ws, rfl, e2, pr2⟩ := hi.at R R.head
      cases (R.tail.head : v = .ref a)
      exact ⟨a, b, us, ws, rfl, rfl, e, e2, by rw [pr.length, pr2.length]; exact hl, low _ _ q _ _ ((R.put (n' := .lst (ys ++ zs)) hj ⟨_, upd_same, paired_app pr pr2⟩).tail.tail.cons .non)⟩⟩
end
end Zl
/-! sorted of tuples told apart by their first items. -/
namespace Zl
open PySem PySem.Spec PyProof.Rows L2 Lf SrtO
mutual
theorem dz_one {Z : Hp} : ∀ (d e : PyData) (v : V), Dz Z v d → Dz Z v e → d = e
  | .none, _, _, h, h' => by cases h; cases h'; rfl
  | .bool b, _, _, h, h' => by cases h; cases h'; rfl
  | .int i, _, _, h, h' => by cases h; cases h'; rfl
  | .str x, _, _, h, h' => by cases h; cases h'; rfl
  | .list ds, e, _, h, h' => by
    cases h with
    | lst h1 h2 =>
      cases h' with
      | lst h3 h4 =>
        rw [h1] at h3
        cases h3
        rw [dzs_one ds _ _ h2 h4]
      | tup h3 h4 =>
        rw [h1] at h3
        cases h3
  | .tuple ds, e, _, h, h' => by
    cases h with
    | tup h1 h2 =>
      cases h' with
      | lst h3 h4 =>
        rw [h1] at h3
        cases h3
      | tup h3 h4 =>
        rw [h1] at h3
        cases h3
        rw [dzs_one ds _ _ h2 h4]
  | .dict _, _, _, h, _ => by cases h
theorem dzs_one {Z : Hp} : ∀ (ds es : List PyData) (vs : List V), DzAll Z vs ds → DzAll Z vs es → ds = es
  | [], _, _, h, h' => by cases h; cases h'; rfl
  | d :: ds, _, _, h, h' => by
    cases h with
    | cons h1 h2 =>
      cases h' with
      | cons h3 h4 => rw [dz_one d _ _ h1 h3, dzs_one ds _ _ h2 h4]
end
section
open Classical
variable {X : Cx}
noncomputable def kOf (Z : Hp) (v : V) : PyData := if h : ∃ d, Dz Z v d then choose h else .none
theorem kOf_eq {Z : Hp} {v : V} {d : PyData} (h : Dz Z v d) : kOf Z v = d := by
  have e : ∃ d, Dz Z v d := ⟨d, h⟩
  unfold kOf
  rw [dif_pos e]
  exact dz_one _ _ _ (choose_spec e) h
theorem map_kOf {Z : Hp} : ∀ {vs : List V} {ds : List PyData}, DzAll Z vs ds → vs.map (kOf Z) = ds
  | _, [], h => by cases h; rfl
  | _, d :: ds, h => by
    cases h with
    | cons h1 h2 => rw [List.map_cons, kOf_eq h1, map_kOf h2]
theorem dzs_mem {Z : Hp} : ∀ {vs : List V} {ds : List PyData}, DzAll Z vs ds → ∀ v ∈ vs, Dz Z v (kOf Z v) ∧ kOf Z v ∈ ds
  | _, [], h, v, hv => by cases h; cases hv
  | _, d :: ds, h, v, hv => by
    cases h with
    | cons h1 h2 =>
      rcases List.mem_cons.mp hv with rfl | hv
      · rw [kOf_eq h1]
        exact ⟨h1, List.mem_cons_self ..⟩
      · exact (dzs_mem h2 v hv).imp id (List.mem_cons_of_mem _)
theorem dzs_of {Z : Hp} : ∀ {vs : List V}, (∀ v ∈ vs, Dz Z v (kOf Z v)) → DzAll Z vs (vs.map (kOf Z))
  | [], _ => .nil
  | v :: vs, h => .cons (h v (List.mem_cons_self ..)) (dzs_of fun u hu => h u (List.mem_cons_of_mem _ hu))
/-- sorted(xs): tuples of an item at least; first items of one kind; what differs is told -/
def zSortedA : List Val → Store → DK → Prop := fun xs μ Q => match xs with
  | [x] => itemsOf μ x fun ys => isL x μ ∧ ∃ (ds : List PyData) (T : Value), datOf ys = some ds ∧ (∀ d ∈ ds, ∃ y r, d = .tuple (y :: r) ∧ PySem.W.dataType y = T) ∧ (∀ d ∈ ds, ∀ e ∈ ds, Sa.Akin d e) ∧ (∀ d ∈ ds, d.depth ≤ 50) ∧
      ∀ p (es : List PyData), es.Perm ds → es.Pairwise (fun x y => PySem.W.dataLt y x = false) → Q (.ptr p) (μ ++ [(p, .lst (es.map .dat))])
  | _ => False
theorem ca_sortedA (hu : X.A.units + 64 < cLine) : CaZ X (.builtin "sorted") zSortedA := ⟨_, Sa.cr_sortedA hu, fun B σ ρ H μ vs xs Q0 Q l R q low => by
  match xs, l, R, q with
  | [x], l, R, q =>
    obtain ⟨v, rfl, R⟩ := one_arg' l R
    obtain ⟨b, ys, hi, il, ds, T, ed, ty, ak, dep, q⟩ := itemsOf_its (P := fun ys => isL x μ ∧ ∃ (ds : List PyData) (T : Value), datOf ys = some ds ∧ (∀ d ∈ ds, ∃ y r, d = .tuple (y :: r) ∧ PySem.W.dataType y = T) ∧ (∀ d ∈ ds, ∀ e ∈ ds, Sa.Akin d e) ∧ (∀ d ∈ ds, d.depth ≤ 50) ∧
      ∀ p (es : List PyData), es.Perm ds → es.Pairwise (fun x y => PySem.W.dataLt y x = false) → Q0 (.ptr p) (μ ++ [(p, Node.lst (es.map .dat))])) q
    obtain ⟨a, us, rfl, hs, pr⟩ := hi.at R R.head
    have hb : b = false := by
      cases hi with
      | t ds => exact il.elim
      | _ => rfl
    subst hb
    have dz := datOf_all pr ed
    have mem := dzs_mem dz
    refine ⟨a, us, kOf (Fz (B.fr ++ μ) H), T, rfl, hs, fun u hu => ?_, fun u hu w hw => ak _ (mem u hu).2 _ (mem w hw).2, fun u hu => dep _ (mem u hu).2, fun ys2 p sr st hp => ?_⟩
    · obtain ⟨m1, m2⟩ := mem u hu
      obtain ⟨y, r, e, t⟩ := ty _ m2
      rw [e] at m1
      cases m1 with
      | tup e1 e2 => exact ⟨_, y, r, rfl, (by rw [e]; exact Dz.dp _ _ (Dz.mono fz_le _ _ (.tup e1 e2))), e, t⟩
    · have dz2 := dzs_of (vs := ys2) fun u hu => (mem u (st.perm.mem_iff.mp hu)).1
      refine low _ _ (q p (ys2.map (kOf (Fz (B.fr ++ μ) H))) ?_ ?_) _ _ ((R.tail.new (n := .lst ((ys2.map (kOf (Fz (B.fr ++ μ) H))).map .dat)) hp ⟨_, upd_same, dz_all dz2⟩).cons rfl)
      · rw [← map_kOf dz]
        exact st.perm.map _
      · rw [List.pairwise_map]
        exact sr⟩
end
end Zl
/-! x[::-1]; a law's own def where it is entered. -/
namespace Zl
open PySem PySem.Spec PyProof.Rows L2 Lf
section
variable {X : Cx}
abbrev dRev (f : DTE) : DTE := fun ρ μ Q => f ρ μ fun x μ1 => isL x μ1 ∧ itemsOf μ1 x fun ys => ∀ p, Q (.ptr p) (μ1 ++ [(p, .lst ys.reverse)])
theorem itemsOf_and {μ : Store} {x : Val} {P : List Val → Prop} (h1 : isL x μ) (h : itemsOf μ x P) : ∃ xs, Its μ x false xs ∧ P xs := by
  obtain ⟨b, xs, hi, p⟩ := itemsOf_its h
  cases b with
  | false => exact ⟨xs, hi, p⟩
  | true =>
    cases hi with
    | t ds => exact h1.elim
theorem d_rev {e : Expr} {f : DTE} {k : Nat} {p1 p2 p3 pos : Pos} (h : DE X e f) : DE X (.Subscript e (.Slice none none (some (.UnaryOp .USub (.Constant (.int 1) k p1) p2)) p3) pos) (dRev f) :=
  ⟨fun B => PE.weak (pe_revL (h.run B)) fun σ H Q ⟨hv, hx, ρ, μ, Q0, l0, R, q, low⟩ => by
    refine ⟨hv, hx, ρ, μ, _, l0, R, q, fun x μ1 q1 v H1 R1 => ?_⟩
    obtain ⟨xs, hi, q2⟩ := itemsOf_and q1.1 q1.2
    obtain ⟨a, us, rfl, hs, pr⟩ := hi.at R1 R1.head
    exact ⟨a, us, rfl, hs, fun p hp => low _ _ (q2 p) _ _ ((R1.tail.new (n := .lst xs.reverse) hp ⟨_, upd_same, paired_reverse pr⟩).cons rfl)⟩⟩
end
theorem str_same {g : Bool → Bool} {a : Str} {μ : Store} {Q : DK} (h : Q (.dat (.bool (g true))) μ) : zEqq g (.dat (.str a)) (.dat (.str a)) μ Q := by
  have e : decide (a = a) = true := decide_eq_true rfl
  show Q (.dat (.bool (g (decide (a = a))))) μ
  rw [e]
  exact h
theorem runZ {A : Around} {P : Program} {w : World} {K : PySem.W.Frag} {mg : Str → Option Value} {base : Heap} {x qual : Str} {st : Stmt} {f : Addr} {fd : FuncData} {N ps : List Str} {k : Nat} {F : DSp} (FF : Fun K x qual st f fd) (S : FnScope N ps (defScope st))
    (rm : Room (k + 1) A) (len : ∀ xs μ Q, F xs μ Q → xs.length = ps.length)
    (body : ∀ (cdv : Value) (outer : List Env) (s : Shared) (H : Hp) (E : XK), Room k (A.deeper (envOfC qual (defScope st) s.heap.objs.size f cdv)) →
      ∃ t : DTS, DSs (cxOf CX0 P w K mg base N qual (defScope st) f cdv A outer s H E).nox (defBody st) t ∧ ∀ xs μ Q, F xs μ Q → t (dEnd Q) (startZ N xs) μ) : Gd.RunAt A P w K mg base f fd ps (spZ w K F) := by
  refine Gd.runAt FF S rm (fun vs H Q E h => ?_) fun cdv outer s H vs Q E h => ?_
  · obtain ⟨B, xs, μ, Q0, l, _, h, _⟩ := h
    rw [l]
    exact len _ _ _ h
  · obtain ⟨B, xs, μ, Q0, l, R, h, low⟩ := h
    obtain ⟨t, d, q⟩ := body cdv outer s H E (rm.deeper _)
    refine ⟨_, (d.run B), startZ N xs, μ, dEnd Q0, ?_, q xs μ Q0 h, ?_⟩
    · refine R.slots ?_
      unfold L2.start startZ
      rw [l]
      exact paired_app R.sl (paired_none _)
    · exact ⟨fun ρ μ ⟨μ', h, q⟩ σ H R => low _ _ q _ _ ((R.less h).slots (.cons .non .nil)), fun x μ ⟨μ', h, q⟩ v H R => low _ _ q _ _ (R.less h), fun _ _ q => q.elim, fun _ _ q => q.elim⟩
theorem law_sp {w : World} {K : PySem.W.Frag} {F : DSp} {H : Hp} {a : Addr} {ns : List Int} {E : XK} (h : F [.scr ns] [] fun x _ => x = .dat (.bool true)) (hS : SqL K H a (ns.map V.int)) : spZ w K F [.ref a] H (fun v _ => v = .bl true) E := by
  have g : ∀ x o, H x = some o → Fz ([] ++ []) H x = some o := fun x o e => Fz.of (by simp) e
  refine ⟨⟨fun _ => none, []⟩, _, _, _, rfl, ⟨by simp, fun x o e => (by cases e), .cons ⟨a, rfl, sqL_mono g hS⟩ .nil, fun p hp => (by cases hp)⟩, h, fun x μ' e v H' R => ?_⟩
  subst e
  cases (R.head : Dz _ v (.bool true))
  rfl
end Zl
/-! repr(None); x = {..} on one line. -/
namespace Zl
open PySem PySem.Spec PyProof.Rows L2 Lf
section
variable {X : Cx}
theorem call_repr_none : CallR X (.builtin "repr") (fun xs H Q => xs = [.non] ∧ Q (.str "None") H) := by
  intro pins s σ H xs us Q I r h
  obtain ⟨rfl, q⟩ := h
  obtain ⟨u, rfl, t⟩ := vals1 r
  cases (t : u = .none)
  exact PySem.P.repr_of_none ⟨.str _, H, I.tok _, ⟨_, rfl⟩, q⟩
/-- repr of lists, tuples and None -/
def zRepr2 : List Val → Store → DK → Prop := fun xs μ Q => match xs with
  | [.dat .none] => Q (.dat (.str "None")) μ
  | xs => zRepr xs μ Q
theorem ca_repr2 (hg : X.A.guards = some []) (hu : X.A.units + 64 < cLine) : CaZ X (.builtin "repr") zRepr2 := by
  obtain ⟨r, h1, h2⟩ := (ca_repr hg hu).ex
  refine ⟨_, CallR.or call_repr_none h1, fun B σ ρ H μ vs xs Q0 Q l R q low => ?_⟩
  unfold zRepr2 at q
  split at q
  · obtain ⟨v, rfl, R⟩ := one_arg' l R
    have hd := R.head
    cases (hd : Dz _ v .none)
    exact .inl ⟨rfl, low _ _ q _ _ (R.tail.cons (.str _))⟩
  · exact .inr (h2 B _ _ _ _ _ _ _ _ l R q low)
theorem ds_setDc {i : Nat} {y : Str} {py : Pos} {kx vx tg iter : Expr} {ifs : List Expr} {scope : Scope} {own : List (Str × Nat)} {pos spos : Pos} {fi : DTI} {put : Val → DR → Option DR} {ft : DTT} {fk fe : DTE} (hu : X.A.units + 64 < cLine) (hc : X.calm = true) (hN : X.N.Nodup) (hy : X.N[i]? = some y) (hyl : X.env.scope.names.lookup y = some .local)
    (hsw : swapsWith (.DictComp kx vx [⟨tg, iter, ifs, 0⟩] scope pos) (some (.Name y py)) spos.line X.env = pure true) (hi : DI X tg iter fi) (ok : BlkOk X.N X.env.scope scope own)
    {g : TG} (hp : PutOk X g (own.map (·.2)) put)
    (hg : ∀ (s : Shared) (H : Hp) (C : Addr) (cl : List (Str × Addr)) (fp : List Addr), PG (X.blk s H scope (compEnvC scope cl C X.env) fp) tg g) (ht : ∀ (s : Shared) (H : Hp) (C : Addr) (cl : List (Str × Addr)) (fp : List Addr), DTs (X.blk s H scope (compEnvC scope cl C X.env) fp) ifs ft)
    (hk : ∀ (s : Shared) (H : Hp) (C : Addr) (cl : List (Str × Addr)) (fp : List Addr), DE (X.blk s H scope (compEnvC scope cl C X.env) fp) kx fk)
    (he : ∀ (s : Shared) (H : Hp) (C : Addr) (cl : List (Str × Addr)) (fp : List Addr), DE (X.blk s H scope (compEnvC scope cl C X.env) fp) vx fe) (hs : ∀ x, foldedSetIterable iter X.env x = pure x := by intro _; rfl) :
    DS X (.Assign [.Name y py] (.DictComp kx vx [⟨tg, iter, ifs, 0⟩] scope pos) spos) (dSet i (dDc fi put ft fk fe (own.map (·.2)))) :=
  ⟨fun B => PS.weak (Vd.ps_setDc (tt := fun σ H Q => ∃ B', upT X B' ft σ H Q) (tk := fun σ H Q => ∃ B', up X B' fk σ H Q) (tv := fun σ H Q => ∃ B', up X B' fe σ H Q) hu hc hN hy hyl hsw (hi.run B) ok hg (fun s H C cl fp => PTs.ex fun B' => (ht s H C cl fp).run B') (fun s H C cl fp => PE.ex fun B' => (hk s H C cl fp).run B') (fun s H C cl fp => PE.ex fun B' => (he s H C cl fp).run B') hs) fun D σ H ⟨ρ, μ, E, R, q, b⟩ =>
    dc_up hp ⟨[], [], ρ, μ, _, rfl, R, q, fun x μ1 q1 v H1 R1 => b.nx _ _ q1 _ _ (RL.into (hv := []) (hx := []) rfl R1 i)⟩⟩
end
end Zl
/-! {k: v, ..}; len(d). -/
namespace Vd
open PySem PySem.Spec PyProof.Rows L2
section
variable {X : Cx}
/-- the pairs put one by one -/
def SPuts (w : World) (p : Addr) : List (V × V) → Hp → VK → Prop
  | [], H, Q => Q (.ref p) H
  | (y, z) :: r, H, Q => ∃ kvs k, H p = some (dV w p kvs) ∧ DAt w H p kvs ∧ KeyOk k ∧ KeyAt H k y ∧ kvs.length < sizeLine ∧ SPuts w p r (upd H p (dV w p (putV kvs k y z))) Q
theorem storeAll_ok {pins : List (Addr × Obj)} {σ : L2.St} {p : Addr} {Q : VK} (hu : X.A.units + 64 < cLine) : ∀ (ps : List (V × V)) (vs : List (Value × Value)) (H : Hp) (s : Shared), Inv X pins σ H s → VV ps vs → SPuts X.w p ps H Q →
    wpAny (model X.prog X.w) X.A (storeAll p vs) (fun _ s' => EP X pins σ Q (.ref p) s') X.xe s
  | [], vs, H, s, I, rel, q => by
    cases rel
    unfold storeAll
    rw [List.forIn_nil]
    exact wpAny_pure ⟨.ref p, H, I, rfl, q⟩
  | yz :: ps, vs, H, s, I, rel, q => by
    obtain ⟨y, z⟩ := yz
    cases rel with
    | @cons _ b _ bs rel t =>
      obtain ⟨kvs, k, hD, D, ok, ky, hl, q⟩ := q
      unfold storeAll
      rw [List.forIn_cons]
      refine wpAny_bind (wpAny_bind (c_put hu I hD D ok ky rel.1 rel.2 hl fun s1 I1 => wpAny_pure ?_))
      exact storeAll_ok hu ps bs _ s1 I1 t q
/-- {k: v, ..}; the new dict stands empty while the pairs are made -/
def tDispV (w : World) (trs : List (TE × TE)) : TE := fun σ H Q => ∀ p, H p = none → tPairs trs σ (upd H p (dV w p [])) fun ps H2 => SPuts w p ps H2 Q
theorem pe_dispV {pos : Pos} {keys : List (Option Expr)} {values : List Expr} {trs : List (TE × TE)} (hu : X.A.units + 64 < cLine) (h : PPs X pos keys values trs) (hall : keys.all (·.isSome) = true) (hl : keys.length = values.length) (h0 : keys ≠ [])
    (h15 : keys.length ≤ 15) : PE X (.Dict keys values pos) (tDispV X.w trs) := by
  refine ⟨fun pins s σ H Q I q => ?_⟩
  have hn := I.hok.fresh (Nat.le_refl s.heap.objs.size)
  have I1 := I.laid (a := s.heap.objs.size) (o := dV X.w s.heap.objs.size []) (h' := s.heap.push { cls := .type "dict", data := .dict #[] }) (t' := s.toks) (fun _ _ q => Heap.get?_push_of_some _ q) (Nat.le_refl _)
    (dV_ok (beq_eq_false_iff_ne.mpr (Ne.symm (Nat.ne_of_lt I.big))) (Nat.zero_le _) .nil (Holds.new s.heap))
  exact wpAny_Dict_any hall hl h0 h15 (thn (h.run pins _ σ _ _ I1 (q _ hn)) fun ws s2 ⟨ps, H2, I2, rel, q2⟩ => storeAll_ok hu ps ws H2 s2 I2 rel q2)
end
end Vd
/-! len(d). -/
namespace Vd
open PySem PySem.Spec PyProof.Rows L2
section
variable {prog : Program} {w : World} {A : Around} {E : Value → Shared → Prop} {s : Shared}
theorem meets_len (d : Addr) (hd : (d == sysModules) = false) :
    MeetsIn prog w (Builtin.«dict.__len__» ⟨[.ref d], []⟩) (fun _ R s => ∃ xs, Holds w s.heap d xs ∧ R (.ok (.ret (.int xs.length s.toks))) { s with toks := s.toks + 1 }) :=
  .of_wp fun A R s ⟨xs, hm, h⟩ => by
    obtain ⟨o, es, ep, ho, hc, hdat, he⟩ := hm
    show wpAny _ _ (dictSize d >>= _) _ _ s
    unfold dictSize
    refine wpAny_bind (wpAny_bind (wpAny_dictEntries ho hdat (wpAny_pure ?_)))
    show wpAny _ _ (Builtin.Dict.pendingCount d >>= _) _ _ s
    refine wpAny_bind (wpAny_pendingCount_other hd ?_)
    refine wpAny_ret_mkInt ?_
    rw [Nat.add_zero, ent_size he]; exact h
theorem len_body {d : Addr} {xs : List Row} {Q : Value → Shared → Prop} (hd : (d == sysModules) = false) (hm : Holds w s.heap d xs) (hfit : (xs.length : Int) < 2 ^ 63)
    (h : Q (.int xs.length (s.toks + 1)) { s with toks := s.toks + 1 + 1 }) : wpAny (model prog w) A (Builtin.«len» ⟨[.ref d], []⟩) (fun fin s' => ∃ r, fin = .done (.ret r) ∧ Q r s') E s := by
  unfold Builtin.«len»
  refine wpAny_bind (m := oneArg "len" _) (wpAny_pure ?_)
  refine wpAny_bind (m := callSpecial? (.ref d) (Str.ofString "__len__")) (wpAny_callSpecial?_slot (name := Str.ofString "__len__") hm.ty F.slot_dict_len
    (call_meetsIn F.slot_dict_len hm.ty F.entry_dict_len (F.args_dict_len_1 _) (meets_len d hd) ⟨xs, hm, ?_⟩))
  show wpAny _ _ _ _ _ { s with toks := s.toks + 1 }
  refine wpAny_bind (wpAny_holding (wpAny_pure ?_))
  refine wpAny_bind (wpAny_letGo ?_)
  show wpAny _ _ (if ((xs.length : Nat) : Int) < 0 then _ else _) _ _ _
  rw [if_neg (by omega)]
  show wpAny _ _ (if ((xs.length : Nat) : Int) ≥ 2 ^ 63 then _ else _) _ _ _
  rw [if_neg (by omega)]
  exact wpAny_bind (wpAny_mkInt (wpAny_pure ⟨_, rfl, h⟩))
end
def rLenV (w : World) : List V → Hp → VK → Prop := fun xs H Q => ∃ (p : Addr) (kvs : List KVR), xs = [.ref p] ∧ DAt w H p kvs ∧ Q (.int ((kvs.length : Nat) : Int)) H
theorem call_lenV {X : Cx} : CallR X (.builtin "len") (rLenV X.w) := by
  intro pins s σ H xs us Q I r h
  obtain ⟨p, kvs, rfl, D, q⟩ := h
  obtain ⟨u, rfl, rx⟩ := vals1 r
  obtain rfl : u = .ref p := rx
  obtain ⟨hd, hz, ys, rel, m, R⟩ := D.out I.hok
  have hl : kvs.length = ys.length := Paired.length rel
  have ez : sizeLine = 16777216 := by decide +kernel
  refine Calls.call_function_entry kind_len plain_len entry_len (args_len1 _) (len_body hd m (by rw [← hl]; omega) ?_)
  exact ⟨.int _, H, I.tok _, ⟨_, by rw [hl]⟩, q⟩
end Vd
/-! Classes: fields, methods, new instances; a stretch of one's own objects is handed over. -/
namespace Zl
open PySem PySem.Spec PyProof.Rows L2 Lf
/-- an own method: its promise, where it stands, how it is called -/
def MCal (P : Program) (w : World) (K : PySem.W.Frag) (mg : Str → Option Value) (base : Heap) (k : Nat) (C : Addr) (m : Str) (ps : List Str) (sp : Sp) : Prop :=
  ∃ (f : Addr) (fd : FuncData), FnOk P w K mg base CX0 k f fd ps sp ∧ Meth K C m f ∧ Binds K fd ps []
/-- an own class: its __init__ -/
def KCal (P : Program) (w : World) (K : PySem.W.Frag) (mg : Str → Option Value) (base : Heap) (k : Nat) (C : Addr) (ps : List Str) (sp : Sp) : Prop :=
  ∃ (f : Addr) (fd : FuncData), FnOk P w K mg base CX0 k f fd ps sp ∧ Mk K C f ∧ Binds K fd ps []
abbrev MCalZ (P : Program) (w : World) (K : PySem.W.Frag) (mg : Str → Option Value) (base : Heap) (k : Nat) (C : Addr) (m : Str) (ps : List Str) (F : DSp) : Prop := MCal P w K mg base k C m ps (spZ w K F)
abbrev KCalZ (P : Program) (w : World) (K : PySem.W.Frag) (mg : Str → Option Value) (base : Heap) (k : Nat) (C : Addr) (ps : List Str) (F : DSp) : Prop := KCal P w K mg base k C ps (spZ w K F)
/-- a stretch of the objects is handed over, and comes back in its place; new ones stand at the end -/
def own (F : DSp) (xs : List Val) (μ : Store) (Q : DK) : Prop := ∃ pre mid post, μ = pre ++ mid ++ post ∧ F xs mid fun x ν => ∃ mid' ext, ν = mid' ++ ext ∧ Q x (pre ++ mid' ++ post ++ ext)
theorem perm_own {pre mid post : Store} : (pre ++ mid ++ post).Perm (mid ++ (pre ++ post)) := by
  rw [← List.append_assoc]
  exact List.perm_append_comm.append_right _
theorem perm_own2 {pre mid post ext : Store} : (pre ++ mid ++ post ++ ext).Perm ((mid ++ ext) ++ (pre ++ post)) := by
  refine (perm_own.append_right ext).trans ?_
  rw [List.append_assoc mid, List.append_assoc mid]
  exact List.perm_append_comm.append_left _
section
variable {X : Cx} {B : Base}
theorem own_call {H : Hp} {σ : List (Option V)} {ρ : DR} {μ1 : Store} {vs : List V} {xs : List Val} {F : DSp} {Q0 : DK} {Q : VK} (l : vs.length = xs.length) (R : RL X.w X.K B H (vs.map some ++ σ) (xs.map some ++ ρ) μ1) (h : own F xs μ1 Q0) (low : Low X B σ ρ Q0 Q) : spZ X.w X.K (Cl F) vs H Q E0 := by
  obtain ⟨pre, mid, post, rfl, f⟩ := h
  refine call_z (F := Cl F) l R (μ0 := mid) (μr := pre ++ post) perm_own ⟨_, f, fun x ν ⟨mid', ext, e, q⟩ => ⟨_, ?_, q⟩⟩ low
  subst e
  exact perm_own2
theorem fld_rel {K : PySem.W.Frag} {Z : Hp} {gs : List (Str × V)} {fs : List (Str × Val)} (h : Paired (RF K Z) gs fs) {f : Str} : (gs.lookup f = none ∧ fs.lookup f = none) ∨ ∃ v y, gs.lookup f = some v ∧ fs.lookup f = some y ∧ RV K Z v y := by
  induction h with
  | nil => exact .inl ⟨rfl, rfl⟩
  | @cons p q _ _ r _ ih =>
    obtain ⟨a, b⟩ := p
    obtain ⟨c, d⟩ := q
    obtain ⟨e1, e2⟩ := r
    dsimp only at e1 e2
    subst e1
    show (List.lookup f ((a, b) :: _) = none ∧ List.lookup f ((a, d) :: _) = none) ∨ _
    by_cases e : f = a
    · subst e
      refine .inr ⟨b, d, ?_, ?_, e2⟩ <;> simp
    · have hb : (f == a) = false := beq_eq_false_iff_ne.mpr e
      simp only [List.lookup, hb]
      exact ih
def putFZ (f : Str) (v : Val) : List (Str × Val) → List (Str × Val)
  | [] => [(f, v)]
  | (g, x) :: r => if g = f then (g, v) :: r else (g, x) :: putFZ f v r
theorem putF_rel {K : PySem.W.Frag} {Z : Hp} {gs : List (Str × V)} {fs : List (Str × Val)} {f : Str} {v : V} {y : Val} (h : Paired (RF K Z) gs fs) (r : RV K Z v y) : Paired (RF K Z) (putF f v gs) (putFZ f y fs) := by
  induction h with
  | nil => exact .cons ⟨rfl, r⟩ .nil
  | @cons p q _ _ r1 t ih =>
    obtain ⟨a, b⟩ := p
    obtain ⟨c, d⟩ := q
    obtain ⟨e1, e2⟩ := r1
    dsimp only at e1 e2
    subst e1
    show Paired _ (if a = f then _ else _) (if a = f then _ else _)
    by_cases e : a = f
    · rw [if_pos e, if_pos e]
      exact .cons ⟨rfl, r⟩ t
    · rw [if_neg e, if_neg e]
      exact .cons ⟨rfl, e2⟩ ih
/-- o.f -/
abbrev dFld (C : Addr) (f : Str) (fo : DTE) : DTE := fun ρ μ Q => fo ρ μ fun x μ1 => match x with
  | .ptr a => ∃ (j : Nat) (dx : Addr) (fs : List (Str × Val)) (y : Val), μ1[j]? = some (a, Node.ins C dx fs) ∧ fs.lookup f = some y ∧ Q y μ1
  | _ => False
variable {C : Addr} {f m x : Str} {o e : Expr} {es : List Expr} {fo fx : DTE} {g : DTA} {p pos apos : Pos} {k : Nat} {ps : List Str} {F : DSp}
theorem d_fld (c : Cls X.K C) (n : NoAttr X.K C f) (ho : DE X o fo) (hb : attributeBase o f X.env (eval o X.env) = eval o X.env := by rfl) : DE X (.Attribute o f pos) (dFld C f fo) :=
  ⟨fun B => PE.weak (pe_fld (ho.run B) hb) fun σ H Q ⟨hv, hx, ρ, μ, Q0, hl, R, q, low⟩ => by
    refine ⟨hv, hx, ρ, μ, _, hl, R, q, fun x μ1 q1 v H1 R1 => ?_⟩
    match x, q1, R1 with
    | .ptr a, q1, R1 =>
      obtain ⟨j, dx, fs, y, hj, hy, q1⟩ := q1
      obtain ⟨gs, e, pr⟩ := R1.at hj
      cases (R1.head : v = .ref a)
      rcases fld_rel pr (f := f) with ⟨_, e2⟩ | ⟨u, y', e1, e2, r⟩
      · rw [e2] at hy; cases hy
      · rw [e2] at hy
        cases hy
        exact ⟨a, C, dx, gs, u, rfl, e, c, n, e1, low _ _ q1 _ _ (R1.tail.cons r)⟩⟩
/-- o.f as a target -/
def gFld (K : PySem.W.Frag) (ta : TE) (f : Str) : TG := fun y σ H Q => ta σ H fun x H2 => ∃ a C dx fs, x = .ref a ∧ H2 a = some (.ins C dx fs) ∧ Cls K C ∧ NoAttr K C f ∧ fs.length < 1000 ∧ Q σ (upd H2 a (.ins C dx (putF f y fs)))
theorem pg_fld {ta : TE} (ho : PE X o ta) (hA : ∀ v, assign (.Attribute o f apos) X.env v = (do
      let ov ← holding [v] (eval o X.env)
      standAt apos.atName
      holding [v, ov] (setAttr ov f v)
      release [v, ov] []) := by intro _; rfl) : PG X (.Attribute o f apos) (gFld X.K ta f) := by
  refine ⟨fun pins s σ H v u Q I r h => ?_⟩
  rw [hA]
  refine wpAny_bind (wpAny_holding (thn (ho.run pins s σ H _ I h) fun ov s1 ⟨x, H1, I1, r1, a, C, dx, fs, ex, ea, c, n, l, q⟩ => ?_))
  subst ex
  obtain rfl : ov = Value.ref a := r1
  refine wpAny_bind (wpAny_standAt (wpAny_bind (wpAny_holding (setattr_ok I1 ea c n l r fun s3 I3 => ?_))))
  exact wpAny_release ⟨σ, _, I3, q⟩
def zgFld (C : Addr) (f : Str) (fo : DTE) : DTG := fun x ρ μ Q => fo ρ μ fun o μ1 => match o with
  | .ptr a => ∃ (j : Nat) (dx : Addr) (fs : List (Str × Val)), μ1[j]? = some (a, Node.ins C dx fs) ∧ fs.length < 1000 ∧ Q ρ (μ1.set j (a, .ins C dx (putFZ f x fs)))
  | _ => False
theorem dg_fld (c : Cls X.K C) (n : NoAttr X.K C f) (ho : DE X o fo) (hA : ∀ v, assign (.Attribute o f apos) X.env v = (do
      let ov ← holding [v] (eval o X.env)
      standAt apos.atName
      holding [v, ov] (setAttr ov f v)
      release [v, ov] []) := by intro _; rfl) : DG X (.Attribute o f apos) (zgFld C f fo) :=
  ⟨fun B => PG.weak (pg_fld (ho.run B) hA) fun v σ H Q ⟨hv, hx, x, ρ, μ, Q0, l, R, q, low⟩ => by
    refine ⟨some v :: hv, some x :: hx, ρ, μ, _, by simp [l], R, q, fun o μ1 q1 vo H1 R1 => ?_⟩
    match o, q1, R1 with
    | .ptr a, q1, R1 =>
      obtain ⟨j, dx, fs, hj, hl, q1⟩ := q1
      obtain ⟨gs, e, pr⟩ := R1.at hj
      cases (R1.head : vo = .ref a)
      exact ⟨a, C, dx, gs, rfl, e, c, n, by rw [pr.length]; exact hl, low _ _ q1 _ _ (R1.put (n' := .ins C dx (putFZ f x fs)) hj ⟨_, upd_same, putF_rel pr R1.tail.head⟩).tail.tail⟩⟩
/-- o.m(..) -/
abbrev dMeth (C : Addr) (m : Str) (F : DSp) (fo : DTE) (g : DTA) : DTE := fun ρ μ Q => fo ρ μ fun x μ1 => match x with
  | .ptr a => (∃ (j : Nat) (dx : Addr) (fs : List (Str × Val)), μ1[j]? = some (a, Node.ins C dx fs) ∧ fs.lookup m = none) ∧ g ρ μ1 fun xs μ2 => own F (.ptr a :: xs) μ2 Q
  | _ => False
theorem cal_clM {P : Program} {w : World} {K : PySem.W.Frag} {mg : Str → Option Value} {base : Heap} (M : MCalZ P w K mg base k C m ps F) : MCalZ P w K mg base k C m ps (Cl F) := by
  obtain ⟨f, fd, h1, h2⟩ := M
  refine ⟨f, fd, h1.imp fun vs H Q E h => ?_, h2⟩
  obtain ⟨B, xs, μ, Q0, l, R, ⟨Q', f', m⟩, low⟩ := h
  exact ⟨B, xs, μ, Q', l, R, f', fun x ν q => low x ν (m _ _ q)⟩
theorem cal_clK {P : Program} {w : World} {K : PySem.W.Frag} {mg : Str → Option Value} {base : Heap} (M : KCalZ P w K mg base k C ps F) : KCalZ P w K mg base k C ps (Cl F) := by
  obtain ⟨f, fd, h1, h2⟩ := M
  refine ⟨f, fd, h1.imp fun vs H Q E h => ?_, h2⟩
  obtain ⟨B, xs, μ, Q0, l, R, ⟨Q', f', m⟩, low⟩ := h
  exact ⟨B, xs, μ, Q', l, R, f', fun x ν q => low x ν (m _ _ q)⟩
theorem meth_up {sp : Sp} {σ : List (Option V)} {H : Hp} {Q : VK} (q : up X B (dMeth C m F fo g) σ H Q) (hsp : sp = spZ X.w X.K (Cl F)) : tMeth C m sp [] E0 (up X B fo) (upA X B g) σ H Q := by
  subst hsp
  obtain ⟨hv, hx, ρ, μ, Q0, hl, R, q, low⟩ := q
  refine ⟨hv, hx, ρ, μ, _, hl, R, q, fun x μ1 q1 v H1 R1 => ?_⟩
  match x, q1, R1 with
  | .ptr a, q1, R1 =>
    obtain ⟨⟨j, dx, fs, hj, hn⟩, q1⟩ := q1
    obtain ⟨gs, e, pr⟩ := R1.at hj
    cases (R1.head : v = .ref a)
    have hn' : gs.lookup m = none := by
      rcases fld_rel pr (f := m) with ⟨e1, _⟩ | ⟨_, _, _, e2, _⟩
      · exact e1
      · rw [e2] at hn; cases hn
    refine ⟨a, dx, gs, rfl, e, hn', some (.ref a) :: hv, some (.ptr a) :: hx, ρ, μ1, _, by simp [hl], R1, q1, fun xs μ2 q2 vs H2 l R2 => ?_⟩
    show spZ X.w X.K (Cl F) (V.ref a :: (vs ++ [])) H2 Q E0
    rw [List.append_nil]
    exact own_call (vs := .ref a :: vs) (xs := .ptr a :: xs) (by simp [l]) (RL.turn (by simp [l]) R2) q2 low
theorem d_meth {pl : Sem Bool} (M : MCalZ X.prog X.w X.K X.mg X.base k C m ps F) (c : Cls X.K C) (hr : Room k X.A) (ho : DE X o fo) (ha : DA X (e :: es) g)
    (hst : starEach (e :: es) X.env = (false, eval e X.env) :: starEach es X.env := by rfl) (hpl : (backTo pos (starEach es X.env)).any (·.1) = false := by rfl)
    (ht : eval (.Call (.Attribute o m apos) (e :: es) [] pos) X.env = (do
      let ov ← eval o X.env
      standAt apos.atName
      let (f, first) ← holding [ov] (getMethod ov m pl)
      callWith pos f first (backTo pos (starEach (e :: es) X.env)) (backToKw pos (keywordEach [] X.env))) := by rfl) :
    DE X (.Call (.Attribute o m apos) (e :: es) [] pos) (dMeth C m F fo g) := by
  obtain ⟨f, fd, Fn, hm, hb⟩ := cal_clM M
  exact ⟨fun B => PE.weak (pe_meth (ho.run B) c hm Fn hr hb .nil pass0 (ha.run B) hst hpl ht) fun _ _ _ q => meth_up q rfl⟩
theorem d_meth0 {pl : Sem Bool} (M : MCalZ X.prog X.w X.K X.mg X.base k C m ps F) (c : Cls X.K C) (hr : Room k X.A) (ho : DE X o fo)
    (ht : eval (.Call (.Attribute o m apos) [] [] pos) X.env = (do
      let ov ← eval o X.env
      standAt apos.atName
      let (f, first) ← holding [ov] (getMethod ov m pl)
      callWith pos f first (backTo pos (starEach [] X.env)) (backToKw pos (keywordEach [] X.env))) := by rfl) :
    DE X (.Call (.Attribute o m apos) [] [] pos) (dMeth C m F fo dNil) := by
  obtain ⟨f, fd, Fn, hm, hb⟩ := cal_clM M
  exact ⟨fun B => PE.weak (pe_meth0 (ho.run B) c hm Fn hr hb .nil pass0 ht) fun σ H Q q => by
    have := meth_up q rfl
    obtain ⟨hv, hx, ρ, μ, Q0, hl, R, q, low⟩ := this
    refine ⟨hv, hx, ρ, μ, Q0, hl, R, q, fun x μ1 q1 v H1 R1 => ?_⟩
    obtain ⟨a, dx, fs, e1, e2, e3, hv2, hx2, ρ2, μ2, Q2, hl2, R2, q2, low2⟩ := low x μ1 q1 v H1 R1
    exact ⟨a, dx, fs, e1, e2, e3, low2 [] _ q2 [] _ rfl R2⟩⟩
/-- C(..) -/
abbrev dMake (C : Addr) (F : DSp) (g : DTA) : DTE := fun ρ μ Q => g ρ μ fun xs μ1 => ∀ p dx, own F (.ptr p :: xs) (μ1 ++ [(p, .ins C dx [])]) fun x μ2 => x = .dat .none ∧ Q (.ptr p) μ2
theorem make_up {sp : Sp} {σ : List (Option V)} {H : Hp} {Q : VK} {xs : List Val} {vs : List V} {Q0 : DK} {hv : List (Option V)} {hx ρ : DR} {μ : Store} (hsp : sp = spZ X.w X.K (Cl F)) (l : vs.length = xs.length) (R : RL X.w X.K B H (vs.map some ++ (hv ++ σ)) (xs.map some ++ (hx ++ ρ)) μ)
    (q : ∀ p dx, own F (.ptr p :: xs) (μ ++ [(p, .ins C dx [])]) fun x μ2 => x = .dat .none ∧ Q0 (.ptr p) μ2) (low : Low X B (hv ++ σ) (hx ++ ρ) Q0 Q) :
    ∀ x dx, H x = none → H dx = none → dx ≠ x → sp (.ref x :: (vs ++ [])) (upd (upd H dx (.own x)) x (.ins C dx [])) (fun v H2 => v = .non ∧ Q (.ref x) H2) E0 := by
  subst hsp
  intro x dx hx1 hdx ne
  rw [List.append_nil]
  obtain ⟨R1, _, _⟩ := R.newZ (o := .own x) hdx
  have hx2 : (upd H dx (.own x)) x = none := by rw [upd_ne ne.symm]; exact hx1
  have R2 := R1.new (n := .ins C dx []) (o := .ins C dx []) hx2 ⟨[], upd_same, .nil⟩
  have R3 : RL X.w X.K B (upd (upd H dx (.own x)) x (.ins C dx [])) ((V.ref x :: vs).map some ++ (some (.ref x) :: (hv ++ σ))) ((Val.ptr x :: xs).map some ++ (some (.ptr x) :: (hx ++ ρ))) (μ ++ [(x, .ins C dx [])]) := by
    refine R2.slots (.cons rfl ?_)
    obtain ⟨h1, h2⟩ := paired_split (by simp [l]) R2.sl
    exact paired_app h1 (.cons rfl h2)
  refine own_call (vs := .ref x :: vs) (xs := .ptr x :: xs) (by simp [l]) R3 (q x dx) ?_
  rintro y μ2 ⟨rfl, q2⟩ v H2 R4
  cases (R4.head : Dz _ v .none)
  exact ⟨rfl, low _ _ q2 _ _ R4.tail⟩
theorem d_make (M : KCalZ X.prog X.w X.K X.mg X.base k C ps F) (hr : Room (k + 1) X.A) (hg : Gl X x) (hm : X.mg x = some (.ref C)) (ha : DA X (e :: es) g)
    (hdb : (x == ("__debug__" : Str)) = false := by decide) (he : starEach (e :: es) X.env = (false, eval e X.env) :: starEach es X.env := by rfl) (hpl : (backTo pos (starEach es X.env)).any (·.1) = false := by rfl) :
    DE X (.Call (.Name x p) (e :: es) [] pos) (dMake C F g) := by
  obtain ⟨f, fd, Fn, M, hb⟩ := cal_clK M
  exact ⟨fun B => PE.weak (pe_make M Fn hr hg hm hb .nil pass0 (ha.run B) hdb he hpl) fun σ H Q ⟨hv, hx, ρ, μ, Q0, hl, R, q, low⟩ =>
    ⟨hv, hx, ρ, μ, _, hl, R, q, fun xs μ1 q1 vs H1 l R1 => make_up rfl l R1 q1 low⟩⟩
theorem d_make0 (M : KCalZ X.prog X.w X.K X.mg X.base k C ps F) (hr : Room (k + 1) X.A) (hg : Gl X x) (hm : X.mg x = some (.ref C))
    (hdb : (x == ("__debug__" : Str)) = false := by decide) : DE X (.Call (.Name x p) [] [] pos) (dMake C F dNil) := by
  obtain ⟨f, fd, Fn, M, hb⟩ := cal_clK M
  exact ⟨fun B => PE.weak (pe_make0 M Fn hr hg hm hb .nil pass0 hdb) fun σ H Q ⟨hv, hx, ρ, μ, Q0, hl, R, q, low⟩ => make_up (vs := []) (xs := []) rfl rfl R q low⟩
/-- a def: a stretch is handed over -/
abbrev dOwnS (F : DSp) (g : DTA) : DTE := fun ρ μ Q => g ρ μ fun xs μ1 => own F xs μ1 Q
theorem d_ownS (M : CalZ X.prog X.w X.K X.mg X.base k x ps F) (hr : Room k X.A) (hg : Gl X x) (ha : DA X (e :: es) g)
    (hdb : (x == ("__debug__" : Str)) = false := by decide) (he : starEach (e :: es) X.env = (false, eval e X.env) :: starEach es X.env := by rfl) (hpl : (backTo pos (starEach es X.env)).any (·.1) = false := by rfl) :
    DE X (.Call (.Name x p) (e :: es) [] pos) (dOwnS F g) :=
  ⟨fun B => PE.weak (pe_own (cal_cl M) hr hg (ha.run B) hdb he hpl) fun σ H Q ⟨hv, hx, ρ, μ, Q0, hl, R0, h, low⟩ => by
    refine ⟨hv, hx, ρ, μ, _, hl, R0, h, fun xs μ1 h1 vs H1 l R1 => ?_⟩
    show spZ _ _ _ (vs ++ []) _ _ _
    rw [List.append_nil]
    exact own_call l R1 h1 low⟩
end
end Zl
/-! {k: v, ..}; len(d). -/
namespace Zl
open PySem PySem.Spec PyProof.Rows L2 Lf
def dPairs : List (DTE × DTE) → DR → Store → (List (Val × Val) → Store → Prop) → Prop
  | [], _, μ, Q => Q [] μ
  | (fk, fv) :: r, ρ, μ, Q => fk ρ μ fun x μ1 => fv ρ μ1 fun y μ2 => dPairs r ρ μ2 fun ps μ3 => Q ((x, y) :: ps) μ3
def flatP {α : Type} (qs : List (α × α)) : List (Option α) := qs.flatMap fun q => [some q.1, some q.2]
section
variable {X : Cx}
structure DPs (X : Cx) (pos : Pos) (keys : List (Option Expr)) (values : List Expr) (fs : List (DTE × DTE)) : Prop where
  run : ∃ trs, PPs X pos keys values trs ∧ ∀ (B : Base) (hv : List (Option V)) (hx ρ : DR) (σ : L2.St) (H : Hp) (μ : Store) (Q0 : List (Val × Val) → Store → Prop) (Q : List (V × V) → Hp → Prop), hv.length = hx.length → RL X.w X.K B H (hv ++ σ) (hx ++ ρ) μ → dPairs fs ρ μ Q0 →
    (∀ ps μ', Q0 ps μ' → ∀ (qs : List (V × V)) H', qs.length = ps.length → RL X.w X.K B H' (flatP qs ++ (hv ++ σ)) (flatP ps ++ (hx ++ ρ)) μ' → Q qs H') → tPairs trs σ H Q
theorem dps_nil {pos : Pos} : DPs X pos [] [] [] := ⟨[], pps_nil, fun B hv hx ρ σ H μ Q0 Q hl R q low => low [] μ q [] H rfl R⟩
theorem dps_cons {pos : Pos} {k v : Expr} {ks : List (Option Expr)} {vs : List Expr} {fk fv : DTE} {fs : List (DTE × DTE)} (hk : DE X k fk) (hv : DE X v fv) (hr : DPs X pos ks vs fs) : DPs X pos (some k :: ks) (v :: vs) ((fk, fv) :: fs) := by
  obtain ⟨trs, h1, h2⟩ := hr.run
  refine ⟨_, pps_cons (PE.ex fun B => hk.run B) (PE.ex fun B => hv.run B) h1, fun B hv hx ρ σ H μ Q0 Q hl R q low => ?_⟩
  refine ⟨B, hv, hx, ρ, μ, _, hl, R, q, fun x μ1 q1 u H1 R1 => ⟨B, some u :: hv, some x :: hx, ρ, μ1, _, by simp [hl], R1, q1, fun y μ2 q2 t H2 R2 => ?_⟩⟩
  refine h2 B (some t :: some u :: hv) (some y :: some x :: hx) ρ σ H2 μ2 _ _ (by simp [hl]) R2 q2 fun ps μ3 q3 qs H3 l R3 => low _ _ q3 ((u, t) :: qs) H3 (by simp [l]) ?_
  have fl : ∀ {α : Type} (l : List (α × α)), (flatP l).length = 2 * l.length := fun l => by
    induction l with
    | nil => rfl
    | cons q l ih =>
      show (some q.1 :: some q.2 :: flatP l).length = _
      rw [List.length_cons, List.length_cons, List.length_cons, ih]
      omega
  have ll : (flatP qs).length = (flatP ps).length := by rw [fl, fl, l]
  obtain ⟨p1, p2⟩ := paired_split ll R3.sl
  cases p2 with
  | cons e1 p2 =>
    cases p2 with
    | cons e2 p3 => exact R3.slots (.cons e2 (.cons e1 (paired_app p1 p3)))
def pairsKV : List (Val × Val) → Option (List (NestedKey × Val))
  | [] => some []
  | (.dat d, x) :: r => match keyD d, pairsKV r with | some k, some l => some ((k, x) :: l) | _, _ => none
  | _ :: _ => none
abbrev putAllZ (kvs : List (NestedKey × Val)) (acc : List (NestedKey × Val)) : List (NestedKey × Val) := kvs.foldl (fun a q => putZ a q.1 q.2) acc
theorem puts_up {B : Base} {p : Addr} {Q0 : DK} {Q : VK} {σ : L2.St} {ρ : DR} {μ : Store} : ∀ (ps : List (Val × Val)) (qs : List (V × V)) (kvs acc : List (NestedKey × Val)) (H : Hp), qs.length = ps.length → pairsKV ps = some kvs → (∀ q ∈ kvs, Vd.KeyOk q.1) → acc.length + kvs.length ≤ sizeLine →
    RL X.w X.K B H (flatP qs ++ σ) (flatP ps ++ ρ) (μ ++ [(p, .dv acc)]) → Q0 (.ptr p) (μ ++ [(p, .dv (putAllZ kvs acc))]) → Low X B σ ρ Q0 Q → Vd.SPuts X.w p qs H Q
  | [], [], kvs, acc, H, _, e, _, _, R, q, low => by
    cases e
    exact low _ _ q _ _ (R.cons rfl)
  | (x, y) :: ps, (u, t) :: qs, kvs, acc, H, l, e, ok, hz, R, q, low => by
    match x, e, R with
    | .dat d, e, R =>
      unfold pairsKV at e
      split at e
      · rename_i k kvs' ek er
        cases e
        have R : RL X.w X.K B H (some u :: some t :: (flatP qs ++ σ)) (some (.dat d) :: some y :: (flatP ps ++ ρ)) (μ ++ [(p, .dv acc)]) := R
        have hj : (μ ++ [(p, Node.dv acc)])[μ.length]? = some (p, .dv acc) := by simp
        obtain ⟨ks, eD, nd, pr⟩ := R.at hj
        have hkey := keyAt_of d u k R.head ek
        have okk := ok (k, y) (List.mem_cons_self ..)
        have D3 : Vd.DAt X.w H p ks := ⟨.inl eD, fun q hq => by
          obtain ⟨i, hi, rfl⟩ := List.mem_iff_getElem.mp hq
          have hi2 : i < acc.length := by rw [← pr.length]; exact hi
          obtain ⟨q, eq, r⟩ := paired_get pr (List.getElem?_eq_getElem hi2)
          rw [List.getElem?_eq_getElem hi] at eq
          cases eq
          exact ⟨r.2.1, r.2.2.1.keep fun a xs e => fz_le _ _ e⟩, nd⟩
        rw [List.length_cons] at hz
        refine ⟨ks, k, eD, D3, okk, hkey.keep fun a xs e => fz_le _ _ e, by rw [pr.length]; omega, ?_⟩
        have R2 := R.putD hj nd pr okk hkey R.tail.head
        rw [set_last] at R2
        refine puts_up ps qs kvs' (putZ acc k y) _ (by simpa using l) er (fun q hq => ok q (List.mem_cons_of_mem _ hq)) ?_ R2.tail.tail q low
        have := putZ_len acc k y
        omega
      · cases e
  | [], _ :: _, _, _, _, l, _, _, _, _, _, _ => by simp at l
  | _ :: _, [], _, _, _, l, _, _, _, _, _, _ => by simp at l
/-- {k: v, ..} -/
abbrev dDict (fs : List (DTE × DTE)) : DTE := fun ρ μ Q => dPairs fs ρ μ fun ps μ1 => ∃ kvs, pairsKV ps = some kvs ∧ (∀ q ∈ kvs, Vd.KeyOk q.1) ∧ kvs.length ≤ sizeLine ∧ ∀ p, Q (.ptr p) (μ1 ++ [(p, .dv (putAllZ kvs []))])
theorem d_dict {pos : Pos} {keys : List (Option Expr)} {values : List Expr} {fs : List (DTE × DTE)} (hu : X.A.units + 64 < cLine) (h : DPs X pos keys values fs) (hall : keys.all (·.isSome) = true := by rfl) (hl : keys.length = values.length := by rfl) (h0 : keys ≠ [] := by exact fun z => nomatch z)
    (h15 : keys.length ≤ 15 := by decide) : DE X (.Dict keys values pos) (dDict fs) := by
  obtain ⟨trs, h1, h2⟩ := h.run
  refine ⟨fun B => PE.weak (Vd.pe_dispV hu h1 hall hl h0 h15) fun σ H Q ⟨hv, hx, ρ, μ, Q0, hl, R, q, low⟩ p hp => ?_⟩
  have R1 := R.new (n := .dv []) (o := Vd.dV X.w p []) hp ⟨[], upd_same, .nil, .nil⟩
  refine h2 _ hv hx ρ σ _ μ _ _ hl R1.hide q fun ps μ' ⟨kvs, e, ok, hz, q⟩ qs H' l R2 => ?_
  exact puts_up ps qs kvs [] H' l e ok (by simpa using hz) R2.show (q p) low
def zLenD : List Val → Store → DK → Prop := fun xs μ Q => match xs with
  | [.ptr a] => ∃ kvs, DvAt μ a kvs ∧ Q (.dat (.int (kvs.length : Nat))) μ
  | _ => False
theorem ca_dlen : CaZ X (.builtin "len") zLenD := ⟨_, Vd.call_lenV, fun B σ ρ H μ vs xs Q0 Q l R q low => by
  unfold zLenD at q
  split at q
  · obtain ⟨kvs, h, q⟩ := q
    obtain ⟨v, rfl, R⟩ := one_arg' l R
    obtain ⟨ks, D, pr⟩ := h.at R
    cases (R.head : v = .ref _)
    refine ⟨_, ks, rfl, D, ?_⟩
    rw [pr.length]
    exact low _ _ q _ _ (R.tail.cons (x := .dat (.int _)) (Dz.int _))
  · exact q.elim⟩
end
end Zl
/-! x in l, l.index(x): items are data of any depth; x in a tuple of texts, ints. -/
namespace Zl
open PySem PySem.Spec PyProof.Rows L2 Lf
theorem room65 {k : Nat} {A : Around} (r : Room k A) : A.units + 65 < cLine := by have := r.un; omega
def flatD : PyData → Bool
  | .none => true
  | .bool _ => true
  | .int _ => true
  | .str _ => true
  | _ => false
theorem flat_dz {Z : Hp} {v : V} {d : PyData} (h : Dz Z v d) (f : flatD d = true) : flatV v = true := by
  cases h <;> first | exact absurd f Bool.false_ne_true | rfl
theorem eqV_dz {Z : Hp} {v u : V} {d e : PyData} (h : Dz Z v d) (h' : Dz Z u e) (f : flatD d = true) (f' : flatD e = true) : eqV v u = PyData.eqv d e := by
  cases h <;> cases h' <;> first | exact absurd f Bool.false_ne_true | exact absurd f' Bool.false_ne_true | simp [eqV, PyData.eqv]
section
variable {X : Cx}
/-- x in a list; in a tuple of flat items -/
def zIn (g : Bool → Bool) : DR2 := fun x y μ Q => match y with
  | .dat (.tuple ds) => ∃ d, View μ x d ∧ flatD d = true ∧ ds.all flatD = true ∧ Q (.dat (.bool (g (ds.any fun z => PyData.eqv z d)))) μ
  | y => ∃ d ds, View μ x d ∧ View μ y (.list ds) ∧ SeqAt.shaped d = true ∧ SeqAt.shaped (.list ds) = true ∧ Q (.dat (.bool (g (ds.any fun z => PyData.eqv z d)))) μ
theorem dzs_flat {Z : Hp} : ∀ {vs : List V} {ds : List PyData}, DzAll Z vs ds → ds.all flatD = true → vs.all flatV = true
  | _, [], h, _ => by cases h; rfl
  | _, d :: ds, h, f => by
    cases h with
    | cons h1 h2 =>
      rw [List.all_cons, Bool.and_eq_true] at f ⊢
      exact ⟨flat_dz h1 f.1, dzs_flat h2 f.2⟩
theorem inV_dz {Z : Hp} {u : V} {e : PyData} (h' : Dz Z u e) (f' : flatD e = true) : ∀ {vs : List V} {ds : List PyData}, DzAll Z vs ds → ds.all flatD = true → inV u vs = ds.any fun z => PyData.eqv z e
  | _, [], h, _ => by cases h; rfl
  | _, d :: ds, h, f => by
    cases h with
    | cons h1 h2 =>
      rw [List.all_cons, Bool.and_eq_true] at f
      show (eqV _ _ || inV u _) = _
      rw [List.any_cons, eqV_dz h1 h' f.1 f', inV_dz h' f' h2 f.2]
theorem in_up {neg : Bool} {g : Bool → Bool} (hg : ∀ b, g b = if neg then !b else b) {f : Value → Value → Sem Value} {r : R2} (h1 : OpR X f (rIn X.K neg)) (h2 : OpR X f r) (hr : ∀ x y H Q, (∃ d ds, Dp X.K H x d ∧ Dp X.K H y (.list ds) ∧ SeqAt.shaped d = true ∧ SeqAt.shaped (.list ds) = true ∧ Q (.bl (g (ds.any fun z => PyData.eqv z d))) H) → r x y H Q) : OpZ X f (zIn g) :=
  ⟨_, OpR.or h1 h2, fun B σ ρ H μ u v x y Q0 Q R q low => by
    have hy := R.head
    have hx := R.tail.head
    have fin : ∀ b, Q0 (.dat (.bool b)) μ → Q (.bl b) H := fun b q => low _ _ q _ _ (R.tail.tail.cons (.bl b))
    unfold zIn at q
    split at q
    · obtain ⟨d, h3, fd, fs, q⟩ := q
      cases (hy : Dz _ v (.tuple _)) with
      | tup e1 e2 =>
        match x, h3, hx with
        | _, .d d, hx =>
          refine .inl ⟨_, _, rfl, .inr (SqT.of (fz_le _ _ e1)), flat_dz hx fd, dzs_flat e2 fs, ?_⟩
          rw [inV_dz hx fd e2 fs]
          have := fin _ q
          rw [hg] at this
          exact this
        | _, .p j hj hd, hx => cases fd
    · obtain ⟨d, ds, h3, h4, h5, h6, q⟩ := q
      exact .inr (hr _ _ _ _ ⟨d, ds, h3.at R.tail hx, h4.at R hy, h5, h6, fin _ q⟩)⟩
theorem oz_in (hu : X.A.units + 65 < cLine) : OpZ X (compareOp .In) (zIn id) := in_up (neg := false) (fun b => rfl) op_in_seq (op_inD hu) fun _ _ _ _ h => h
theorem oz_notin (hu : X.A.units + 65 < cLine) : OpZ X (compareOp .NotIn) (zIn not) := in_up (neg := true) (fun b => rfl) op_notIn_seq (op_notInD hu) fun _ _ _ _ h => h
/-- l.index(x) -/
def zIndex : Val → List Val → Store → DK → Prop := fun x xs μ Q => match xs with
  | [y] => ∃ (d : PyData) (ds : List PyData) (j : Nat) (z : PyData), View μ x (.list ds) ∧ View μ y d ∧ SeqAt.shaped (.list ds) = true ∧ SeqAt.shaped d = true ∧ ds[j]? = some z ∧ PyData.eqv z d = true ∧ (∀ (m : Nat) (z' : PyData), m < j → ds[m]? = some z' → PyData.eqv z' d = false) ∧ Q (.dat (.int (j : Nat))) μ
  | _ => False
theorem me_index (hu : X.A.units + 65 < cLine) : MeZ X "list.index" zIndex := ⟨_, mt_indexD hu, fun B σ ρ H μ v x vs xs Q0 Q l R q low => by
  match xs, l, R, q with
  | [y], l, R, q =>
    obtain ⟨d, ds, j, z, h1, h2, h3, h4, h5, h6, h7, q⟩ := q
    obtain ⟨u, rfl, R⟩ := one_arg' l R
    have dl := h1.at R.tail R.tail.head
    cases dl with
    | lst s1 s2 => exact ⟨_, u, d, ds, j, z, rfl, rfl, .lst s1 s2, h2.at R R.head, h3, h4, h5, h6, h7, low _ _ q _ _ (R.tail.tail.cons (x := .dat (.int _)) (Dz.int _))⟩⟩
/-- while, by a number that falls -/
abbrev dWhileN (c : DTT) (tb : DTS) : DTS := fun E ρ μ => ∃ I : Nat → DR → Store → Prop, (∃ n, I n ρ μ) ∧ ∀ n ρ μ, I n ρ μ → c ρ μ fun b μ1 => if b = true then
  tb { nx := less fun ρ' μ' => ∃ m, m < n ∧ I m ρ' μ', rt := E.rt, bk := E.nx, ct := less fun ρ' μ' => ∃ m, m < n ∧ I m ρ' μ' } ρ μ1 else E.nx ρ μ1
theorem ds_whileN {c : Expr} {body : List Stmt} {fc : DTT} {tb : DTS} {pos : Pos} (hp : PassesOwn (model X.prog X.w) X.A X.env X.xe) (hc : DT X c fc) (hb : DSs X body tb) : DS X (.While c body [] pos) (dWhileN fc tb) :=
  ⟨fun B => PS.weak (ps_while hp (hc.run B) (hb.run B)) fun D σ H q => by
    obtain ⟨ρ, μ, E, R0, ⟨I, ⟨n0, i0⟩, turn⟩, b⟩ := q
    refine ⟨fun m σ' H' => ∃ ρ' μ', RL X.w X.K B H' σ' ρ' μ' ∧ I m ρ' μ', ⟨n0, ρ, μ, R0, i0⟩, ?_⟩
    rintro m σ' H' ⟨ρ', μ', R', i'⟩
    refine ⟨[], [], ρ', μ', _, rfl, R', turn m ρ' μ' i', fun c μ1 q H1 R1 => ?_⟩
    cases c with
    | true =>
      refine ⟨fun σ2 H2 => ∃ ρ2 μ2, RL X.w X.K B H2 σ2 ρ2 μ2 ∧ ∃ k, k < m ∧ I k ρ2 μ2, fun σ2 H2 ⟨ρ2, μ2, r, k, l, i⟩ => ⟨k, l, ρ2, μ2, r, i⟩, ρ', μ1, _, R1, q, ⟨fun ρ4 μ4 ⟨μ5, s5, q4⟩ σ4 H4 R4 => ⟨ρ4, μ5, R4.less s5, q4⟩, b.rt, fun ρ4 μ4 q4 σ4 H4 R4 => b.nx _ _ q4 _ _ R4, fun ρ4 μ4 ⟨μ5, s5, q4⟩ σ4 H4 R4 => ⟨ρ4, μ5, R4.less s5, q4⟩⟩⟩
    | false => exact b.nx _ _ q _ _ R1⟩
theorem isN_kv (x : NestedKey) : isN (.dat (datK x)) = decide (x = .none) := by cases x <;> rfl
theorem is_kv {g : Bool → Bool} {x : NestedKey} {μ : Store} {Q : DK} (q : Q (.dat (.bool (g (decide (x = .none))))) μ) : zIs g (.dat (datK x)) (.dat .none) μ Q := by
  show Q (.dat (.bool (g (isN (.dat (datK x)))))) μ
  rw [isN_kv]
  exact q
end
end Zl
/-! list(d); tuple + tuple. -/
namespace Vd
open PySem PySem.Spec PyProof.Rows L2
theorem rel_vals {kvs : List KVR} {xs : List Row} (r : Paired RelR kvs xs) : Vals (kvs.map (·.2.1)) (xs.map (·.2.1)) := by
  induction r with
  | nil => exact .nil
  | cons h _ ih => exact .cons h.2.1 ih
theorem call_listV {X : Cx} (hc : X.calm = true) : CallR X (.type "list") (fun xs H Q => ∃ d kvs, xs = [V.ref d] ∧ DAt X.w H d kvs ∧ ∀ p, H p = none → Q (.ref p) (upd H p (.lst (kvs.map (·.2.1))))) := by
  intro pins s σ H xs us Q I r h
  obtain ⟨d, kvs, rfl, D, q⟩ := h
  obtain ⟨u, rfl, rx⟩ := r.one
  cases rx
  obtain ⟨hs, z, ks, pr, ⟨o, es, ep, ho, hx, hdt, he⟩, R⟩ := D.out I.hok
  have l1 : es.size = ks.length := ent_size he
  have l2 : kvs.length = ks.length := Paired.length pr
  refine PySem.W.kdl_call (kdl_raw hs hx hdt) (I.ok.hd hc) ho (by omega) fun h' tk acc' c' kp e it => ?_
  have ea : acc'.toList = ks.map fun x => x.2.1 := by
    have hl : acc'.toList.length = ks.length := by rw [Array.length_toList, it.1]; exact l1
    apply List.ext_getElem?
    intro j
    rw [List.getElem?_map]
    cases hj : acc'.toList[j]? with
    | none =>
      have h1 := List.getElem?_eq_none_iff.mp hj
      rw [List.getElem?_eq_none (by omega)]
      rfl
    | some v =>
      obtain ⟨en, hen, hv⟩ := it.2 j v (by rw [← Array.getElem?_toList]; exact hj)
      have qe := ent_at he j
      rw [hen] at qe
      cases hb : ks[j]? with
      | none =>
        rw [hb] at qe
        exact nomatch (show some en = none from qe)
      | some b =>
        rw [hb] at qe
        have e2 : en = ent X.w b := Option.some.inj qe
        rw [hv, e2]
        rfl
  have rv : Vals (kvs.map (·.2.1)) acc'.toList := by rw [ea]; exact rel_vals pr
  have hz : (kvs.map (·.2.1)).length ≤ sizeLine := by rw [List.length_map]; omega
  refine ⟨.ref s.heap.objs.size, _, I.laid (t' := tk) (o := .lst (kvs.map (·.2.1))) kp (Nat.le_refl _) ?_, rfl, q _ (I.hok.fresh (Nat.le_refl _))⟩
  exact ⟨hz, acc'.toList, c', rv, by rw [Array.toArray_toList]; exact e⟩
end Vd
namespace Zl
open PySem PySem.Spec PyProof.Rows L2 Lf
section
variable {X : Cx}
def zListD : List Val → Store → DK → Prop := fun xs μ Q => match xs with
  | [.ptr a] => ∃ kvs, DvAt μ a kvs ∧ ∀ p, Q (.ptr p) (μ ++ [(p, .lst (keysZ kvs))])
  | _ => False
theorem keys_rv {w : World} {K : PySem.W.Frag} {Z : Hp} {ks : List Vd.KVR} {kvs : List (NestedKey × Val)} (h : Paired (RK K Z) ks kvs) : Paired (RV K Z) (ks.map (·.2.1)) (keysZ kvs) := by
  unfold keysZ
  induction h with
  | nil => exact .nil
  | @cons p q _ _ r _ ih =>
    refine .cons (show RV K Z p.2.1 (.dat (datK q.1)) from ?_) ih
    have := dz_key _ _ r.2.2.1
    rw [r.1] at this
    exact this
theorem ca_dlist (hc : X.calm = true) : CaZ X (.type "list") zListD := ⟨_, Vd.call_listV hc, fun B σ ρ H μ vs xs Q0 Q l R q low => by
  unfold zListD at q
  split at q
  · obtain ⟨kvs, h, q⟩ := q
    obtain ⟨v, rfl, R⟩ := one_arg' l R
    obtain ⟨ks, D, pr⟩ := h.at R
    cases (R.head : v = .ref _)
    exact ⟨_, ks, rfl, D, fun p hp => low _ _ (q p) _ _ ((R.tail.new (n := .lst (keysZ kvs)) hp ⟨_, upd_same, keys_rv (w := X.w) pr⟩).cons rfl)⟩
  · exact q.elim⟩
/-- tuples too -/
def zAdd2 : DR2 := fun x y μ Q => match x, y with
  | .dat (.tuple a), .dat (.tuple b) => a.length + b.length ≤ sizeLine ∧ Q (.dat (.tuple (a ++ b))) μ
  | x, y => zAdd x y μ Q
theorem oz_add2 : OpZ X (binaryOp .Add) zAdd2 := by
  obtain ⟨r, h1, h2⟩ := (oz_add (X := X)).ex
  refine ⟨_, OpR.or op_catA h1, fun B σ ρ H μ u v x y Q0 Q R q low => ?_⟩
  have hy := R.head
  have hx := R.tail.head
  unfold zAdd2 at q
  split at q
  · rename_i a b
    cases (hx : Dz _ u (.tuple a)) with
    | tup e1 e2 =>
      cases (hy : Dz _ v (.tuple b)) with
      | tup e3 e4 =>
        refine .inl ⟨_, _, _, _, rfl, rfl, SqT.of (fz_le _ _ e1), SqT.of (fz_le _ _ e3), by rw [dzAll_len e2, dzAll_len e4]; exact q.1, fun z => ?_, fun _ z => ?_, fun _ _ p hp => ?_⟩
        · subst z
          cases a with
          | nil => exact low _ _ q.2 _ _ (R.tail.tail.cons (x := .dat (.tuple _)) (Dz.tup e3 e4))
          | cons _ _ => cases e2
        · subst z
          cases b with
          | nil =>
            have q2 := q.2
            rw [List.append_nil] at q2
            exact low _ _ q2 _ _ (R.tail.tail.cons (x := .dat (.tuple _)) (Dz.tup e1 e2))
          | cons _ _ => cases e4
        · obtain ⟨R4, g, ep⟩ := R.tail.tail.newZ (o := .tup _) hp
          refine low _ _ q.2 _ _ (R4.cons (.tup ep (DzAll.mono g _ _ (all_dz (K := X.K) ?_))))
          rw [List.map_append]
          exact paired_app (dz_all e2) (dz_all e4)
  · exact .inr (h2 B _ _ _ _ _ _ _ _ _ _ R q low)
end
end Zl
/-! and, or, not as values; slices told. -/
namespace Zl
open PySem PySem.Spec PyProof.Rows L2 Lf
section
variable {X : Cx}
theorem tru_at {B : Base} {σ : List (Option V)} {ρ : DR} {H : Hp} {μ : Store} {v : V} {x : Val} {P : Bool → Prop} (R : RL X.w X.K B H (some v :: σ) (some x :: ρ) μ) (q : truOf μ x P) : ∃ k, TruV X.K v H k ∧ P k := by
  have hd := R.head
  unfold truOf at q
  split at q
  · cases (hd : Dz _ v .none)
    exact ⟨_, rfl, q⟩
  · cases (hd : Dz _ v (.bool _))
    exact ⟨_, rfl, q⟩
  · cases (hd : Dz _ v (.int _))
    exact ⟨_, rfl, q⟩
  · cases (hd : Dz _ v (.str _))
    exact ⟨_, ⟨q.1, rfl⟩, q.2⟩
  · cases (hd : Dz _ v (.list _)) with
    | lst e1 e2 => exact ⟨_, .inl ⟨_, SqL.of (fz_le _ _ e1), by rw [dzAll_empty e2]⟩, q⟩
  · cases (hd : Dz _ v (.tuple _)) with
    | tup e1 e2 => exact ⟨_, .inr (.inl ⟨_, SqT.of (fz_le _ _ e1), by rw [dzAll_empty e2]⟩), q⟩
  · obtain ⟨j, xs, hj, q⟩ := q
    obtain ⟨us, e, pr⟩ := R.at hj
    cases (hd : v = .ref _)
    exact ⟨_, .inl ⟨us, SqL.of e, by rw [paired_empty pr]⟩, q⟩
  · exact q.elim
/-- a and b, as a value -/
abbrev dAndV (f g : DTE) : DTE := fun ρ μ Q => f ρ μ fun x μ1 => truOf μ1 x fun k => if k = true then g ρ μ1 Q else Q x μ1
abbrev dOrV (f g : DTE) : DTE := fun ρ μ Q => f ρ μ fun x μ1 => truOf μ1 x fun k => if k = true then Q x μ1 else g ρ μ1 Q
abbrev dNotT (f : DTE) : DTE := fun ρ μ Q => f ρ μ fun x μ1 => truOf μ1 x fun k => Q (.dat (.bool !k)) μ1
variable {a b : Expr} {rest : List Expr} {f g : DTE} {pos : Pos}
theorem d_and (ha : DE X a f) (hb : DE X (.BoolOp .And (b :: rest) pos) g) : DE X (.BoolOp .And (a :: b :: rest) pos) (dAndV f g) :=
  ⟨fun B => PE.weak (pe_andT (ha.run B) (hb.run B)) fun σ H Q ⟨hv, hx, ρ, μ, Q0, hl, R, q, low⟩ => by
    refine ⟨hv, hx, ρ, μ, _, hl, R, q, fun x μ1 q1 v H1 R1 => ?_⟩
    obtain ⟨k, t, q2⟩ := tru_at R1 q1
    refine ⟨k, t, ?_⟩
    cases k with
    | true => exact ⟨hv, hx, ρ, μ1, _, hl, R1.tail, q2, low⟩
    | false => exact low _ _ q2 _ _ R1⟩
theorem d_or (ha : DE X a f) (hb : DE X (.BoolOp .Or (b :: rest) pos) g) : DE X (.BoolOp .Or (a :: b :: rest) pos) (dOrV f g) :=
  ⟨fun B => PE.weak (pe_orT (ha.run B) (hb.run B)) fun σ H Q ⟨hv, hx, ρ, μ, Q0, hl, R, q, low⟩ => by
    refine ⟨hv, hx, ρ, μ, _, hl, R, q, fun x μ1 q1 v H1 R1 => ?_⟩
    obtain ⟨k, t, q2⟩ := tru_at R1 q1
    refine ⟨k, t, ?_⟩
    cases k with
    | true => exact low _ _ q2 _ _ R1
    | false => exact ⟨hv, hx, ρ, μ1, _, hl, R1.tail, q2, low⟩⟩
theorem d_not (ha : DE X a f) : DE X (.UnaryOp .Not a pos) (dNotT f) :=
  ⟨fun B => PE.weak (pe_notT (ha.run B)) fun σ H Q ⟨hv, hx, ρ, μ, Q0, hl, R, q, low⟩ => by
    refine ⟨hv, hx, ρ, μ, _, hl, R, q, fun x μ1 q1 v H1 R1 => ?_⟩
    obtain ⟨k, t, q2⟩ := tru_at R1 q1
    exact ⟨k, t, low _ _ q2 _ _ (R1.tail.cons (x := .dat (.bool _)) (Dz.bl _))⟩⟩
theorem d_one {op : BoolOp} (ha : DE X a f) (he : eval (.BoolOp op [a] pos) X.env = eval a X.env := by rfl) : DE X (.BoolOp op [a] pos) f :=
  ⟨fun B => ⟨fun pins s σ H Q I q => by rw [he]; exact (ha.run B).run pins s σ H Q I q⟩⟩
end
theorem cutG_take {α : Type} (xs : List α) (n : Nat) : cutG xs none (some (n : Int)) = xs.take n := by
  unfold cutG
  rw [HT.sIx_none, HT.sIx_nat, List.drop_zero, Nat.sub_zero]
  rcases Nat.le_total n xs.length with h | h
  · rw [Nat.min_eq_left h]
  · rw [Nat.min_eq_right h, List.take_of_length_le h, List.take_of_length_le (Nat.le_refl _)]
theorem cutG_drop {α : Type} (xs : List α) (n : Nat) : cutG xs (some (n : Int)) none = xs.drop n := by
  unfold cutG
  rw [HT.sIx_none, HT.sIx_nat]
  rcases Nat.le_total n xs.length with h | h
  · rw [Nat.min_eq_left h, List.take_of_length_le]
    rw [List.length_drop]
    omega
  · rw [Nat.min_eq_right h, List.drop_of_length_le h, List.drop_of_length_le (Nat.le_refl _), List.take_nil]
end Zl
/-! xs.remove(x): items are data of any depth. -/
namespace Zh
open PySem PySem.Spec PyProof.Rows L2 SeqAt
theorem remove_loopAt (l : Addr) (items : Array Value) (n : Nat) (x : Value) (e : Value → Bool) (j : Nat) (hj : j < items.size) (hit : e items[j] = true) (k : Nat) (hs1 : items.size ≤ sizeLine) :
    ∀ i : Nat, j - i = k → i ≤ j → (∀ m (hm : m < items.size), i ≤ m → m < j → e items[m] = false) → Meets (Builtin.«list.remove.loop» ⟨[.ref l, x, rawInt i], []⟩)
      (fun A R s => s.heap.get? l = some { cls := .type "list", dict := none, data := .seq items n, slots := #[] } ∧ (∀ y, y ∈ items → EqAt A.in1 s y x (e y)) ∧ R (.ok (.ret .none)) { s with heap := s.heap.update l (Obj.mapSeq fun xs => xs.eraseIdxIfInBounds j) }) := by
  induction k with
  | zero =>
    intro i hk hij hno prog w A R s h
    obtain ⟨hp, g, d, tk, os⟩ := s; obtain ⟨hl, he, h⟩ := h
    have hij' : i = j := by omega
    subst hij'
    wp_walk using wpAny_loadPart' hl
    have hi : items[((i : Nat) : Int).toNat]? = some items[i] := by simp [hj]
    rw [hi]
    refine wpAny_bind (he _ (Array.getElem_mem hj) prog w _ _ ?_)
    rw [hit]
    have hz' : (items.eraseIdxIfInBounds i).size ≤ sizeLine + 1 := Nat.le_trans (MeetsSeq.size_erased items _) (Nat.le_succ_of_le hs1)
    wp_walk using (wpAny_updateSeq hl rfl (hz := hs1) (_hz' := hz')), wpAny_loadPart' hl
    simpa using h
  | succ k ih =>
    intro i hk hij hno prog w A R s h
    obtain ⟨hp, g, d, tk, os⟩ := s; obtain ⟨hl, he, h⟩ := h
    have hlt : i < items.size := by omega
    wp_walk using wpAny_loadPart' hl
    have hi : items[((i : Nat) : Int).toNat]? = some items[i] := by simp [hlt]
    have hc : ((i : Int) + 1) = ((i + 1 : Nat) : Int) := by push_cast; rfl
    rw [hi]
    refine wpAny_bind (he _ (Array.getElem_mem hlt) prog w _ _ ?_)
    rw [hno i hlt (Nat.le_refl _) (by omega)]
    wp_walk
    rw [hc]
    exact ⟨plainId_quiet MeetsSeq.plain_remove_loop _, codeAny_builtin MeetsSeq.entry_remove_loop (by
      rw [Around.under_plainId MeetsSeq.plain_remove_loop _]
      exact ih (i + 1) (by omega) (by omega) (fun m hm h1 h2 => hno m hm (by omega) h2) prog w A R _ ⟨hl, he, h⟩)⟩
theorem list_removeAt (l : Addr) (items : Array Value) (n : Nat) (x : Value) (e : Value → Bool) (j : Nat) (hj : j < items.size)
    (hit : e items[j] = true) (hno : ∀ m (hm : m < items.size), m < j → e items[m] = false) (hs1 : items.size ≤ sizeLine) :
    Meets (Builtin.«list.remove» ⟨[.ref l, x], []⟩)
      (fun A R s => s.heap.get? l = some { cls := .type "list", dict := none, data := .seq items n, slots := #[] } ∧ (∀ y, y ∈ items → EqAt A.in1 s y x (e y)) ∧ R (.ok (.ret .none)) { s with heap := s.heap.update l (Obj.mapSeq fun xs => xs.eraseIdxIfInBounds j) }) := by
  intro prog w A R s h
  obtain ⟨hp, g, d, tk, os⟩ := s; obtain ⟨hl, he, h⟩ := h
  wp_walk using wpAny_loadPart' hl
  exact ⟨plainId_quiet MeetsSeq.plain_remove_loop _, codeAny_builtin MeetsSeq.entry_remove_loop (by
    rw [Around.under_plainId MeetsSeq.plain_remove_loop _]
    exact remove_loopAt l items n x e j hj hit _ hs1 0 rfl (Nat.zero_le _) (fun m hm _ h2 => hno m hm h2) prog w A R _ ⟨hl, he, h⟩)⟩
section
variable {X : Cx}
def rRemD (K : PySem.W.Frag) : V → List V → Hp → VK → Prop := fun x xs H Q => ∃ (a : Addr) (ys : List V) (y : V) (d : PyData) (ds : List PyData) (j : Nat) (z : PyData), x = V.ref a ∧ xs = [y] ∧ H a = some (.lst ys) ∧ DpAll K H ys ds ∧ Dp K H y d ∧
  SeqAt.shaped (.list ds) = true ∧ SeqAt.shaped d = true ∧ ds[j]? = some z ∧ PyData.eqv z d = true ∧ (∀ (m : Nat) (z' : PyData), m < j → ds[m]? = some z' → PyData.eqv z' d = false) ∧ Q .non (upd H a (.lst (ys.eraseIdx j)))
theorem mt_removeD (hu : X.A.units + 65 < cLine) : MtR X "list.remove" (rRemD X.K) := by
  intro pins s σ H x xs v us Q I rx rxs h
  obtain ⟨a, ys, y, d, ds, j, z, rfl, rfl, hH, ha, hy, sl, sd, hz, hzj, hno, q⟩ := h
  cases rx
  obtain ⟨uy, rfl, ry⟩ := rxs.one
  obtain ⟨bs, r1⟩ := Dp.reads I d y uy hy ry
  have hxs : PyData.canLayAll0 ds = true := SeqAt.canLay_of_shaped sl
  have hroom : X.A.units + 1 + min (PyData.depthAll ds) d.depth < cLine := room_in_shaped sd hu
  obtain ⟨zl, its, n, r, hl, e⟩ := I.lstM hH
  obtain ⟨as, h4⟩ := Dp.readsAll I ds _ its ha r
  have hn : its.length = ds.length := SeqAt.ReadsAll.length ds its as h4
  have hmap : its.map (SeqAt.readOf s.heap) = ds := SeqAt.readsAll_map ds its as hxs h4
  obtain ⟨hjd, _⟩ := List.getElem?_eq_some_iff.mp hz
  have hjl : j < its.length := by omega
  have hj : j < its.toArray.size := by simpa using hjl
  have at_ : ∀ (m : Nat) (hm : m < its.toArray.size) (z' : PyData), ds[m]? = some z' → SeqAt.readOf s.heap its.toArray[m] = z' := by
    intro m hm z' hz'
    have hml : m < its.length := by simpa using hm
    rw [← hmap, List.getElem?_map, List.getElem?_eq_getElem hml] at hz'
    have e1 : SeqAt.readOf s.heap its[m] = z' := Option.some.inj (show some (SeqAt.readOf s.heap its[m]) = some z' from hz')
    simpa using e1
  refine call_meets PySem.F.slot_list_remove ⟨_, e, rfl⟩ PySem.F.entry_list_remove (PySem.F.args_list_remove_2 _ _)
    (list_removeAt a its.toArray n uy (fun u => PyData.eqv (SeqAt.readOf s.heap u) d) j hj ?_ ?_ (by rw [List.size_toArray]; omega)) ⟨e, SeqAt.items_eqAt (vs := its.toArray) (show ReadsAll s.heap its.toArray.toList ds as from h4) r1 hxs (SeqAt.canLay_of_shaped sd) hroom, ?_⟩
  · show PyData.eqv (SeqAt.readOf s.heap its.toArray[j]) d = true
    rw [at_ j hj z hz]
    exact hzj
  · intro m hm hmj
    have hmd : m < ds.length := by omega
    have hz' : ds[m]? = some ds[m] := List.getElem?_eq_getElem hmd
    show PyData.eqv (SeqAt.readOf s.heap its.toArray[m]) d = false
    rw [at_ m hm _ hz']
    exact hno m _ hmj hz'
  · refine ⟨.non, _, I.lset (its' := its.eraseIdx j) (t' := s.toks) hH e ?_ (r.eraseIdx j) ?_, rfl, q⟩
    · show its.toArray.eraseIdxIfInBounds j = (its.eraseIdx j).toArray
      rw [List.eraseIdxIfInBounds_toArray]
    · have z2 := len_erase ys j
      omega
end
end Zh
namespace Zl
open PySem PySem.Spec PyProof.Rows L2 Lf
section
variable {X : Cx}
/-- xs.remove(x) -/
def zRemove : Val → List Val → Store → DK → Prop := fun x xs μ Q => match x, xs with
  | .ptr a, [y] => ∃ (i : Nat) (ys : List Val) (d : PyData) (ds : List PyData) (j : Nat) (z : PyData), μ[i]? = some (a, Node.lst ys) ∧ datOf ys = some ds ∧ View μ y d ∧ SeqAt.shaped (.list ds) = true ∧ SeqAt.shaped d = true ∧ ds[j]? = some z ∧ PyData.eqv z d = true ∧
      (∀ (m : Nat) (z' : PyData), m < j → ds[m]? = some z' → PyData.eqv z' d = false) ∧ Q (.dat .none) (μ.set i (a, .lst (ys.eraseIdx j)))
  | _, _ => False
theorem me_remove (hu : X.A.units + 65 < cLine) : MeZ X "list.remove" zRemove := ⟨_, Zh.mt_removeD hu, fun B σ ρ H μ v x vs xs Q0 Q l R q low => by
  match x, xs, l, R, q with
  | .ptr a, [y], l, R, q =>
    obtain ⟨i, ys, d, ds, j, z, hj, hd, hv, h3, h4, h5, h6, h7, q⟩ := q
    obtain ⟨u, rfl, R⟩ := one_arg' l R
    obtain ⟨us, e, pr⟩ := R.at hj
    cases (R.tail.head : v = .ref a)
    exact ⟨a, us, u, d, ds, j, z, rfl, rfl, e, DzAll.dp _ _ (DzAll.mono fz_le _ _ (datOf_all pr hd)), hv.at R R.head, h3, h4, h5, h6, h7, low _ _ q _ _ ((R.put (n' := .lst (ys.eraseIdx j)) hj ⟨_, upd_same, paired_erase j pr⟩).tail.tail.cons .non)⟩⟩
end
end Zl
/-! len of an own class; a list in a slot that nobody changes any more; lists that are lent to a call; list(range(n)). -/
namespace Zl
open PySem PySem.Spec PyProof.Rows L2 Lf
section
variable {X : Cx} {C f : Addr} {k : Nat} {fd : FuncData} {ps : List Str} {sp : Sp} {F : DSp}
theorem call_lenOwn (Fn : FnOk X.prog X.w X.K X.mg X.base CX0 k f fd ps sp) (hm : Meth X.K C "__len__" f) (hb : Binds X.K fd ps []) (hr : Room (k + 1) X.A) :
    CallR X (.builtin "len") (fun vs H Q => ∃ a dx fs, vs = [.ref a] ∧ H a = some (.ins C dx fs) ∧ sp [.ref a] H (fun v H' => ∃ n : Int, v = .int n ∧ 0 ≤ n ∧ n < 2 ^ 63 ∧ Q (.int n) H') E0) := by
  intro pins s σ H xs us Q I r h
  obtain ⟨a, dx, fs, rfl, ha, hsp⟩ := h
  obtain ⟨u, rfl, rx⟩ := vals1 r
  cases rx
  obtain ⟨mA, J, _⟩ := ins_get I.hok ha
  obtain ⟨od, J, _⟩ := J.look
  obtain ⟨m, hF⟩ := I.fr
  refine Calls.call_function_entry kind_len plain_len entry_len (args_len1 _) ?_
  unfold Builtin.«len»
  refine wpAny_bind (m := oneArg "len" _) (wpAny_pure ?_)
  have sb : L2.Sub X (k + 1) X.A := ⟨hr, rfl⟩
  have sb1 := sb.in1
  have e0 : Env0 X.prog X.w X.K X.mg X.base X.A.in1 X.stack s H := by
    have e := I.env0
    exact ⟨by rw [sb1.fr]; exact e.frames, e.mod, e.bs, e.bsz, e.funs, e.frf, e.hok, e.bare⟩
  have hl := Fn.len _ _ _ _ hsp
  have r2 : Vals [V.ref a] [Value.ref a] := .cons rfl .nil
  refine wpAny_bind (m := callSpecial? (.ref a) (Str.ofString "__len__")) (PySem.W.special_fn I.kIn J hm.at_ (beq_iff_eq.mp hm.fn) ?_)
  refine wpAny_call (codeAny_mono (Fn.run X.A.in1 X.stack s H ⟨[.ref a], []⟩ [.ref a] [.ref a] _ E0 sb1.room e0 (by
    have := hb s [.ref a] I.kIn (by simpa using hl)
    simpa using this) r2 hsp) fun r s' hq => ?_)
  cases r with
  | error e => exact pass0 (X := X) pins σ H s e s' I hq
  | ok fl =>
    cases fl with
    | ret w =>
      obtain ⟨z, H', I', rz, n, ez, n0, n1, q⟩ := I.after hq
      subst ez
      obtain ⟨t, rfl⟩ := rz
      refine wpAny_bind (wpAny_holding (wpAny_pure ?_))
      refine wpAny_bind (wpAny_letGo ?_)
      show wpAny _ _ (if n < 0 then _ else _) _ _ _
      rw [if_neg (by omega)]
      show wpAny _ _ (if n ≥ 2 ^ 63 then _ else _) _ _ _
      rw [if_neg (by omega)]
      exact wpAny_bind (wpAny_mkInt (wpAny_pure ⟨_, rfl, .int n, H', I'.tok _, ⟨_, rfl⟩, q⟩))
    | next => exact False.elim hq
    | brk => exact False.elim hq
    | cont => exact False.elim hq
/-- len(o), o of a class with __len__ -/
def zLenOwn (C : Addr) (F : DSp) : List Val → Store → DK → Prop := fun xs μ Q => match xs with
  | [.ptr a] => (∃ (j : Nat) (dx : Addr) (fs : List (Str × Val)), μ[j]? = some (a, Node.ins C dx fs)) ∧ own F [.ptr a] μ fun x μ2 => ∃ n : Int, x = .dat (.int n) ∧ 0 ≤ n ∧ n < 2 ^ 63 ∧ Q (.dat (.int n)) μ2
  | _ => False
theorem ca_lenOwn (M : MCalZ X.prog X.w X.K X.mg X.base k C "__len__" ps F) (hr : Room (k + 1) X.A) : CaZ X (.builtin "len") (zLenOwn C F) := by
  obtain ⟨f, fd, Fn, hm, hb⟩ := cal_clM M
  refine ⟨_, call_lenOwn Fn hm hb hr, fun B σ ρ H μ vs xs Q0 Q l R q low => ?_⟩
  match xs, l, R, q with
  | [.ptr a], l, R, q =>
    obtain ⟨v, rfl, R⟩ := one_arg l R
    obtain ⟨⟨j, dx, fs, hj⟩, q⟩ := q
    obtain ⟨gs, e, pr⟩ := R.at hj
    cases (R.head : v = .ref a)
    refine ⟨a, dx, gs, rfl, e, own_call (vs := [.ref a]) (xs := [.ptr a]) rfl R q ?_⟩
    rintro y μ2 ⟨n, rfl, n0, n1, q2⟩ v H2 R4
    cases (R4.head : Dz _ v (.int n))
    exact ⟨n, rfl, n0, n1, low _ _ q2 _ _ (R4.tail.cons (.int n))⟩
/-! ### seen otherwise -/
theorem weak_fz {ρ : DR} {μ : Store} {a : Addr} {xs : List Val} {ds : List PyData} (i j : Nat) (hi : ρ[i]? = some (some (.ptr a))) (hj : μ[j]? = some (a, .lst xs)) (hd : datOf xs = some ds) : Weak X ρ μ (ρ.set i (some (.dat (.list ds)))) (μ.eraseIdx j) := fun B H σ R => by
  obtain ⟨v, e, r⟩ := R.get hi
  have R1 := (R.cons r).fz hj hd
  refine R1.tail.slots ?_
  have := paired_set (x := some v) (y := some (Val.dat (.list ds))) i R1.tail.sl R1.head
  have es : σ.set i (some v) = σ := by
    refine List.ext_getElem? fun n => ?_
    rw [List.getElem?_set]
    split
    · rename_i h
      subst h
      rw [e, if_pos (List.getElem?_eq_some_iff.mp e).1]
    · rfl
  rw [es] at this
  exact this
theorem weak_perm {ρ : DR} {μ μ' : Store} (h : μ'.Perm μ) : Weak X ρ μ ρ μ' := fun _ _ _ R => R.perm h
theorem Weak.trans {ρ ρ' ρ'' : DR} {μ μ' μ'' : Store} (h : Weak X ρ μ ρ' μ') (g : Weak X ρ' μ' ρ'' μ'') : Weak X ρ μ ρ'' μ'' := fun B H σ R => g B H σ (h B H σ R)
theorem pick {α : Type} {l r : List α} {x : α} (j : Nat) (h : l[j]? = some x) (p : (l.eraseIdx j).Perm r) : l.Perm (x :: r) := (perm_at h).trans (p.cons x)
/-! ### lent lists -/
mutual
def noList : PyData → Bool
  | .list _ => false
  | .dict _ => false
  | .tuple ds => noLists ds
  | _ => true
def noLists : List PyData → Bool
  | [] => true
  | d :: ds => noList d && noLists ds
end
mutual
theorem Dz.keep {Z Z' : Hp} (g : Vd.Tups Z Z') : ∀ (d : PyData) (v : V), noList d = true → Dz Z v d → Dz Z' v d
  | .none, _, _, h => by cases h; exact .non
  | .bool b, _, _, h => by cases h; exact .bl b
  | .int i, _, _, h => by cases h; exact .int i
  | .str x, _, _, h => by cases h; exact .str x
  | .list ds, _, n, _ => by rw [noList] at n; cases n
  | .tuple ds, _, n, h => by
    rw [noList] at n
    cases h with
    | tup h1 h2 => exact .tup (g _ _ h1) (DzAll.keep g ds _ n h2)
  | .dict _, _, _, h => by cases h
theorem DzAll.keep {Z Z' : Hp} (g : Vd.Tups Z Z') : ∀ (ds : List PyData) (vs : List V), noLists ds = true → DzAll Z vs ds → DzAll Z' vs ds
  | [], _, _, h => by cases h; exact .nil
  | d :: ds, _, n, h => by
    rw [noLists, Bool.and_eq_true] at n
    cases h with
    | cons h1 h2 => exact .cons (Dz.keep g d _ n.1 h1) (DzAll.keep g ds _ n.2 h2)
end
def flatV : Val → Prop
  | .dat d => noList d = true
  | .ptr _ => True
  | .scr _ => False
  | .prt k _ => noList k = true
def flatN : Node → Prop
  | .lst xs => ∀ x ∈ xs, flatV x
  | .dv kvs => ∀ p ∈ kvs, flatV p.2
  | .dvl _ _ kvs => ∀ p ∈ kvs, flatV p.2
  | .ins _ _ fs => ∀ p ∈ fs, flatV p.2
  | .tab _ => False
theorem RV.keep {K : PySem.W.Frag} {Z Z' : Hp} (g : Vd.Tups Z Z') {v : V} {x : Val} (n : flatV x) (h : RV K Z v x) : RV K Z' v x := by
  cases x with
  | dat d => exact Dz.keep g d v n h
  | ptr a => exact h
  | scr ns => exact n.elim
  | prt k a => exact h.imp fun t z => z.imp fun u z => ⟨z.1, g _ _ z.2.1, Dz.keep g k _ n z.2.2⟩
theorem mapM {α β : Type} {F G : α → β → Prop} {P : β → Prop} (f : ∀ a b, P b → F a b → G a b) : ∀ {l : List α} {r : List β}, (∀ b ∈ r, P b) → Paired F l r → Paired G l r
  | _, _, _, .nil => .nil
  | _, _, h, .cons r t => .cons (f _ _ (h _ (List.mem_cons_self ..)) r) (mapM f (fun b hb => h b (List.mem_cons_of_mem _ hb)) t)
theorem RN.keep {w : World} {K : PySem.W.Frag} {Z Z' H : Hp} (g : Vd.Tups Z Z') {a : Addr} {n : Node} (f : flatN n) (h : RN w K Z H a n) : RN w K Z' H a n := by
  cases n with
  | lst xs => exact h.imp fun vs z => ⟨z.1, mapM (P := flatV) (fun _ _ p r => RV.keep g p r) f z.2⟩
  | dv kvs => exact h.imp fun ks z => ⟨z.1, z.2.1, mapM (P := fun p : NestedKey × Val => flatV p.2) (fun _ _ p k => ⟨k.1, k.2.1, k.2.2.1.keep g, RV.keep g p k.2.2.2⟩) f z.2.2⟩
  | dvl ob ks kvs => exact ⟨h.1, h.2.1, mapM (P := fun p : NestedKey × Val => flatV p.2) (fun _ _ p k => ⟨k.1, k.2.1, k.2.2.1.keep g, RV.keep g p k.2.2.2⟩) f h.2.2⟩
  | ins C dx fs => exact h.imp fun gs z => ⟨z.1, mapM (P := fun p : Str × Val => flatV p.2) (fun _ _ p k => ⟨k.1, RV.keep g p k.2⟩) f z.2⟩
  | tab _ => exact f.elim
theorem RN.noTup {w : World} {K : PySem.W.Frag} {Z H : Hp} {a : Addr} {n : Node} {xs : List V} (h : RN w K Z H a n) (e : H a = some (.tup xs)) : False := by
  cases n with
  | lst _ =>
    obtain ⟨_, e2, _⟩ := h
    rw [e] at e2
    cases e2
  | dv _ =>
    obtain ⟨_, e2, _⟩ := h
    rw [e] at e2
    cases e2
  | dvl _ _ _ =>
    obtain ⟨e2, _⟩ := h
    rw [e] at e2
    cases e2
  | ins _ _ _ =>
    obtain ⟨_, e2, _⟩ := h
    rw [e] at e2
    cases e2
  | tab _ =>
    obtain ⟨_, e2, _⟩ := h
    rw [e] at e2
    cases e2
/-- an argument as the callee sees it -/
inductive Lent (μ : Store) : Val → Val → Prop
  | keep (x : Val) : Lent μ x x
  | p (j : Nat) {a : Addr} {xs : List Val} {ds : List PyData} : μ[j]? = some (a, .lst xs) → datOf xs = some ds → Lent μ (.ptr a) (.dat (.list ds))
def lend (F : DSp) (xs : List Val) (μ : Store) (Q : DK) : Prop := ∃ ys, Paired (Lent μ) xs ys ∧ F ys [] fun x ν => (flatV x ∧ ∀ p ∈ ν, flatN p.2) ∧ Q x (μ ++ ν)
theorem lent_at {B : Base} {H : Hp} {μ : Store} {σ : List (Option V)} {ρ : DR} (R : RL X.w X.K B H σ ρ μ) {v : V} {x y : Val} (r : RV X.K (Fz (B.fr ++ μ) H) v x) (l : Lent μ x y) : RV X.K H v y := by
  cases l with
  | keep x => exact RV.mono fz_le r
  | p j hj hd =>
    obtain ⟨vs, e, pr⟩ := R.at hj
    cases (r : v = .ref _)
    exact .lst e (DzAll.mono fz_le _ _ (datOf_all pr hd))
theorem lent_all {B : Base} {H : Hp} {μ : Store} {σ : List (Option V)} {ρ : DR} (R : RL X.w X.K B H σ ρ μ) : ∀ {vs : List V} {xs ys : List Val}, Paired (Lent μ) xs ys → Paired (RVo X.K (Fz (B.fr ++ μ) H)) (vs.map some) (xs.map some) → Paired (RVo X.K H) (vs.map some) (ys.map some)
  | [], [], _, .nil, _ => .nil
  | [], _ :: _, _, _, h => by cases h
  | _ :: _, [], _, _, h => by cases h
  | v :: vs, x :: xs, _, .cons l t, h => by
    cases h with
    | cons r h => exact .cons (lent_at R (v := v) (x := x) r l) (lent_all R t h)
theorem lend_call {B : Base} {H : Hp} {σ : List (Option V)} {ρ : DR} {μ : Store} {vs : List V} {xs : List Val} {Q0 : DK} {Q : VK} (l : vs.length = xs.length) (R : RL X.w X.K B H (vs.map some ++ σ) (xs.map some ++ ρ) μ) (h : lend F xs μ Q0) (low : Low X B σ ρ Q0 Q) : spZ X.w X.K (Cl F) vs H Q E0 := by
  obtain ⟨ys, le, f⟩ := h
  have fn : Fz [] H = H := by
    funext x
    unfold Fz
    simp
  have sl := (paired_split (by simp [l]) R.sl).1
  have sr := (paired_split (by simp [l]) R.sl).2
  have ly : xs.length = ys.length := le.length
  have rel := lent_all R le sl
  refine ⟨⟨H, []⟩, ys, [], _, by omega, ⟨by simp, fun x o h => by rw [show (([] : Store) ++ []) = [] from rfl, fn]; exact h, by rw [show (([] : Store) ++ []) = [] from rfl, fn]; exact rel, fun p hp => by simp at hp⟩, ⟨_, f, fun x ν q => q⟩, fun x ν ⟨⟨fx, fν⟩, q⟩ v H' R2 => low x _ q v H' ?_⟩
  have b2 : ∀ x o, H x = some o → x ∉ ν.map (·.1) ∧ H' x = some o := fun x o e => Fz.sub (R2.base x o e)
  have same : ∀ q ∈ B.fr ++ μ, H' q.1 = H q.1 := fun q hq => by
    cases e : H q.1 with
    | none => exact absurd e (R.st q hq).live
    | some o => exact (b2 _ _ e).2
  have out : ∀ q ∈ B.fr ++ μ, q.1 ∉ ν.map (·.1) := fun q hq => by
    cases e : H q.1 with
    | none => exact absurd e (R.st q hq).live
    | some o => exact (b2 _ _ e).1
  have g3 : ∀ x o, Fz (B.fr ++ μ) H x = some o → Fz (B.fr ++ (μ ++ ν)) H' x = some o := fun x o h => by
    obtain ⟨h1, h2⟩ := Fz.sub h
    obtain ⟨h3, h4⟩ := b2 _ _ h2
    refine Fz.of (fun z => ?_) h4
    rw [← List.append_assoc, List.map_append] at z
    rcases List.mem_append.mp z with z | z
    · exact h1 z
    · exact h3 z
  have tp : Vd.Tups (Fz ν H') (Fz (B.fr ++ (μ ++ ν)) H') := fun x us e => by
    obtain ⟨h1, h2⟩ := Fz.sub e
    refine Fz.of (fun z => ?_) h2
    rw [← List.append_assoc, List.map_append] at z
    rcases List.mem_append.mp z with z | z
    · obtain ⟨q, hq, rfl⟩ := List.mem_map.mp z
      rw [same q hq] at h2
      exact (R.st q hq).noTup h2
    · exact h1 z
  have nd2 : (ν.map (·.1)).Nodup := R2.nd
  refine ⟨?_, fun x o h => g3 _ _ (R.base x o h), .cons (RV.keep (v := v) tp fx R2.head) (L2.Paired.mapP sr fun _ _ => RVo.mono g3), fun q hq => ?_⟩
  · rw [← List.append_assoc, List.map_append, List.nodup_append]
    refine ⟨R.nd, nd2, fun x hx y hy e => ?_⟩
    obtain ⟨q, hq, rfl⟩ := List.mem_map.mp hx
    exact out q hq (by rw [e]; exact hy)
  · rw [← List.append_assoc] at hq
    rcases List.mem_append.mp hq with hq | hq
    · exact (R.st q hq).mono g3 (same q hq)
    · exact RN.keep tp (fν q hq) (R2.st q hq)
/-- a def: own lists are lent to it, what it gives is made of no list -/
abbrev dOwnL (F : DSp) (g : DTA) : DTE := fun ρ μ Q => g ρ μ fun xs μ1 => lend F xs μ1 Q
variable {x : Str} {e : Expr} {es : List Expr} {g : DTA} {p pos : Pos}
theorem d_ownL (M : CalZ X.prog X.w X.K X.mg X.base k x ps F) (hr : Room k X.A) (hg : Gl X x) (ha : DA X (e :: es) g)
    (hdb : (x == ("__debug__" : Str)) = false := by decide) (he : starEach (e :: es) X.env = (false, eval e X.env) :: starEach es X.env := by rfl) (hpl : (backTo pos (starEach es X.env)).any (·.1) = false := by rfl) :
    DE X (.Call (.Name x p) (e :: es) [] pos) (dOwnL F g) :=
  ⟨fun B => PE.weak (pe_own (cal_cl M) hr hg (ha.run B) hdb he hpl) fun σ H Q ⟨hv, hx, ρ, μ, Q0, hl, R0, h, low⟩ => by
    refine ⟨hv, hx, ρ, μ, _, hl, R0, h, fun xs μ1 h1 vs H1 l R1 => ?_⟩
    show spZ _ _ _ (vs ++ []) _ _ _
    rw [List.append_nil]
    exact lend_call l R1 h1 low⟩
end
end Zl
/-! list(range(n)) -/
namespace Zl
open PySem PySem.Spec PyProof.Rows L2 Lf
section
variable {X : Cx} {e : Expr} {f : DTE}
def intsV (n : Int) : List Val := (List.range n.toNat).map fun i => .dat (.int (i : Nat))
abbrev dListRg (f : DTE) : DTE := fun ρ μ Q => f ρ μ fun x μ1 => match x with
  | .dat (.int n) => 0 ≤ n ∧ n ≤ 16777216 ∧ ∀ p, Q (.ptr p) (μ1 ++ [(p, .lst (intsV n))])
  | _ => False
theorem d_listRg {p pos rp rpos : Pos} (hc : X.calm = true) (hl : Gl X "list") (hlm : X.mg "list" = none) (hg : Gl X "range") (hm : X.mg "range" = none) (he : DE X e f)
    (na : starEach [e] X.env = (false, eval e X.env) :: starEach [] X.env := by rfl) (nb : starEach [.Call (.Name "range" rp) [e] [] rpos] X.env = (false, eval (.Call (.Name "range" rp) [e] [] rpos) X.env) :: starEach [] X.env := by rfl) :
    DE X (.Call (.Name "list" p) [.Call (.Name "range" rp) [e] [] rpos] [] pos) (dListRg f) :=
  ⟨fun B => PE.weak (pe_listRg hc hl hlm (prg_1 (p := rp) (pos := rpos) hg hm (he.run B) na) nb) fun σ H Q ⟨hv, hx, ρ, μ, Q0, hl, R0, h, low⟩ => by
    refine ⟨hv, hx, ρ, μ, _, hl, R0, h, fun x μ1 q v H1 R1 => ?_⟩
    match x, q, R1 with
    | .dat (.int n), q, R1 =>
      obtain ⟨n0, n1, q⟩ := q
      cases (R1.head : Dz _ v (.int n))
      refine ⟨n, rfl, RgOk.of_le (Int.le_refl _) n1 (by decide) n0, fun p hp => low _ _ (q p) _ _ ?_⟩
      have R2 := R1.tail.new (n := .lst (intsV n)) (o := .lst (rgV 0 n)) hp ⟨_, upd_same, ?_⟩
      · exact R2.cons rfl
      · unfold rgV intsV
        rw [Int.sub_zero]
        generalize List.range n.toNat = l
        induction l with
        | nil => exact .nil
        | cons a l ih =>
          refine .cons ?_ ih
          show RV _ _ (V.int (0 + (a : Nat))) (Val.dat (.int (a : Nat)))
          rw [Int.zero_add]
          exact .int _⟩
end
end Zl
/-! A def that is run only where no guard stands around it (repr of lists may be told in it). -/
namespace Zl
open PySem PySem.Spec PyProof.Rows L2 Lf
def CalG (P : Program) (w : World) (K : PySem.W.Frag) (mg : Str → Option Value) (base : Heap) (k : Nat) (x : Str) (ps : List Str) (F : DSp) : Prop :=
  ∃ (f : Addr) (fd : FuncData), ((∀ vs H Q E, spZ w K F vs H Q E → vs.length = ps.length) ∧ ∀ A, Room k A → A.guards = some [] → Gd.RunAt A P w K mg base f fd ps (spZ w K F)) ∧ mg x = some (.ref f) ∧ PySem.W.keepIn K (.ref f) = true ∧ Binds K fd ps []
theorem len_z {w : World} {K : PySem.W.Frag} {F : DSp} {ps : List Str} (len : ∀ xs μ Q, F xs μ Q → xs.length = ps.length) : ∀ vs H Q E, spZ w K F vs H Q E → vs.length = ps.length := fun vs H Q E h => by
  obtain ⟨B, xs, μ, Q0, l, _, h, _⟩ := h
  rw [l]
  exact len _ _ _ h
theorem okG {P : Program} {w : World} {K : PySem.W.Frag} {mg : Str → Option Value} {base : Heap} {x qual : Str} {st : Stmt} {f : Addr} {fd : FuncData} {N ps : List Str} {k : Nat} {F : DSp} (FF : Fun K x qual st f fd) (S : FnScope N ps (defScope st))
    (len : ∀ xs μ Q, F xs μ Q → xs.length = ps.length)
    (body : ∀ (A : Around) (cdv : Value) (outer : List Env) (s : Shared) (H : Hp) (E : XK), Room k (A.deeper (envOfC qual (defScope st) s.heap.objs.size f cdv)) → (A.deeper (envOfC qual (defScope st) s.heap.objs.size f cdv)).guards = some [] →
      ∃ t : DTS, DSs (cxOf CX0 P w K mg base N qual (defScope st) f cdv A outer s H E).nox (defBody st) t ∧ ∀ xs μ Q, F xs μ Q → t (dEnd Q) (startZ N xs) μ) :
    (∀ vs H Q E, spZ w K F vs H Q E → vs.length = ps.length) ∧ ∀ A, Room (k + 1) A → A.guards = some [] → Gd.RunAt A P w K mg base f fd ps (spZ w K F) :=
  ⟨len_z len, fun A rm hG => runZ FF S rm len fun cdv outer s H E hr => body A cdv outer s H E hr hG⟩
section
variable {X : Cx} {k : Nat} {ps : List Str} {F : DSp} {x : Str} {e : Expr} {es : List Expr} {g : DTA} {t : TA} {p pos : Pos}
theorem pe_ownG (C : CalG X.prog X.w X.K X.mg X.base k x ps F) (hr : Room k X.A) (hG : X.A.guards = some []) (hg : Gl X x) (ha : PA X (e :: es) t)
    (hdb : (x == ("__debug__" : Str)) = false := by decide) (he : starEach (e :: es) X.env = (false, eval e X.env) :: starEach es X.env := by rfl) (hpl : (backTo pos (starEach es X.env)).any (·.1) = false := by rfl) :
    PE X (.Call (.Name x p) (e :: es) [] pos) (tCall (spZ X.w X.K F) [] E0 t) := by
  obtain ⟨f, fd, ⟨hlen, F⟩, hm, hk, hb⟩ := C
  refine ⟨fun pins s σ H Q I h => ?_⟩
  refine wpAny_Call_Name_kw (ld_glob I hg hm ?_ hdb)
  refine PySem.W.callWith_K (h₀ := X.base) I.ok.mod.kin hk (thn (ha.run pos pins s σ H _ I h) fun us s1 ⟨vs, H1, I1, r, q⟩ => ⟨I1.kIn, ?_⟩) he hpl
  have q : spZ X.w X.K _ (vs ++ []) H1 Q E0 := q
  rw [List.append_nil] at q
  have hl : us.length = ps.length := by rw [← r.length]; exact hlen _ _ _ _ q
  refine wpAny_call (codeAny_mono (F X.A hr hG X.stack s1 H1 ⟨us, []⟩ us vs Q E0 I1.env0 (by
    have := hb s1 us I1.kIn (by simpa using hl)
    simpa using this) r q) fun r s' hq => ?_)
  cases r with
  | error e => exact pass0 (X := X) pins σ H1 s1 e s' I1 hq
  | ok fl =>
    cases fl with
    | ret u => exact I1.after hq
    | next => exact False.elim hq
    | brk => exact False.elim hq
    | cont => exact False.elim hq
theorem spZ_cl {w : World} {K : PySem.W.Frag} {F : DSp} {vs : List V} {H : Hp} {Q : VK} {E : XK} (h : spZ w K (Cl F) vs H Q E) : spZ w K F vs H Q E := by
  obtain ⟨B, xs, μ, Q0, l, R, ⟨Q', f', m⟩, low⟩ := h
  exact ⟨B, xs, μ, Q', l, R, f', fun x ν q => low x ν (m _ _ q)⟩
theorem d_ownSG (M : CalG X.prog X.w X.K X.mg X.base k x ps F) (hr : Room k X.A) (hG : X.A.guards = some []) (hg : Gl X x) (ha : DA X (e :: es) g)
    (hdb : (x == ("__debug__" : Str)) = false := by decide) (he : starEach (e :: es) X.env = (false, eval e X.env) :: starEach es X.env := by rfl) (hpl : (backTo pos (starEach es X.env)).any (·.1) = false := by rfl) :
    DE X (.Call (.Name x p) (e :: es) [] pos) (dOwnS F g) :=
  ⟨fun B => PE.weak (pe_ownG M hr hG hg (ha.run B) hdb he hpl) fun σ H Q ⟨hv, hx, ρ, μ, Q0, hl, R0, h, low⟩ => by
    refine ⟨hv, hx, ρ, μ, _, hl, R0, h, fun xs μ1 h1 vs H1 l R1 => ?_⟩
    show spZ _ _ _ (vs ++ []) _ _ _
    rw [List.append_nil]
    exact spZ_cl (own_call l R1 h1 low)⟩
end
end Zl
/-! Dicts all of whose keys are texts: dict(pairs), dict(d), sorted(d), by the library's own kind. -/
namespace Vd
open PySem PySem.Spec PySem.Calls PyProof.Rows L2
def textOf : NestedKey → Str
  | .text x => x
  | _ => Str.empty
def rowK (r : Row) : Key × Value := (Sum.inr (textOf r.1), r.2.2)
theorem hash_text (w : World) (x : Str) : keyH w (Sum.inr x) = (NestedKey.text x).hash w := rfl
theorem text_is (P : Program) (w : World) {x : Str} {v : Value} {h : Heap} (n : NestedIs h (.text x) v) : (mixKind P w).is (Sum.inr x) v = true := by
  cases n
  exact mixKind_str P w x _
theorem pairs_rows {P : Program} {w : World} {h : Heap} : ∀ {xs : List Row}, (∀ x ∈ xs, NestedIs h x.1 x.2.1) → (∀ r ∈ xs, ∃ x, r.1 = .text x) → Pairs (mixKind P w) (xs.map (ent w)) (xs.map rowK)
  | [], _, _ => .nil
  | r :: xs, i, t => by
    refine .cons ?_ rfl (pairs_rows (fun x hx => i x (List.mem_cons_of_mem _ hx)) fun x hx => t x (List.mem_cons_of_mem _ hx))
    obtain ⟨x, e⟩ := t r (List.mem_cons_self ..)
    have n := i r (List.mem_cons_self ..)
    show (mixKind P w).is (Sum.inr (textOf r.1)) r.2.1 = true
    rw [e] at n ⊢
    exact text_is P w n
theorem keys_rows {xs : List Row} (t : ∀ r ∈ xs, ∃ x, r.1 = .text x) (nd : (xs.map (·.1)).Nodup) : ((xs.map rowK).map (·.1)).Nodup := by
  induction xs with
  | nil => exact .nil
  | cons r xs ih =>
    rw [List.map_cons, List.nodup_cons] at nd
    rw [List.map_cons, List.map_cons, List.nodup_cons]
    refine ⟨fun z => nd.1 ?_, ih (fun x hx => t x (List.mem_cons_of_mem _ hx)) nd.2⟩
    rw [List.map_map] at z
    obtain ⟨q, hq, e⟩ := List.mem_map.mp z
    obtain ⟨x, ex⟩ := t r (List.mem_cons_self ..)
    obtain ⟨y, ey⟩ := t q (List.mem_cons_of_mem _ hq)
    have e2 : Sum.inr (textOf q.1) = (Sum.inr (textOf r.1) : Key) := e
    injection e2 with e2
    rw [ex, ey] at e2
    refine List.mem_map.mpr ⟨q, hq, ?_⟩
    rw [ex, ey]
    exact congrArg _ e2
theorem dictOf_of (P : Program) {w : World} {h : Heap} {d : Addr} {xs : List Row} (m : Holds w h d xs) (R : Rows h xs) (t : ∀ r ∈ xs, ∃ x, r.1 = .text x) : h.DictOf (mixKind P w) d (xs.map rowK) := by
  obtain ⟨o, es, ep, e1, e2, e3, e4⟩ := m
  refine ⟨o, es, ep, e1, e2, e3, fun e he => ?_, by rw [e4]; exact pairs_rows R.is t, keys_rows t R.nd⟩
  have he' : e ∈ es.toList := by simpa using he
  rw [e4] at he'
  obtain ⟨r, hr, rfl⟩ := List.mem_map.mp he'
  obtain ⟨x, ex⟩ := t r hr
  have n := R.is r hr
  rw [ex] at n
  refine ⟨Sum.inr x, text_is P w n, ?_⟩
  show r.1.hash w = _
  rw [ex]
  exact (hash_text w x).symm
theorem rows_of {P : Program} {w : World} : ∀ {es : List DictEntry} {kvs : List (Str × Value)}, Pairs (mixKind P w) es (kvs.map fun kv => (Sum.inr kv.1, kv.2)) → (∀ e ∈ es, ∃ k, (mixKind P w).is k e.key = true ∧ e.hash = (mixKind P w).hash k) →
    ∃ xs : List Row, es = xs.map (ent w) ∧ Paired (fun (r : Row) (kv : Str × Value) => r.1 = .text kv.1 ∧ (∃ t, r.2.1 = .str kv.1 t) ∧ r.2.2 = kv.2) xs kvs
  | [], [], _, _ => ⟨[], rfl, .nil⟩
  | _ :: _, [], h, _ => by cases h
  | [], _ :: _, h, _ => by cases h
  | e :: es, kv :: kvs, h, k => by
    cases h with
    | cons h1 h2 h3 =>
      obtain ⟨xs, e1, pr⟩ := rows_of h3 fun e he => k e (List.mem_cons_of_mem _ he)
      obtain ⟨k', i', hh⟩ := k e (List.mem_cons_self ..)
      have ek : Sum.inr kv.1 = k' := (mixKind P w).inj e.key _ _ h1 i'
      subst ek
      refine ⟨(.text kv.1, e.key, e.val) :: xs, ?_, .cons ⟨rfl, ?_, h2⟩ pr⟩
      · rw [List.map_cons, e1]
        have : e = ent w (.text kv.1, e.key, e.val) := by
          obtain ⟨a, b, c⟩ := e
          have hh' : a = _ := hh
          rw [hh']
          rfl
        rw [← this]
      · obtain ⟨t, ev⟩ := Value.isStrOf_shape (x := kv.1) (v := e.key) h1
        exact ⟨t, ev⟩
theorem holds_of {P : Program} {w : World} {h : Heap} {d : Addr} {kvs : List (Str × Value)} (m : h.DictOf (mixKind P w) d (kvs.map fun kv => (Sum.inr kv.1, kv.2))) :
    ∃ xs : List Row, Holds w h d xs ∧ Paired (fun (r : Row) (kv : Str × Value) => r.1 = .text kv.1 ∧ (∃ t, r.2.1 = .str kv.1 t) ∧ r.2.2 = kv.2) xs kvs := by
  obtain ⟨o, es, ep, e1, e2, e3, e4, e5, e6⟩ := m
  obtain ⟨xs, ex, pr⟩ := rows_of e5 fun e he => e4 e (by simpa using he)
  exact ⟨xs, ⟨o, es, ep, e1, e2, e3, ex⟩, pr⟩
/-- the entries of a dict whose keys are texts -/
def txt (kvs : List (Str × V)) : List KVR := kvs.map fun kv => (.text kv.1, .str kv.1, kv.2)
section
variable {X : Cx}
theorem rel_txt {kvs : List (Str × V)} {prs : List (Str × Value)} {xs : List Row} (r : Paired (fun (p : Str × V) (q : Str × Value) => p.1 = q.1 ∧ RelV p.2 q.2) kvs prs) (pr : Paired (fun (r : Row) (kv : Str × Value) => r.1 = .text kv.1 ∧ (∃ t, r.2.1 = .str kv.1 t) ∧ r.2.2 = kv.2) xs prs) : Paired RelR (txt kvs) xs := by
  induction r generalizing xs with
  | nil =>
    cases pr
    exact .nil
  | cons h t ih =>
    cases pr with
    | cons h2 t2 =>
      obtain ⟨h2a, ⟨tk, h2b⟩, h2c⟩ := h2
      refine .cons ⟨?_, ?_, ?_⟩ (ih t2)
      · show NestedKey.text _ = _
        rw [h2a, h.1]
      · rw [h2b, ← h.1]
        exact ⟨tk, rfl⟩
      · rw [h2c]
        exact h.2
/-- dict(xs), xs a list of pairs whose first are unlike texts -/
theorem call_dictPV (hcalm : X.calm = true) : CallR X (.type "dict") (fun xs H Q => ∃ (a : Addr) (ps : List Addr) (kvs : List (Str × V)), xs = [.ref a] ∧ SqL X.K H a (ps.map V.ref) ∧ Paired (fun p (kv : Str × V) => SqT X.K H p [.str kv.1, kv.2]) ps kvs ∧ (kvs.map (·.1)).Nodup ∧
    ∀ p, H p = none → Q (.ref p) (upd H p (dV X.w p (txt kvs)))) := by
  intro pins s σ H xs us Q I r q
  obtain ⟨a, ps, kvs, ex, hq, hp, nd, q⟩ := q
  subst ex
  obtain ⟨u, eu, rx⟩ := vals1 r
  subst eu
  cases rx
  obtain ⟨its, rv, pl, hz⟩ := I.list hq
  have ei := refs_at rv
  subst ei
  rw [List.length_map] at hz
  let kk : List (Key × V) := kvs.map fun kv => (Sum.inr kv.1, kv.2)
  have hp2 : Paired (fun p (kv : Key × V) => SqT X.K H p [kV kv.1, kv.2]) ps kk := by
    show Paired _ ps (kvs.map _)
    clear q nd hq rv pl hz
    induction hp with
    | nil => exact .nil
    | cons h t ih => exact .cons h ih
  obtain ⟨prs, rel, hl, hpr⟩ := pairs_of I hp2
  obtain ⟨prt, ep, rel2⟩ : ∃ prt : List (Str × Value), prs = prt.map (fun kv => (Sum.inr kv.1, kv.2)) ∧ Paired (fun (p : Str × V) (q : Str × Value) => p.1 = q.1 ∧ RelV p.2 q.2) kvs prt := by
    have rel : KV (kvs.map fun kv => ((Sum.inr kv.1, kv.2) : Key × V)) prs := rel
    clear hpr hl hp2 hp q nd hq rv pl hz
    induction kvs generalizing prs with
    | nil =>
      cases rel
      exact ⟨[], rfl, .nil⟩
    | cons kv kvs ih =>
      cases rel with
      | cons h t =>
        obtain ⟨prt, e, r⟩ := ih _ t t
        rename_i b bs
        obtain ⟨b1, b2⟩ := b
        obtain ⟨h1, h2⟩ := h
        dsimp only at h1 h2
        subst h1
        exact ⟨(kv.1, b2) :: prt, by rw [e]; rfl, .cons ⟨rfl, h2⟩ r⟩
  have ndt : (prs.map (·.1)).Nodup := by
    have e1 : prs.map (·.1) = (kvs.map (·.1)).map Sum.inr := by
      rw [ep, List.map_map, List.map_map]
      clear hpr hl hp2 hp q nd hq rv pl hz rel ep
      induction rel2 with
      | nil => rfl
      | cons h t ih =>
        rw [List.map_cons, List.map_cons, ih]
        exact congrArg (· :: _) (congrArg Sum.inr h.1.symm)
    rw [e1]
    exact nd.map _ (fun a b h e => h (Sum.inr.inj e))
  obtain ⟨o, n, ho, hc, hd, hdat⟩ := pl
  refine call_dict_pairs (prs := prs) (I.ok.hd hcalm) ho hc hd hdat (by simp [hl]) (by rw [hl]; exact hz) (fun j q' e => ?_) fun h' tk hd' k => ?_
  · obtain ⟨b, u, e1, e2, e3⟩ := hpr j q' e
    exact ⟨b, u, by simp [e1], e2, e3⟩
  · have hm : (s.heap.objs.size == sysModules) = false := beq_eq_false_iff_ne.mpr (Nat.ne_of_gt I.big)
    rw [merged_nil_of_nodup _ ndt, ep] at hd'
    obtain ⟨xs, hx, pr⟩ := holds_of hd'
    have hlen : (txt kvs).length ≤ sizeLine := by
      unfold txt
      rw [List.length_map, ← hp.length]
      exact hz
    exact ⟨.ref s.heap.objs.size, upd H s.heap.objs.size (dV X.w s.heap.objs.size (txt kvs)), I.laid (t' := tk) k (Nat.le_refl _) (dV_ok hm hlen (rel_txt rel2 pr) hx), rfl, q _ (I.hok.fresh (Nat.le_refl _))⟩
theorem DAt.txts {P : Program} {w : World} {H : Hp} {h : Heap} {d : Addr} {kvs : List (Str × V)} (D : DAt w H d (txt kvs)) (ok : HOk P w H h) :
    (d == sysModules) = false ∧ kvs.length ≤ sizeLine ∧ ∃ prs : List (Str × Value), Paired (fun (p : Str × V) (q : Str × Value) => p.1 = q.1 ∧ RelV p.2 q.2) kvs prs ∧ h.DictOf (mixKind P w) d (prs.map fun kv => (Sum.inr kv.1, kv.2)) := by
  obtain ⟨hd, hz, xs, rel, m, R⟩ := D.out ok
  have t : ∀ r ∈ xs, ∃ x, r.1 = .text x := fun r hr => by
    obtain ⟨p, hp, q⟩ := paired_mem rel hr
    obtain ⟨kv, hkv, rfl⟩ := List.mem_map.mp hp
    exact ⟨kv.1, q.1.symm⟩
  have dd := dictOf_of P m R t
  have e : xs.map rowK = (xs.map fun r => (textOf r.1, r.2.2)).map fun kv => ((Sum.inr kv.1, kv.2) : Key × Value) := by
    rw [List.map_map]
    rfl
  rw [e] at dd
  refine ⟨hd, by rw [txt, List.length_map] at hz; exact hz, _, ?_, dd⟩
  clear dd e m R D t hz
  unfold Vd.txt at rel
  induction kvs generalizing xs with
  | nil =>
    cases rel
    exact .nil
  | cons kv kvs ih =>
    cases rel with
    | cons h t =>
      obtain ⟨h1, h2, h3⟩ := h
      refine .cons ⟨?_, h3⟩ (ih _ t)
      show kv.1 = textOf _
      rw [← h1]
      rfl
/-- dict(d): a copy -/
theorem call_dictCV : CallR X (.type "dict") (fun xs H Q => ∃ (a : Addr) (kvs : List (Str × V)), xs = [.ref a] ∧ DAt X.w H a (txt kvs) ∧ ∀ p, H p = none → Q (.ref p) (upd H p (dV X.w p (txt kvs)))) := by
  intro pins s σ H xs us Q I r q
  obtain ⟨a, kvs, ex, D, q⟩ := q
  subst ex
  obtain ⟨u, eu, rx⟩ := vals1 r
  subst eu
  cases rx
  obtain ⟨lo, z, prs, rel, dd⟩ := D.txts I.hok
  refine kt_call_dict lo dd (by rw [List.length_map, ← rel.length]; exact z) fun h' d' hs => ?_
  have hm : (s.heap.objs.size == sysModules) = false := beq_eq_false_iff_ne.mpr (Nat.ne_of_gt I.big)
  obtain ⟨xs, hx, pr⟩ := holds_of d'
  exact ⟨.ref s.heap.objs.size, upd H s.heap.objs.size (dV X.w s.heap.objs.size (txt kvs)), I.laid (t' := s.toks) (fun b u e => (hs.2 b (Nat.ne_of_lt (Heap.lt_size e))).trans (Heap.get?_push_of_some _ e)) (Nat.le_refl _)
    (dV_ok hm (by unfold Vd.txt; rw [List.length_map]; exact z) (rel_txt rel pr) hx), rfl, q _ (I.hok.fresh (Nat.le_refl _))⟩
/-- sorted(d), fewer than 64 keys, all texts -/
theorem call_sortedV (hcalm : X.calm = true) : CallR X (.builtin "sorted") (fun xs H Q => ∃ (a : Addr) (kvs : List (Str × V)), xs = [.ref a] ∧ DAt X.w H a (txt kvs) ∧ kvs.length < 64 ∧
    ∀ ys p, ys.Perm (kvs.map (·.1)) → sortedS ys = true → H p = none → Q (.ref p) (upd H p (.lst (ys.map V.str)))) := by
  intro pins s σ H xs us Q I r q
  obtain ⟨a, kvs, ex, D, h64, q⟩ := q
  subst ex
  obtain ⟨u, eu, rx⟩ := vals1 r
  subst eu
  cases rx
  obtain ⟨lo, z, prs, rel, dd⟩ := D.txts I.hok
  obtain ⟨ep, hat⟩ := dd.dictAt
  have hk : prs.map (·.1) = kvs.map (·.1) := by
    clear dd hat D h64 q z
    induction rel with
    | nil => rfl
    | cons h t ih => rw [List.map_cons, List.map_cons, ih, h.1]
  have hl : prs.length = kvs.length := by
    have e := congrArg List.length hk
    rw [List.length_map, List.length_map] at e
    exact e
  have h16 : (prs.map fun kv => ((Sum.inr kv.1, kv.2) : Key × Value)).length ≤ sizeLine := by rw [List.length_map, hl, sizeLine_eq]; omega
  refine Calls.call_function_entry PyProof.Rows.kind_sorted PyProof.Rows.plain_sorted PyProof.Rows.entry_sorted (PyProof.Rows.args_sorted1 _) ?_
  unfold Builtin.«sorted»
  refine wpAny_bind (m := checkCount "sorted" 1 1 _) (wpAny_pure ?_)
  refine wpAny_bind (PySem.W.kdu_collect (A := X.A.in1) (PySem.W.kdl_dict (knd := mixKind X.prog X.w) (kvs := prs.map fun kv => ((Sum.inr kv.1, kv.2) : Key × Value)) (ep := ep) lo) (I.ok.hd hcalm) hat h16 fun h' tk acc hk' hacc => ?_)
  have hal : acc.toList.length = (kvs.map (·.1)).length := by rw [Array.length_toList, hacc.1, List.length_map, List.length_map, hl]
  have hS : StrsAre acc.toList (kvs.map (·.1)) := strs_at hal fun j v e => by
    obtain ⟨k, x, e1, e2⟩ := hacc.2 j v (by rw [← Array.getElem?_toList]; exact e)
    rw [List.getElem?_map] at e1
    obtain ⟨kv, e3, e4⟩ := Option.map_eq_some_iff.mp e1
    cases e4
    obtain ⟨t, ev⟩ := Value.isStrOf_shape (x := kv.1) (v := v) e2
    refine ⟨kv.1, t, ?_, ev⟩
    rw [← hk, List.getElem?_map, e3]
    rfl
  have I1 : Inv X pins σ H { s with heap := h', toks := tk } := I.kept hk'
  refine wpAny_bind (wpAny_newList ?_ (by rw [hal, List.length_map, sizeLine_eq]; omega))
  have hoL : (h'.push (seqObj "list" acc.toList.toArray 0)).get? h'.objs.size = some (seqObj "list" acc.toList.toArray 0) := Heap.get?_push_size _ rfl
  show wpAny _ _ _ _ _ { s with heap := h'.push (seqObj "list" acc.toList.toArray 0), toks := tk }
  refine wpAny_bind (wpAny_holding (wpAny_call_entry PyProof.Rows.slot_list_sort ⟨_, hoL, rfl⟩ PyProof.Rows.entry_list_sort
    (list_sort_treeK strKind_oneLt (s := { s with heap := h'.push (seqObj "list" acc.toList.toArray 0), toks := tk }) hoL hS.keysOf (fun v₁ v₂ rest e => keyKind_strs (by rw [← e]; exact hS)) (by rw [hal, List.length_map]; exact h64) fun st' hp hs => ⟨_, rfl, ?_⟩)
    (PyProof.Rows.args_list_sort _)))
  obtain ⟨ys, g1, g2, g3⟩ := sorted_out_str hS hp hs
  obtain ⟨e', he'⟩ := PyProof.Rows.sortedHeap_at (vs := acc.toList) (out := (arrOf st').map (·.2)) hoL
  have hlen : (ys.map V.str).length ≤ sizeLine := by
    rw [List.length_map, g2.length_eq, List.length_map]
    exact Nat.le_trans (Nat.le_of_lt h64) (by decide)
  refine wpAny_pure ⟨_, rfl, .ref h'.objs.size, upd H h'.objs.size (.lst (ys.map V.str)), I1.laid (t' := tk) (fun b u e => ?_) (Nat.le_refl _)
    (show ObjOk X.prog X.w _ _ _ (.lst (ys.map V.str)) from ⟨hlen, ((arrOf st').map (·.2)).toList, e', vals_of_strs g1, by rw [Array.toArray_toList]; exact he'⟩), rfl, q ys _ g2 g3 (I1.hok.fresh (Nat.le_refl _))⟩
  have hb : b < h'.objs.size := Heap.lt_size e
  rw [PyProof.Rows.sortedHeap_old (Nat.ne_of_lt hb) (by rw [size_push']; exact Nat.lt_succ_of_lt hb)]
  exact Heap.get?_push_of_some _ e
end
end Vd
/-! A pair of data and an object of one's own; dicts of texts made of such pairs, copied, sorted. -/
namespace Zl
open PySem PySem.Spec PyProof.Rows L2 Lf
section
variable {X : Cx}
abbrev dTupP (g : DTA) : DTE := fun ρ μ Q => g ρ μ fun xs μ1 => match xs with
  | [.dat k, .ptr a] => Q (.prt k a) μ1
  | _ => False
theorem d_tupP {es : List Expr} {g : DTA} {x1} {pos : Pos} (h : DA X es g) : DE X (.Tuple es x1 pos) (dTupP g) :=
  ⟨fun B => PE.weak (pe_tup (h.run B)) fun _ _ _ h => by
    obtain ⟨hv, hx, ρ, μ, Q0, hl, R0, h, low⟩ := h
    refine ⟨hv, hx, ρ, μ, _, hl, R0, h, fun xs μ1 h1 vs H1 l R1 => ?_⟩
    match xs, h1, l, R1 with
    | [.dat k, .ptr a], h1, l, R1 =>
      have ez : sizeLine = 16777216 := by decide +kernel
      match vs, l, R1 with
      | [u, v], l, R1 =>
        refine ⟨by rw [ez]; show 2 ≤ _; decide, fun p hp => ?_⟩
        obtain ⟨R2, g, ep⟩ := R1.newZ (o := .tup [u, v]) hp
        have hu : Dz _ u k := R1.head
        cases (R1.tail.head : v = .ref a)
        exact low _ _ h1 _ _ (R2.tail.tail.cons (x := .prt k a) ⟨p, u, rfl, ep, Dz.mono g _ _ hu⟩)⟩
/-- keys that are texts -/
def txtZ (kvs : List (Str × Val)) : List (NestedKey × Val) := kvs.map fun kv => (.text kv.1, kv.2)
theorem key_text (x : Str) : Vd.KeyOk (.text x) := ⟨by show 0 ≤ 8; decide, fun _ _ => trivial⟩
theorem txt_rk {K : PySem.W.Frag} {Z : Hp} {ks : List Vd.KVR} {kvs : List (Str × Val)} (h : Paired (RK K Z) ks (txtZ kvs)) : ∃ vs : List (Str × V), ks = Vd.txt vs ∧ Paired (fun (p : Str × V) (q : Str × Val) => p.1 = q.1 ∧ RV K Z p.2 q.2) vs kvs := by
  induction kvs generalizing ks with
  | nil =>
    cases h
    exact ⟨[], rfl, .nil⟩
  | cons kv kvs ih =>
    cases h with
    | @cons p _ _ _ h t =>
      obtain ⟨vs, e, r⟩ := ih t
      obtain ⟨p1, p2, p3⟩ := p
      obtain ⟨h1, h2, h3, h4⟩ := h
      dsimp only at h1 h2 h3 h4
      subst h1
      cases (h3 : p2 = V.str kv.1)
      exact ⟨(kv.1, p3) :: vs, by rw [e]; rfl, .cons ⟨rfl, h4⟩ r⟩
theorem rk_txt {K : PySem.W.Frag} {Z : Hp} {vs : List (Str × V)} {kvs : List (Str × Val)} (h : Paired (fun (p : Str × V) (q : Str × Val) => p.1 = q.1 ∧ RV K Z p.2 q.2) vs kvs) : Paired (RK K Z) (Vd.txt vs) (txtZ kvs) := by
  induction h with
  | nil => exact .nil
  | cons h t ih => exact .cons ⟨congrArg _ h.1, key_text _, rfl, h.2⟩ ih
theorem txt_keys {vs : List (Str × V)} {K : PySem.W.Frag} {Z : Hp} {kvs : List (Str × Val)} (h : Paired (fun (p : Str × V) (q : Str × Val) => p.1 = q.1 ∧ RV K Z p.2 q.2) vs kvs) : vs.map (·.1) = kvs.map (·.1) := by
  induction h with
  | nil => rfl
  | cons h t ih => rw [List.map_cons, List.map_cons, ih, h.1]
theorem txt_nd {vs : List (Str × V)} (h : (vs.map (·.1)).Nodup) : ((Vd.txt vs).map (·.1)).Nodup := by
  unfold Vd.txt
  rw [List.map_map]
  have : (vs.map ((fun x => x.1) ∘ fun kv => ((NestedKey.text kv.1, V.str kv.1, kv.2) : Vd.KVR))) = (vs.map (·.1)).map NestedKey.text := by
    rw [List.map_map]
    rfl
  rw [this]
  exact h.map _ (fun a b h e => h (by injection e))
/-- dict(xs), xs pairs of unlike texts and own objects -/
def zDictP : List Val → Store → DK → Prop := fun xs μ Q => match xs with
  | [.ptr l] => ∃ (j : Nat) (hs : List (Str × Addr)), μ[j]? = some (l, Node.lst (hs.map fun h => Val.prt (.str h.1) h.2)) ∧ (hs.map (·.1)).Nodup ∧ ∀ p, Q (.ptr p) (μ ++ [(p, .dv (txtZ (hs.map fun h => (h.1, .ptr h.2))))])
  | _ => False
theorem prt_pairs {K : PySem.W.Frag} {Z H : Hp} (hz : ∀ x o, Z x = some o → H x = some o) : ∀ {vs : List V} {hs : List (Str × Addr)}, RVs K Z vs (hs.map fun h => Val.prt (.str h.1) h.2) →
    ∃ ps : List Addr, vs = ps.map V.ref ∧ Paired (fun p (kv : Str × V) => SqT K H p [.str kv.1, kv.2]) ps (hs.map fun h => (h.1, V.ref h.2))
  | [], [], _ => ⟨[], rfl, .nil⟩
  | _ :: _, [], h => by cases h
  | [], _ :: _, h => by cases h
  | v :: vs, h :: hs, hp => by
    cases hp with
    | cons h1 t =>
      obtain ⟨ps, e, r⟩ := prt_pairs hz t
      obtain ⟨p, u, rfl, ez, hu⟩ := h1
      cases (hu : Dz Z u (.str h.1))
      exact ⟨p :: ps, by rw [e]; rfl, .cons (SqT.of (hz _ _ ez)) r⟩
theorem ca_dictP (hc : X.calm = true) : CaZ X (.type "dict") zDictP := ⟨_, Vd.call_dictPV hc, fun B σ ρ H μ vs xs Q0 Q l R q low => by
  unfold zDictP at q
  split at q
  · obtain ⟨j, hs, hj, nd, q⟩ := q
    obtain ⟨v, rfl, R⟩ := one_arg' l R
    obtain ⟨us, e, pr⟩ := R.at hj
    cases (R.head : v = .ref _)
    obtain ⟨ps, rfl, r⟩ := prt_pairs fz_le pr
    refine ⟨_, ps, hs.map fun h => (h.1, V.ref h.2), rfl, SqL.of e, r, by rw [List.map_map]; exact nd, fun p hp => low _ _ (q p) _ _ ?_⟩
    have r2 : Paired (fun (p : Str × V) (q : Str × Val) => p.1 = q.1 ∧ RV X.K (Fz (B.fr ++ μ) H) p.2 q.2) (hs.map fun h => (h.1, V.ref h.2)) (hs.map fun h => (h.1, Val.ptr h.2)) := by
      clear q nd r hj e pr
      induction hs with
      | nil => exact .nil
      | cons h hs ih => exact .cons ⟨rfl, rfl⟩ ih
    have R9 := R.tail.new (n := .dv (txtZ (hs.map fun h => (h.1, Val.ptr h.2)))) (o := Vd.dV X.w p (Vd.txt (hs.map fun h => (h.1, V.ref h.2)))) hp ⟨Vd.txt (hs.map fun h => (h.1, V.ref h.2)), upd_same, txt_nd (by rw [List.map_map]; exact nd), rk_txt r2⟩
    exact R9.cons (x := .ptr p) rfl
  · exact q.elim⟩
/-- dict(d): a copy of an own dict of texts -/
def zDictC : List Val → Store → DK → Prop := fun xs μ Q => match xs with
  | [.ptr d] => ∃ kvs : List (Str × Val), DvAt μ d (txtZ kvs) ∧ ∀ p, Q (.ptr p) (μ ++ [(p, .dv (txtZ kvs))])
  | _ => False
theorem ca_dictC : CaZ X (.type "dict") zDictC := ⟨_, Vd.call_dictCV, fun B σ ρ H μ vs xs Q0 Q l R q low => by
  unfold zDictC at q
  split at q
  · obtain ⟨kvs, h, q⟩ := q
    obtain ⟨v, rfl, R⟩ := one_arg' l R
    obtain ⟨ks, D, pr⟩ := h.at R
    cases (R.head : v = .ref _)
    obtain ⟨us, rfl, r⟩ := txt_rk pr
    exact ⟨_, us, rfl, D, fun p hp => low _ _ (q p) _ _ ((R.tail.new (n := .dv (txtZ kvs)) hp ⟨_, upd_same, D.nd, rk_txt r⟩).cons rfl)⟩
  · exact q.elim⟩
/-- sorted(d) of an own dict of texts -/
def zSortT : List Val → Store → DK → Prop := fun xs μ Q => match xs with
  | [.ptr d] => ∃ kvs : List (Str × Val), DvAt μ d (txtZ kvs) ∧ kvs.length < 64 ∧ ∀ ys p, ys.Perm (kvs.map (·.1)) → sortedS ys = true → Q (.ptr p) (μ ++ [(p, .lst (ys.map fun y => Val.dat (.str y)))])
  | _ => False
theorem ca_sortT (hc : X.calm = true) : CaZ X (.builtin "sorted") zSortT := ⟨_, Vd.call_sortedV hc, fun B σ ρ H μ vs xs Q0 Q l R q low => by
  unfold zSortT at q
  split at q
  · obtain ⟨kvs, h, h64, q⟩ := q
    obtain ⟨v, rfl, R⟩ := one_arg' l R
    obtain ⟨ks, D, pr⟩ := h.at R
    cases (R.head : v = .ref _)
    obtain ⟨us, rfl, r⟩ := txt_rk pr
    refine ⟨_, us, rfl, D, by rw [r.length]; exact h64, fun ys p hy hs hp => low _ _ (q ys p (by rw [← txt_keys r]; exact hy) hs) _ _ ?_⟩
    refine (R.tail.new (n := .lst (ys.map fun y => Val.dat (.str y))) hp ⟨_, upd_same, ?_⟩).cons rfl
    clear hy hs
    induction ys with
    | nil => exact .nil
    | cons y ys ih => exact .cons (.str y) ih
  · exact q.elim⟩
end
end Zl
/-! One own object is handed over, other lists are lent: what comes back is made of no list. -/
namespace Zl
open PySem PySem.Spec PyProof.Rows L2 Lf
section
variable {X : Cx}
inductive LentX (μ : Store) (j0 : Nat) : Val → Val → Prop
  | keep (x : Val) : LentX μ j0 x x
  | p (j : Nat) {a : Addr} {xs : List Val} {ds : List PyData} : j ≠ j0 → μ[j]? = some (a, .lst xs) → datOf xs = some ds → LentX μ j0 (.ptr a) (.dat (.list ds))
def lend1 (F : DSp) (xs : List Val) (μ : Store) (Q : DK) : Prop := ∃ (j : Nat) (a : Addr) (n : Node) (ys : List Val), μ[j]? = some (a, n) ∧ Paired (LentX μ j) xs ys ∧ F ys [(a, n)] fun x ν => ∃ n' ext, ν = (a, n') :: ext ∧ (flatV x ∧ flatN n' ∧ ∀ p ∈ ext, flatN p.2) ∧ Q x (μ.set j (a, n') ++ ext)
theorem addr_one {μ : Store} (nd : (μ.map (·.1)).Nodup) {i j : Nat} {a : Addr} {n m : Node} (hi : μ[i]? = some (a, n)) (hj : μ[j]? = some (a, m)) : i = j := by
  have h1 : (μ.map (·.1))[i]? = some a := by rw [List.getElem?_map, hi]; rfl
  have h2 : (μ.map (·.1))[j]? = some a := by rw [List.getElem?_map, hj]; rfl
  exact (List.getElem?_inj (List.getElem?_eq_some_iff.mp h1).1 nd).mp (h1.trans h2.symm)
theorem lentX_all {B : Base} {H : Hp} {μ : Store} {σ : List (Option V)} {ρ : DR} {j0 : Nat} {a : Addr} {n : Node} (R : RL X.w X.K B H σ ρ μ) (hj0 : μ[j0]? = some (a, n)) :
    ∀ {vs : List V} {xs ys : List Val}, Paired (LentX μ j0) xs ys → Paired (RVo X.K (Fz (B.fr ++ μ) H)) (vs.map some) (xs.map some) → Paired (RVo X.K (Fz [(a, n)] H)) (vs.map some) (ys.map some)
  | [], [], _, .nil, _ => .nil
  | [], _ :: _, _, _, h => by cases h
  | _ :: _, [], _, _, h => by cases h
  | v :: vs, x :: xs, _, .cons l t, h => by
    have ha : a ∈ (B.fr ++ μ).map (·.1) := List.mem_map.mpr ⟨_, List.mem_append_right _ (List.mem_of_getElem? hj0), rfl⟩
    have g : ∀ x o, Fz (B.fr ++ μ) H x = some o → Fz [(a, n)] H x = some o := fun x o h => by
      obtain ⟨h1, h2⟩ := Fz.sub h
      refine Fz.of (fun z => h1 ?_) h2
      rw [List.map_singleton, List.mem_singleton] at z
      rw [z]
      exact ha
    have nd := R.nd
    rw [List.map_append, List.nodup_append] at nd
    cases h with
    | cons r h =>
      refine .cons ?_ (lentX_all R hj0 t h)
      have r : RV X.K (Fz (B.fr ++ μ) H) v x := r
      show RV X.K _ v _
      cases l with
      | keep x => exact RV.mono g r
      | p j ne hj hd =>
        obtain ⟨vs, e, pr⟩ := R.at hj
        cases (r : v = .ref _)
        refine .lst (Fz.of (fun z => ?_) e) (DzAll.mono g _ _ (datOf_all pr hd))
        rw [List.map_singleton, List.mem_singleton] at z
        have z : _ = a := z
        subst z
        exact ne (addr_one nd.2.1 hj hj0)
theorem lend1_call {B : Base} {H : Hp} {σ : List (Option V)} {ρ : DR} {μ : Store} {vs : List V} {xs : List Val} {F : DSp} {Q0 : DK} {Q : VK} (l : vs.length = xs.length) (R : RL X.w X.K B H (vs.map some ++ σ) (xs.map some ++ ρ) μ) (h : lend1 F xs μ Q0) (low : Low X B σ ρ Q0 Q) : spZ X.w X.K (Cl F) vs H Q E0 := by
  obtain ⟨j, a, n, ys, hj, le, f⟩ := h
  have sl := (paired_split (by simp [l]) R.sl).1
  have sr := (paired_split (by simp [l]) R.sl).2
  have ly : xs.length = ys.length := le.length
  have rel := lentX_all R hj le sl
  have ha : a ∈ (B.fr ++ μ).map (·.1) := List.mem_map.mpr ⟨_, List.mem_append_right _ (List.mem_of_getElem? hj), rfl⟩
  have g : ∀ x o, Fz (B.fr ++ μ) H x = some o → Fz [(a, n)] H x = some o := fun x o h => by
    obtain ⟨h1, h2⟩ := Fz.sub h
    refine Fz.of (fun z => h1 ?_) h2
    rw [List.map_singleton, List.mem_singleton] at z
    rw [z]
    exact ha
  refine ⟨⟨Fz [(a, n)] H, []⟩, ys, [(a, n)], _, by omega, ⟨by simp, fun x o h => h, rel, fun p hp => ?_⟩, ⟨_, f, fun x ν q => q⟩, fun x ν ⟨n', ext, eν, ⟨fx, fn', fe⟩, q⟩ v H' R2 => low x _ q v H' ?_⟩
  · rw [List.mem_singleton.mp (show p ∈ [(a, n)] from hp)]
    exact (R.at hj).mono g rfl
  subst eν
  have ndm := R.nd
  rw [List.map_append, List.nodup_append] at ndm
  have nd2 : (((a, n') :: ext).map (·.1)).Nodup := R2.nd
  rw [List.map_cons, List.nodup_cons] at nd2
  have b2 : ∀ x o, x ≠ a → H x = some o → x ∉ ((a, n') :: ext).map (·.1) ∧ H' x = some o := fun x o ne e => Fz.sub (R2.base x o (Fz.of (fun z => ne (by rw [List.map_singleton, List.mem_singleton] at z; exact z)) e))
  have same : ∀ q ∈ B.fr ++ μ, q.1 ≠ a → q.1 ∉ ((a, n') :: ext).map (·.1) ∧ H' q.1 = H q.1 := fun q hq ne => by
    cases e : H q.1 with
    | none => exact absurd e (R.st q hq).live
    | some o => exact b2 _ _ ne e
  have em : (B.fr ++ μ.set j (a, n')).map (·.1) = (B.fr ++ μ).map (·.1) := by rw [List.map_append, List.map_append, map_set_fst hj]
  have nin : ∀ x, x ∉ (B.fr ++ μ).map (·.1) → x ∉ ext.map (·.1) → x ∉ (B.fr ++ (μ.set j (a, n') ++ ext)).map (·.1) := fun x h1 h2 z => by
    rw [← List.append_assoc, List.map_append, em] at z
    exact (List.mem_append.mp z).elim h1 h2
  have g3 : ∀ x o, Fz (B.fr ++ μ) H x = some o → Fz (B.fr ++ (μ.set j (a, n') ++ ext)) H' x = some o := fun x o h => by
    obtain ⟨h1, h2⟩ := Fz.sub h
    obtain ⟨h3, h4⟩ := b2 x o (fun e => h1 (by rw [e]; exact ha)) h2
    exact Fz.of (nin x h1 fun z => h3 (List.mem_cons_of_mem _ z)) h4
  have tp : Vd.Tups (Fz ((a, n') :: ext) H') (Fz (B.fr ++ (μ.set j (a, n') ++ ext)) H') := fun x us e => by
    obtain ⟨h1, h2⟩ := Fz.sub e
    have hne : x ≠ a := fun z => h1 (by rw [z]; exact List.mem_cons_self ..)
    refine Fz.of (nin x (fun z => ?_) fun z => h1 (List.mem_cons_of_mem _ z)) h2
    obtain ⟨q, hq, rfl⟩ := List.mem_map.mp z
    rw [(same q hq hne).2] at h2
    exact (R.st q hq).noTup h2
  refine ⟨?_, fun x o h => g3 _ _ (R.base x o h), .cons (RV.keep (v := v) tp fx R2.head) (L2.Paired.mapP sr fun _ _ => RVo.mono g3), fun q hq => ?_⟩
  · rw [← List.append_assoc, List.map_append, em, List.nodup_append]
    refine ⟨R.nd, nd2.2, fun x hx y hy e => ?_⟩
    obtain ⟨q, hq, rfl⟩ := List.mem_map.mp hx
    by_cases c : q.1 = a
    · exact nd2.1 (by rw [← c, e]; exact hy)
    · exact (same q hq c).1 (by rw [e]; exact List.mem_cons_of_mem _ hy)
  · rw [← List.append_assoc] at hq
    rcases List.mem_append.mp hq with hq | hq
    · rcases List.mem_append.mp hq with hq | hq
      · have ne : q.1 ≠ a := fun e => ndm.2.2 _ (List.mem_map_of_mem hq) a (List.mem_map_of_mem (List.mem_of_getElem? hj)) e
        exact (R.st q (List.mem_append_left _ hq)).mono g3 (same q (List.mem_append_left _ hq) ne).2
      · obtain ⟨i, hi, rfl⟩ := List.mem_iff_getElem.mp hq
        rw [List.length_set] at hi
        by_cases e : j = i
        · subst e
          rw [List.getElem_set_self]
          exact RN.keep tp fn' (R2.st (a, n') (List.mem_cons_self ..))
        · rw [List.getElem_set_ne e]
          have hm : μ[i] ∈ B.fr ++ μ := List.mem_append_right _ (List.getElem_mem hi)
          have ne : μ[i].1 ≠ a := fun z => e ((addr_one ndm.2.1 (n := n) (m := μ[i].2) hj (by rw [List.getElem?_eq_getElem hi, ← z])))
          exact (R.st _ hm).mono g3 (same _ hm ne).2
    · exact RN.keep tp (fe q hq) (R2.st q (List.mem_cons_of_mem _ hq))
abbrev dOwnM (F : DSp) (g : DTA) : DTE := fun ρ μ Q => g ρ μ fun xs μ1 => lend1 F xs μ1 Q
variable {k : Nat} {ps : List Str} {F : DSp} {x : Str} {e : Expr} {es : List Expr} {g : DTA} {p pos : Pos}
theorem d_ownM (M : CalZ X.prog X.w X.K X.mg X.base k x ps F) (hr : Room k X.A) (hg : Gl X x) (ha : DA X (e :: es) g)
    (hdb : (x == ("__debug__" : Str)) = false := by decide) (he : starEach (e :: es) X.env = (false, eval e X.env) :: starEach es X.env := by rfl) (hpl : (backTo pos (starEach es X.env)).any (·.1) = false := by rfl) :
    DE X (.Call (.Name x p) (e :: es) [] pos) (dOwnM F g) :=
  ⟨fun B => PE.weak (pe_own (cal_cl M) hr hg (ha.run B) hdb he hpl) fun σ H Q ⟨hv, hx, ρ, μ, Q0, hl, R0, h, low⟩ => by
    refine ⟨hv, hx, ρ, μ, _, hl, R0, h, fun xs μ1 h1 vs H1 l R1 => ?_⟩
    show spZ _ _ _ (vs ++ []) _ _ _
    rw [List.append_nil]
    exact lend1_call l R1 h1 low⟩
end
end Zl
/-! max(x, y) of data. -/
namespace Zo
open PySem PySem.W PySem.SeqAt PyProof.Rows PySem.Calls
section
variable {prog : Program} {w : World} {A : Around} {E : Value → Shared → Prop} {s : Shared}
theorem call_max_twoH {a b : Value} {Q : Value → Shared → Prop}
    (h : wpAny (model prog w) A.in1 (pyIter (.ref s.heap.objs.size)) (fun it s₂ => ∃ I fp wr G n P St H bt, it = .ref I ∧ WalksS prog w A.in1 I fp wr G n P St ∧ St 0 s₂ ∧ (∀ b ∈ fp, b < s₂.heap.objs.size) ∧ 0 < n ∧
      (∀ b o, H.get? b = some o → b ∉ wr) ∧ (∀ b o, H.get? b = some o → s₂.heap.get? b = some o) ∧ CmpIn prog w A.in1 .Gt H P bt ∧ ∀ v s', P (argBest bt (n - 1)) v → Moved wr G s₂ s' → Q v s') E
      { s with heap := s.heap.push { cls := .type "tuple", data := .seq #[a, b] } }) :
    wpAny (model prog w) A (call (.builtin "max") [a, b]) Q E s := by
  have hname : (toString "max" ++ toString ".loop" : String) = "max.loop" := by decide
  refine call_function_tree F.kind_max F.plain_max F.entry_max (F.args_max2 _ _) ?_
  show wpAny _ A.in1 (Builtin.Builtins.bindParams "max" ["key", "default"] 0 ⟨[], []⟩ >>= _) _ _ s
  refine wpAny_bind (wpAny_of_eq (show Builtin.Builtins.bindParams "max" ["key", "default"] 0 ⟨[], []⟩ = pure [none, none] from rfl) ?_)
  show wpAny _ A.in1 (newTuple [a, b] >>= _) _ _ s
  refine wpAny_bind (wpAny_newObj_type ?_)
  refine wpAny_bind (wpAny_mono h (fun it s₂ h₂ => ?_) fun _ _ e => e)
  obtain ⟨I, fp, wr, G, n, P, St, H, bt, rfl, W, hst, hfp, hn, hw, hkeep, hcmp, hQ⟩ := h₂
  refine wpAny_bind (wpAny_newObj_type ?_)
  have hSf : s₂.heap.objs.size ∉ fp := fun hm => Nat.lt_irrefl _ (hfp _ hm)
  rw [hname]
  refine wpAny_pure ⟨plainId_quiet F.plain_max_loop _, codeAny_max_loop_firstH W H hw bt hcmp s₂.heap.objs.size hSf (fresh_in hkeep) _ hn (fun b o e => Heap.get?_push_of_some _ (hkeep b o e)) (W.frame 0 s₂ _ s₂.toks hst (Nat.le_refl _) fun b _ o e => Heap.get?_push_of_some _ e) (Heap.get?_push_size _ rfl) fun v s' hP hm => ?_⟩
  exact hQ v s' hP (Moved.drop_new (tk := s₂.toks) hm (Nat.le_refl _))
theorem max_two_data {u v : Value} {d e : PyData} {as bs : List Addr} {Q : Value → Shared → Prop} (hh : A.handled = none) (r1 : Reads s.heap u d as) (r2 : Reads s.heap v e bs) (ha : AlikeAll [d, e]) (hu : A.units + 1 + PyData.depthAll [d, e] < cLine)
    (h : ∀ h' tk, (∀ b o, s.heap.get? b = some o → h'.get? b = some o) → Q (if dataLt d e = true then v else u) { s with heap := h', toks := tk }) : wpAny (model prog w) A (call (.builtin "max") [u, v]) Q E s := by
  have k0 : ∀ b o, s.heap.get? b = some o → (s.heap.push { cls := .type "tuple", data := .seq #[u, v] }).get? b = some o := fun b o e => Heap.get?_push_of_some _ e
  have hl : (s.heap.push { cls := .type "tuple", data := .seq #[u, v] }).IsTuple s.heap.objs.size #[u, v] := ⟨_, Heap.get?_push_size _ rfl, rfl, 0, rfl⟩
  have hr : ∃ cs, ReadsAll (s.heap.push { cls := .type "tuple", data := .seq #[u, v] }) (#[u, v] : Array Value).toList [d, e] cs := ⟨_, .cons (reads_keeps k0 r1) (.cons (reads_keeps k0 r2) .nil)⟩
  obtain ⟨cs, hr⟩ := hr
  refine call_max_twoH (iter_tupleW (A := A.in1) hh hl fun s₂ es2 W st hfp hw hk => ?_)
  refine ⟨_, _, _, _, _, _, _, s.heap.push { cls := .type "tuple", data := .seq #[u, v] }, _, rfl, W, st, hfp, by show 0 < 2; decide, hw, hk, cmpIn_gt (A := A.in1) (s := { s with heap := s.heap.push { cls := .type "tuple", data := .seq #[u, v] } }) hr ha (by show A.units + 1 + _ < _; exact hu), fun z s' hP m => ?_⟩
  obtain ⟨h', tk, rfl, hk'⟩ := moved_old es2 rfl m
  have hz : z = if dataLt d e = true then v else u := by
    have hP' : (#[u, v] : Array Value)[if dataLt d e = true then 1 else 0]? = some z := hP
    by_cases c : dataLt d e = true
    · rw [if_pos c] at hP' ⊢
      exact (Option.some.inj hP').symm
    · rw [if_neg c] at hP' ⊢
      exact (Option.some.inj hP').symm
  rw [hz]
  exact h h' tk fun b o eb => hk' b o (k0 b o eb)
end
end Zo
namespace Zl
open PySem PySem.Spec PyProof.Rows L2 Lf
section
variable {X : Cx}
/-- max(x, y), x and y data of one kind -/
def rMaxD (K : PySem.W.Frag) : List V → Hp → VK → Prop := fun vs H Q => ∃ (x y : V) (d e : PyData), vs = [x, y] ∧ Dp K H x d ∧ Dp K H y e ∧ PySem.W.AlikeAll [d, e] ∧ d.depth ≤ 50 ∧ e.depth ≤ 50 ∧ Q (if PySem.W.dataLt d e = true then y else x) H
theorem call_maxD (hc : X.calm = true) (hu : X.A.units + 64 < cLine) : CallR X (.builtin "max") (rMaxD X.K) := by
  intro pins s σ H xs us Q I r h
  obtain ⟨x, y, d, e, rfl, hd, he, al, dd, de, q⟩ := h
  obtain ⟨u, v, rfl, r1, r2⟩ := vals2 r
  obtain ⟨as, rd⟩ := Dp.reads I d _ u hd r1
  obtain ⟨bs, re⟩ := Dp.reads I e _ v he r2
  refine Zo.max_two_data (I.ok.hd hc) rd re al ?_ fun h' tk k => ⟨_, H, I.kept k, ?_, q⟩
  · have : PyData.depthAll [d, e] ≤ 50 := by
      rw [PyData.depthAll.eq_2, PyData.depthAll.eq_2, PyData.depthAll.eq_1]
      omega
    omega
  · by_cases c : PySem.W.dataLt d e = true
    · rw [if_pos c, if_pos c]
      exact r2
    · rw [if_neg c, if_neg c]
      exact r1
def zMaxD : List Val → Store → DK → Prop := fun xs μ Q => match xs with
  | [.dat d, .dat e] => PySem.W.AlikeAll [d, e] ∧ d.depth ≤ 50 ∧ e.depth ≤ 50 ∧ Q (.dat (if PySem.W.dataLt d e = true then e else d)) μ
  | _ => False
theorem ca_maxD (hc : X.calm = true) (hu : X.A.units + 64 < cLine) : CaZ X (.builtin "max") zMaxD := ⟨_, call_maxD hc hu, fun B σ ρ H μ vs xs Q0 Q l R q low => by
  match xs, vs, l, R, q with
  | [.dat d, .dat e], [v, u], l, R, q =>
    obtain ⟨al, dd, de, q⟩ := q
    have R : RL X.w X.K B H (some v :: some u :: σ) (some (.dat d) :: some (.dat e) :: ρ) μ := R
    have h1 : Dz _ v d := R.head
    have h2 : Dz _ u e := R.tail.head
    refine ⟨v, u, d, e, rfl, Dz.dp _ _ (Dz.mono fz_le _ _ h1), Dz.dp _ _ (Dz.mono fz_le _ _ h2), al, dd, de, low _ _ q _ _ (R.tail.tail.cons ?_)⟩
    by_cases c : PySem.W.dataLt d e = true
    · rw [if_pos c, if_pos c]
      exact h2
    · rw [if_neg c, if_neg c]
      exact h1⟩
end
end Zl
/-! sorted(d), d a dict whose keys are data of one kind. -/
namespace Vd
open PySem PySem.Spec PyProof.Rows L2
/-- a key with its data -/
def keyB (kvs : List KVR) : List (V × PyData) := kvs.map fun p => (p.2.1, Zl.datK p.1)
theorem keys_acc {w : World} {es : Array DictEntry} {ks : List Row} (he : es.toList = ks.map (ent w)) {acc : Array Value} (it : ItemsOf (fun i v => ∃ en : DictEntry, es[i]? = some en ∧ v = en.key) acc es.size) : acc.toList = ks.map fun x => x.2.1 := by
  have l1 : es.size = ks.length := ent_size he
  have hl : acc.toList.length = ks.length := by rw [Array.length_toList, it.1]; exact l1
  apply List.ext_getElem?
  intro j
  rw [List.getElem?_map]
  cases hj : acc.toList[j]? with
  | none =>
    have h1 := List.getElem?_eq_none_iff.mp hj
    rw [List.getElem?_eq_none (by omega)]
    rfl
  | some v =>
    obtain ⟨en, hen, hv⟩ := it.2 j v (by rw [← Array.getElem?_toList]; exact hj)
    have qe := ent_at he j
    rw [hen] at qe
    cases hb : ks[j]? with
    | none =>
      rw [hb] at qe
      exact nomatch (show some en = none from qe)
    | some b =>
      rw [hb] at qe
      have e2 : en = ent w b := Option.some.inj qe
      rw [hv, e2]
      rfl
theorem call_sortedVD {X : Cx} (hc : X.calm = true) (hu : X.A.units + 64 < cLine) : CallR X (.builtin "sorted") (fun xs H Q => ∃ d kvs, xs = [V.ref d] ∧ DAt X.w H d kvs ∧ PySem.W.AllAlike (kvs.map fun p => Zl.datK p.1) ∧ PySem.W.Sortable (kvs.map fun p => Zl.datK p.1) ∧ (∀ p ∈ kvs, (Zl.datK p.1).depth ≤ 50) ∧
    ∀ p, H p = none → Q (.ref p) (upd H p (.lst (((keyB kvs).mergeSort (PySem.W.dataLe false (·.2))).map (·.1))))) := by
  intro pins s σ H xs us Q I r h
  obtain ⟨d, kvs, rfl, D, al, so, dep, q⟩ := h
  obtain ⟨u, rfl, rx⟩ := r.one
  cases rx
  obtain ⟨hs, z, ks, pr, ⟨o, es, ep, ho, hx, hdt, he⟩, R⟩ := D.out I.hok
  have l1 : es.size = ks.length := ent_size he
  have l2 : kvs.length = ks.length := Paired.length pr
  refine Calls.call_function_entry PyProof.Rows.kind_sorted PyProof.Rows.plain_sorted PyProof.Rows.entry_sorted (PyProof.Rows.args_sorted1 _) ?_
  unfold Builtin.«sorted»
  refine wpAny_bind (m := checkCount "sorted" 1 1 _) (wpAny_pure ?_)
  refine wpAny_bind (PySem.W.kdu_collect (A := X.A.in1) (kdl_raw hs hx hdt) (I.ok.hd hc) ho (by omega) fun h' tk acc hk it => ?_)
  have ea := keys_acc he it
  have rv : Vals ((keyB kvs).map (·.1)) acc.toList := by
    rw [ea]
    unfold keyB
    rw [List.map_map]
    exact rel_vals pr
  have e := Dt.each_in rv
  have kat : ∀ b ∈ keyB kvs, Dp X.K H b.1 b.2 := fun b hb => by
    obtain ⟨p, hp, rfl⟩ := List.mem_map.mp hb
    have k := (D.ok p hp).2
    exact Zl.Dz.dp _ _ (Zl.dz_key p.1 p.2.1 k)
  have hal : acc.toList.length = kvs.length := by
    rw [ea, List.length_map]
    exact l2.symm
  have zl : kvs.length ≤ sizeLine := z
  refine wpAny_bind (wpAny_newList ?_ (by rw [hal]; exact zl))
  have hoL : (h'.push (seqObj "list" acc.toList.toArray 0)).get? h'.objs.size = some (seqObj "list" acc.toList.toArray 0) := Heap.get?_push_size _ rfl
  show wpAny _ _ _ _ _ { s with heap := h'.push (seqObj "list" acc.toList.toArray 0), toks := tk }
  have keep : ∀ b o, s.heap.get? b = some o → (PySem.W.sortingHeap (h'.push (seqObj "list" acc.toList.toArray 0)) h'.objs.size acc.toList).get? b = some o := fun b o eb => by
    have h1 := hk b o eb
    have h2 : b ≠ h'.objs.size := Nat.ne_of_lt (Heap.lt_size h1)
    exact PySem.W.sortingHeap_old h2 (Heap.get?_push_of_some _ h1)
  have er' : PySem.W.EachIs (fun v (b : V × PyData) => ∃ as, Reads (PySem.W.sortingHeap (h'.push (seqObj "list" acc.toList.toArray 0)) h'.objs.size acc.toList) v b.2 as) acc.toList (keyB kvs) := Dt.each_both e fun v b m rb => by
    obtain ⟨as, r⟩ := Dp.reads I b.2 b.1 v (kat b m) rb
    exact ⟨as, PyProof.Rows.Reads.keeps keep r⟩
  have al' : PySem.W.AllAlike ((keyB kvs).map (·.2)) := by
    unfold keyB
    rw [List.map_map]
    exact al
  have so' : PySem.W.Sortable ((keyB kvs).map (·.2)) := by
    unfold keyB
    rw [List.map_map]
    exact so
  have dep' : ∀ b, b ∈ keyB kvs → X.A.in1.in1.units + b.2.depth < cLine := fun b hb => by
    obtain ⟨p, hp, rfl⟩ := List.mem_map.mp hb
    have := dep p hp
    show X.A.units + 1 + 1 + (Zl.datK p.1).depth < cLine
    omega
  refine wpAny_bind (wpAny_holding (wpAny_call_entry PyProof.Rows.slot_list_sort ⟨_, hoL, rfl⟩ PyProof.Rows.entry_list_sort (PySem.W.list_sort_vals (κ := PySem.W.dataKind (PySem.W.sortingHeap (h'.push (seqObj "list" acc.toList.toArray 0)) h'.objs.size acc.toList) ((keyB kvs).map (·.2))) hoL
    (PySem.W.SortsAt.data (s := { s with heap := PySem.W.sortingHeap (h'.push (seqObj "list" acc.toList.toArray 0)) h'.objs.size acc.toList, toks := tk }) (PySem.W.each_map (R := fun v d => ∃ as, Reads (PySem.W.sortingHeap (h'.push (seqObj "list" acc.toList.toArray 0)) h'.objs.size acc.toList) v d as) (fun b : V × PyData => b.2) er') al' so' (PySem.W.bound_map dep')) (by rw [hal]; exact zl) ⟨.none, rfl, ?_⟩) (PyProof.Rows.args_list_sort _)))
  have eo := PySem.W.sortVals_data (enc := fun b : V × PyData => b.2) false e er' al'
  have I1 : Inv X pins σ H { s with heap := h', toks := tk } := I.kept hk
  obtain ⟨e', he'⟩ := PyProof.Rows.sortedHeap_at (vs := acc.toList) (out := (PySem.W.sortVals (PySem.W.dataKind (PySem.W.sortingHeap (h'.push (seqObj "list" acc.toList.toArray 0)) h'.objs.size acc.toList) ((keyB kvs).map (·.2))) false acc.toList acc.toList).toArray) hoL
  have hlen : (((keyB kvs).mergeSort (PySem.W.dataLe false (·.2))).map (·.1)).length ≤ sizeLine := by
    rw [List.length_map, List.length_mergeSort]
    unfold keyB
    rw [List.length_map]
    exact zl
  refine wpAny_pure ⟨_, rfl, .ref h'.objs.size, upd H h'.objs.size (.lst (((keyB kvs).mergeSort (PySem.W.dataLe false (·.2))).map (·.1))), I1.laid (t' := tk) (fun b u eb => ?_) (Nat.le_refl _) ⟨hlen, _, e', Dt.each_out eo, he'⟩, rfl, q _ (I1.hok.fresh (Nat.le_refl _))⟩
  have hb : b < h'.objs.size := Heap.lt_size eb
  rw [PyProof.Rows.sortedHeap_old (Nat.ne_of_lt hb) (by rw [size_push']; exact Nat.lt_succ_of_lt hb)]
  exact Heap.get?_push_of_some _ eb
end Vd
namespace Zl
open PySem PySem.Spec PyProof.Rows L2 Lf
section
variable {X : Cx}
def zSortVD : List Val → Store → DK → Prop := fun xs μ Q => match xs with
  | [.ptr a] => ∃ kvs : List (NestedKey × Val), DvAt μ a kvs ∧ PySem.W.AllAlike (kvs.map fun p => datK p.1) ∧ PySem.W.Sortable (kvs.map fun p => datK p.1) ∧ (∀ p ∈ kvs, (datK p.1).depth ≤ 50) ∧
    ∀ p, Q (.ptr p) (μ ++ [(p, .lst (((kvs.map fun p => datK p.1).mergeSort (PySem.W.dataLe false id)).map .dat))])
  | _ => False
theorem ca_sortVD (hc : X.calm = true) (hu : X.A.units + 64 < cLine) : CaZ X (.builtin "sorted") zSortVD := ⟨_, Vd.call_sortedVD hc hu, fun B σ ρ H μ vs xs Q0 Q l R q low => by
  unfold zSortVD at q
  split at q
  · obtain ⟨kvs, h, al, so, dep, q⟩ := q
    obtain ⟨v, rfl, R⟩ := one_arg' l R
    obtain ⟨ks, D, pr⟩ := h.at R
    cases (R.head : v = .ref _)
    have ek : ks.map (fun p => datK p.1) = kvs.map fun p => datK p.1 := by
      clear D al so dep q h
      induction pr with
      | nil => rfl
      | cons h0 t ih => rw [List.map_cons, List.map_cons, ih, h0.1]
    refine ⟨_, ks, rfl, D, by rw [ek]; exact al, by rw [ek]; exact so, fun p hp => ?_, fun p hp => low _ _ (q p) _ _ ?_⟩
    · have : datK p.1 ∈ kvs.map fun p => datK p.1 := by rw [← ek]; exact List.mem_map_of_mem hp
      obtain ⟨q2, hq2, e2⟩ := List.mem_map.mp this
      rw [← e2]
      exact dep q2 hq2
    · have R9 := R.tail.new (n := .lst (((kvs.map fun p => datK p.1).mergeSort (PySem.W.dataLe false id)).map .dat)) (o := .lst (((Vd.keyB ks).mergeSort (PySem.W.dataLe false (·.2))).map (·.1))) hp ⟨_, upd_same, ?_⟩
      · exact R9.cons (x := .ptr p) rfl
      have e2 : (Vd.keyB ks).map (·.2) = kvs.map fun p => datK p.1 := by
        rw [← ek]
        unfold Vd.keyB
        rw [List.map_map]
        rfl
      have e4 : ((Vd.keyB ks).mergeSort (PySem.W.dataLe false (·.2))).map (·.2) = (kvs.map fun p => datK p.1).mergeSort (PySem.W.dataLe false id) := by
        have := List.map_mergeSort (r := PySem.W.dataLe false (fun x : V × PyData => x.2)) (s := PySem.W.dataLe false id) (f := fun x : V × PyData => x.2) (l := Vd.keyB ks) (fun _ _ _ _ => rfl)
        rw [this, e2]
      rw [← e4]
      have e3 : ∀ c ∈ Vd.keyB ks, Dz (Fz (B.fr ++ μ) H) c.1 c.2 := fun c hc => by
        obtain ⟨p, hp, rfl⟩ := List.mem_map.mp hc
        obtain ⟨n, hn, rfl⟩ := List.mem_iff_getElem.mp hp
        have hn2 : n < kvs.length := by rw [← pr.length]; exact hn
        obtain ⟨q3, eq3, r3⟩ := paired_get pr (List.getElem?_eq_getElem hn2)
        rw [List.getElem?_eq_getElem hn] at eq3
        cases eq3
        exact dz_key _ _ r3.2.2.1
      exact pair_list _ fun c hc => e3 c (List.mem_mergeSort.mp hc)
  · exact q.elim⟩
end
end Zl
/-! sorted(xs, key=f): the key's call changes nothing; keys told here by the model's own rules, without the frame of the layer. -/
namespace Zq
open PySem PySem.Spec PySem.W PySem.Calls PyProof.Rows L2
/-- what was there stays -/
def Keep (s s' : Shared) : Prop := ∃ h tk, s' = { s with heap := h, toks := tk } ∧ ∀ b o, s.heap.get? b = some o → h.get? b = some o
theorem Keep.refl (s : Shared) : Keep s s := ⟨s.heap, s.toks, rfl, fun _ _ e => e⟩
theorem Keep.trans {s1 s2 s3 : Shared} (h1 : Keep s1 s2) (h2 : Keep s2 s3) : Keep s1 s3 := by
  obtain ⟨g1, t1, rfl, k1⟩ := h1
  obtain ⟨g2, t2, rfl, k2⟩ := h2
  exact ⟨g2, t2, rfl, fun b o e => k2 b o (k1 b o e)⟩
theorem Keep.mem {s1 s2 : Shared} (h : Keep s1 s2) : ∀ b o, s1.heap.get? b = some o → s2.heap.get? b = some o := by
  obtain ⟨g, t, rfl, k⟩ := h
  exact k
theorem pure_of {d : PyData} {s s' : Shared} {v : Value} (h : Keep s s') (r : Reads s'.heap v d []) : KeyPure d s v s' := by
  obtain ⟨g, t, rfl, k⟩ := h
  exact ⟨g, t, rfl, k, r⟩
theorem of_pure {d : PyData} {s s' : Shared} {v : Value} (h : KeyPure d s v s') : Keep s s' ∧ Reads s'.heap v d [] := by
  obtain ⟨g, t, rfl, k, r⟩ := h
  exact ⟨⟨g, t, rfl, k⟩, r⟩
theorem all_nil {h : Heap} : ∀ {ds : List PyData} {vs : List Value}, ReadsAll h vs ds [] → ∀ (n : Nat) (d : PyData), ds[n]? = some d → ∃ v, vs[n]? = some v ∧ Reads h v d []
  | [], _, _, n, d, hd => by cases hd
  | d0 :: ds, vs, r, n, d, hd => by
    generalize e : ([] : List Addr) = as at r
    cases r with
    | @cons v vs _ _ as bs h1 h2 =>
      have e' := e.symm
      rw [List.append_eq_nil_iff] at e'
      obtain ⟨rfl, rfl⟩ := e'
      cases n with
      | zero =>
        cases hd
        exact ⟨v, rfl, h1⟩
      | succ n => exact all_nil h2 n d hd
/-- an expression that changes nothing and tells data -/
structure PuE (P : Program) (w : World) (A : Around) (env : Env) (s0 : Shared) (e : Expr) (d : PyData) : Prop where
  run : ∀ s, Keep s0 s → wpAny (model P w) A (eval e env) (KeyPure d s) (fun _ _ => False) s
structure PuA (P : Program) (w : World) (A : Around) (env : Env) (s0 : Shared) (es : List Expr) (ds : List PyData) : Prop where
  run : ∀ pos s, Keep s0 s → wpAny (model P w) A (spliced (backTo pos (starEach es env))) (fun vs s' => Keep s s' ∧ ReadsAll s'.heap vs ds []) (fun _ _ => False) s
section
variable {P : Program} {w : World} {A : Around} {env : Env} {s0 : Shared}
theorem pu_int {i : Int} {k : Nat} {pos : Pos} : PuE P w A env s0 (.Constant (.int i) k pos) (.int i) :=
  ⟨fun s _ => wpAny_Constant_int ⟨s.heap, s.toks + 1, rfl, fun _ _ e => e, .int i _⟩⟩
theorem pu_name {x : Str} {pos : Pos} {m : Str → Option Value} {v : Value} {d : PyData} (kind : env.scope.kind = .function) (kn : env.kindOf x = some .local) (ns : s0.heap.Ns env.locals m) (hm : m x = some v) (r : Reads s0.heap v d [])
    (nodb : (x == ("__debug__" : Str)) = false := by decide) : PuE P w A env s0 (.Name x pos) d :=
  ⟨fun s k => wpAny_Name (wpAny_loadName_local kind kn (ns.keeps k.mem) hm (pure_of (Keep.refl s) (Reads.keeps k.mem r))) nodb⟩
theorem pu_ix {a b : Expr} {pos : Pos} {ds : List PyData} {j : Int} {d : PyData} (ha : PuE P w A env s0 a (.tuple ds)) (hb : PuE P w A env s0 b (.int j)) (hd : atI ds j = some d) (hl : ds.length ≤ sizeLine)
    (ht : ∀ o i : Value, subscripted b false o i = operate [o, i] (getItem o i)) : PuE P w A env s0 (.Subscript a b pos) d :=
  ⟨fun s k => by
    refine Subscript_ (wpAny_mono (ha.run s k) (fun o s1 h1 => ?_) fun _ _ e => e)
    obtain ⟨k1, r1⟩ := of_pure h1
    refine wpAny_mono (hb.run s1 (k.trans k1)) (fun i s2 h2 => ?_) fun _ _ e => e
    obtain ⟨k2, r2⟩ := of_pure h2
    have r1 := Reads.keeps k2.mem r1
    generalize e0 : ([] : List Addr) = as at r1
    generalize e1 : PyData.int j = z at r2
    cases r2 with
    | int j t =>
      cases e1
      cases r1 with
      | @tuple a o vs n _ _ ho hc hdt hr =>
        subst e0
        obtain ⟨n', q1, q2, q3, q4, q5⟩ := atI_get hd
        obtain ⟨v, hv, rv⟩ := all_nil hr n' d q2
        have sz : vs.size = ds.length := by rw [← Array.length_toList]; exact SeqAt.ReadsAll.length _ _ _ hr
        have it : IsTup s2.heap a vs := ⟨o, ho, hc, n, hdt⟩
        have l63 := line63
        refine subscriptTail_builtinR (T := "tuple") (id := "tuple.__getitem__") (x := v) (IsTup.typeIs it) (Slot.lookup slot_tuple_getitem) (getItem_tuple it (by omega) (by omega) (by rw [sz]; exact q1) (by rw [← Array.getElem?_toList]; exact hv) ⟨rfl, pure_of (k1.trans k2) rv⟩) (ht _ _)
    | _ => cases e1⟩
theorem pu_nil : PuA P w A env s0 [] [] := ⟨fun pos s _ => spliced_nil ⟨Keep.refl s, .nil⟩⟩
theorem pu_cons {e : Expr} {es : List Expr} {d : PyData} {ds : List PyData} (he : PuE P w A env s0 e d) (hs : PuA P w A env s0 es ds) (hst : starEach (e :: es) env = (false, eval e env) :: starEach es env := by rfl) : PuA P w A env s0 (e :: es) (d :: ds) :=
  ⟨fun pos s k => by
    rw [hst]
    refine spliced_cons (wpAny_mono (he.run s k) (fun v s1 h1 => ?_) fun _ _ e => e)
    obtain ⟨k1, r1⟩ := of_pure h1
    refine wpAny_mono (hs.run pos s1 (k.trans k1)) (fun vs s2 h2 => ?_) fun _ _ e => e
    exact ⟨k1.trans h2.1, .cons (Reads.keeps h2.1.mem r1) h2.2⟩⟩
theorem pu_tup {es : List Expr} {n : Nat} {pos : Pos} {ds : List PyData} (hs : PuA P w A env s0 es ds) (hl : ds.length ≤ sizeLine) : PuE P w A env s0 (.Tuple es n pos) (.tuple ds) :=
  ⟨fun s k => wpAny_Tuple_spliced (wpAny_mono (hs.run _ s k) (fun vs s1 h1 => ⟨by rw [SeqAt.ReadsAll.length _ _ _ h1.2]; exact hl, by
    obtain ⟨k1, r1⟩ := h1
    have k2 : Keep s1 { s1 with heap := s1.heap.push { cls := .type "tuple", data := .seq vs.toArray } } := ⟨_, _, rfl, fun b o e => Heap.get?_push_of_some _ e⟩
    refine pure_of (k1.trans k2) (.tuple (Heap.get?_push_size _ rfl) rfl rfl ?_)
    rw [List.toList_toArray]
    exact ReadsAll.keeps k2.mem r1⟩) fun _ _ e => e)⟩
end
end Zq
namespace Zq
open PySem PySem.Spec PySem.W PySem.Calls PyProof.Rows L2
theorem bind_one {k : Str → Option NameKind} {p : Str} {v : Value} (h : k p = some .local) : bindL k [(p, v)] (fun _ => none) p = some v := by
  simp [bindL, h]
/-- a def of one return as a key -/
theorem key_def {P : Program} {w : World} {K : Frag} {A : Around} {x qual p : Str} {st : Stmt} {f : Addr} {fd : FuncData} {N : List Str} {e : Expr} {pos : Pos} {da d : PyData} {s : Shared} {v : Value}
    (F : Fun K x qual st f fd) (S : FnScope N [p] (defScope st)) (hb : L2.Binds K fd [p] []) (hbody : defBody st = [.Return (some e) pos]) (hloc : List.lookup p (defScope st).names = some .local)
    (he : ∀ (A : Around) (env : Env) (s0 : Shared), (∀ q, PuE P w A env s0 (.Name p q) da) → PuE P w A env s0 e d) (nodb : (p == ("__debug__" : Str)) = false)
    (kin : K.In s.heap) (lim : s.heap.NoLimit) (dep : A.depth < recursionLimit) (r : Reads s.heap v da []) : wpAny (model P w) A (call (.ref f) [v]) (KeyPure d s) (fun _ _ => False) s := by
  obtain ⟨oc, od, kV, doc, pm, an, cdv, ct, osl, rfl, lk, hcd⟩ := F.ex
  refine wpAny_call (codeAny_call_function dep (kin _ _ lk) rfl S.co S.gen rfl (codeRec_of kin hcd) (hb s [v] kin rfl _ _ _ _ ?_))
  refine wpAny_newFunctionEnv_cells S.kind (fun ⟨n, u⟩ hm => (S.par n (List.of_mem_zip hm).1).imp id fun c => ⟨c, cellsFrom_some _ _ _ (.inl c)⟩) fun env hen s1 ic => ?_
  subst hen
  refine ⟨lim.keeps ic.toInCall.keep, codeAny_func ?_⟩
  show wpAny _ _ (execs (defBody st) _) _ _ _
  rw [hbody]
  obtain ⟨h1, tk1, e1⟩ := ic.toInCall.same
  have k1 : Keep s s1 := ⟨h1, tk1, e1, by have := ic.toInCall.keep; rw [e1] at this; exact this⟩
  have nm : ∀ q, PuE P w (A.deeper (newEnv (defScope st) s.heap.objs.size mainGlobals (cellsFrom (s.heap.objs.size + 1) (defScope st).names []) (qual ++ Str.ofString ".<locals>.") (some f) cdv none builtinsNs)) (newEnv (defScope st) s.heap.objs.size mainGlobals (cellsFrom (s.heap.objs.size + 1) (defScope st).names []) (qual ++ Str.ofString ".<locals>.") (some f) cdv none builtinsNs) s1 (.Name p q) da := fun q =>
    pu_name S.kind hloc ic.toInCall.ns (bind_one hloc) (Reads.keeps ic.toInCall.keep r) nodb
  refine wpAny_execs_cons (wpAny_Return_some (wpAny_mono ((he _ _ s1 nm).run s1 (Keep.refl s1)) (fun u s2 h2 => ?_) fun _ _ z => z.elim))
  obtain ⟨k2, r2⟩ := of_pure h2
  exact pure_of (k1.trans k2) r2
end Zq
namespace Zl
open PySem PySem.Spec PySem.W PyProof.Rows L2 Lf
mutual
theorem reads_nil {h : Heap} : ∀ (d : PyData) {v : Value} {as : List Addr}, noList d = true → Reads h v d as → as = []
  | .none, _, _, _, r => by cases r; rfl
  | .bool _, _, _, _, r => by cases r; rfl
  | .int _, _, _, _, r => by cases r; rfl
  | .str _, _, _, _, r => by cases r; rfl
  | .list _, _, _, n, _ => by rw [noList] at n; cases n
  | .dict _, _, _, n, _ => by rw [noList] at n; cases n
  | .tuple ds, _, _, n, r => by
    rw [noList] at n
    cases r with
    | tuple _ _ _ hr => exact readsAll_nil ds n hr
theorem readsAll_nil {h : Heap} : ∀ (ds : List PyData) {vs : List Value} {as : List Addr}, noLists ds = true → ReadsAll h vs ds as → as = []
  | [], _, _, _, r => by cases r; rfl
  | d :: ds, _, _, n, r => by
    rw [noLists, Bool.and_eq_true] at n
    cases r with
    | cons h1 h2 => rw [reads_nil d n.1 h1, readsAll_nil ds n.2 h2]; rfl
end
section
variable {X : Cx}
def rSortK (K : PySem.W.Frag) (kf : PyData → PyData) (Pd : PyData → Prop) : List V → Hp → VK → Prop := fun vs H Q => ∃ (a : Addr) (bs : List (V × PyData)), vs = [.ref a] ∧ SqL K H a (bs.map (·.1)) ∧ (∀ b ∈ bs, Dp K H b.1 b.2) ∧ AllAlike ((bs.map (·.2)).map kf) ∧ Sortable ((bs.map (·.2)).map kf) ∧
  (∀ b ∈ bs, (kf b.2).depth ≤ 50 ∧ noList b.2 = true ∧ Pd b.2) ∧ ∀ p, H p = none → Q (.ref p) (upd H p (.lst ((bs.mergeSort (dataLe false fun b => kf b.2)).map (·.1))))
/-- what a key tells, at each of the states behind s -/
def KeyTells (X : Cx) (f : Addr) (kf : PyData → PyData) (Pd : PyData → Prop) (s : Shared) : Prop := ∀ s', Zq.Keep s s' → ∀ v d, Pd d → Reads s'.heap v d [] → wpAny (model X.prog X.w) X.A.in1.in1 (call (.ref f) [v]) (KeyPure (kf d) s') (fun _ _ => False) s'
theorem sorted_at {kf : PyData → PyData} {Pd : PyData → Prop} {f : Addr} {pins : List (Addr × Obj)} {σ : L2.St} {H : Hp} {s : Shared} {vs : List V} {us : List Value} {Q : VK} (hu : X.A.units + 64 < cLine) (I : L2.Inv X pins σ H s) (rv : Vals vs us) (q : rSortK X.K kf Pd vs H Q) (key : KeyTells X f kf Pd s) :
    wpAny (model X.prog X.w) X.A (call (.builtin "sorted") us [("key", .ref f)]) (EP X pins σ Q) X.xe s := by
  obtain ⟨a, bs, rfl, hs, hd, al, so, dep, q⟩ := q
  obtain ⟨its, rv', hl, hz⟩ := I.list hs
  obtain rfl := Vals.ref1 rv
  have e := Dt.each_in rv'
  have er : EachIs (fun u (b : V × PyData) => RelV b.1 u ∧ Reads s.heap u b.2 []) its bs := Dt.each_both e fun u b m rb => by
    obtain ⟨as, r⟩ := Dp.reads I b.2 b.1 u (hd b m) rb
    rw [reads_nil b.2 (dep b m).2.1 r] at r
    exact ⟨rb, r⟩
  have hbl : bs.length ≤ sizeLine := by
    rw [List.length_map] at hz
    exact hz
  have mm : bs.map (fun b => kf b.2) = (bs.map (·.2)).map kf := by rw [List.map_map]; rfl
  refine sorted_key_data (fun b : V × PyData => kf b.2) hl.isList er (by rw [mm]; exact al) (by rw [mm]; exact so) hbl (fun b m => by have := (dep b m).1; omega) (b := false) (f := .ref f) rfl (fun _ => rfl) (fun x => ksk_t1 f x) (fun v b rb m h tk k => ?_) (fun out c h' tk k _ hn hlen ho => ?_)
  · exact key _ ⟨h, tk, rfl, k⟩ v b.2 (dep b m).2.2 (Reads.keeps k rb.2)
  have hlen2 : ((bs.mergeSort (dataLe false fun b => kf b.2)).map (·.1)).length ≤ sizeLine := by
    rw [List.length_map, List.length_mergeSort]
    exact hbl
  exact ⟨.ref _, upd H (s.heap.objs.size + 1) (.lst ((bs.mergeSort (dataLe false fun b => kf b.2)).map (·.1))), I.laid (t' := tk) k (Nat.le_succ _) ⟨hlen2, out, c, Dt.each_out (Dt.each_both ho fun _ _ _ r => r.1), hn⟩, rfl, q _ (I.hok.fresh (Nat.le_succ _))⟩
def zSortK (kf : PyData → PyData) (Pd : PyData → Prop) : List Val → Store → DK → Prop := fun xs μ Q => match xs with
  | [x] => itemsOf μ x fun ys => isL x μ ∧ ∃ ds, datOf ys = some ds ∧ AllAlike (ds.map kf) ∧ Sortable (ds.map kf) ∧ (∀ d ∈ ds, (kf d).depth ≤ 50 ∧ noList d = true ∧ Pd d) ∧ ∀ p, Q (.ptr p) (μ ++ [(p, .lst ((ds.mergeSort (dataLe false kf)).map .dat))])
  | _ => False
theorem sortK_up {kf : PyData → PyData} {Pd : PyData → Prop} (B : Base) (σ : List (Option V)) (ρ : DR) (H : Hp) (μ : Store) (vs : List V) (xs : List Val) (Q0 : DK) (Q : VK) (l : vs.length = xs.length) (R : RL X.w X.K B H (vs.map some ++ σ) (xs.map some ++ ρ) μ) (q : zSortK kf Pd xs μ Q0) (low : Low X B σ ρ Q0 Q) : rSortK X.K kf Pd vs H Q := by
  match xs, l, R, q with
  | [x], l, R, q =>
    obtain ⟨v, rfl, R⟩ := one_arg' l R
    obtain ⟨b, ys, hi, il, ds, ed, al, so, dep, q⟩ := itemsOf_its (P := fun ys => isL x μ ∧ ∃ ds, datOf ys = some ds ∧ AllAlike (ds.map kf) ∧ Sortable (ds.map kf) ∧ (∀ d ∈ ds, (kf d).depth ≤ 50 ∧ noList d = true ∧ Pd d) ∧ ∀ p, Q0 (.ptr p) (μ ++ [(p, Node.lst ((ds.mergeSort (dataLe false kf)).map .dat))])) q
    obtain ⟨a, us, rfl, hs, pr⟩ := hi.at R R.head
    have hb : b = false := by
      cases hi with
      | t ds => exact il.elim
      | _ => rfl
    subst hb
    obtain ⟨e1, e2, e3⟩ := zip_fst (K := X.K) (datOf_all pr ed)
    refine ⟨a, us.zip ds, rfl, by rw [e1]; exact hs, fun c hc => Dz.dp _ _ (Dz.mono fz_le _ _ (e3 c hc)), by rw [e2]; exact al, by rw [e2]; exact so, fun c hc => dep c.2 ?_, fun p hp => low _ _ (q p) _ _ ((R.tail.new (n := .lst ((ds.mergeSort (dataLe false kf)).map .dat)) hp ⟨_, upd_same, ?_⟩).cons rfl)⟩
    · rw [← e2]
      exact List.mem_map_of_mem hc
    · have e4 : ((us.zip ds).mergeSort (dataLe false fun b => kf b.2)).map (·.2) = ds.mergeSort (dataLe false kf) := by
        have := List.map_mergeSort (r := dataLe false (fun x : V × PyData => kf x.2)) (s := dataLe false kf) (f := fun x : V × PyData => x.2) (l := us.zip ds) (fun _ _ _ _ => rfl)
        rw [this, e2]
      rw [← e4]
      exact pair_list _ fun c hc => e3 c (List.mem_mergeSort.mp hc)
/-- a def as a key, its name -/
theorem d_sortK {kf : PyData → PyData} {Pd : PyData → Prop} {f : Addr} {x : Str} {e : Expr} {g : DTA} {p p2 kp pos : Pos} (hu : X.A.units + 64 < cLine) (hgs : Gl X "sorted") (hms : X.mg "sorted" = none) (hg : Gl X x) (hm : X.mg x = some (.ref f)) (hdb : (x == ("__debug__" : Str)) = false)
    (key : ∀ s : Shared, X.K.In s.heap → s.heap.NoLimit → KeyTells X f kf Pd s) (ha : DA X [e] g)
    (h3 : backTo pos (starEach [e] X.env) = [(false, eval e X.env)] := by rfl) (h4 : ((backTo pos (starEach [e] X.env)).any fun x => x.1) = false := by rfl)
    (h5 : ((backToKw pos (keywordEach [⟨some "key", .Name x p2, kp⟩] X.env)).all fun x => x.1.isSome) = true := by rfl) (h6 : ((backToKw pos (keywordEach [⟨some "key", .Name x p2, kp⟩] X.env)).any fun x => x.1.isNone) = false := by rfl) (h7 : (backToKw pos (keywordEach [⟨some "key", .Name x p2, kp⟩] X.env)).filterMap (fun x => x.1) = [("key" : Str)] := by rfl) :
    DE X (.Call (.Name "sorted" p) [e] [⟨some "key", .Name x p2, kp⟩] pos) (dCB (zSortK kf Pd) g) := by
  have c : CallRK X (.builtin "sorted") ["key"] fun vs zs H Q => zs = [.ref f] ∧ rSortK X.K kf Pd vs H Q := by
    intro pins s σ H vs zs us ws Q I rv rw_ h
    obtain ⟨rfl, q⟩ := h
    obtain rfl := Vals.ref1 rw_
    exact sorted_at hu I rv q (key s I.kIn (I.env0.mod.nolimit.keeps fun b o e => (I.env0.bs b o e).1))
  refine ⟨fun B => PE.weak (pe_callBK c hgs hms rfl (ha.run B) (pk_cons (pe_glob (v := .ref f) hg hm rfl hdb) pk_nil) (by decide) (by decide) h3 h4 h5 h6 h7) fun σ H Q h => ?_⟩
  exact up_CB (r := fun vs H Q => [V.ref f] = [V.ref f] ∧ rSortK X.K kf Pd vs H Q) (fun σ ρ H μ vs xs Q0 Q l R q low => ⟨rfl, sortK_up B σ ρ H μ vs xs Q0 Q l R q low⟩) h
end
end Zl
/-! A lambda as a key: its code stands in the table of the def around it, which is an own object here (Node.tab). -/
namespace Zq
open PySem PySem.Spec PySem.W PySem.Calls PyProof.Rows L2
theorem lam_mk {X : Cx} {pins : List (Addr × Obj)} {σ : L2.St} {H : Hp} {s : Shared} {c Pt : Addr} {ps : Array Value} {params : Arguments} {body : Expr} {scope : Scope} {pos : Pos} {E Q : Value → Shared → Prop}
    (I : L2.Inv X pins σ H s) (TB : LamX.TabB X.base X.mg c Pt) (hcode : X.env.code = .ref c) (hP : H Pt = some (.tbl ps)) (ht : TriplesOk ps.toList)
    (ha : ∀ pos cv, codeAmong pos ps.toList = some cv → ∃ c, cv = .ref c ∧ H c = some (LamX.CodeO c (X.env.qual ++ Str.ofString "<lambda>"))) (hdef : defaultsOf params X.env = ([], []))
    (hfree : ∀ y ∈ scope.names, y.2 = NameKind.free → ∃ c, List.lookup y.1 X.env.cells = some c)
    (h : ∀ (f c' : Addr) (pm ctv : Value) (H1 : Hp) (s' : Shared), L2.Inv X pins σ H1 s' → (∀ b o, b ≠ Pt → s.heap.get? b = some o → s'.heap.get? b = some o) →
      (H1 = H ∨ ∃ more : Array Value, H c' = none ∧ H1 = upd (upd H Pt (.tbl (ps ++ more))) c' (LamX.CodeO c' (X.env.qual ++ Str.ofString "<lambda>")) ∧ TriplesOk (ps ++ more).toList ∧ ∀ pos cv, codeAmong pos (ps ++ more).toList = some cv → codeAmong pos ps.toList = some cv ∨ cv = .ref c') →
      s'.heap.get? f = some (kla_obj (Str.ofString "<lambda>") (X.env.qual ++ Str.ofString "<lambda>") params body scope (cloFrom X.env.cells scope.names []) pm c' ctv) → s'.heap.CodeRec (.ref c') (X.env.qual ++ Str.ofString "<lambda>") → Q (.ref f) s') :
    wpAny (model X.prog X.w) X.A (eval (.Lambda params body scope pos) X.env) Q E s := by
  refine kla_eval hdef ?_
  have bP := Heap.BuiltinsAt.keeps TB.bm (Inv.bk I)
  have hP' := I.hok Pt (.tbl ps) hP
  cases hc : codeAmong pos ps.toList with
  | none =>
    refine kla_makeFunction (closure_ok hfree) I.ok.glob (Heap.Ns.keeps (Inv.mod I).glob (Inv.bk I)) hcode (CodeHd.keeps TB.code (Inv.bk I)) hP' ht hc TB.gP bP fun c' ctv h' tk hx hge hlt hrec htb => ?_
    have rec' := hrec
    obtain ⟨c2, oc, vs, t, e2, hoc, hd, hv⟩ := hrec
    cases e2
    have nC := HOk.fresh I.hok hge
    let o := kla_obj (Str.ofString "<lambda>") (X.env.qual ++ Str.ofString "<lambda>") params body scope (cloFrom X.env.cells scope.names []) ((X.mg (Str.ofString "__name__")).getD Value.none) c' ctv
    have I1 := LamX.inv_table (t' := tk) I hP (fun b u hb e => Heap.get?_push_of_some o (hx b u hb e)) (Heap.get?_push_of_some o htb) hge ⟨oc, vs, t, Heap.get?_push_of_some o hoc, hd, hv⟩
    have eL : (ps ++ #[rawInt pos.line, rawInt pos.col, Value.ref c']).toList = ps.toList ++ [rawInt pos.line, rawInt pos.col, .ref c'] := by simp
    refine h _ c' _ ctv _ _ I1 (fun b u hb e => Heap.get?_push_of_some o (hx b u hb e)) (.inr ⟨_, nC, rfl, by rw [eL]; exact TriplesOk_snoc _ _ _ _ ht, fun p cv q => ?_⟩) (Heap.get?_push_size _ rfl) ⟨c', oc, vs, t, rfl, Heap.get?_push_of_some o hoc, hd, hv⟩
    rw [eL] at q
    exact LamX.among_app _ ht q
  | some cv =>
    obtain ⟨c', rfl, hc'⟩ := ha _ _ hc
    refine kla_makeFunctionHit (closure_ok hfree) I.ok.glob (Heap.Ns.keeps (Inv.mod I).glob (Inv.bk I)) hcode (CodeHd.keeps TB.code (Inv.bk I)) hP' ht hc bP fun ctv h' tk hx hge => ?_
    let o := kla_obj (Str.ofString "<lambda>") (X.env.qual ++ Str.ofString "<lambda>") params body scope (cloFrom X.env.cells scope.names []) ((X.mg (Str.ofString "__name__")).getD Value.none) c' ctv
    have k : ∀ b u, s.heap.get? b = some u → (h'.push o).get? b = some u := fun b u e => Heap.get?_push_of_some o (hx b u e)
    obtain ⟨oc, vs, t, hoc, hd, hv⟩ := (I.hok c' _ hc').1
    exact h _ c' _ ctv H _ (I.kept (t' := tk) k) (fun b u _ e => k b u e) (.inl rfl) (Heap.get?_push_size _ rfl) ⟨c', oc, vs, t, rfl, k _ _ hoc, hd, hv⟩
/-- a lambda of one parameter, called -/
theorem key_lam {P : Program} {w : World} {A : Around} {q p : Str} {params : Arguments} {body : Expr} {scope : Scope} {cl : List (Str × Addr)} {pm ctv v : Value} {c' f : Addr} {da d : PyData} {s : Shared}
    (hf : s.heap.get? f = some (kla_obj (Str.ofString "<lambda>") q params body scope cl pm c' ctv)) (kind : scope.kind = .function) (co : scope.isCoroutine = false) (gen : scope.isGenerator = false) (hcl : ∀ y ∈ scope.names, y.2 ≠ NameKind.cell) (hloc : List.lookup p scope.names = some .local)
    (hrec : s.heap.CodeRec (.ref c') q) (hbind : bindArgs (kla_fn (Str.ofString "<lambda>") q params body scope cl pm (.ref c') ctv) ⟨[v], []⟩ = pure [(p, v)]) (lim : s.heap.NoLimit) (dep : A.depth < recursionLimit) (nodb : (p == ("__debug__" : Str)) = false)
    (he : ∀ (env : Env) (s0 : Shared), Keep s s0 → env.scope = scope → env.globals = mainGlobals → env.builtins = builtinsNs → (∀ q, PuE P w (A.deeper env) env s0 (.Name p q) da) → PuE P w (A.deeper env) env s0 body d)
    (r : Reads s.heap v da []) : wpAny (model P w) A (call (.ref f) [v]) (KeyPure d s) (fun _ _ => False) s := by
  refine wpAny_call (kla_callFunE dep hf rfl co gen rfl hrec ?_)
  rw [hbind]
  refine wpAny_pure ?_
  refine wpAny_newFunctionEnv hcl (fun x hx => by rw [List.mem_singleton.mp hx]; exact hloc) (fun h' ns sb => ?_) kind
  have k1 : ∀ b u, s.heap.get? b = some u → h'.get? b = some u := fun b u e => by
    rw [sb.2 b (Nat.ne_of_lt (Heap.lt_size e))]
    exact Heap.get?_push_of_some _ e
  have K1 : Keep s { s with heap := h', toks := s.toks + 1 } := ⟨h', s.toks + 1, rfl, k1⟩
  refine ⟨lim.keeps k1, kla_codeExpr ?_⟩
  refine wpAny_mono (PuE.run (s0 := { s with heap := h', toks := s.toks + 1 }) (he _ { s with heap := h', toks := s.toks + 1 } K1 ?_ ?_ ?_ ?_) _ (Keep.refl _)) (fun u s2 h2 => ?_) fun _ _ z => z.elim
  rotate_left 4
  · obtain ⟨k2, r2⟩ := of_pure h2
    exact pure_of (K1.trans k2) r2
  · rfl
  · rfl
  · rfl
  · exact fun q => pu_name kind hloc ns (by simp) (Reads.keeps k1 r) nodb
/-- repr of data made of no list, in a key -/
theorem pu_repr {P : Program} {w : World} {A : Around} {env : Env} {s0 : Shared} {e : Expr} {p pos : Pos} {ds : List PyData} {mg mb : Str → Option Value} (he : PuE P w A env s0 e (.tuple ds)) (kind : env.scope.kind = .function) (kn : env.kindOf "repr" = some .globalImplicit)
    (ng : s0.heap.Ns env.globals mg) (hm : mg "repr" = none) (nb : s0.heap.Ns env.builtins mb) (hb : mb "repr" = some (.builtin "repr")) (hg : A.guards = some []) (hu : A.units + ((PyData.tuple ds).depth + 1) < cLine) (hs : (PyData.tuple ds).showable = true) (hd : (PyData.tuple ds).hasDict = false) (hl : (PyData.tuple ds).shown.length ≤ sizeLine)
    (h1 : starEach [e] env = (false, eval e env) :: starEach [] env := by rfl) (h2 : ((backTo pos (starEach [] env)).any fun x => x.1) = false := by rfl) :
    PuE P w A env s0 (.Call (.Name "repr" p) [e] [] pos) (.str (PyData.tuple ds).shown) :=
  ⟨fun s k => by
    refine wpAny_Call_Name_kw (Name_function_global kind kn (loadGlobal_builtin (ng.keeps k.mem) hm (nb.keeps k.mem) hb ?_) (by decide))
    refine callWith_builtin1 ?_ h1 h2
    rw [h1]
    refine spliced_cons (wpAny_mono (he.run s k) (fun v s1 hv => ?_) fun _ _ z => z.elim)
    obtain ⟨k1, r1⟩ := of_pure hv
    refine spliced_nil ?_
    generalize e0 : ([] : List Addr) = as at r1
    cases r1 with
    | @tuple a o vs n _ _ ho hc hdt hr =>
      subst e0
      refine repr_of_reads' (.tuple ho hc hdt hr) hs (fun z => by rw [hd] at z; cases z) hg hu (fun _ _ e => e) (fun h' u tk kk => ?_) hl
      exact pure_of (k1.trans ⟨h', tk, rfl, kk⟩) (.str _ _)⟩
end Zq
namespace Zl
open PySem PySem.Spec PySem.W PySem.Calls PyProof.Rows L2 Lf
section
variable {X : Cx}
theorem RL.tabs {w : World} {K : PySem.W.Frag} {B : Base} {H : Hp} {σ : List (Option V)} {ρ : DR} {μ : Store} {j : Nat} {Pt c' : Addr} {q : Str} {ps more : Array Value} (R : RL w K B H σ ρ μ) (hj : μ[j]? = some (Pt, .tab q)) (hP : H Pt = some (.tbl ps)) (hc : H c' = none) (ht : TriplesOk (ps ++ more).toList)
    (ha : ∀ pos cv, codeAmong pos (ps ++ more).toList = some cv → codeAmong pos ps.toList = some cv ∨ cv = .ref c') : RL w K B (upd (upd H Pt (.tbl (ps ++ more))) c' (LamX.CodeO c' q)) σ ρ μ := by
  have inP : (Pt, Node.tab q) ∈ B.fr ++ μ := List.mem_append_right _ (List.mem_of_getElem? hj)
  have nP : Pt ≠ c' := fun e => by rw [e, hc] at hP; cases hP
  have other : ∀ x, x ≠ Pt → x ≠ c' → (upd (upd H Pt (.tbl (ps ++ more))) c' (LamX.CodeO c' q)) x = H x := fun x h1 h2 => by rw [upd_ne h2, upd_ne h1]
  have out : c' ∉ (B.fr ++ μ).map (·.1) := fun z => by
    obtain ⟨p, hp, e⟩ := List.mem_map.mp z
    exact (R.st p hp).live (by rw [e]; exact hc)
  have g : ∀ x o, Fz (B.fr ++ μ) H x = some o → Fz (B.fr ++ μ) (upd (upd H Pt (.tbl (ps ++ more))) c' (LamX.CodeO c' q)) x = some o := fun x o h => by
    obtain ⟨h1, h2⟩ := Fz.sub h
    refine Fz.of h1 ?_
    rw [other x (fun e => h1 (by rw [e]; exact List.mem_map_of_mem inP)) (fun e => by rw [e, hc] at h2; cases h2)]
    exact h2
  refine ⟨R.nd, fun x o h => g _ _ (R.base x o h), L2.Paired.mapP R.sl fun _ _ => RVo.mono g, fun p hp => ?_⟩
  by_cases e : p.1 = Pt
  · have ep : p = (Pt, .tab q) := by
      obtain ⟨i, hi, rfl⟩ := List.mem_iff_getElem.mp hp
      obtain ⟨k, hk, ek⟩ := List.mem_iff_getElem.mp inP
      have h1 : ((B.fr ++ μ).map (·.1))[i]? = some Pt := by rw [List.getElem?_map, List.getElem?_eq_getElem hi]; exact congrArg some e
      have h2 : ((B.fr ++ μ).map (·.1))[k]? = some Pt := by rw [List.getElem?_map, List.getElem?_eq_getElem hk, ek]; rfl
      have := (List.getElem?_inj (by rw [List.length_map]; exact hi) R.nd).mp (h1.trans h2.symm)
      subst this
      exact ek
    subst ep
    obtain ⟨ps', e1, _, e3⟩ := R.st _ inP
    rw [hP] at e1
    cases e1
    refine ⟨_, by rw [upd_ne nP, upd_same], ht, fun pos cv h => ?_⟩
    rcases ha pos cv h with h | rfl
    · exact (e3 pos cv h).imp fun c k => ⟨k.1, g _ _ k.2⟩
    · exact ⟨c', rfl, Fz.of out upd_same⟩
  · exact (R.st p hp).mono g (other p.1 e fun z => (R.st p hp).live (by rw [z]; exact hc))
abbrev dSortL (Pt : Addr) (q : Str) (kf : PyData → PyData) (Pd : PyData → Prop) (g : DTA) : DTE := fun ρ μ Q => g ρ μ fun xs μ1 => (∃ j : Nat, μ1[j]? = some (Pt, Node.tab q)) ∧ zSortK kf Pd xs μ1 Q
/-- a lambda as a key -/
theorem d_sortL {kf : PyData → PyData} {Pd : PyData → Prop} {c Pt : Addr} {params : Arguments} {body : Expr} {scope : Scope} {e : Expr} {g : DTA} {p lpos kp pos : Pos} (hu : X.A.units + 64 < cLine) (hgs : Gl X "sorted") (hms : X.mg "sorted" = none)
    (TB : LamX.TabB X.base X.mg c Pt) (hcode : X.env.code = .ref c) (hdef : defaultsOf params X.env = ([], [])) (hfree : ∀ y ∈ scope.names, y.2 ≠ NameKind.free)
    (key : ∀ (s : Shared) (f c' : Addr) (pm ctv : Value), L2.Mod X.K X.mg X.base → (∀ b o, X.base.get? b = some o → s.heap.get? b = some o) → s.heap.get? f = some (kla_obj (Str.ofString "<lambda>") (X.env.qual ++ Str.ofString "<lambda>") params body scope (cloFrom X.env.cells scope.names []) pm c' ctv) → s.heap.CodeRec (.ref c') (X.env.qual ++ Str.ofString "<lambda>") → KeyTells X f kf Pd s) (ha : DA X [e] g)
    (h3 : backTo pos (starEach [e] X.env) = [(false, eval e X.env)] := by rfl) (h4 : ((backTo pos (starEach [e] X.env)).any fun x => x.1) = false := by rfl)
    (h5 : ((backToKw pos (keywordEach [⟨some "key", .Lambda params body scope lpos, kp⟩] X.env)).all fun x => x.1.isSome) = true := by rfl) (h6 : ((backToKw pos (keywordEach [⟨some "key", .Lambda params body scope lpos, kp⟩] X.env)).any fun x => x.1.isNone) = false := by rfl) (h7 : (backToKw pos (keywordEach [⟨some "key", .Lambda params body scope lpos, kp⟩] X.env)).filterMap (fun x => x.1) = [("key" : Str)] := by rfl) :
    DE X (.Call (.Name "sorted" p) [e] [⟨some "key", .Lambda params body scope lpos, kp⟩] pos) (dSortL Pt (X.env.qual ++ Str.ofString "<lambda>") kf Pd g) := by
  refine ⟨fun B => ⟨fun pins s σ H Q I h => ?_⟩⟩
  obtain ⟨hv, hx, ρ, μ, Q0, hl, R0, h, low⟩ := h
  refine wpAny_Call_Name_kw (ld_blt I hgs hms rfl (callWith_kw (thn ((ha.run B).run pos pins s σ H (fun vs H1 => ∃ xs μ1, ((∃ j : Nat, μ1[j]? = some (Pt, Node.tab (X.env.qual ++ Str.ofString "<lambda>"))) ∧ zSortK kf Pd xs μ1 Q0) ∧ vs.length = xs.length ∧ RL X.w X.K B H1 (vs.map some ++ (hv ++ σ)) (xs.map some ++ (hx ++ ρ)) μ1) I ⟨hv, hx, ρ, μ, _, hl, R0, h, fun xs μ1 q vs H1 l R1 => ⟨xs, μ1, q, l, R1⟩⟩) fun us s1 h1 => ?_) h3 h4 h5 h6) (by decide) (by decide))
  obtain ⟨vs, H1, I1, rv, xs, μ1, ⟨⟨j, hj⟩, q⟩, l, R1⟩ := h1
  rw [h7]
  obtain ⟨ps, hP, ht, hcs⟩ := R1.st _ (List.mem_append_right _ (List.mem_of_getElem? hj))
  refine wpAny_evalAll_cons (wpAny_bind (Zq.lam_mk I1 TB hcode hP ht (fun pos cv h => (hcs pos cv h).imp fun c k => ⟨k.1, (Fz.sub k.2).2⟩) hdef (fun y hy z => absurd z (hfree y hy)) fun f c' pm ctv H2 s2 I2 _ al hf hrec => ?_))
  have R2 : RL X.w X.K B H2 (vs.map some ++ (hv ++ σ)) (xs.map some ++ (hx ++ ρ)) μ1 := by
    rcases al with rfl | ⟨more, hc, rfl, t1, t2⟩
    · exact R1
    · exact R1.tabs hj hP hc t1 t2
  refine wpAny_bind (wpAny_standAt (wpAny_pure (wpAny_evalAll_nil ?_)))
  exact sorted_at hu I2 rv (sortK_up B _ _ H2 μ1 vs xs Q0 Q l R2 q low) (key s2 f c' pm ctv I2.mod I2.bk hf hrec)
end
end Zl
/-! Where the law is entered, the (empty) table of a def's codes is told as an own object: Gd.law_at, walk_at with it. -/
namespace Gt
open PySem PySem.Spec PyProof.Rows L2 Gd
def entryT (Pt a : Addr) (t : Bool) (o : Obj) (xs : List V) : Hp := fun b => if b = Pt then some (.tbl #[]) else entry a t o xs b
theorem law_tab {P : Program} {w : World} {K : PySem.W.Frag} {mg mb : Str → Option Value} {fa a c Pt : Addr} {fd : FuncData} {x : Str} {sp : Sp} {s : Shared} {vs : List Value} {ns : List Int}
    (inK : K.In s.heap) (glob : s.heap.Ns mainGlobals mg) (hb : s.heap.Ns builtinsNs mb) (boot : ∀ x : Str, x ≠ "__name__" → mb x = bootBuiltins x) (lim : s.heap.NoLimit) (hg : s.gens = #[])
    (bmain : ∃ bm ob, mg (Str.ofString "__builtins__") = some (Value.ref bm) ∧ bm ≠ builtinsNs ∧ s.heap.get? bm = some ob ∧ ob.cls = Value.type "module" ∧ ob.dict = some builtinsNs ∧ ob.data = Data.plain)
    (hT : s.heap.get? Pt = some (PySem.W.tabObj #[])) (hK : K.lookup Pt = none) (hc : PySem.W.codeHdIn K c Pt = true)
    (at_ : s.heap.get? a = some { cls := .type "list", data := .seq vs.toArray }) (hi : IntsAre vs ns) (hl : ns.length ≤ sizeLine)
    (run : ∀ base : Heap, K.In base → base.Ns mainGlobals mg → LamX.TabB base mg c Pt → RunAt callerA P w K mg base fa fd [x] sp) (binds : ∀ (s : Shared) (u : Value), BindsTo s fd ⟨[u], []⟩ [(x, u)])
    (hsp : ∀ H : Hp, H Pt = some (.tbl #[]) → a ≠ Pt → SqL K H a (ns.map V.int) → sp [.ref a] H (fun v _ => v = .bl true) fun _ _ _ => False) :
    codeAny (model P w) callerA (.call (.ref fa) ⟨[.ref a], []⟩) (fun r s' => r = .ok (.ret (.bool true)) ∧ OldK s.heap s'.heap ∧ s'.os = s.os ∧ AllBare s'.gens) s := by
  have rv := vals_ints hi
  obtain ⟨t, ht⟩ : ∃ t : Bool, t = true ↔ K.lookup a = none := ⟨(K.lookup a).isNone, Option.isNone_iff_eq_none⟩
  let o : Obj := { cls := .type "list", data := .seq vs.toArray }
  have naP : a ≠ Pt := fun e => by rw [e, hT] at at_; cases at_
  let H : Hp := entryT Pt a t o (ns.map V.int)
  have HP : H Pt = some (.tbl #[]) := if_pos rfl
  have Hb : ∀ {b : Addr}, b ≠ Pt → H b = entry a t o (ns.map V.int) b := fun {b} n => if_neg n
  have none_of : ∀ {b : Addr} {u : Obj}, b ≠ Pt → s.heap.get? b = some u → (b = a → t = true → u ≠ o) → H b = none := fun {b u} nb e n => by
    rw [Hb nb]
    cases q : entry a t o (ns.map V.int) b with
    | none => rfl
    | some z =>
      obtain ⟨rfl, h1, _⟩ := entry_some q
      rw [at_] at e
      exact absurd (Option.some.inj e).symm (n rfl h1)
  have names : ∀ {b : Addr} {m : Str → Option Value}, s.heap.Ns b m → (hidT s.heap H).Ns b m := fun {b m} ⟨u, es, ep, e, d, r⟩ =>
    ⟨u, es, ep, hidT_get e (none_of (fun z => by rw [z, hT] at e; cases e; cases d) e fun _ _ z => by rw [z] at d; cases (show Data.seq vs.toArray _ = Data.dict es ep from d)), d, r⟩
  have kept : K.In (hidT s.heap H) := fun b u e => hidT_get (inK b u e) (none_of (fun z => by rw [z, hK] at e; cases e) (inK b u e) fun h1 h2 _ => by rw [h1, ht.mp h2] at e; cases e)
  have ok : HOk P w H s.heap := fun b u q => by
    by_cases e : b = Pt
    · subst e
      rw [HP] at q
      cases q
      exact hT
    · rw [Hb e] at q
      obtain ⟨rfl, _, rfl⟩ := entry_some q
      exact ⟨at_, by rw [List.length_map]; exact hl, vs, _, rv, at_⟩
  have script : SqL K H a (ns.map V.int) := by
    cases q : K.lookup a with
    | none => exact .inl (.inr ⟨o, (Hb naP).trans (if_pos ⟨rfl, ht.mpr q⟩)⟩)
    | some u =>
      obtain rfl : o = u := Option.some.inj (at_.symm.trans (inK a u q))
      exact .inr ⟨_, vs.toArray, _, q, rfl, rfl, rfl, by rw [List.size_toArray, hi.length]; exact hl, by simpa using rv⟩
  have bmat : (hidT s.heap H).BuiltinsAt mg Pt := by
    obtain ⟨bm, ob, h1, h2, h3, h4, h5, h6⟩ := bmain
    have n1 : bm ≠ Pt := fun z => by rw [z, hT] at h3; cases h3; cases h6
    refine ⟨bm, ob, h1, h2, fun z => ?_, n1, hidT_get h3 (none_of n1 h3 fun _ _ z => by rw [z] at h6; cases h6), h4, h5, h6⟩
    obtain ⟨u, es, ep, e, d, _⟩ := glob
    rw [z, e] at h3
    cases h3
    rw [h6] at d
    cases d
  have gP : mainGlobals ≠ Pt := fun z => by
    obtain ⟨u, es, ep, e, d, _⟩ := glob
    rw [z, hT] at e
    cases e
    cases d
  have env : Env0 P w K mg (hidT s.heap H) callerA [] s H :=
    { frames := rfl, mod := ⟨kept, names glob, ⟨mb, names hb, boot⟩, let ⟨mc, h1, h2⟩ := lim; ⟨mc, names h1, h2⟩⟩, bs := fun _ _ e => of_hidT e, bsz := Nat.le_of_eq (hidT_size _ _), funs := trivial, frf := fun b hb => absurd hb List.not_mem_nil, hok := ok, bare := .of_eq hg }
  refine codeAny_mono (run _ kept (names glob) (NdefX.tabB_of_K kept hc bmat gP) [] s H ⟨[.ref a], []⟩ [.ref a] [.ref a] _ _ env (binds s _) (.cons rfl .nil) (hsp H HP naP script)) fun r s' h => ?_
  match r, h with
  | .ok (.ret u), ⟨v, H', os, bare, un, hok', r', q⟩ =>
    obtain rfl : v = .bl true := q
    refine ⟨by rw [show u = Value.bool true from r'], ⟨fun b z e => ?_, fun b z e => un.there b z e (by simp)⟩, os, bare⟩
    by_cases eb : b = Pt
    · subst eb
      rw [hT] at e
      cases e
      obtain ⟨more, hm⟩ := un.tbls b _ HP
      have h2 := hok' b _ hm
      obtain ⟨oc, vs2, _, _, _, _, _, _, _, g1, g2, g3, g4, _⟩ := (NdefX.tabB_of_K (mg := mg) kept hc bmat gP).code
      exact .inr (.inl ⟨⟨c, oc, vs2, (of_hidT g1).1, g2, g3, g4⟩, rfl, #[], more, rfl, h2⟩)
    · cases hb : H b with
      | none => exact .inl (un.keep b z e hb (by intro z; cases z) (by simp))
      | some y =>
        have hb2 := hb
        rw [Hb eb] at hb2
        obtain ⟨rfl, _, rfl⟩ := entry_some hb2
        have e2 := (hok' b _ (un.frzs b o _ hb)).1
        rw [at_] at e
        exact .inl ((Option.some.inj e) ▸ e2)
/-- the end of a text: as Gd.walk_at, with the table of the def whose code is c -/
theorem walk_tab {l : PySem.W.OpenLaw} {n : Nat} {q : Program} {loose : List Str} {XP : (Str → Option Value) → Heap → Prop} {YP : World → Heap → Prop} {d : DefRec} {K : Params → PySem.W.Frag} {sp : World → Sp} {x : Str} {c Pt : Addr}
    (hn : l.most = some n) (hn2 : n ≤ sizeLine) (hdf : d.params.defaults = []) (hY : ∀ (w : World) (h : Heap), YP w h → (K w.params).In h ∧ h.get? Pt = some (PySem.W.tabObj #[])) (hK : ∀ w : World, (K w.params).lookup Pt = none) (hc : ∀ w : World, PySem.W.codeHdIn (K w.params) c Pt = true)
    (F : ∀ (w : World) (mg : Str → Option Value) (fa : Addr) (h : Heap), (K w.params).In h → h.Ns mainGlobals mg → mg d.name = some (.ref fa) →
      ∃ fd : FuncData, (∀ (s : Shared) (u : Value), BindsTo s fd ⟨[u], []⟩ [(x, u)]) ∧ ∀ base : Heap, (K w.params).In base → base.Ns mainGlobals mg → LamX.TabB base mg c Pt → RunAt callerA l.prog w (K w.params) mg base fa fd [x] (sp w))
    (hsp : ∀ (w : World) (H : Hp) (a : Addr) (ns : List Int), ns.length ≤ n → H Pt = some (.tbl #[]) → a ≠ Pt → SqL (K w.params) H a (ns.map V.int) → sp w [.ref a] H (fun v _ => v = .bl true) fun _ _ _ => False) :
    PySem.W.WalkO q loose XP YP l.row.toRowW d [] (fun f vs => PySem.call f vs) := by
  refine Att.attach_call hn hdf fun w _ s mg mb fa o pm cd doc a vs ns G Y ho hd hcd hmg hobj hints hlen hg => ?_
  obtain ⟨inK, hT⟩ := hY w _ Y
  obtain ⟨fd, hb, hF⟩ := F w mg fa _ inK G.T.g hmg
  exact law_tab inK G.T.g G.T.b G.T.builtins G.T.nolimit hg G.T.bmain hT (hK w) (hc w) hobj hints (Nat.le_trans hlen hn2) hF hb fun H hP na hS => hsp w H a ns hlen hP na hS
end Gt
namespace Zl
open PySem PySem.Spec PyProof.Rows L2 Lf
theorem law_spT {w : World} {K : PySem.W.Frag} {F : DSp} {H : Hp} {a Pt : Addr} {q : Str} {ns : List Int} {E : XK} (h : F [.scr ns] [(Pt, .tab q)] fun x _ => x = .dat (.bool true)) (hP : H Pt = some (.tbl #[])) (na : a ≠ Pt) (hS : SqL K H a (ns.map V.int)) : spZ w K F [.ref a] H (fun v _ => v = .bl true) E := by
  have hS' : SqL K (Fz ([] ++ [(Pt, .tab q)]) H) a (ns.map V.int) := by
    have g : Fz ([] ++ [(Pt, Node.tab q)]) H a = H a := if_neg (by simpa using na)
    rcases hS with (h | ⟨o, h⟩) | h
    · exact .inl (.inl (g.trans h))
    · exact .inl (.inr ⟨o, g.trans h⟩)
    · exact .inr h
  refine ⟨⟨fun _ => none, []⟩, _, _, _, rfl, ⟨by simp, fun x o e => (by cases e), .cons ⟨a, rfl, hS'⟩ .nil, fun p hp => ?_⟩, h, fun x μ' e v H' R => ?_⟩
  · rw [List.mem_singleton.mp hp]
    exact ⟨#[], hP, trivial, fun _ _ z => by cases z⟩
  subst e
  cases (R.head : Dz _ v (.bool true))
  rfl
end Zl
namespace Zl
open PySem PySem.Spec PyProof.Rows L2 Lf
/-- as runZ, the def's code known -/
theorem runZC {A : Around} {P : Program} {w : World} {K : PySem.W.Frag} {mg : Str → Option Value} {base : Heap} {x qual : Str} {st : Stmt} {f c : Addr} {fd : FuncData} {N ps : List Str} {k : Nat} {F : DSp} (FF : Fun K x qual st f fd) (hc : fd.code = .ref c) (S : FnScope N ps (defScope st))
    (rm : Room (k + 1) A) (len : ∀ xs μ Q, F xs μ Q → xs.length = ps.length)
    (body : ∀ (outer : List Env) (s : Shared) (H : Hp) (E : XK), Room k (A.deeper (envOfC qual (defScope st) s.heap.objs.size f (.ref c))) →
      ∃ t : DTS, DSs (cxOf CX0 P w K mg base N qual (defScope st) f (.ref c) A outer s H E).nox (defBody st) t ∧ ∀ xs μ Q, F xs μ Q → t (dEnd Q) (startZ N xs) μ) : Gd.RunAt A P w K mg base f fd ps (spZ w K F) := by
  obtain ⟨oc, od, kV, doc, pm, an, cdv, ct, osl, rfl, lk, hcd⟩ := FF.ex
  cases (hc : cdv = .ref c)
  intro outer s H args us vs Q E e0 hb rv hsp
  have inK : K.In s.heap := e0.mod.kin.keeps fun b o e => (e0.bs b o e).1
  have lenv : vs.length = ps.length := by
    obtain ⟨B, xs, μ, Q0, l, _, h, _⟩ := hsp
    rw [l]
    exact len _ _ _ h
  refine codeAny_call_function rm.depth (inK _ _ lk) rfl S.co S.gen rfl (PySem.W.codeRec_of inK hcd) (hb _ _ _ _ ?_)
  refine wpAny_newFunctionEnv_cells S.kind (fun ⟨n, v⟩ hm => (S.par n (List.of_mem_zip hm).1).imp id fun c => ⟨c, PySem.W.cellsFrom_some _ _ _ (.inl c)⟩) fun env he s1 ic => ?_
  subst he
  obtain ⟨B, xs, μ, Q0, l, R, h, low⟩ := hsp
  obtain ⟨t, d, q⟩ := body outer s H E (rm.deeper _)
  have hq : upS (cxOf CX0 P w K mg base N qual (defScope st) f (.ref c) A outer s H E).nox B t { nx := fun _ H' => Q .non H', rt := Q } (start N vs) H := by
    refine ⟨startZ N xs, μ, dEnd Q0, ?_, q xs μ Q0 h, ?_⟩
    · refine R.slots ?_
      unfold L2.start startZ
      rw [l]
      exact paired_app R.sl (paired_none _)
    · exact ⟨fun ρ μ ⟨μ', h, q⟩ σ H R => low _ _ q _ _ ((R.less h).slots (.cons .non .nil)), fun x μ ⟨μ', h, q⟩ v H R => low _ _ q _ _ (R.less h), fun _ _ q => q.elim, fun _ _ q => q.elim⟩
  refine ⟨(e0.mod.nolimit.keeps fun b o e => (e0.bs b o e).1).keeps ic.toInCall.keep, codeAny_func (wpAny_mono ((d.run B).nox.run [] s1 (start N vs) H _ (inv_start S rm.hd e0 lenv rv ic) hq) (fun fl s' hs => ?_) fun _ _ h => h)⟩
  cases fl with
  | ret u => exact let ⟨v, _, H', J, r, q⟩ := hs; ⟨v, H', J.os, J.bare, J.base, J.hok, r, q⟩
  | next => exact let ⟨_, H', J, q⟩ := hs; ⟨V.non, H', J.os, J.bare, J.base, J.hok, rfl, q⟩
  | brk => exact (let ⟨_, _, _, q⟩ := hs; q : False).elim
  | cont => exact (let ⟨_, _, _, q⟩ := hs; q : False).elim
theorem okZC {P : Program} {w : World} {K : PySem.W.Frag} {mg : Str → Option Value} {base : Heap} {x qual : Str} {st : Stmt} {f c : Addr} {fd : FuncData} {N ps : List Str} {k : Nat} {F : DSp} (FF : Fun K x qual st f fd) (hc : fd.code = .ref c) (S : FnScope N ps (defScope st))
    (len : ∀ xs μ Q, F xs μ Q → xs.length = ps.length)
    (body : ∀ (A : Around) (outer : List Env) (s : Shared) (H : Hp) (E : XK), Room k (A.deeper (envOfC qual (defScope st) s.heap.objs.size f (.ref c))) →
      ∃ t : DTS, DSs (cxOf CX0 P w K mg base N qual (defScope st) f (.ref c) A outer s H E).nox (defBody st) t ∧ ∀ xs μ Q, F xs μ Q → t (dEnd Q) (startZ N xs) μ) : FnOk P w K mg base CX0 (k + 1) f fd ps (spZ w K F) := by
  obtain ⟨oc, od, kV, doc, pm, an, cdv, ct, osl, rfl, lk, hcd⟩ := FF.ex
  cases (hc : cdv = .ref c)
  refine fn_of lk hcd S (fun vs H Q E h => ?_) fun A outer s H vs Q E hr h => ?_
  · obtain ⟨B, xs, μ, Q0, l, _, h, _⟩ := h
    rw [l]
    exact len _ _ _ h
  · obtain ⟨B, xs, μ, Q0, l, R, h, low⟩ := h
    obtain ⟨t, d, q⟩ := body A outer s H E hr
    refine ⟨_, (d.run B).nox, startZ N xs, μ, dEnd Q0, ?_, q xs μ Q0 h, ?_⟩
    · refine R.slots ?_
      unfold L2.start startZ
      rw [l]
      exact paired_app R.sl (paired_none _)
    · exact ⟨fun ρ μ ⟨μ', h, q⟩ σ H R => low _ _ q _ _ ((R.less h).slots (.cons .non .nil)), fun x μ ⟨μ', h, q⟩ v H R => low _ _ q _ _ (R.less h), fun _ _ q => q.elim, fun _ _ q => q.elim⟩
end Zl
namespace Kr
open PySem PySem.Spec PyProof.Rows L2 Lf Zl
abbrev rw_name : PySem.W.OpenLaw := PySem.Challenge.rw_leafround_k11_whole_just_one_row
abbrev topS (i : Nat) : Stmt := rw_name.prog.main.body[i]!
structure Bs (mg : Str → Option Value) : Prop where
  len : mg "len" = none
  range : mg "range" = none
  list : mg "list" = none
  tuple : mg "tuple" = none
  max : mg "max" = none
  min : mg "min" = none
  sorted : mg "sorted" = none
  repr : mg "repr" = none
def urnN (d s c : Int) : Node := .lst [.dat (.int d), .dat (.int s), .dat (.int c)]
section
variable {P : Program} {w : World} {K : PySem.W.Frag} {mg : Str → Option Value} {base : Heap}
def fUrn : DSp := fun xs μ Q => ∃ ns k, xs = [.scr ns, .dat (.int k)] ∧ μ = [] ∧ 0 ≤ k ∧ k ≤ 1000 ∧ ∀ u d s, 0 ≤ d → 0 ≤ s → s < 2 ^ 62 → Q (.ptr u) [(u, urnN d s 0)]
abbrev sUrn : Stmt := topS 8
theorem scUrn : FnScope ["_law_script", "_law_k", "_law_cell", "_law_rest"] ["_law_script", "_law_k"] (defScope sUrn) := ⟨rfl, rfl, rfl, by decide +kernel, rfl, by decide +kernel, by decide +kernel⟩
theorem ok_urn {f : Addr} {fd : FuncData} (F : Fun K "_law_urn" "_law_urn" sUrn f fd) (T : Bs mg) : FnOk P w K mg base CX0 1 f fd ["_law_script", "_law_k"] (spZ w K fUrn) := by
  refine Fun.okZ F scUrn (fun xs μ Q h => ?_) (fun cdv A outer s H E hr => ?_)
  · obtain ⟨ns, k, rfl, _⟩ := h
    rfl
  · have nd := scUrn.nd
    refine ⟨_, (dss_cons (ds_set (i := 2) nd rfl (Or.inl rfl) (d_bin oz_add (d_bin oz_mul d_int (dv 1)) d_int))
  (dss_cut (ds_if (dt_cmp (oz_lt hr.units) (dv 1) (d_callB ca_len (by rfl) T.len PySem.boot_len (da_cons (dv 0) da_nil)) (nomark _))
  (dss_one (ds_set (i := 2) nd rfl (Or.inl rfl) (d_ix (dv 0) (dv 1) (fun _ _ => rfl))))
  dss_nil)
  (dss_cons (ds_set (i := 3) nd rfl (Or.inl rfl) d_int)
  (dss_cut (ds_if (dt_cmp (oz_ge hr.units) (dv 2) (d_bin oz_pow d_int d_int) (nomark _))
  (dss_one (ds_set (i := 3) nd rfl (Or.inl rfl) (d_bin oz_sub (dv 2) (d_bin oz_pow d_int d_int))))
  dss_nil)
  (dss_one (ds_ret (d_lst (da_cons (dv 3) (da_cons (d_bin oz_add (d_bin oz_mod (dv 2) d_int) (d_bin oz_mul d_int (dv 1))) (da_cons d_int da_nil)))))))))), ?_⟩
    rintro xs μ Q ⟨ns, k, rfl, rfl, h0, h1, q⟩
    refine ⟨wide_mul (a := 20) (b := 20) (by decide) (by omega) (by decide) (by decide) (by decide), ?_⟩
    refine ⟨fun ρ μ => ∃ c : Int, ρ = [some (.scr ns), some (.dat (.int k)), some (.dat (.int c)), none] ∧ μ = [], ?_, ?_⟩
    · refine ite2 (fun c => ?_) (fun c => ⟨_, rfl, rfl⟩)
      have c' := of_decide_eq_true c
      obtain ⟨m, rfl⟩ := Int.eq_ofNat_of_zero_le h0
      exact ⟨ns[m]'(by omega), atI_nat (List.getElem?_eq_getElem _), ⟨_, rfl, rfl⟩⟩
    rintro ρ μ ⟨c, rfl, rfl⟩
    refine ⟨fun ρ μ => ∃ d : Int, 0 ≤ d ∧ ρ = [some (.scr ns), some (.dat (.int k)), some (.dat (.int c)), some (.dat (.int d))] ∧ μ = [], ?_, ?_⟩
    · have pw : CPow 10 18 := ⟨by decide, by decide, by decide⟩
      refine ⟨pw, ite2 (fun c' => ⟨pw, _, ?_, rfl, rfl⟩) (fun c' => ⟨0, by decide, rfl, rfl⟩)⟩
      have := of_decide_eq_true c'
      exact Int.sub_nonneg_of_le this
    rintro ρ μ ⟨d, hd, rfl, rfl⟩
    refine ⟨by decide, wide_mul (a := 10) (b := 20) (by decide) (by omega) (by decide) (by decide) (by decide), (by show 3 ≤ sizeLine; decide), fun u => ?_⟩
    exact ⟨_, .refl _, q u _ _ hd (by omega) (by omega)⟩
end
end Kr
namespace Kr
open PySem PySem.Spec PyProof.Rows L2 Lf Zl
structure UrnOk (d s c : Int) (N : Nat) : Prop where
  d0 : 0 ≤ d
  s0 : 0 ≤ s
  s1 : s < 2 ^ 62
  c0 : 0 ≤ c
  c1 : c ≤ N
theorem UrnOk.more {d s c : Int} {N M : Nat} (h : UrnOk d s c N) (l : N ≤ M) : UrnOk d s c M := ⟨h.d0, h.s0, h.s1, h.c0, by have := h.c1; omega⟩
section
variable {P : Program} {w : World} {K : PySem.W.Frag} {mg : Str → Option Value} {base : Heap}
def fLot : DSp := fun xs μ Q => ∃ u d s c N m, xs = [.ptr u, .dat (.int m)] ∧ μ = [(u, urnN d s c)] ∧ UrnOk d s c N ∧ N ≤ 1000000 ∧ 0 < m ∧ m ≤ 1000000 ∧ ∀ k d' c', 0 ≤ k → k < m → UrnOk d' s c' (N + 1) → Q (.dat (.int k)) [(u, urnN d' s c')]
abbrev sLot : Stmt := topS 9
theorem scLot : FnScope ["_law_urn_here", "_law_many", "_law_digit", "_law_primes", "_law_prime", "_law_one", "_law_two"] ["_law_urn_here", "_law_many"] (defScope sLot) := ⟨rfl, rfl, rfl, by decide +kernel, rfl, by decide +kernel, by decide +kernel⟩
theorem pow_lt {x : Int} {a n : Nat} (h0 : 0 ≤ x) (h : x < 2 ^ a) : (x ^ n).natAbs < 2 ^ (a * n + 1) := by
  have e : (x ^ n).natAbs = x.natAbs ^ n := Int.natAbs_pow x n
  have h1 : x.natAbs < 2 ^ a := by
    have : (x.natAbs : Int) < ((2 ^ a : Nat) : Int) := by
      rw [Int.natAbs_of_nonneg h0, Int.natCast_pow]
      exact h
    exact Int.ofNat_lt.mp this
  rw [e]
  refine Nat.lt_of_le_of_lt (Nat.pow_le_pow_left (Nat.le_of_lt h1) n) ?_
  rw [← Nat.pow_mul]
  exact Nat.pow_lt_pow_right (by decide) (Nat.lt_succ_self _)
def primes : List Val := [.dat (.int 2147483647), .dat (.int 2147483587), .dat (.int 2147483579), .dat (.int 2147483543), .dat (.int 2147483497), .dat (.int 2147483489), .dat (.int 2147483423), .dat (.int 2147483399)]
theorem prime_at {i : Int} (h : 0 ≤ i) (h1 : i < 8) : ∃ p : Int, atI primes i = some (.dat (.int p)) ∧ 0 < p ∧ p < 2 ^ 31 := by
  obtain ⟨n, rfl⟩ := Int.eq_ofNat_of_zero_le h
  rcases n with _ | _ | _ | _ | _ | _ | _ | _ | n
  · exact ⟨_, rfl, by decide, by decide⟩
  · exact ⟨_, rfl, by decide, by decide⟩
  · exact ⟨_, rfl, by decide, by decide⟩
  · exact ⟨_, rfl, by decide, by decide⟩
  · exact ⟨_, rfl, by decide, by decide⟩
  · exact ⟨_, rfl, by decide, by decide⟩
  · exact ⟨_, rfl, by decide, by decide⟩
  · exact ⟨_, rfl, by decide, by decide⟩
  · omega
theorem ok_lot {f : Addr} {fd : FuncData} (F : Fun K "_law_lot" "_law_lot" sLot f fd) (T : Bs mg) : FnOk P w K mg base CX0 1 f fd ["_law_urn_here", "_law_many"] (spZ w K fLot) := by
  refine Fun.okZ F scLot (fun xs μ Q h => ?_) (fun cdv A outer s H E hr => ?_)
  · obtain ⟨u, d, s, c, N, m, rfl, _⟩ := h
    rfl
  · have nd := scLot.nd
    refine ⟨_, (dss_cons (ds_if (dt_cmp (oz_ge hr.units) (d_ix (dv 0) d_int (fun _ _ => rfl)) (dv 1) (nomark _))
  (dss_cons (ds_set (i := 2) nd rfl (Or.inl rfl) (d_bin oz_mod (d_ix (dv 0) d_int (fun _ _ => rfl)) (dv 1)))
  (dss_cons (ds_asg (d_bin oz_div (d_ix (dv 0) d_int (fun _ _ => rfl)) (dv 1)) (dg_sub (dv 0) d_int))
  (dss_one (ds_ret (dv 2)))))
  dss_nil)
  (dss_cons (ds_asg (d_bin oz_add (d_ix (dv 0) d_int (fun _ _ => rfl)) d_int) (dg_sub (dv 0) d_int))
  (dss_cons (ds_set (i := 3) nd rfl (Or.inl rfl) (d_lst (da_cons d_int (da_cons d_int (da_cons d_int (da_cons d_int (da_cons d_int (da_cons d_int (da_cons d_int (da_cons d_int da_nil))))))))))
  (dss_cons (ds_set (i := 4) nd rfl (Or.inl rfl) (d_ix (dv 3) (d_bin oz_mod (d_ix (dv 0) d_int (fun _ _ => rfl)) d_int) (fun _ _ => rfl)))
  (dss_cons (ds_set (i := 5) nd rfl (Or.inl rfl) (d_bin oz_add (d_bin oz_mul (d_bin oz_mod (d_ix (dv 0) d_int (fun _ _ => rfl)) (dv 4)) (d_bin oz_add (d_bin oz_mul d_int (d_ix (dv 0) d_int (fun _ _ => rfl))) d_int)) (d_bin oz_mul d_int (d_ix (dv 0) d_int (fun _ _ => rfl)))))
  (dss_cons (ds_set (i := 5) nd rfl (Or.inl rfl) (d_bin oz_mod (d_bin oz_pow (dv 5) d_int) (dv 4)))
  (dss_cons (ds_set (i := 6) nd rfl (Or.inl rfl) (d_bin oz_add (d_bin oz_add (d_bin oz_mul (dv 5) (dv 5)) (d_bin oz_mod (d_ix (dv 0) d_int (fun _ _ => rfl)) d_int)) (d_ix (dv 0) d_int (fun _ _ => rfl))))
  (dss_one (ds_ret (d_bin oz_mod (d_bin oz_div (d_bin oz_mod (d_bin oz_pow (dv 6) d_int) (d_ix (dv 3) (d_bin oz_mod (d_bin oz_add (d_ix (dv 0) d_int (fun _ _ => rfl)) d_int) d_int) (fun _ _ => rfl))) d_int) (dv 1))))))))))), ?_⟩
    rintro xs μ Q ⟨u, d, s, c, N, m, rfl, rfl, ok, hN, hm, hm1, q⟩
    obtain ⟨d0, s0, s1, c0, c1⟩ := id ok
    have cd : CDivW d m := wide_div (b := 20) hm (by omega) (by decide) (by decide)
    refine ⟨0, _, _, rfl, rfl, ite2 (fun c' => ?_) (fun c' => ?_)⟩
    · refine ⟨0, _, _, rfl, rfl, hm, 0, _, _, rfl, rfl, cd, 0, _, 0, rfl, rfl, ?_⟩
      refine ⟨_, .refl _, q _ _ _ (Int.emod_nonneg _ (by omega)) (Int.emod_lt_of_pos _ hm) ⟨Int.ediv_nonneg d0 (by omega), s0, s1, c0, by omega⟩⟩
    · refine ⟨0, _, _, rfl, rfl, 0, _, 2, rfl, rfl, (by show 8 ≤ sizeLine; decide), fun pl => ?_⟩
      obtain ⟨p, hp, p0, p1⟩ := prime_at (i := (c + 1) % 8) (Int.emod_nonneg _ (by decide)) (Int.emod_lt_of_pos _ (by decide))
      refine ⟨0, _, _, rfl, rfl, by decide, 1, _, _, rfl, hp, ?_⟩
      have e1 := Int.emod_nonneg s (show p ≠ 0 by omega)
      have e2 := Int.emod_lt_of_pos s p0
      refine ⟨0, _, _, rfl, rfl, p0, 0, _, _, rfl, rfl, wide_mul (a := 10) (b := 30) (by decide) (by omega) (by decide) (by decide) (by decide), wide_mul (a := 31) (b := 40) (by omega) (by omega) (by decide) (by decide) (by decide), 0, _, _, rfl, rfl, wide_mul (a := 20) (b := 30) (by decide) (by omega) (by decide) (by decide) (by decide), ?_⟩
      have m1 : s % p * (2 * (c + 1) + 7) ≤ 2 ^ 31 * 2 ^ 22 := Int.mul_le_mul (by omega) (by omega) (by omega) (by decide)
      have m0 : 0 ≤ s % p * (2 * (c + 1) + 7) := Int.mul_nonneg e1 (by omega)
      generalize s % p * (2 * (c + 1) + 7) = one at m1 m0 ⊢
      refine ⟨⟨by decide, by decide, by omega⟩, p0, ?_⟩
      have o1 := Int.emod_nonneg ((one + 8117 * (c + 1)) ^ (3 : Int).toNat) (show p ≠ 0 by omega)
      have o2 := Int.emod_lt_of_pos ((one + 8117 * (c + 1)) ^ (3 : Int).toNat) p0
      generalize (one + 8117 * (c + 1)) ^ (3 : Int).toNat % p = x at o1 o2 ⊢
      refine ⟨wide_mul (a := 31) (b := 31) (by omega) (by omega) (by decide) (by decide) (by decide), 0, _, _, rfl, rfl, by decide, 0, _, _, rfl, rfl, ?_⟩
      have x0 : 0 ≤ x * x := Int.mul_nonneg o1 o1
      have x1 : x * x ≤ 2 ^ 31 * 2 ^ 31 := Int.mul_le_mul (by omega) (by omega) (by omega) (by decide)
      have x2 := Int.emod_nonneg s (show (999961 : Int) ≠ 0 by decide)
      have x3 := Int.emod_lt_of_pos s (show (0 : Int) < 999961 by decide)
      obtain ⟨p', hp', q0, q1⟩ := prime_at (i := (c + 1 + 3) % 8) (Int.emod_nonneg _ (by decide)) (Int.emod_lt_of_pos _ (by decide))
      refine ⟨⟨by decide, by decide, by omega⟩, 0, _, _, rfl, rfl, by decide, 1, _, _, rfl, hp', q0, wide_div (b := 20) (by decide) (by decide) (by decide) (by decide), hm, ?_⟩
      exact ⟨_, List.take_sublist 1 _, q _ _ _ (Int.emod_nonneg _ (by omega)) (Int.emod_lt_of_pos _ hm) ⟨d0, s0, s1, by omega, by omega⟩⟩
end
end Kr
namespace Kr
open PySem PySem.Spec PyProof.Rows L2 Lf Zl
section
variable {P : Program} {w : World} {K : PySem.W.Frag} {mg : Str → Option Value} {base : Heap}
theorem ixN_nat {n k : Nat} (h : k < n) : ixN n (k : Int) = some k := by
  unfold ixN
  rw [if_pos (by omega), if_pos (by omega)]
  simp
theorem erase_map {α β : Type} (f : α → β) : ∀ (l : List α) (k : Nat), (l.map f).eraseIdx k = (l.eraseIdx k).map f
  | [], _ => rfl
  | _ :: _, 0 => rfl
  | x :: r, k + 1 => congrArg (f x :: ·) (erase_map f r k)
def fMixed : DSp := fun xs μ Q => ∃ u d s c N, ∃ ds : List PyData, xs = [.ptr u, .dat (.list ds)] ∧ μ = [(u, urnN d s c)] ∧ UrnOk d s c N ∧ N + ds.length ≤ 1000000 ∧ ∀ p (es : List PyData) d' c', es.Perm ds → UrnOk d' s c' (N + ds.length) → Q (.ptr p) [(u, urnN d' s c'), (p, .lst (es.map .dat))]
abbrev sMixed : Stmt := topS 11
theorem scMixed : FnScope ["_law_urn_here", "_law_things", "_law_left", "_law_turn"] ["_law_urn_here", "_law_things"] (defScope sMixed) := ⟨rfl, rfl, rfl, by decide +kernel, rfl, by decide +kernel, by decide +kernel⟩
theorem ok_mixed {f : Addr} {fd : FuncData} (F : Fun K "_law_mixed" "_law_mixed" sMixed f fd) (T : Bs mg) (c__law_lot : CalZ P w K mg base 1 "_law_lot" ["_law_urn_here", "_law_many"] fLot) : FnOk P w K mg base CX0 2 f fd ["_law_urn_here", "_law_things"] (spZ w K fMixed) := by
  refine Fun.okZ F scMixed (fun xs μ Q h => ?_) (fun cdv A outer s H E hr => ?_)
  · obtain ⟨u, d, s, c, N, ds, rfl, _⟩ := h
    rfl
  · have nd := scMixed.nd
    refine ⟨_, (dss_cons (ds_set (i := 2) nd rfl (Or.inr rfl) (d_callTy ca_list (by rfl) T.list (by decide +kernel) (da_cons (dv 1) da_nil)))
  (dss_one (ds_ret (d_lc (own := [("_law_turn", 3)]) rfl nd (di_range1 (by rfl) T.range (da_cons (d_callB ca_len (by rfl) T.len PySem.boot_len (da_cons (dv 1) da_nil)) da_nil)) (blkOk_by (own := [("_law_turn", 3)]) (N := ["_law_urn_here", "_law_things", "_law_left", "_law_turn"]) (sc := defScope (topS 11)) (by decide +kernel)) (put_name (i := 3) (by decide)) (fun _ _ _ _ _ => (pg_name (i := 3) nd rfl (Or.inl rfl))) (fun _ _ _ _ _ => dts_nil) (fun _ _ _ _ _ => (d_lm PySem.F.slot_list_pop PySem.F.type_list_pop me_pop (dv 2) (da_cons (d_own1 c__law_lot (hr.mono (by decide)) (by rfl) (da_cons (dv 0) (da_cons (d_callB ca_len (by rfl) T.len PySem.boot_len (da_cons (dv 2) da_nil)) da_nil))) da_nil))))))), ?_⟩
    rintro xs μ Q ⟨u, d, s, c, N, ds, rfl, rfl, ok, hN, q⟩
    have ez : sizeLine = 16777216 := by decide +kernel
    refine fun pl => ⟨by omega, by omega, ?_⟩
    refine ⟨fun k acc μ => ∃ d' c', ∃ rest es : List PyData, μ = [(u, urnN d' s c'), (pl, .lst (rest.map .dat))] ∧ acc = es.map .dat ∧ es.length = k ∧ (es ++ rest).Perm ds ∧ UrnOk d' s c' (N + k), ⟨d, c, ds, [], rfl, rfl, rfl, .refl _, ok⟩, fun _ _ _ _ _ => trivial, ?_, ?_⟩
    · rintro k y acc μ hy ⟨d', c', rest, es, rfl, rfl, rfl, pm, ok'⟩
      have hl := pm.length_eq
      rw [List.length_append] at hl
      have hk : es.length < ds.length := by
        have := (List.getElem?_eq_some_iff.mp hy).1
        rw [rangeZ_len] at this
        omega
      refine ⟨_, rfl, ⟨1, _, rfl⟩, 1, _, rfl, 0, u, _, rfl, u, d', s, c', N + es.length, _, rfl, rfl, ok', by omega, by rw [List.length_map]; omega, by rw [List.length_map]; omega, fun i d2 c2 i0 i1 ok2 => ⟨_, _, rfl, ?_⟩⟩
      obtain ⟨m, rfl⟩ := Int.eq_ofNat_of_zero_le i0
      rw [List.length_map] at i1
      have hm : m < rest.length := by omega
      refine ⟨1, _, m, .dat rest[m], rfl, by omega, by rw [List.length_map]; exact ixN_nat hm, by rw [List.getElem?_map, List.getElem?_eq_getElem hm]; rfl, by rw [List.length_map, ez]; omega, _, .refl _, ?_⟩
      refine ⟨d2, c2, rest.eraseIdx m, es ++ [rest[m]], ?_, by rw [List.map_append]; rfl, by simp, ?_, ok2⟩
      · rw [erase_map]
        rfl
      · refine List.Perm.trans ?_ pm
        rw [List.append_assoc]
        exact ((perm_at (List.getElem?_eq_getElem hm)).symm).append_left es
    · rintro acc μ ⟨d', c', rest, es, rfl, rfl, hk, pm, ok'⟩ p
      rw [rangeZ_len] at hk
      have e := pm.length_eq
      rw [List.length_append] at e
      have hr0 : rest = [] := List.eq_nil_of_length_eq_zero (by omega)
      subst hr0
      rw [rangeZ_len] at ok'
      rw [List.append_nil] at pm
      refine ⟨_, .cons₂ _ (.cons _ (.refl _)), q p es d' c' pm (ok'.more (by omega))⟩
end
end Kr
namespace Kr
open PySem PySem.Spec PyProof.Rows L2 Lf Zl
/-! ### puts -/
structure Put where
  m : PyData
  ns : List NestedKey
  b : NestedKey
def Put.D (p : Put) : PyData := .tuple [p.m, .tuple (p.ns.map datK), datK p.b]
structure Sg where
  m : PyData
  n : NestedKey
  b : NestedKey
def Sg.D (s : Sg) : PyData := .tuple [s.m, datK s.n, datK s.b]
def Sg.E (s : Sg) : PyData := .tuple [s.m, datK s.n]
def chain (m : PyData) : NestedKey → List NestedKey → List Sg
  | _, [] => []
  | b, n :: ns => ⟨m, n, b⟩ :: chain m n ns
def lastOf (b : NestedKey) : List NestedKey → NestedKey
  | [] => b
  | n :: ns => lastOf n ns
theorem chain_snoc (m : PyData) (n : NestedKey) : ∀ (ns : List NestedKey) (b : NestedKey), chain m b (ns ++ [n]) = chain m b ns ++ [⟨m, n, lastOf b ns⟩]
  | [], _ => rfl
  | x :: ns, b => by
    show _ :: chain m x (ns ++ [n]) = _
    rw [chain_snoc m n ns x]
    rfl
theorem lastOf_snoc (n : NestedKey) : ∀ (ns : List NestedKey) (b : NestedKey), lastOf b (ns ++ [n]) = n
  | [], _ => rfl
  | x :: ns, _ => lastOf_snoc n ns x
theorem chain_len (m : PyData) : ∀ (ns : List NestedKey) (b : NestedKey), (chain m b ns).length = ns.length
  | [], _ => rfl
  | x :: ns, b => congrArg (· + 1) (chain_len m ns x)
def singles (ps : List Put) : List Sg := ps.flatMap fun p => chain p.m p.b p.ns
theorem take_snoc {α : Type} {l : List α} {i : Nat} {x : α} (h : l[i]? = some x) : l.take (i + 1) = l.take i ++ [x] := by
  rw [List.take_succ, h]
  rfl
theorem singles_snoc (ps : List Put) (p : Put) : singles (ps ++ [p]) = singles ps ++ chain p.m p.b p.ns := by
  unfold singles
  rw [List.flatMap_append]
  simp
theorem singles_le {ps : List Put} (i : Nat) : (singles (ps.take i)).length ≤ (singles ps).length := by
  have : singles ps = singles (ps.take i) ++ singles (ps.drop i) := by
    unfold singles
    rw [← List.flatMap_append, List.take_append_drop]
  rw [this, List.length_append]
  omega
theorem get_map {α β : Type} {f : α → β} {l : List α} {i : Nat} {y : β} (h : (l.map f)[i]? = some y) : ∃ x, l[i]? = some x ∧ f x = y := by
  rw [List.getElem?_map] at h
  cases e : l[i]? with
  | none => rw [e] at h; cases h
  | some x =>
    rw [e] at h
    exact ⟨x, rfl, Option.some.inj h⟩
section
variable {P : Program} {w : World} {K : PySem.W.Frag} {mg : Str → Option Value} {base : Heap}
def fSingle : DSp := fun xs μ Q => ∃ ps : List Put, xs = [.dat (.list (ps.map Put.D))] ∧ μ = [] ∧ (singles ps).length ≤ 100000 ∧ ∀ p, Q (.ptr p) [(p, .lst ((singles ps).map fun s => .dat s.D))]
abbrev sSingle : Stmt := topS 4
theorem scSingle : FnScope ["puts", "singles", "mark", "names", "behind", "name"] ["puts"] (defScope sSingle) := ⟨rfl, rfl, rfl, by decide +kernel, rfl, by decide +kernel, by decide +kernel⟩
theorem ok_single {f : Addr} {fd : FuncData} (F : Fun K "single_puts" "single_puts" sSingle f fd) (T : Bs mg) : FnOk P w K mg base CX0 1 f fd ["puts"] (spZ w K fSingle) := by
  refine Fun.okZ F scSingle (fun xs μ Q h => ?_) (fun cdv A outer s H E hr => ?_)
  · obtain ⟨ps, rfl, _⟩ := h
    rfl
  · have nd := scSingle.nd
    refine ⟨_, (dss_cons (ds_set (i := 1) nd rfl (Or.inl rfl) (d_lst da_nil))
  (dss_cons (ds_for PassesOwn.never rfl (di_seq (dv 0)) (dg_tup rfl (dgs_cons (dg_name (i := 2) nd rfl (Or.inl rfl)) (dgs_cons (dg_name (i := 3) nd rfl (Or.inl rfl)) (dgs_cons (dg_name (i := 4) nd rfl (Or.inl rfl)) dgs_nil))))
  (dss_one (ds_for PassesOwn.never rfl (di_seq (dv 3)) (dg_name (i := 5) nd rfl (Or.inl rfl))
  (dss_cons (ds_expr (d_lm PySem.F.slot_list_append PySem.F.type_list_append me_append (dv 1) (da_cons (d_tup (da_cons (dv 2) (da_cons (dv 5) (da_cons (dv 4) da_nil)))) da_nil)))
  (dss_one (ds_set (i := 4) nd rfl (Or.inl rfl) (dv 5)))))))
  (dss_one (ds_ret (dv 1))))), ?_⟩
    rintro xs μ Q ⟨ps, rfl, rfl, hl, q⟩
    have ez : sizeLine = 16777216 := by decide +kernel
    refine ⟨Nat.zero_le _, fun sp => ?_⟩
    refine ⟨fun i ρ μ => ∃ y2 y3 y4 y5, ρ = [some (.dat (.list (ps.map Put.D))), some (.ptr sp), y2, y3, y4, y5] ∧ μ = [(sp, .lst ((singles (ps.take i)).map fun s => .dat s.D))], ⟨_, _, _, _, rfl, rfl⟩, fun _ _ _ _ _ => trivial, ?_, ?_⟩
    · rintro i y ρ μ hy ⟨y2, y3, y4, y5, rfl, rfl⟩
      rw [List.map_map] at hy
      obtain ⟨p, hp, rfl⟩ := get_map hy
      refine ⟨rfl, ?_⟩
      have hle := singles_le (ps := ps) (i + 1)
      rw [take_snoc hp, singles_snoc, List.length_append, chain_len] at hle
      refine ⟨fun j ρ μ => ∃ y5, ρ = [some (.dat (.list (ps.map Put.D))), some (.ptr sp), some (.dat p.m), some (.dat (.tuple (p.ns.map datK))), some (.dat (datK (lastOf p.b (p.ns.take j)))), y5] ∧ μ = [(sp, .lst ((singles (ps.take i) ++ chain p.m p.b (p.ns.take j)).map fun s => .dat s.D))],
        ⟨_, rfl, by rw [List.take_zero]; show _ = [(sp, Node.lst ((singles (ps.take i) ++ []).map _))]; rw [List.append_nil]⟩, fun _ _ _ _ _ => trivial, ?_, ?_⟩
      · rintro j y ρ μ hy ⟨y5, rfl, rfl⟩
        rw [List.map_map] at hy
        obtain ⟨n, hn, rfl⟩ := get_map hy
        have hj := (List.getElem?_eq_some_iff.mp hn).1
        refine ⟨⟨0, _, rfl⟩, (by show 3 ≤ sizeLine; decide), 0, _, rfl, ?_, _, .refl _, some (.dat (datK n)), ?_, ?_⟩
        · rw [List.length_map, List.length_append, chain_len, List.length_take, ez]
          omega
        · rw [take_snoc hn, lastOf_snoc]
          rfl
        · rw [take_snoc hn, chain_snoc, ← List.append_assoc, List.map_append (l₁ := _ ++ _)]
          rfl
      · rintro ρ μ ⟨y5, rfl, rfl⟩
        refine ⟨_, .refl _, _, _, _, _, rfl, ?_⟩
        rw [List.length_map, List.length_map, List.take_length, take_snoc hp, singles_snoc]
    · rintro ρ μ ⟨y2, y3, y4, y5, rfl, rfl⟩
      refine ⟨_, .refl _, ?_⟩
      rw [List.length_map, List.length_map, List.take_length]
      exact q sp
end
end Kr
namespace Kr
open PySem PySem.Spec PyProof.Rows L2 Lf Zl
/-! ### what is put right behind each -/
def flt (ss : List Sg) (b : NestedKey) : List PyData := (ss.filter fun s => s.b = b).map Sg.E
theorem flt_snoc (ss : List Sg) (s : Sg) (b : NestedKey) : flt (ss ++ [s]) b = flt ss b ++ (if s.b = b then [s.E] else []) := by
  unfold flt
  rw [List.filter_append, List.map_append]
  by_cases e : s.b = b <;> simp [e]
/-- the table while it grows: key, address, what is behind it -/
abbrev Tb := List (NestedKey × Addr × List PyData)
def Tb.kvs (t : Tb) : List (NestedKey × Val) := t.map fun x => (x.1, .ptr x.2.1)
def Tb.nodes (t : Tb) : Store := t.map fun x => (x.2.1, .lst (x.2.2.map .dat))
structure TbOk (t : Tb) (ss : List Sg) : Prop where
  nd : (t.map (·.1)).Nodup
  val : ∀ x ∈ t, x.2.2 = flt ss x.1
  all : ∀ s ∈ ss, s.b ∈ t.map (·.1)
  ne : ∀ x ∈ t, x.2.2 ≠ []
  len : t.length ≤ ss.length
theorem map_set_eq {α β : Type} {f : α → β} {l : List α} {j : Nat} {x y : α} (h : l[j]? = some x) (e : f y = f x) : (l.set j y).map f = l.map f := by
  rw [List.map_set]
  refine List.ext_getElem? fun i => ?_
  rw [List.getElem?_set]
  split
  · rename_i z
    subst z
    rw [List.getElem?_map, h, List.length_map, if_pos (List.getElem?_eq_some_iff.mp h).1, e]
    rfl
  · rfl
theorem look_tb : ∀ {t : Tb} {k : NestedKey} {j : Nat} {x : NestedKey × Addr × List PyData}, (t.map (·.1)).Nodup → t[j]? = some x → x.1 = k → lookZ t.kvs k = some (.ptr x.2.1)
  | [], _, _, _, _, h, _ => by simp at h
  | y :: t, k, 0, x, nd, h, e => by
    cases (Option.some.inj h : y = x)
    show (if y.1 = k then _ else _) = _
    rw [if_pos e]
  | y :: t, k, j + 1, x, nd, h, e => by
    rw [List.map_cons, List.nodup_cons] at nd
    have h : t[j]? = some x := by simpa using h
    show (if y.1 = k then _ else _) = _
    rw [if_neg fun z => nd.1 (List.mem_map.mpr ⟨x, List.mem_of_getElem? h, e.trans z.symm⟩)]
    exact look_tb nd.2 h e
theorem look_no {t : Tb} {k : NestedKey} : k ∉ t.map (·.1) → lookZ t.kvs k = none := by
  induction t with
  | nil => intro _; rfl
  | cons y t ih =>
    intro h
    rw [List.map_cons, List.mem_cons, not_or] at h
    show (if y.1 = k then _ else _) = _
    rw [if_neg (Ne.symm h.1)]
    exact ih h.2
theorem put_new {t : Tb} {k : NestedKey} {a : Addr} {l : List PyData} : k ∉ t.map (·.1) → putZ t.kvs k (.ptr a) = Tb.kvs (t ++ [(k, a, l)]) := by
  induction t with
  | nil => intro _; rfl
  | cons y t ih =>
    intro h
    rw [List.map_cons, List.mem_cons, not_or] at h
    show (if y.1 = k then _ else _) = _
    rw [if_neg (Ne.symm h.1)]
    exact congrArg (_ :: ·) (ih h.2)
section
variable {P : Program} {w : World} {K : PySem.W.Frag} {mg : Str → Option Value} {base : Heap}
def Sorted (l m : List PyData) : Prop := l.Perm m ∧ l.Pairwise fun x y => PySem.W.dataLt y x = false
/-- what is asked of the puts: keys, marks -/
structure PutsOk (ps : List Put) : Prop where
  len : (singles ps).length ≤ 100000
  key : ∀ s ∈ singles ps, Vd.KeyOk s.b ∧ Vd.KeyOk s.n
  tup : ∀ s ∈ singles ps, PySem.W.dataType s.m = .type "tuple" ∧ s.E.depth ≤ 50
  akin : ∀ s ∈ singles ps, ∀ t ∈ singles ps, s.b = t.b → Sa.Akin s.E t.E
def fFoll : DSp := fun xs μ Q => ∃ ps : List Put, xs = [.dat (.list (ps.map Put.D))] ∧ μ = [] ∧ PutsOk ps ∧
  ∀ p kvs, (∀ b, (lookZ kvs b = none ∧ flt (singles ps) b = []) ∨ ∃ l, lookZ kvs b = some (.dat (.list l)) ∧ Sorted l (flt (singles ps) b)) → Q (.ptr p) [(p, .dv kvs)]
abbrev sFoll : Stmt := topS 3
theorem scFoll : FnScope ["puts", "found", "mark", "name", "behind"] ["puts"] (defScope sFoll) := ⟨rfl, rfl, rfl, by decide +kernel, rfl, by decide +kernel, by decide +kernel⟩
theorem ok_foll {f : Addr} {fd : FuncData} (F : Fun K "followers" "followers" sFoll f fd) (T : Bs mg) (c_single_puts : CalZ P w K mg base 1 "single_puts" ["puts"] fSingle) : FnOk P w K mg base CX0 2 f fd ["puts"] (spZ w K fFoll) := by
  refine Fun.okZ F scFoll (fun xs μ Q h => ?_) (fun cdv A outer s H E hr => ?_)
  · obtain ⟨ps, rfl, _⟩ := h
    rfl
  · have nd := scFoll.nd
    refine ⟨_, (dss_cons (ds_set (i := 1) nd rfl (Or.inr rfl) d_dnew)
  (dss_cons (ds_for PassesOwn.never rfl (di_seq (d_fz (d_own0 c_single_puts (hr.mono (by decide)) (by rfl) (da_cons (dv 0) da_nil)))) (dg_tup rfl (dgs_cons (dg_name (i := 2) nd rfl (Or.inl rfl)) (dgs_cons (dg_name (i := 3) nd rfl (Or.inl rfl)) (dgs_cons (dg_name (i := 4) nd rfl (Or.inl rfl)) dgs_nil))))
  (dss_one (ds_expr (d_lm PySem.F.slot_list_append PySem.F.type_list_append me_append (d_dsetd hr.units (dv 1) (dv 4) (d_lst da_nil) ⟨by rfl, by rfl, by rfl, by rfl⟩) (da_cons (d_tup (da_cons (dv 2) (da_cons (dv 3) da_nil))) da_nil)))))
  (dss_one (ds_ret (d_lock (d_dc hr.units (own := [("behind", 4)]) rfl nd (di_keys (dv 1)) (blkOk_by (own := [("behind", 4)]) (N := ["puts", "found", "mark", "name", "behind"]) (sc := defScope (topS 3)) (by decide +kernel)) (put_name (i := 4) (by decide)) (fun _ _ _ _ _ => (pg_name (i := 4) nd rfl (Or.inl rfl))) (fun _ _ _ _ _ => dts_nil) (fun _ _ _ _ _ => (dv 4)) (fun _ _ _ _ _ => (d_fz (d_callB (ca_sortedA hr.units) (by rfl) T.sorted (by decide +kernel) (da_cons (d_dix hr.units (dv 1) (dv 4) (fun _ _ => rfl)) da_nil)))))))))), ?_⟩
    rintro xs μ Q ⟨ps, rfl, rfl, ok, q⟩
    have ez : sizeLine = 16777216 := by decide +kernel
    have hlen := ok.len
    refine fun fd => ⟨ps, rfl, rfl, hlen, fun sp => ⟨1, _, (singles ps).map Sg.D, rfl, ?_, ?_⟩⟩
    · rw [← datOf_map ((singles ps).map Sg.D), List.map_map]
      rfl
    refine ⟨fun i ρ μ => ∃ y2 y3 y4 t, ρ = [some (.dat (.list (ps.map Put.D))), some (.ptr fd), y2, y3, y4] ∧ μ = (fd, .dv (Tb.kvs t)) :: Tb.nodes t ∧ TbOk t ((singles ps).take i), ⟨_, _, _, [], rfl, rfl, .nil, by simp, by simp, by simp, Nat.le_refl _⟩, fun _ _ _ _ _ => trivial, ?_, ?_⟩
    · rintro i y ρ μ hy ⟨y2, y3, y4, t, rfl, rfl, tok⟩
      rw [List.map_map] at hy
      obtain ⟨g, hg, rfl⟩ := get_map hy
      obtain ⟨kb, kn⟩ := ok.key g (List.mem_of_getElem? hg)
      have hi := (List.getElem?_eq_some_iff.mp hg).1
      have tlen : t.length ≤ i := by
        have := tok.len
        rw [List.length_take] at this
        omega
      have ets := take_snoc hg
      refine ⟨rfl, ⟨_, .own 0 rfl⟩, Nat.zero_le _, fun lp => ?_⟩
      by_cases hin : g.b ∈ t.map (·.1)
      · obtain ⟨x, hx, ex⟩ := List.mem_map.mp hin
        obtain ⟨j, hj, rfl⟩ := List.mem_iff_getElem.mp hx
        have hjt := List.getElem?_eq_getElem hj
        have lk := look_tb tok.nd hjt ex
        have nj : (Tb.nodes t)[j]? = some (t[j].2.1, .lst (t[j].2.2.map .dat)) := by
          unfold Tb.nodes
          rw [List.getElem?_map, hjt]
          rfl
        have nl : (Tb.nodes t).length = t.length := List.length_map ..
        have at_ : ((fd, Node.dv t.kvs) :: Tb.nodes t ++ [(lp, Node.lst [])])[j + 1]? = some (t[j].2.1, .lst (t[j].2.2.map .dat)) := by
          show (Tb.nodes t ++ [_])[j]? = _
          rw [List.getElem?_append_left (by rw [nl]; exact hj)]
          exact nj
        have ll : t[j].2.2.length ≤ i := by
          rw [tok.val _ hx]
          unfold flt
          rw [List.length_map]
          refine Nat.le_trans (List.length_filter_le _ _) ?_
          rw [List.length_take]
          omega
        refine ⟨0, _, g.b, rfl, keyD_datK _, kb, by unfold Tb.kvs; rw [List.length_map, ez]; omega, fun y hy => ?_, fun hy => by rw [lk] at hy; cases hy⟩
        rw [lk] at hy
        cases hy
        refine ⟨⟨j + 1, _, at_⟩, (by show 2 ≤ sizeLine; decide), j + 1, _, at_, by rw [List.length_map, ez]; omega, ?_⟩
        have e2 : ((fd, Node.dv t.kvs) :: Tb.nodes t ++ [(lp, Node.lst [])]).set (j + 1) (t[j].2.1, .lst (t[j].2.2.map .dat ++ [.dat g.E])) = (fd, Node.dv (Tb.kvs (t.set j (t[j].1, t[j].2.1, t[j].2.2 ++ [g.E])))) :: Tb.nodes (t.set j (t[j].1, t[j].2.1, t[j].2.2 ++ [g.E])) ++ [(lp, Node.lst [])] := by
          have k1 : Tb.kvs (t.set j (t[j].1, t[j].2.1, t[j].2.2 ++ [g.E])) = t.kvs := by
            unfold Tb.kvs
            exact map_set_eq hjt rfl
          have k2 : Tb.nodes (t.set j (t[j].1, t[j].2.1, t[j].2.2 ++ [g.E])) = (Tb.nodes t).set j (t[j].2.1, .lst (t[j].2.2.map .dat ++ [.dat g.E])) := by
            unfold Tb.nodes
            rw [List.map_set, List.map_append]
            rfl
          rw [k1, k2]
          show _ :: ((Tb.nodes t ++ _).set j _) = _ :: (_ ++ _)
          rw [List.set_append_left _ _ (by rw [nl]; exact hj)]
        refine ⟨_, ?_, some (.dat g.m), some (.dat (datK g.n)), some (.dat (datK g.b)), t.set j (t[j].1, t[j].2.1, t[j].2.2 ++ [g.E]), rfl, rfl, ?_⟩
        · show List.Sublist _ (List.set ((fd, Node.dv t.kvs) :: Tb.nodes t ++ [(lp, Node.lst [])]) (j + 1) (t[j].2.1, .lst (t[j].2.2.map .dat ++ [.dat g.E])))
          rw [e2]
          exact List.sublist_append_left _ _
        · rw [ets]
          have ek : (t.set j (t[j].1, t[j].2.1, t[j].2.2 ++ [g.E])).map (·.1) = t.map (·.1) := by
            exact map_set_eq hjt rfl
          refine ⟨by rw [ek]; exact tok.nd, fun x hx => ?_, fun s hs => ?_, fun x hx => ?_, by rw [List.length_set, List.length_append]; exact Nat.le_succ_of_le tok.len⟩
          · rw [flt_snoc]
            obtain ⟨m, hm, rfl⟩ := List.mem_iff_getElem.mp hx
            rw [List.length_set] at hm
            by_cases e : j = m
            · subst e
              rw [List.getElem_set_self]
              dsimp only
              rw [if_pos ex.symm, ← tok.val _ (List.getElem_mem hj)]
            · rw [List.getElem_set_ne e]
              rw [if_neg fun z => e ?_, List.append_nil]
              · exact tok.val _ (List.getElem_mem hm)
              · have h1 : (t.map (·.1))[j]? = some g.b := by rw [List.getElem?_map, hjt]; exact congrArg some ex
                have h2 : (t.map (·.1))[m]? = some g.b := by rw [List.getElem?_map, List.getElem?_eq_getElem hm]; exact congrArg some z.symm
                exact (List.getElem?_inj (by rw [List.length_map]; exact hj) tok.nd).mp (h1.trans h2.symm)
          · rw [ek]
            rcases List.mem_append.mp hs with hs | hs
            · exact tok.all s hs
            · rw [List.mem_singleton.mp hs]
              exact hin
          · obtain ⟨m, hm, rfl⟩ := List.mem_iff_getElem.mp hx
            rw [List.length_set] at hm
            by_cases e : j = m
            · subst e
              rw [List.getElem_set_self]
              simp
            · rw [List.getElem_set_ne e]
              exact tok.ne _ (List.getElem_mem hm)
      · have lk := look_no hin
        have nl : (Tb.nodes t).length = t.length := List.length_map ..
        have em : flt ((singles ps).take i) g.b = [] := by
          unfold flt
          rw [List.map_eq_nil_iff, List.filter_eq_nil_iff]
          intro s hs z
          exact hin (by rw [← of_decide_eq_true z]; exact tok.all s hs)
        refine ⟨0, _, g.b, rfl, keyD_datK _, kb, by unfold Tb.kvs; rw [List.length_map, ez]; omega, fun y hy => (by rw [lk] at hy; cases hy), fun _ => ?_⟩
        have at_ : ((fd, Node.dv (putZ t.kvs g.b (.ptr lp))) :: Tb.nodes t ++ [(lp, Node.lst [])])[t.length + 1]? = some (lp, .lst []) := by
          show (Tb.nodes t ++ [_])[t.length]? = _
          rw [← nl]
          simp
        refine ⟨⟨t.length + 1, _, at_⟩, (by show 2 ≤ sizeLine; decide), t.length + 1, _, at_, by rw [ez]; decide, ?_⟩
        refine ⟨_, .refl _, some (.dat g.m), some (.dat (datK g.n)), some (.dat (datK g.b)), t ++ [(g.b, lp, [g.E])], rfl, ?_, ?_⟩
        · show _ :: ((Tb.nodes t ++ _).set t.length _) = _
          rw [← nl, set_last, put_new (l := [g.E]) hin]
          unfold Tb.nodes
          rw [List.map_append]
          rfl
        · rw [ets]
          refine ⟨?_, fun x hx => ?_, fun s hs => ?_, fun x hx => ?_, by rw [List.length_append, List.length_append]; exact Nat.succ_le_succ tok.len⟩
          · rw [List.map_append, List.nodup_append]
            exact ⟨tok.nd, by simp, fun x hx y hy z => hin (by rw [List.map_singleton, List.mem_singleton] at hy; rw [z, hy] at hx; exact hx)⟩
          · rw [flt_snoc]
            rcases List.mem_append.mp hx with hx | hx
            · rw [if_neg fun z => hin (List.mem_map.mpr ⟨x, hx, z.symm⟩), List.append_nil]
              exact tok.val x hx
            · rw [List.mem_singleton.mp hx]
              dsimp only
              rw [if_pos rfl, em]
              rfl
          · rw [List.map_append]
            rcases List.mem_append.mp hs with hs | hs
            · exact List.mem_append_left _ (tok.all s hs)
            · rw [List.mem_singleton.mp hs]
              exact List.mem_append_right _ (List.mem_singleton.mpr rfl)
          · rcases List.mem_append.mp hx with hx | hx
            · exact tok.ne x hx
            · rw [List.mem_singleton.mp hx]
              simp
    · rintro ρ μ ⟨y2, y3, y4, t, rfl, rfl, tok⟩
      rw [List.length_map, List.length_map, List.take_length] at tok
      have hlen2 := hlen
      refine ⟨fd, 0, _, rfl, fun od ks => ⟨0, od, ks, _, rfl, ?_⟩⟩
      have kl : (keysZ t.kvs).length = t.length := by unfold keysZ Tb.kvs; rw [List.length_map, List.length_map]
      refine ⟨fun n acc μ => μ = (fd, .dvl od ks t.kvs) :: Tb.nodes t ∧ ∃ ls : List (NestedKey × List PyData), acc = ls.map (fun x => (x.1, Val.dat (.list x.2))) ∧ ls.map (·.1) = (t.take n).map (·.1) ∧ ∀ x ∈ ls, Sorted x.2 (flt (singles ps) x.1),
        ⟨rfl, [], rfl, rfl, by simp⟩, fun n acc μ _ ⟨e, _⟩ => ⟨0, by rw [e]; rfl⟩, ?_, ?_⟩
      · rintro n y acc μ hy ⟨rfl, ls, rfl, el, hs⟩
        have hn : n < t.length := by
          rw [← kl]
          exact (List.getElem?_eq_some_iff.mp hy).1
        have hnt := List.getElem?_eq_getElem hn
        have ey : y = .dat (datK t[n].1) := by
          unfold keysZ Tb.kvs at hy
          rw [List.getElem?_map, List.getElem?_map, hnt] at hy
          exact (Option.some.inj hy).symm
        subst ey
        have hmem := List.getElem_mem hn
        have lk := look_tb tok.nd hnt rfl
        have nj : (Tb.nodes t)[n]? = some (t[n].2.1, .lst (t[n].2.2.map .dat)) := by
          unfold Tb.nodes
          rw [List.getElem?_map, hnt]
          rfl
        have at_ : ((fd, Node.dvl od ks t.kvs) :: Tb.nodes t)[n + 1]? = some (t[n].2.1, .lst (t[n].2.2.map .dat)) := nj
        have mem : ∀ d ∈ t[n].2.2, ∃ s ∈ singles ps, s.b = t[n].1 ∧ s.E = d := fun d hd => by
          rw [tok.val _ hmem] at hd
          obtain ⟨s, hs, e⟩ := List.mem_map.mp hd
          obtain ⟨h1, h2⟩ := List.mem_filter.mp hs
          exact ⟨s, h1, of_decide_eq_true h2, e⟩
        have kb : Vd.KeyOk t[n].1 := by
          obtain ⟨d, hd⟩ := List.exists_mem_of_ne_nil _ (tok.ne _ hmem)
          obtain ⟨s, h1, h2, _⟩ := mem d hd
          rw [← h2]
          exact (ok.key s h1).1
        refine ⟨_, rfl, _, t[n].1, _, .lck 0 rfl, keyD_datK _, kb, lk, n + 1, _, at_, ⟨n + 1, _, at_⟩, _, .type "tuple", datOf_map _, fun d hd => ?_, fun d hd e he => ?_, fun d hd => ?_, fun lp es pm sr => ?_⟩
        · obtain ⟨s, h1, _, e⟩ := mem d hd
          rw [← e]
          exact ⟨_, _, rfl, (ok.tup s h1).1⟩
        · obtain ⟨s, h1, h2, e1⟩ := mem d hd
          obtain ⟨s', h3, h4, e2⟩ := mem e he
          rw [← e1, ← e2]
          exact ok.akin s h1 s' h3 (h2.trans h4.symm)
        · obtain ⟨s, h1, _, e⟩ := mem d hd
          rw [← e]
          exact (ok.tup s h1).2
        have ll : (((fd, Node.dvl od ks t.kvs) :: Tb.nodes t) : Store).length = t.length + 1 := by
          unfold Tb.nodes
          rw [List.length_cons, List.length_map]
        refine ⟨t.length + 1, _, es, by rw [← ll]; simp, datOf_map _, t[n].1, keyD_datK _, kb, ?_, _, .refl _, ?_, ls ++ [(t[n].1, es)], ?_, ?_, fun x hx => ?_⟩
        · have := congrArg List.length el
          rw [List.length_map, List.length_map, List.length_take] at this
          rw [List.length_map, ez]
          have := tok.len
          omega
        · rw [← ll]
          have : ∀ (μ : Store) (q : Addr × Node), (μ ++ [q]).eraseIdx μ.length = μ := fun μ q => by
            induction μ with
            | nil => rfl
            | cons x μ ih => exact congrArg (x :: ·) ih
          exact this _ _
        · have : ∀ (l : List (NestedKey × List PyData)) (k : NestedKey) (v : List PyData), k ∉ l.map (·.1) → putZ (l.map fun x => (x.1, Val.dat (.list x.2))) k (.dat (.list v)) = (l ++ [(k, v)]).map fun x => (x.1, Val.dat (.list x.2)) := fun l k v => by
            induction l with
            | nil => intro _; rfl
            | cons y l ih =>
              intro h
              rw [List.map_cons, List.mem_cons, not_or] at h
              show (if y.1 = k then _ else _) = _
              rw [if_neg (Ne.symm h.1)]
              exact congrArg (_ :: ·) (ih h.2)
          refine this ls _ es fun z => ?_
          rw [el] at z
          have nd2 := tok.nd
          have e3 : t.take (n + 1) = t.take n ++ [t[n]] := take_snoc hnt
          have nd3 : ((t.take (n + 1)).map (·.1)).Nodup := ((List.take_sublist _ _).map _).nodup nd2
          rw [e3, List.map_append, List.nodup_append] at nd3
          exact nd3.2.2 _ z _ (List.mem_singleton.mpr rfl) rfl
        · rw [take_snoc hnt, List.map_append, List.map_append, el]
          rfl
        · rcases List.mem_append.mp hx with hx | hx
          · exact hs x hx
          · rw [List.mem_singleton.mp hx]
            exact ⟨by rw [← tok.val _ hmem]; exact pm, sr⟩
      · rintro acc μ ⟨rfl, ls, rfl, el, hs⟩ p
        rw [kl, List.take_length] at el
        refine ⟨0, rfl, _, .cons _ (List.sublist_append_right _ _), q p _ fun b => ?_⟩
        have look : ∀ (l : List (NestedKey × List PyData)), (lookZ (l.map fun x => (x.1, Val.dat (.list x.2))) b = none ∧ b ∉ l.map (·.1)) ∨ ∃ x ∈ l, x.1 = b ∧ lookZ (l.map fun x => (x.1, Val.dat (.list x.2))) b = some (.dat (.list x.2)) := fun l => by
          induction l with
          | nil => exact .inl ⟨rfl, by simp⟩
          | cons y l ih =>
            by_cases e : y.1 = b
            · refine .inr ⟨y, List.mem_cons_self .., e, ?_⟩
              show (if y.1 = b then _ else _) = _
              rw [if_pos e]
            · rcases ih with ⟨h1, h2⟩ | ⟨x, h1, h2, h3⟩
              · refine .inl ⟨?_, by rw [List.map_cons, List.mem_cons, not_or]; exact ⟨Ne.symm e, h2⟩⟩
                show (if y.1 = b then _ else _) = _
                rw [if_neg e]
                exact h1
              · refine .inr ⟨x, List.mem_cons_of_mem _ h1, h2, ?_⟩
                show (if y.1 = b then _ else _) = _
                rw [if_neg e]
                exact h3
        rcases look ls with ⟨h1, h2⟩ | ⟨x, h1, h2, h3⟩
        · refine .inl ⟨h1, ?_⟩
          unfold flt
          rw [List.map_eq_nil_iff, List.filter_eq_nil_iff]
          intro s hs z
          exact h2 (by rw [el, ← of_decide_eq_true z]; exact tok.all s hs)
        · refine .inr ⟨x.2, h3, ?_⟩
          rw [← h2]
          exact hs x h1
end
end Kr
namespace Kr
open PySem PySem.Spec PyProof.Rows L2 Lf Zl
/-! ### going through a tree by a stack -/
def step (ch : NestedKey → List NestedKey) (p : List NestedKey × List NestedKey) : List NestedKey × List NestedKey := match p.2.getLast? with
  | none => p
  | some x => (p.1 ++ [x], p.2.dropLast ++ ch x)
def run (ch : NestedKey → List NestedKey) : Nat → List NestedKey × List NestedKey
  | 0 => ([], ch .none)
  | n + 1 => step ch (run ch n)
/-- the whole of it -/
def Dfs (ch : NestedKey → List NestedKey) (told : List NestedKey) : Prop := run ch told.length = (told, [])
theorem run_len (ch : NestedKey → List NestedKey) : ∀ n, (run ch n).1.length ≤ n ∧ ((run ch n).1.length < n → (run ch n).2 = [])
  | 0 => ⟨Nat.le_refl _, fun h => absurd h (Nat.lt_irrefl _)⟩
  | n + 1 => by
    obtain ⟨h1, h2⟩ := run_len ch n
    show (step ch (run ch n)).1.length ≤ _ ∧ ((step ch (run ch n)).1.length < _ → (step ch (run ch n)).2 = [])
    unfold step
    split
    · rename_i e
      exact ⟨by omega, fun _ => List.getLast?_eq_none_iff.mp e⟩
    · rename_i x e
      by_cases c : (run ch n).1.length < n
      · rw [h2 c] at e
        cases e
      · refine ⟨by rw [List.length_append, List.length_singleton]; omega, fun z => ?_⟩
        rw [List.length_append, List.length_singleton] at z
        omega
theorem run_stop (ch : NestedKey → List NestedKey) {n : Nat} (h : (run ch n).2 = []) : ∀ m, run ch (n + m) = run ch n
  | 0 => rfl
  | m + 1 => by
    show step ch (run ch (n + m)) = _
    rw [run_stop ch h m]
    unfold step
    rw [h]
    rfl
theorem dfs_one {ch : NestedKey → List NestedKey} {t u : List NestedKey} (h1 : Dfs ch t) (h2 : Dfs ch u) : t = u := by
  unfold Dfs at h1 h2
  rcases Nat.le_total t.length u.length with c | c
  · have := run_stop ch (n := t.length) (by rw [h1]) (u.length - t.length)
    rw [Nat.add_sub_cancel' c, h1, h2] at this
    exact (congrArg Prod.fst this).symm
  · have := run_stop ch (n := u.length) (by rw [h2]) (t.length - u.length)
    rw [Nat.add_sub_cancel' c, h1, h2] at this
    exact congrArg Prod.fst this
structure Tree (S : List Sg) : Prop where
  nd : (S.map (·.n)).Nodup
  nn : ∀ s ∈ S, s.n ≠ .none
structure Live (S : List Sg) (told st : List NestedKey) : Prop where
  nd : (told ++ st).Nodup
  sub : ∀ y ∈ told ++ st, y ∈ S.map (·.n)
  par : ∀ s ∈ S, s.n ∈ told ++ st → s.b = .none ∨ s.b ∈ told
theorem nodup_le : ∀ {a b : List NestedKey}, a.Nodup → (∀ x ∈ a, x ∈ b) → a.length ≤ b.length
  | [], _, _, _ => Nat.zero_le _
  | x :: a, b, nd, h => by
    rw [List.nodup_cons] at nd
    have hx := h x (List.mem_cons_self ..)
    have e := List.length_erase_of_mem hx
    have := nodup_le (a := a) (b := b.erase x) nd.2 fun y hy => (List.mem_erase_of_ne (fun z => nd.1 (by rw [← z]; exact hy))).mpr (h y (List.mem_cons_of_mem _ hy))
    have := List.length_pos_of_mem hx
    rw [List.length_cons]
    omega
theorem nodup_inj {S : List Sg} (h : (S.map (·.n)).Nodup) {s t : Sg} (hs : s ∈ S) (ht : t ∈ S) (e : s.n = t.n) : s = t := by
  obtain ⟨i, hi, rfl⟩ := List.mem_iff_getElem.mp hs
  obtain ⟨j, hj, rfl⟩ := List.mem_iff_getElem.mp ht
  have h1 : (S.map (·.n))[i]? = some S[i].n := by rw [List.getElem?_map, List.getElem?_eq_getElem hi]; rfl
  have h2 : (S.map (·.n))[j]? = some S[i].n := by rw [List.getElem?_map, List.getElem?_eq_getElem hj, e]; rfl
  have := (List.getElem?_inj (by rw [List.length_map]; exact hi) h).mp (h1.trans h2.symm)
  subst this
  rfl
/-- what stands right behind each: some order of the singles put there -/
def Kids (S : List Sg) (cl : NestedKey → List Sg) : Prop := ∀ b, (cl b).Perm (S.filter fun s => s.b = b)
theorem Kids.mem {S : List Sg} {cl : NestedKey → List Sg} (k : Kids S cl) {b : NestedKey} {s : Sg} : s ∈ cl b ↔ s ∈ S ∧ s.b = b := by
  rw [(k b).mem_iff, List.mem_filter]
  exact ⟨fun h => ⟨h.1, of_decide_eq_true h.2⟩, fun h => ⟨h.1, decide_eq_true h.2⟩⟩
theorem Kids.nd {S : List Sg} {cl : NestedKey → List Sg} (k : Kids S cl) (t : Tree S) (b : NestedKey) : ((cl b).map (·.n)).Nodup :=
  nodupP ((k b).map _).symm (((List.filter_sublist (l := S)).map _).nodup t.nd)
where nodupP {a b : List NestedKey} (h : a.Perm b) (n : a.Nodup) : b.Nodup := h.nodup_iff.mp n
theorem Live.init {S : List Sg} {cl : NestedKey → List Sg} (k : Kids S cl) (t : Tree S) : Live S [] ((cl .none).map (·.n)) := by
  refine ⟨k.nd t _, fun y hy => ?_, fun s hs hm => ?_⟩
  · obtain ⟨s, hs, rfl⟩ := List.mem_map.mp hy
    exact List.mem_map_of_mem (k.mem.mp hs).1
  · obtain ⟨s', hs', e⟩ := List.mem_map.mp hm
    rw [← nodup_inj t.nd (k.mem.mp hs').1 hs e]
    exact .inl (k.mem.mp hs').2
theorem Live.next {S : List Sg} {cl : NestedKey → List Sg} (k : Kids S cl) (t : Tree S) {told st : List NestedKey} {x : NestedKey} (l : Live S told (st ++ [x])) : Live S (told ++ [x]) (st ++ (cl x).map (·.n)) := by
  have nd := l.nd
  have hx : x ∈ S.map (·.n) := l.sub x (by simp)
  obtain ⟨sx, hsx, ex⟩ := List.mem_map.mp hx
  have xn : x ≠ .none := by rw [← ex]; exact t.nn sx hsx
  have xt : x ∉ told := fun z => by
    rw [List.nodup_append] at nd
    exact nd.2.2 x z x (by simp) rfl
  have fresh : ∀ c ∈ (cl x).map (·.n), c ∉ told ++ (st ++ [x]) := fun c hc z => by
    obtain ⟨s, hs, rfl⟩ := List.mem_map.mp hc
    obtain ⟨h1, h2⟩ := k.mem.mp hs
    rcases l.par s h1 z with h | h
    · exact xn (h2.symm.trans h)
    · exact xt (h2 ▸ h)
  have pm : (told ++ (st ++ [x])).Perm ((told ++ [x]) ++ st) := by
    rw [List.append_assoc]
    exact (List.perm_append_comm).append_left _
  have nd2 := pm.nodup_iff.mp nd
  refine ⟨?_, fun y hy => ?_, fun s hs hm => ?_⟩
  · rw [← List.append_assoc, List.nodup_append]
    exact ⟨nd2, k.nd t x, fun a ha b hb z => fresh b hb (pm.mem_iff.mpr (z ▸ ha))⟩
  · rw [← List.append_assoc] at hy
    rcases List.mem_append.mp hy with hy | hy
    · exact l.sub y (pm.mem_iff.mpr hy)
    · obtain ⟨s, hs, rfl⟩ := List.mem_map.mp hy
      exact List.mem_map_of_mem (k.mem.mp hs).1
  · rw [← List.append_assoc] at hm
    rcases List.mem_append.mp hm with hm | hm
    · rcases l.par s hs (pm.mem_iff.mpr hm) with h | h
      · exact .inl h
      · exact .inr (List.mem_append_left _ h)
    · obtain ⟨s', hs', e⟩ := List.mem_map.mp hm
      rw [← nodup_inj t.nd (k.mem.mp hs').1 hs e, (k.mem.mp hs').2]
      exact .inr (List.mem_append_right _ (List.mem_singleton.mpr rfl))
theorem Live.lt {S : List Sg} {told st : List NestedKey} {x : NestedKey} (l : Live S told (st ++ [x])) : told.length < S.length := by
  have := nodup_le l.nd l.sub
  rw [List.length_append, List.length_append, List.length_singleton, List.length_map] at this
  omega
theorem Live.le {S : List Sg} {told st : List NestedKey} (l : Live S told st) : told.length + st.length ≤ S.length := by
  have := nodup_le l.nd l.sub
  rw [List.length_append, List.length_map] at this
  exact this
theorem perm_inv {α β : Type} {f : α → β} : ∀ {l : List β} {m : List α}, l.Perm (m.map f) → ∃ m' : List α, m'.Perm m ∧ l = m'.map f
  | [], m, h => by
    have : m.map f = [] := h.symm.eq_nil
    rw [List.map_eq_nil_iff] at this
    subst this
    exact ⟨[], .refl _, rfl⟩
  | y :: l, m, h => by
    have hy : y ∈ m.map f := h.mem_iff.mp (List.mem_cons_self ..)
    obtain ⟨x, hx, rfl⟩ := List.mem_map.mp hy
    obtain ⟨i, hi, rfl⟩ := List.mem_iff_getElem.mp hx
    have pm := perm_at (List.getElem?_eq_getElem hi)
    have h2 : l.Perm ((m.eraseIdx i).map f) := (h.trans (pm.map f)).cons_inv
    obtain ⟨m', p', rfl⟩ := perm_inv h2
    exact ⟨m[i] :: m', (p'.cons _).trans pm.symm, rfl⟩
end Kr
namespace Kr
open PySem PySem.Spec PyProof.Rows L2 Lf Zl
def Ord (S : List Sg) (cl : NestedKey → List Sg) : Prop := Kids S cl ∧ ∀ b, ((cl b).map Sg.E).Pairwise fun x y => PySem.W.dataLt y x = false
def chOf (cl : NestedKey → List Sg) (b : NestedKey) : List NestedKey := (cl b).map (·.n)
theorem run_next {ch : NestedKey → List NestedKey} {n : Nat} {told st : List NestedKey} {x : NestedKey} (h : run ch n = (told, st ++ [x])) : run ch (n + 1) = (told ++ [x], st ++ ch x) := by
  show step ch (run ch n) = _
  rw [h]
  unfold step
  simp
def nodeLen (μ : Store) (j : Nat) : Nat := match μ[j]? with | some (_, .lst xs) => xs.length | _ => 0
def plainI (ps : List Put) (bd nm wt : Addr) (kvs : List (NestedKey × Val)) (cl : NestedKey → List Sg) : DR → Store → Prop := fun ρ μ => ∃ (told : List NestedKey) (sts : List Sg) (y4 y5 : Option Val), ρ = [some (.dat (.list (ps.map Put.D))), some (.ptr bd), some (.ptr nm), some (.ptr wt), y4, y5] ∧ μ = [(bd, .dv kvs), (nm, .lst (told.map fun k => .dat (datK k))), (wt, .lst (sts.map fun s => .dat s.E))] ∧
        run (chOf cl) told.length = (told, sts.map (·.n)) ∧ Live (singles ps) told (sts.map (·.n)) ∧ ∀ s ∈ sts, s ∈ singles ps
section
variable {P : Program} {w : World} {K : PySem.W.Frag} {mg : Str → Option Value} {base : Heap}
def fPlain : DSp := fun xs μ Q => ∃ ps : List Put, xs = [.dat (.list (ps.map Put.D))] ∧ μ = [] ∧ PutsOk ps ∧ Tree (singles ps) ∧
  ∀ p told cl, Ord (singles ps) cl → Dfs (chOf cl) told → Q (.ptr p) [(p, .lst (told.map fun k => .dat (datK k)))]
abbrev sPlain : Stmt := topS 2
theorem scPlain : FnScope ["puts", "behind_each", "names", "waiting", "_", "name"] ["puts"] (defScope sPlain) := ⟨rfl, rfl, rfl, by decide +kernel, rfl, by decide +kernel, by decide +kernel⟩
theorem ok_plain {f : Addr} {fd : FuncData} (F : Fun K "plain_row" "plain_row" sPlain f fd) (T : Bs mg) (c_followers : CalZ P w K mg base 2 "followers" ["puts"] fFoll) : FnOk P w K mg base CX0 3 f fd ["puts"] (spZ w K fPlain) := by
  refine Fun.okZ F scPlain (fun xs μ Q h => ?_) (fun cdv A outer s H E hr => ?_)
  · obtain ⟨ps, rfl, _⟩ := h
    rfl
  · have nd := scPlain.nd
    refine ⟨_, (dss_cons (ds_set (i := 1) nd rfl (Or.inl rfl) (d_own0 c_followers (hr.mono (by decide)) (by rfl) (da_cons (dv 0) da_nil)))
  (dss_cons (ds_set (i := 2) nd rfl (Or.inl rfl) (d_lst da_nil))
  (dss_cut (ds_set (i := 3) nd rfl (Or.inl rfl) (d_callTy ca_list (by rfl) T.list (by decide +kernel) (da_cons (d_dget hr.units (dv 1) d_non (d_lst da_nil) ⟨by rfl, by rfl, by rfl, by rfl⟩) da_nil)))
  (dss_cons (ds_weak (ds_while PassesOwn.never (dt_truth (dv 3))
  (dss_cons (ds_asg (d_lm0 PySem.F.slot_list_pop PySem.F.type_list_pop me_pop (dv 3)) (dg_tup rfl (dgs_cons (dg_name (i := 4) nd rfl (Or.inl rfl)) (dgs_cons (dg_name (i := 5) nd rfl (Or.inl rfl)) dgs_nil))))
  (dss_cons (ds_expr (d_lm PySem.F.slot_list_append PySem.F.type_list_append me_append (dv 2) (da_cons (dv 5) da_nil)))
  (dss_one (ds_expr (d_lm PySem.F.slot_list_extend PySem.F.type_list_extend me_extend2 (dv 3) (da_cons (d_dget hr.units (dv 1) (dv 5) (d_lst da_nil) ⟨by rfl, by rfl, by rfl, by rfl⟩) da_nil))))))))
  (dss_one (ds_ret (dv 2))))))), ?_⟩
    rintro xs μ Q ⟨ps, rfl, rfl, ok, tr, q⟩
    have ez : sizeLine = 16777216 := by decide +kernel
    have hlen := ok.len
    refine ⟨ps, rfl, rfl, ok, fun bd kvs hk => ?_⟩
    -- what is behind each
    have hcl : ∀ b, ∃ sl : List Sg, sl.Perm ((singles ps).filter fun s => s.b = b) ∧ (sl.map Sg.E).Pairwise (fun x y => PySem.W.dataLt y x = false) ∧ ((lookZ kvs b = none ∧ sl = []) ∨ lookZ kvs b = some (.dat (.list (sl.map Sg.E)))) := fun b => by
      rcases hk b with ⟨h1, h2⟩ | ⟨l, h1, h2⟩
      · have : (singles ps).filter (fun s => s.b = b) = [] := List.map_eq_nil_iff.mp h2
        exact ⟨[], by rw [this], .nil, .inl ⟨h1, rfl⟩⟩
      · obtain ⟨sl, p1, rfl⟩ := perm_inv h2.1
        exact ⟨sl, p1, h2.2, .inr h1⟩
    obtain ⟨cl, hcl⟩ := Classical.axiomOfChoice hcl
    have od : Ord (singles ps) cl := ⟨fun b => (hcl b).1, fun b => (hcl b).2.1⟩
    have kn : ∀ s ∈ singles ps, Vd.KeyOk s.n := fun s hs => (ok.key s hs).2
    have knone : Vd.KeyOk .none := ⟨by decide, fun _ z => by cases z⟩
    refine ⟨Nat.zero_le _, fun nm => ?_⟩
    refine ⟨fun ρ μ => ∃ wt lp, ρ = [some (.dat (.list (ps.map Put.D))), some (.ptr bd), some (.ptr nm), some (.ptr wt), none, none] ∧ μ = [(bd, .dv kvs), (nm, .lst []), (lp, .lst []), (wt, .lst ((cl .none).map fun s => .dat s.E))], ?_, ?_⟩
    · refine ⟨⟨_, .own 0 rfl⟩, Nat.zero_le _, fun lp => ⟨_, .none, .own 0 rfl, rfl, knone, ?_⟩⟩
      rcases (hcl .none).2.2 with ⟨h1, h2⟩ | h1
      · rw [h1]
        refine ⟨2, _, rfl, fun wt => ⟨wt, lp, rfl, ?_⟩⟩
        rw [h2]
        rfl
      · rw [h1]
        refine fun wt => ⟨wt, lp, rfl, ?_⟩
        rw [List.map_map]
        rfl
    rintro ρ μ ⟨wt, lp, rfl, rfl⟩
    refine ⟨_, [(bd, .dv kvs), (nm, .lst []), (wt, .lst ((cl .none).map fun s => .dat s.E))], weak_sub (.cons₂ _ (.cons₂ _ (.cons _ (.refl _)))), ?_⟩
    refine ⟨plainI ps bd nm wt kvs cl,
      fun ρ μ => (singles ps).length - nodeLen μ 1, ⟨[], cl .none, _, _, rfl, rfl, rfl, Live.init od.1 tr, fun s hs => (od.1.mem.mp hs).1⟩, ?_⟩
    rintro ρ μ ⟨told, sts, y4, y5, rfl, rfl, hrun, live, hin⟩
    refine ⟨2, _, rfl, ?_⟩
    rcases List.eq_nil_or_concat sts with rfl | ⟨sts', s, rfl⟩
    · refine ⟨_, .cons _ (.cons₂ _ (.cons _ .slnil)), q nm told cl od hrun⟩
    · rw [List.concat_eq_append] at *
      have hs : s ∈ singles ps := hin s (by simp)
      have e1 : (sts' ++ [s]).map (·.n) = sts'.map (·.n) ++ [s.n] := by simp
      rw [e1] at hrun live
      have hlt := live.lt
      have hle := live.le
      rw [List.length_append, List.length_singleton, List.length_map] at hle
      have emp : (!((sts' ++ [s]).map fun s => Val.dat s.E).isEmpty) = true := by simp
      rw [emp]
      refine ⟨⟨2, _, rfl⟩, 2, _, .dat s.E, rfl, by simp, rfl, ⟨1, _, rfl⟩, 1, _, rfl, by rw [List.length_map, ez]; omega, ⟨2, _, rfl⟩, ⟨_, .own 0 rfl⟩, Nat.zero_le _, fun lp2 => ⟨_, s.n, .own 0 rfl, keyD_datK _, kn s hs, ?_⟩⟩
      have ed : ((sts' ++ [s]).map fun s => Val.dat s.E).dropLast = sts'.map fun s => Val.dat s.E := by simp
      have nx := live.next od.1 tr
      have hle2 := nx.le
      rw [List.length_append, List.length_append, List.length_map, List.length_map] at hle2
      have fin : ∀ μ', μ' = [(bd, .dv kvs), (nm, .lst ((told ++ [s.n]).map fun k => .dat (datK k))), (wt, .lst ((sts' ++ cl s.n).map fun s => .dat s.E)), (lp2, .lst [])] →
          less (fun ρ' μ' => plainI ps bd nm wt kvs cl ρ' μ' ∧ (singles ps).length - nodeLen μ' 1 < (singles ps).length - (told.map fun k => Val.dat (datK k)).length)
          [some (.dat (.list (ps.map Put.D))), some (.ptr bd), some (.ptr nm), some (.ptr wt), some (.dat s.m), some (.dat (datK s.n))] μ' := fun μ' e => by
        subst e
        refine ⟨_, .cons₂ _ (.cons₂ _ (.cons₂ _ (.cons _ .slnil))), ⟨told ++ [s.n], sts' ++ cl s.n, _, _, rfl, rfl, ?_, ?_, fun z hz => ?_⟩, ?_⟩
        · rw [List.length_append, List.map_append]
          exact run_next hrun
        · rw [List.map_append]
          exact nx
        · rcases List.mem_append.mp hz with hz | hz
          · exact hin z (List.mem_append_left _ hz)
          · exact (od.1.mem.mp hz).1
        · show (singles ps).length - ((told ++ [s.n]).map _).length < _
          rw [List.length_map, List.length_map, List.length_append, List.length_singleton]
          omega
      rcases (hcl s.n).2.2 with ⟨h1, h2⟩ | h1
      · rw [h1]
        refine ⟨2, _, _, rfl, .p 3 rfl, ?_, fin _ ?_⟩
        · rw [ed, List.length_map, ez]
          show _ + 0 ≤ _
          omega
        · show [_, _, _, _] = _
          rw [ed, h2, List.append_nil, List.append_nil, List.map_append]
          rfl
      · rw [h1]
        refine ⟨2, _, _, rfl, .d _, ?_, fin _ ?_⟩
        · rw [ed, List.length_map, List.length_map, List.length_map, ez]
          omega
        · show [_, _, _, _] = _
          rw [ed, List.map_append, List.map_append, List.map_map]
          rfl
end
end Kr
set_option maxRecDepth 10000
namespace Kr
open PySem PySem.Spec PyProof.Rows L2 Lf Zl
/-! ### the law's own line -/
def beh (S : List Sg) (b : NestedKey) : List NestedKey := (S.filter fun s => s.b = b).map (·.n)
theorem beh_snoc (S : List Sg) (s : Sg) (b : NestedKey) : beh (S ++ [s]) b = beh S b ++ (if s.b = b then [s.n] else []) := by
  unfold beh
  rw [List.filter_append, List.map_append]
  by_cases e : s.b = b <;> simp [e]
def LnOk (kvs : List (NestedKey × Val)) (S : List Sg) : Prop := kvs.length ≤ S.length ∧ ∀ b, (lookZ kvs b = none ∧ beh S b = []) ∨ lookZ kvs b = some (.dat (.list ((beh S b).reverse.map datK)))
theorem LnOk.snoc {kvs : List (NestedKey × Val)} {S : List Sg} (h : LnOk kvs S) (s : Sg) : LnOk (putZ kvs s.b (.dat (.list (datK s.n :: (beh S s.b).reverse.map datK)))) (S ++ [s]) := by
  refine ⟨?_, fun b => ?_⟩
  · have := putZ_len kvs s.b (.dat (.list (datK s.n :: (beh S s.b).reverse.map datK)))
    have := h.1
    rw [List.length_append, List.length_singleton]
    omega
  · rw [lookZ_put, beh_snoc]
    by_cases e : s.b = b
    · subst e
      rw [if_pos rfl, if_pos rfl]
      exact .inr (by simp)
    · rw [if_neg e, if_neg e, List.append_nil]
      exact h.2 b
/-- small data without dicts -/
structure NiceW (W : Nat) (d : PyData) : Prop where
  lay : d.canLay0 = true
  dep : d.depth ≤ 8
  sho : d.showable = true
  nod : d.hasDict = false
  lea : PyData.leavesShort 20 d = true
  wei : d.weight ≤ W
abbrev Nice := NiceW 60
theorem nice_all {W : Nat} : ∀ {ds : List PyData}, (∀ d ∈ ds, NiceW W d) → PyData.canLayAll0 ds = true ∧ PyData.depthAll ds ≤ 8 ∧ PyData.showableAll ds = true ∧ PyData.hasDictAll ds = false ∧ PyData.leavesShortAll 20 ds = true ∧ PyData.weightAll ds ≤ (W + 1) * ds.length
  | [], _ => ⟨rfl, Nat.zero_le _, rfl, rfl, rfl, Nat.zero_le _⟩
  | d :: ds, h => by
    obtain ⟨a1, a2, a3, a4, a5, a6⟩ := nice_all fun e he => h e (List.mem_cons_of_mem _ he)
    obtain ⟨b1, b2, b3, b4, b5, b6⟩ := h d (List.mem_cons_self ..)
    refine ⟨?_, ?_, ?_, ?_, ?_, ?_⟩
    · rw [PyData.canLayAll0.eq_2, a1, b1]
      rfl
    · rw [PyData.depthAll.eq_2]
      exact Nat.max_le.mpr ⟨b2, a2⟩
    · rw [PyData.showableAll, a3, b3]
      rfl
    · rw [PyData.hasDictAll, a4, b4]
      rfl
    · rw [PyData.leavesShortAll.eq_2, a5, b5]
      rfl
    · rw [PyData.weightAll.eq_2, List.length_cons, Nat.mul_succ]
      omega
theorem nice_shaped {ds : List PyData} (h : ∀ d ∈ ds, Nice d) : SeqAt.shaped (.list ds) = true := by
  obtain ⟨a1, a2, _⟩ := nice_all h
  unfold SeqAt.shaped
  rw [PyData.canLay0.eq_5, a1, Bool.true_and, decide_eq_true_eq, PyData.depth]
  omega
theorem nice_shown {ds : List PyData} (h : ∀ d ∈ ds, Nice d) (l : ds.length ≤ 10000) : (PyData.list ds).showable = true ∧ (PyData.list ds).hasDict = false ∧ (PyData.list ds).depth ≤ 60 ∧ (PyData.list ds).shown.length ≤ sizeLine := by
  obtain ⟨a1, a2, a3, a4, a5, a6⟩ := nice_all h
  have ez : sizeLine = 16777216 := by decide +kernel
  refine ⟨by rw [PyData.showable.eq_5]; exact a3, by rw [PyData.hasDict.eq_5]; exact a4, by rw [PyData.depth]; omega, ?_⟩
  have := PyData.shown_le 20 (by decide) (.list ds) (by rw [PyData.leavesShort.eq_5]; exact a5)
  have e : (PyData.list ds).weight = PyData.weightAll ds := by rw [PyData.weight]
  rw [e] at this
  rw [ez]
  omega
structure LineOk (ps : List Put) : Prop where
  up : (ps.map Put.D).Pairwise fun x y => PySem.W.dataLt x y = true
  akin : ∀ p ∈ ps, ∀ q ∈ ps, Sa.Akin p.D q.D
  dep : ∀ p ∈ ps, p.D.depth ≤ 50
  tup : ∀ p ∈ ps, PySem.W.dataType p.m = .type "tuple"
  key : ∀ s ∈ singles ps, Vd.KeyOk s.b ∧ Vd.KeyOk s.n
  len : (singles ps).length ≤ 10000
  name : ∀ s ∈ singles ps, Nice (datK s.n)
theorem lt_asym {x y : PyData} (h : PySem.W.dataLt x y = true) : PySem.W.dataLt y x = false := (Sa.swo_data (α := PyData) id).1 _ _ h
theorem sorted_is {ds es : List PyData} (h : ds.Pairwise fun x y => PySem.W.dataLt x y = true) (pm : es.Perm ds) (sr : es.Pairwise fun x y => PySem.W.dataLt y x = false) : es = ds := by
  refine List.Perm.eq_of_pairwise (le := fun x y => PySem.W.dataLt y x = false) (fun a b ha hb h1 h2 => ?_) sr (h.imp fun h => lt_asym h) pm
  obtain ⟨i, hi, rfl⟩ := List.mem_iff_getElem.mp (pm.mem_iff.mp ha)
  obtain ⟨j, hj, rfl⟩ := List.mem_iff_getElem.mp hb
  rw [List.pairwise_iff_getElem] at h
  rcases Nat.lt_trichotomy i j with c | c | c
  · rw [h i j hi hj c] at h2
    cases h2
  · subst c
    rfl
  · rw [h j i hj hi c] at h1
    cases h1
end Kr
namespace Kr
open PySem PySem.Spec PyProof.Rows L2 Lf Zl
/-! ### what is drawn -/
def hands : List Str := ["a", "b", "ab", "zz", "m", "xa", "xb", "xab", "xzz"]
def hands4 : List Str := ["a", "b", "ab", "zz"]
def nm (h : Str) (k a : Nat) : NestedKey := .tup [.text h, .num k, .num a]
def nm2 (h : Str) (k : Nat) : NestedKey := .tup [.text h, .num k]
def one (h : Str) (k : Nat) : Option Nat → List NestedKey
  | none => [nm2 h k]
  | some n => (List.range n).map fun a => nm h k a
def mrk (s : Int) (h : Str) : PyData := .tuple [.int s, .str h]
theorem nice_int : ∀ n : Nat, n < 64 → NiceW 19 (.int n) := by
  have h : ∀ n : Nat, n < 64 → (PyData.int n).canLay0 = true ∧ (PyData.int n).depth ≤ 8 ∧ (PyData.int n).showable = true ∧ (PyData.int n).hasDict = false ∧ PyData.leavesShort 20 (.int n) = true ∧ (PyData.int n).weight ≤ 19 := by decide +kernel
  intro n hn
  obtain ⟨a1, a2, a3, a4, a5, a6⟩ := h n hn
  exact ⟨a1, a2, a3, a4, a5, a6⟩
theorem nice_hand : ∀ h ∈ hands, NiceW 19 (.str h) := by
  have h : ∀ h ∈ hands, (PyData.str h).canLay0 = true ∧ (PyData.str h).depth ≤ 8 ∧ (PyData.str h).showable = true ∧ (PyData.str h).hasDict = false ∧ PyData.leavesShort 20 (.str h) = true ∧ (PyData.str h).weight ≤ 19 := by decide +kernel
  intro n hn
  obtain ⟨a1, a2, a3, a4, a5, a6⟩ := h n hn
  exact ⟨a1, a2, a3, a4, a5, a6⟩
theorem nice_tup {ds : List PyData} (h : ∀ d ∈ ds, NiceW 19 d) (l : ds.length ≤ 3) (dep : PyData.depthAll ds ≤ 7) : Nice (.tuple ds) := by
  obtain ⟨a1, a2, a3, a4, a5, a6⟩ := nice_all h
  refine ⟨by rw [PyData.canLay0]; exact a1, by rw [PyData.depth]; omega, by rw [PyData.showable]; exact a3, by rw [PyData.hasDict]; exact a4, by rw [PyData.leavesShort]; exact a5, by rw [PyData.weight]; omega⟩
theorem nice_nm {h : Str} {k a : Nat} (hh : h ∈ hands) (hk : k < 64) (ha : a < 64) : Nice (datK (nm h k a)) :=
  nice_tup (ds := [.str h, .int k, .int a]) (fun d hd => by
    rcases List.mem_cons.mp hd with rfl | hd
    · exact nice_hand h hh
    rcases List.mem_cons.mp hd with rfl | hd
    · exact nice_int k hk
    rw [List.mem_singleton.mp hd]
    exact nice_int a ha) (Nat.le_refl _) (Nat.zero_le _)
theorem nice_nm2 {h : Str} {k : Nat} (hh : h ∈ hands) (hk : k < 64) : Nice (datK (nm2 h k)) :=
  nice_tup (ds := [.str h, .int k]) (fun d hd => by
    rcases List.mem_cons.mp hd with rfl | hd
    · exact nice_hand h hh
    rw [List.mem_singleton.mp hd]
    exact nice_int k hk) (by show 2 ≤ 3; decide) (Nat.zero_le _)
structure Nm (x : NestedKey) (m : Nat) : Prop where
  ex : ∃ h ∈ hands, ∃ k, k < m ∧ (x = nm2 h k ∨ ∃ a, a < 64 ∧ x = nm h k a)
theorem Nm.nice {x : NestedKey} {m : Nat} (h : Nm x m) (l : m ≤ 64) : Nice (datK x) := by
  obtain ⟨h, hh, k, hk, rfl | ⟨a, ha, rfl⟩⟩ := h.ex
  · exact nice_nm2 hh (by omega)
  · exact nice_nm hh (by omega) ha
theorem Nm.key {x : NestedKey} {m : Nat} (h : Nm x m) : Vd.KeyOk x := by
  obtain ⟨h, hh, k, hk, rfl | ⟨a, ha, rfl⟩⟩ := h.ex
  · exact ⟨(by decide : 1 ≤ 8), fun _ z => by cases z⟩
  · exact ⟨(by decide : 1 ≤ 8), fun _ z => by cases z⟩
theorem Nm.nn {x : NestedKey} {m : Nat} (h : Nm x m) : x ≠ .none := by
  obtain ⟨h, hh, k, hk, rfl | ⟨a, ha, rfl⟩⟩ := h.ex
  · exact fun z => by cases z
  · exact fun z => by cases z
theorem Nm.alike {x y : NestedKey} {m n : Nat} (h : Nm x m) (h' : Nm y n) : PySem.W.alike (datK x) (datK y) = true := by
  obtain ⟨h, hh, k, hk, rfl | ⟨a, ha, rfl⟩⟩ := h.ex <;> obtain ⟨h', hh', k', hk', rfl | ⟨a', ha', rfl⟩⟩ := h'.ex <;> rfl
theorem Nm.depth {x : NestedKey} {m : Nat} (h : Nm x m) : (datK x).depth = 1 := by
  obtain ⟨h, hh, k, hk, rfl | ⟨a, ha, rfl⟩⟩ := h.ex <;> rfl
theorem Nm.mono {x : NestedKey} {m n : Nat} (h : Nm x m) (l : m ≤ n) : Nm x n := by
  obtain ⟨h, hh, k, hk, e⟩ := h.ex
  exact ⟨h, hh, k, by omega, e⟩
theorem one_nm {h : Str} {k : Nat} {c : Option Nat} (hh : h ∈ hands) (hc : ∀ n, c = some n → n ≤ 60) : ∀ x ∈ one h k c, Nm x (k + 1) := by
  intro x hx
  cases c with
  | none =>
    rw [List.mem_singleton.mp hx]
    exact ⟨h, hh, k, by omega, .inl rfl⟩
  | some n =>
    obtain ⟨a, ha, rfl⟩ := List.mem_map.mp hx
    have := hc n rfl
    exact ⟨h, hh, k, by omega, .inr ⟨a, by have := List.mem_range.mp ha; omega, rfl⟩⟩
theorem mk_lt {s s' : Int} {h h' : Str} : PySem.W.dataLt (mrk s h) (mrk s' h') = if s = s' then (if h = h' then false else decide (h.cps.toList < h'.cps.toList)) else decide (s < s') := by
  unfold mrk
  rw [PySem.W.dataLt_pair rfl rfl, PyData.eqv.eq_5, PyData.eqv.eq_6, PySem.W.dataLt_str, PySem.W.dataLt_int]
  simp
theorem mk_ne {s s' : Int} {h h' : Str} (l : PySem.W.dataLt (mrk s h) (mrk s' h') = true) : (mrk s h).eqv (mrk s' h') = false := by
  rw [mk_lt] at l
  cases e : (mrk s h).eqv (mrk s' h') with
  | false => rfl
  | true =>
    have e2 : ((s == s') && ((h == h') && true)) = true := by
      have : (mrk s h).eqv (mrk s' h') = ((s == s') && ((h == h') && true)) := by
        unfold mrk
        simp [PyData.eqv, PyData.eqvAll]
      rw [← this]
      exact e
    simp at e2
    rw [if_pos e2.1, if_pos e2.2] at l
    cases l
theorem lt_trans3 {x y z : PyData} (h1 : PySem.W.dataLt x y = true) (h2 : PySem.W.dataLt y z = true) : PySem.W.dataLt x z = true := lex_trans (O := itemOrd) _ _ _ h1 h2
theorem E_lt {m m' : PyData} {x y : NestedKey} {i j : Nat} (hm : ∃ s h s' h', m = mrk s h ∧ m' = mrk s' h') (hx : Nm x i) (hy : Nm y j) (l : PySem.W.dataLt m m' = true) : PySem.W.dataLt (.tuple [m, datK x]) (.tuple [m', datK y]) = true := by
  obtain ⟨s, h, s', h', rfl, rfl⟩ := hm
  rw [PySem.W.dataLt_pair rfl (hx.alike hy), mk_ne l]
  exact l
theorem nm_lt {h : Str} {k a b : Nat} (l : a < b) : PySem.W.dataLt (datK (nm h k a)) (datK (nm h k b)) = true := by
  show PySem.W.dataLt (.tuple [.str h, .int k, .int a]) (.tuple [.str h, .int k, .int b]) = true
  rw [PySem.W.dataLt_tuple, PySem.W.dataLt_all_yes rfl (by rw [PyData.eqv.eq_6]; simp), PySem.W.dataLt_all_yes rfl (by rw [PyData.eqv.eq_5]; simp), PySem.W.dataLt_all_no rfl (by rw [PyData.eqv.eq_5]; simp; omega), PySem.W.dataLt_int]
  simpa using l
theorem mk_alike {s s' : Int} {h h' : Str} : PySem.W.alike (mrk s h) (mrk s' h') = true := rfl
theorem mk_refl {s : Int} {h : Str} : (mrk s h).eqv (mrk s h) = true := by
  unfold mrk
  simp [PyData.eqv, PyData.eqvAll]
theorem nm_ne {h : Str} {k a b : Nat} (l : a ≠ b) : (datK (nm h k a)).eqv (datK (nm h k b)) = false := by
  show (PyData.tuple [.str h, .int k, .int a]).eqv (.tuple [.str h, .int k, .int b]) = false
  simp [PyData.eqv, PyData.eqvAll]
  omega
def Based (b : NestedKey) (ps : List Put) : Prop := b = .none ∨ b ∈ ps.flatMap (·.ns)
structure Drawn (ps : List Put) (st : Int) : Prop where
  back : ∀ as p bs, ps = as ++ p :: bs → Based p.b as
  each : ∀ p ∈ ps, ∃ s h k c, s ≤ st ∧ h ∈ hands ∧ k < ps.length ∧ (∀ n, c = some n → n ≤ 60) ∧ p.m = mrk s h ∧ p.ns = one h k c
  base : ∀ p ∈ ps, p.b = .none ∨ Nm p.b ps.length
  up : ps.Pairwise fun p q => PySem.W.dataLt p.m q.m = true
  dj : ps.Pairwise fun p q => ∀ x ∈ p.ns, ∀ y ∈ q.ns, x ≠ y
  few : ps.length ≤ 64
theorem Drawn.nil {st : Int} : Drawn [] st := ⟨fun as p bs h => (by cases as <;> cases h), fun _ h => (by cases h), fun _ h => (by cases h), .nil, .nil, by decide⟩
theorem Drawn.name {ps : List Put} {st : Int} (D : Drawn ps st) {p : Put} (hp : p ∈ ps) : ∀ x ∈ p.ns, Nm x ps.length := by
  obtain ⟨s, h, k, c, _, hh, hk, hc, _, e⟩ := D.each p hp
  rw [e]
  exact fun x hx => (one_nm hh hc x hx).mono (by omega)
theorem Drawn.mark {ps : List Put} {st : Int} (D : Drawn ps st) {p : Put} (hp : p ∈ ps) : ∃ s h, p.m = mrk s h := by
  obtain ⟨s, h, k, c, _, hh, hk, hc, e, _⟩ := D.each p hp
  exact ⟨s, h, e⟩
theorem Drawn.snoc {ps : List Put} {st st' : Int} (D : Drawn ps st) {h : Str} {c : Option Nat} {b : NestedKey} (hl : ps.length < 64) (hs : st ≤ st') (hh : h ∈ hands) (hc : ∀ n, c = some n → n ≤ 60) (hb0 : Based b ps)
    (hm : ∀ p ∈ ps, PySem.W.dataLt p.m (mrk st' h) = true) : Drawn (ps ++ [⟨mrk st' h, one h ps.length c, b⟩]) st' := by
  have L : (ps ++ [(⟨mrk st' h, one h ps.length c, b⟩ : Put)]).length = ps.length + 1 := by simp
  have hb : b = .none ∨ Nm b ps.length := hb0.imp id fun hx => by
    obtain ⟨p, hp, hx⟩ := List.mem_flatMap.mp hx
    exact D.name hp _ hx
  refine ⟨fun as p bs e => ?_, fun p hp => ?_, fun p hp => ?_, ?_, ?_, by rw [L]; omega⟩
  · rcases List.eq_nil_or_concat bs with rfl | ⟨bs, x, rfl⟩
    · obtain ⟨rfl, e2⟩ := List.append_inj' e rfl
      cases e2
      exact hb0
    · rw [List.concat_eq_append, ← List.cons_append, ← List.append_assoc] at e
      exact D.back as p bs (List.append_inj' e rfl).1
  · rw [L]
    rcases List.mem_append.mp hp with hp | hp
    · obtain ⟨s, h2, k, c2, q1, q2, q3, q4⟩ := D.each p hp
      exact ⟨s, h2, k, c2, by omega, q2, by omega, q4⟩
    · rw [List.mem_singleton.mp hp]
      exact ⟨st', h, _, c, Int.le_refl _, hh, Nat.lt_succ_self _, hc, rfl, rfl⟩
  · rw [L]
    rcases List.mem_append.mp hp with hp | hp
    · exact (D.base p hp).imp id fun z => z.mono (Nat.le_succ _)
    · rw [List.mem_singleton.mp hp]
      exact hb.imp id fun z => z.mono (Nat.le_succ _)
  · rw [List.pairwise_append]
    exact ⟨D.up, by simp, fun p hp q hq => by rw [List.mem_singleton.mp hq]; exact hm p hp⟩
  · rw [List.pairwise_append]
    refine ⟨D.dj, by simp, fun p hp q hq x hx y hy z => ?_⟩
    rw [List.mem_singleton.mp hq] at hy
    subst z
    obtain ⟨h1, _, k1, l1, e1⟩ := (D.name hp x hx).ex
    cases c with
    | none =>
      rw [List.mem_singleton.mp hy] at e1
      rcases e1 with e | ⟨a, _, e⟩
      · cases e
        exact Nat.lt_irrefl _ l1
      · cases e
    | some n =>
      obtain ⟨a, ha, rfl⟩ := List.mem_map.mp hy
      rcases e1 with e | ⟨a, _, e⟩
      · cases e
      · cases e
        exact Nat.lt_irrefl _ l1
theorem chain_names (m : PyData) : ∀ (ns : List NestedKey) (b : NestedKey), (chain m b ns).map (·.n) = ns
  | [], _ => rfl
  | x :: ns, b => congrArg (x :: ·) (chain_names m ns x)
theorem chain_mem (m : PyData) : ∀ (ns : List NestedKey) (b : NestedKey), ∀ s ∈ chain m b ns, s.m = m ∧ s.n ∈ ns ∧ (s.b = b ∨ s.b ∈ ns)
  | [], _, s, h => by cases h
  | x :: ns, b, s, h => by
    rcases List.mem_cons.mp h with rfl | h
    · exact ⟨rfl, List.mem_cons_self .., .inl rfl⟩
    · obtain ⟨h1, h2, h3⟩ := chain_mem m ns x s h
      refine ⟨h1, List.mem_cons_of_mem _ h2, .inr ?_⟩
      rcases h3 with h3 | h3
      · rw [h3]
        exact List.mem_cons_self ..
      · exact List.mem_cons_of_mem _ h3
theorem singles_mem {ps : List Put} {s : Sg} (h : s ∈ singles ps) : ∃ p ∈ ps, s.m = p.m ∧ s.n ∈ p.ns ∧ (s.b = p.b ∨ s.b ∈ p.ns) := by
  obtain ⟨p, hp, hs⟩ := List.mem_flatMap.mp h
  exact ⟨p, hp, chain_mem _ _ _ _ hs⟩
theorem singles_names (ps : List Put) : (singles ps).map (·.n) = ps.flatMap (·.ns) := by
  unfold singles
  rw [List.map_flatMap]
  congr 1
  funext p
  exact chain_names _ _ _
theorem one_len {h : Str} {k : Nat} {c : Option Nat} (hc : ∀ n, c = some n → n ≤ 60) : (one h k c).length ≤ 60 := by
  cases c with
  | none => exact (by decide : 1 ≤ 60)
  | some n =>
    have := hc n rfl
    show ((List.range n).map _).length ≤ 60
    rw [List.length_map, List.length_range]
    exact this
theorem flat_len {α : Type} {f : Put → List α} : ∀ {ps : List Put}, (∀ p ∈ ps, (f p).length ≤ 60) → (ps.flatMap f).length ≤ 60 * ps.length
  | [], _ => Nat.le_refl _
  | p :: ps, h => by
    rw [List.flatMap_cons, List.length_append, List.length_cons]
    have := flat_len fun q hq => h q (List.mem_cons_of_mem _ hq)
    have := h p (List.mem_cons_self ..)
    omega
theorem Drawn.len {ps : List Put} {st : Int} (D : Drawn ps st) : (singles ps).length ≤ 3840 := by
  have : (singles ps).length ≤ 60 * ps.length := flat_len fun p hp => by
    obtain ⟨s, h, k, c, _, hh, hk, hc, _, e⟩ := D.each p hp
    rw [chain_len, e]
    exact one_len hc
  have := D.few
  omega
theorem Drawn.knowns {ps : List Put} {st : Int} (D : Drawn ps st) : (ps.flatMap (·.ns)).length ≤ 3840 := by
  have := D.len
  rw [← singles_names, List.length_map]
  exact this
theorem one_nodup {h : Str} {k : Nat} {c : Option Nat} : (one h k c).Nodup := by
  cases c with
  | none => exact List.nodup_cons.mpr ⟨by simp, List.nodup_nil⟩
  | some n =>
    show ((List.range n).map _).Nodup
    refine List.Pairwise.map _ (fun a b l z => ?_) (List.nodup_range)
    cases z
    exact l rfl
theorem Drawn.tree {ps : List Put} {st : Int} (D : Drawn ps st) : Tree (singles ps) := by
  refine ⟨?_, fun s hs => ?_⟩
  · rw [singles_names]
    unfold List.Nodup
    rw [List.pairwise_flatMap]
    refine ⟨fun p hp => ?_, D.dj⟩
    obtain ⟨s, h, k, c, _, hh, hk, hc, _, e⟩ := D.each p hp
    rw [e]
    exact one_nodup
  · obtain ⟨p, hp, _, h2, _⟩ := singles_mem hs
    exact (D.name hp _ h2).nn
theorem Drawn.key {ps : List Put} {st : Int} (D : Drawn ps st) : ∀ s ∈ singles ps, (s.b = .none ∨ Nm s.b ps.length) ∧ Nm s.n ps.length := by
  intro s hs
  obtain ⟨p, hp, _, h2, h3⟩ := singles_mem hs
  refine ⟨?_, D.name hp _ h2⟩
  rcases h3 with h3 | h3
  · rw [h3]
    exact D.base p hp
  · exact .inr (D.name hp _ h3)
theorem key_of {x : NestedKey} {m : Nat} (h : x = .none ∨ Nm x m) : Vd.KeyOk x := by
  rcases h with rfl | h
  · exact ⟨by decide, fun _ z => by cases z⟩
  · exact h.key
/-- the marks with the names go up -/
theorem Drawn.ups {ps : List Put} {st : Int} (D : Drawn ps st) : (singles ps).Pairwise fun s t => PySem.W.dataLt s.E t.E = true := by
  unfold singles
  rw [List.pairwise_flatMap]
  refine ⟨fun p hp => ?_, D.up.imp_of_mem fun {p q} hp hq l s hs t ht => ?_⟩
  · obtain ⟨s, h, k, c, _, hh, hk, hc, e1, e⟩ := D.each p hp
    have key : ∀ (ns : List NestedKey) (b : NestedKey), (∀ x ∈ ns, ∃ j, Nm x j) → ns.Pairwise (fun x y => PySem.W.dataLt (datK x) (datK y) = true ∧ (datK x).eqv (datK y) = false) → (chain p.m b ns).Pairwise fun s t => PySem.W.dataLt s.E t.E = true := fun ns => by
      induction ns with
      | nil => exact fun _ _ _ => .nil
      | cons x ns ih =>
        intro b hn h
        rw [List.pairwise_cons] at h
        refine List.Pairwise.cons (fun t ht => ?_) (ih x (fun y hy => hn y (List.mem_cons_of_mem _ hy)) h.2)
        obtain ⟨h1, h2, _⟩ := chain_mem _ _ _ _ ht
        obtain ⟨j, nj⟩ := hn x (List.mem_cons_self ..)
        obtain ⟨j', nj'⟩ := hn _ (List.mem_cons_of_mem _ h2)
        obtain ⟨l1, l2⟩ := h.1 _ h2
        show PySem.W.dataLt (.tuple [p.m, datK x]) (.tuple [t.m, datK t.n]) = true
        rw [h1, e1, PySem.W.dataLt_pair rfl (nj.alike nj'), mk_refl, if_pos rfl, l2]
        exact l1
    refine key _ _ (fun x hx => ⟨_, D.name hp x hx⟩) ?_
    rw [e]
    cases c with
    | none => exact List.pairwise_singleton ..
    | some n =>
      show ((List.range n).map _).Pairwise _
      exact List.Pairwise.map _ (fun a b l => ⟨nm_lt l, nm_ne (by omega)⟩) List.pairwise_lt_range
  · obtain ⟨h1, h2, _⟩ := chain_mem _ _ _ _ hs
    obtain ⟨g1, g2, _⟩ := chain_mem _ _ _ _ ht
    obtain ⟨s1, a1, e1⟩ := D.mark hp
    obtain ⟨s2, a2, e2⟩ := D.mark hq
    show PySem.W.dataLt (.tuple [s.m, datK s.n]) (.tuple [t.m, datK t.n]) = true
    rw [h1, g1]
    exact E_lt ⟨s1, a1, s2, a2, e1, e2⟩ (D.name hp _ h2) (D.name hq _ g2) l
end Kr
namespace Kr
open PySem PySem.Spec PyProof.Rows L2 Lf Zl
theorem nmo_alike {x : NestedKey} {m : Nat} (h : x = .none ∨ Nm x m) : PySem.W.alike (datK x) (datK x) = true := by
  rcases h with rfl | h
  · rfl
  · exact h.alike h
theorem names_alike : ∀ {ns : List NestedKey}, (∀ x ∈ ns, ∃ m, Nm x m) → PySem.W.alikeAll (ns.map datK) (ns.map datK) = true
  | [], _ => rfl
  | x :: ns, h => by
    obtain ⟨m, hx⟩ := h x (List.mem_cons_self ..)
    show PySem.W.alikeAll (datK x :: _) (datK x :: _) = true
    rw [PySem.W.alikeAll.eq_1, hx.alike hx, names_alike fun y hy => h y (List.mem_cons_of_mem _ hy)]
    rfl
theorem mrk_eqv {s s' : Int} {h h' : Str} : (mrk s h).eqv (mrk s' h') = (s == s' && h == h') := by
  unfold mrk
  simp [PyData.eqv, PyData.eqvAll]
theorem mrk_sym {s s' : Int} {h h' : Str} (l : (mrk s h).eqv (mrk s' h') = false) : (mrk s' h').eqv (mrk s h) = false := by
  rw [mrk_eqv] at l ⊢
  rw [← l]
  congr 1 <;> exact Bool.beq_comm
theorem Drawn.akin {ps : List Put} {st : Int} (D : Drawn ps st) : ∀ p ∈ ps, ∀ q ∈ ps, Sa.Akin p.D q.D := by
  intro p hp q hq
  obtain ⟨s1, a1, e1⟩ := D.mark hp
  obtain ⟨s2, a2, e2⟩ := D.mark hq
  obtain ⟨i, hi, rfl⟩ := List.mem_iff_getElem.mp hp
  obtain ⟨j, hj, rfl⟩ := List.mem_iff_getElem.mp hq
  have up := D.up
  rw [List.pairwise_iff_getElem] at up
  have diff : (ps[i]'hi).m.eqv (ps[j]'hj).m = false → Sa.Akin (ps[i]'hi).D (ps[j]'hj).D := fun h => .inr ⟨_, _, _, _, rfl, rfl, by rw [e1, e2]; rfl, h⟩
  rcases Nat.lt_trichotomy i j with c | c | c
  · have := up i j hi hj c
    rw [e1, e2] at this
    exact diff (by rw [e1, e2]; exact mk_ne this)
  · subst c
    refine .inl ?_
    show PySem.W.alike (.tuple [(ps[i]'hi).m, .tuple ((ps[i]'hi).ns.map datK), datK (ps[i]'hi).b]) (.tuple [(ps[i]'hi).m, .tuple ((ps[i]'hi).ns.map datK), datK (ps[i]'hi).b]) = true
    rw [PySem.W.alike.eq_6, PySem.W.alikeAll.eq_1, PySem.W.alikeAll.eq_1, PySem.W.alikeAll.eq_1, PySem.W.alike.eq_6, names_alike (fun x hx => ⟨_, D.name hp x hx⟩), nmo_alike (D.base _ hp), e1]
    rfl
  · have := up j i hj hi c
    rw [e1, e2] at this
    exact diff (by rw [e1, e2]; exact mrk_sym (mk_ne this))
theorem lay_all {n : Nat} : ∀ {ds : List PyData}, (∀ d ∈ ds, d.canLay0 = true ∧ d.depth ≤ n) → PyData.canLayAll0 ds = true ∧ PyData.depthAll ds ≤ n
  | [], _ => ⟨rfl, Nat.zero_le _⟩
  | d :: ds, h => by
    obtain ⟨a1, a2⟩ := lay_all fun e he => h e (List.mem_cons_of_mem _ he)
    obtain ⟨b1, b2⟩ := h d (List.mem_cons_self ..)
    refine ⟨?_, ?_⟩
    · rw [PyData.canLayAll0.eq_2, a1, b1]
      rfl
    · rw [PyData.depthAll.eq_2]
      exact Nat.max_le.mpr ⟨b2, a2⟩
theorem mrk_lay {s : Int} {h : Str} (hh : h ∈ hands) : (mrk s h).canLay0 = true ∧ (mrk s h).depth ≤ 1 := by
  refine ⟨?_, Nat.le_refl _⟩
  unfold mrk
  rw [PyData.canLay0, PyData.canLayAll0.eq_2, PyData.canLayAll0.eq_2, (nice_hand h hh).lay]
  rfl
theorem Drawn.lay {ps : List Put} {st : Int} (D : Drawn ps st) : ∀ p ∈ ps, p.D.canLay0 = true ∧ p.D.depth ≤ 10 := by
  intro p hp
  obtain ⟨s, h, k, c, _, hh, hk, hc, e1, e⟩ := D.each p hp
  have n1 : ∀ d ∈ p.ns.map datK, d.canLay0 = true ∧ d.depth ≤ 8 := fun d hd => by
    obtain ⟨x, hx, rfl⟩ := List.mem_map.mp hd
    have := (D.name hp x hx).nice D.few
    exact ⟨this.lay, this.dep⟩
  obtain ⟨a1, a2⟩ := lay_all n1
  have b1 : (datK p.b).canLay0 = true ∧ (datK p.b).depth ≤ 8 := by
    rcases D.base p hp with h | h
    · rw [h]
      exact ⟨rfl, Nat.zero_le _⟩
    · have := h.nice D.few
      exact ⟨this.lay, this.dep⟩
  obtain ⟨c1, c2⟩ := lay_all (ds := [p.m, .tuple (p.ns.map datK), datK p.b]) (n := 9) fun d hd => by
    rcases List.mem_cons.mp hd with rfl | hd
    · rw [e1]
      exact ⟨(mrk_lay hh).1, by have := (mrk_lay (s := s) hh).2; omega⟩
    rcases List.mem_cons.mp hd with rfl | hd
    · exact ⟨by rw [PyData.canLay0]; exact a1, by rw [PyData.depth]; omega⟩
    rw [List.mem_singleton.mp hd]
    exact ⟨b1.1, by omega⟩
  exact ⟨by unfold Put.D; rw [PyData.canLay0]; exact c1, by unfold Put.D; rw [PyData.depth]; omega⟩
theorem Drawn.shaped {ps : List Put} {st : Int} (D : Drawn ps st) : SeqAt.shaped (.list (ps.map Put.D)) = true := by
  obtain ⟨a1, a2⟩ := lay_all (ds := ps.map Put.D) (n := 10) fun d hd => by
    obtain ⟨p, hp, rfl⟩ := List.mem_map.mp hd
    exact D.lay p hp
  unfold SeqAt.shaped
  rw [PyData.canLay0.eq_5, a1, Bool.true_and, decide_eq_true_eq, PyData.depth]
  omega
theorem Drawn.line {ps : List Put} {st : Int} (D : Drawn ps st) : LineOk ps := by
  refine ⟨?_, D.akin, fun p hp => by have := (D.lay p hp).2; omega, fun p hp => ?_, fun s hs => ⟨key_of (D.key s hs).1, (D.key s hs).2.key⟩, by have := D.len; omega, fun s hs => (D.key s hs).2.nice D.few⟩
  · rw [List.pairwise_map]
    refine D.up.imp_of_mem fun {p q} hp hq l => ?_
    obtain ⟨s1, a1, e1⟩ := D.mark hp
    obtain ⟨s2, a2, e2⟩ := D.mark hq
    rw [e1, e2] at l
    show PySem.W.dataLt (.tuple [p.m, _, _]) (.tuple [q.m, _, _]) = true
    rw [PySem.W.dataLt_tuple, e1, e2, PySem.W.dataLt_all_no rfl (mk_ne l)]
    exact l
  · obtain ⟨s1, a1, e1⟩ := D.mark hp
    rw [e1]
    rfl
theorem Drawn.puts {ps qs : List Put} {st : Int} (D : Drawn ps st) (pm : qs.Perm ps) : PutsOk qs ∧ Tree (singles qs) ∧ (singles qs).Perm (singles ps) := by
  have ps2 : (singles qs).Perm (singles ps) := pm.flatMap_right _
  have mem : ∀ s ∈ singles qs, s ∈ singles ps := fun s hs => ps2.mem_iff.mp hs
  refine ⟨⟨?_, fun s hs => ?_, fun s hs => ?_, fun s hs t ht _ => ?_⟩, ⟨?_, fun s hs => D.tree.nn s (mem s hs)⟩, ps2⟩
  · rw [ps2.length_eq]
    have := D.len
    omega
  · exact ⟨key_of (D.key s (mem s hs)).1, (D.key s (mem s hs)).2.key⟩
  · obtain ⟨p, hp, h1, h2, _⟩ := singles_mem (mem s hs)
    obtain ⟨s1, a1, e1⟩ := D.mark hp
    refine ⟨by rw [h1, e1]; rfl, ?_⟩
    show (PyData.tuple [s.m, datK s.n]).depth ≤ 50
    rw [h1, e1, PyData.depth, PyData.depthAll.eq_2, PyData.depthAll.eq_2, (D.name hp _ h2).depth]
    exact (by decide : 2 ≤ 50)
  · obtain ⟨p, hp, h1, h2, _⟩ := singles_mem (mem s hs)
    obtain ⟨q, hq, g1, g2, _⟩ := singles_mem (mem t ht)
    obtain ⟨s1, a1, e1⟩ := D.mark hp
    obtain ⟨s2, a2, e2⟩ := D.mark hq
    refine .inl ?_
    show PySem.W.alike (.tuple [s.m, datK s.n]) (.tuple [t.m, datK t.n]) = true
    rw [h1, g1, e1, e2, PySem.W.alike.eq_6, PySem.W.alikeAll.eq_1, PySem.W.alikeAll.eq_1, (D.name hp _ h2).alike (D.name hq _ g2)]
    rfl
  · exact ((ps2.map _).nodup_iff).mpr D.tree.nd
/-- what stands behind each, in the order of the marks, is what was put there, in the order it was drawn -/
theorem Drawn.ord {ps qs : List Put} {st : Int} (D : Drawn ps st) (pm : qs.Perm ps) {cl : NestedKey → List Sg} (o : Ord (singles qs) cl) : chOf cl = beh (singles ps) := by
  funext b
  obtain ⟨_, _, p2⟩ := D.puts pm
  have up : (((singles ps).filter fun s => s.b = b).map Sg.E).Pairwise fun x y => PySem.W.dataLt x y = true := by
    rw [List.pairwise_map]
    exact D.ups.filter _
  have e1 := o.1 b
  have e2 : (cl b).Perm ((singles ps).filter fun s => s.b = b) := e1.trans (p2.filter _)
  have e3 := sorted_is up (e2.map _) (o.2 b)
  have : ∀ s t : Sg, s.E = t.E → s.n = t.n := fun s t h => by
    have h1 : datK s.n = datK t.n := by
      unfold Sg.E at h
      injection h with h
      injection h with _ h
      injection h
    have := congrArg keyD h1
    rw [keyD_datK, keyD_datK] at this
    exact Option.some.inj this
  have mp : ∀ (a b : List Sg), a.map Sg.E = b.map Sg.E → a.map (·.n) = b.map (·.n) := fun a => by
    induction a with
    | nil =>
      intro b h
      cases b with
      | nil => rfl
      | cons x b => cases h
    | cons x a ih =>
      intro b h
      cases b with
      | nil => cases h
      | cons y b =>
        injection h with h1 h2
        show x.n :: _ = y.n :: _
        rw [this x y h1, ih b h2]
  exact mp _ _ e3
end Kr
namespace Kr
open PySem PySem.Spec PyProof.Rows L2 Lf Zl
def handsV : List Val := [.dat (.str "a"), .dat (.str "b"), .dat (.str "ab"), .dat (.str "zz")]
theorem hands_cut {l : Int} (h : 0 ≤ l) (h1 : l < 4) : ∃ hs : List Str, cutG handsV none (some (1 + l)) = hs.map (fun h => .dat (.str h)) ∧ (∀ h ∈ hs, h ∈ hands4) ∧ 0 < hs.length ∧ hs.length ≤ 4 := by
  obtain ⟨n, rfl⟩ := Int.eq_ofNat_of_zero_le h
  rcases n with _ | _ | _ | _ | n
  · exact ⟨["a"], rfl, by decide, by decide, by decide⟩
  · exact ⟨["a", "b"], rfl, by decide, by decide, by decide⟩
  · exact ⟨["a", "b", "ab"], rfl, by decide, by decide, by decide⟩
  · exact ⟨["a", "b", "ab", "zz"], rfl, by decide, by decide, by decide⟩
  · omega
theorem atI_in {α : Type} {xs : List α} {k : Int} (h0 : 0 ≤ k) (h1 : k < xs.length) : ∃ n : Nat, ∃ h : n < xs.length, k = n ∧ atI xs k = some xs[n] := by
  obtain ⟨n, rfl⟩ := Int.eq_ofNat_of_zero_le h0
  have hn : n < xs.length := by omega
  exact ⟨n, hn, rfl, atI_nat (List.getElem?_eq_getElem hn)⟩
theorem atI_neg {α : Type} {xs : List α} {l : Int} (h0 : 0 ≤ l) (h1 : l < xs.length) : ∃ x ∈ xs, atI xs (-1 - l) = some x := by
  obtain ⟨n, rfl⟩ := Int.eq_ofNat_of_zero_le h0
  have hn : n < xs.length := by omega
  have e : ixN xs.length (-1 - (n : Int)) = some (xs.length - 1 - n) := by
    unfold ixN
    rw [if_neg (by omega), if_pos (by omega)]
    congr 1
    omega
  refine ⟨xs[xs.length - 1 - n]'(by omega), List.getElem_mem _, ?_⟩
  unfold atI
  rw [e]
  exact List.getElem?_eq_getElem _
theorem atI_last {α : Type} {xs : List α} {x : α} : atI (xs ++ [x]) (-1) = some x := by
  have e : ixN (xs ++ [x]).length (-1) = some xs.length := by
    unfold ixN
    rw [List.length_append, List.length_singleton, if_neg (by omega), if_pos (by omega)]
    congr 1
    omega
  unfold atI
  rw [e]
  simp
def sizes : List Val := [.dat (.int 1), .dat (.int 1), .dat (.int 2), .dat (.int 5)]
theorem size_at {k : Int} (h0 : 0 ≤ k) (h1 : k < 4) : ∃ n : Nat, atI sizes k = some (.dat (.int n)) ∧ 0 < n ∧ n ≤ 60 := by
  obtain ⟨n, rfl⟩ := Int.eq_ofNat_of_zero_le h0
  rcases n with _ | _ | _ | _ | n
  · exact ⟨1, rfl, by decide, by decide⟩
  · exact ⟨1, rfl, by decide, by decide⟩
  · exact ⟨2, rfl, by decide, by decide⟩
  · exact ⟨5, rfl, by decide, by decide⟩
  · omega
section
variable {P : Program} {w : World} {K : PySem.W.Frag} {mg : Str → Option Value} {base : Heap}
/-- hands of the law's own, as they were drawn -/
def Four (ps : List Put) : Prop := ∀ p ∈ ps, ∃ s h k c, 0 ≤ s ∧ s ≤ 200 ∧ h ∈ hands4 ∧ p.m = mrk s h ∧ p.ns = one h k c ∧ ∀ n, c = some n → 0 < n
theorem four_in : ∀ h ∈ hands4, h ∈ hands := by decide
theorem Four.snoc {ps : List Put} (F : Four ps) {s : Int} {h : Str} {k : Nat} {c : Option Nat} {b : NestedKey} (s0 : 0 ≤ s) (s1 : s ≤ 200) (hh : h ∈ hands4) (hc : ∀ n, c = some n → 0 < n) : Four (ps ++ [⟨mrk s h, one h k c, b⟩]) := fun p hp => by
  rcases List.mem_append.mp hp with hp | hp
  · exact F p hp
  · rw [List.mem_singleton.mp hp]
    exact ⟨s, h, k, c, s0, s1, hh, rfl, rfl, hc⟩
def fPuts : DSp := fun xs μ Q => ∃ u d s c N m, xs = [.ptr u, .dat (.int m)] ∧ μ = [(u, urnN d s c)] ∧ UrnOk d s c N ∧ N ≤ 1000 ∧ 0 ≤ m ∧ m ≤ 60 ∧
  ∀ p ps st d' c', Drawn ps st → Four ps → UrnOk d' s c' (N + 1000) → Q (.ptr p) [(u, urnN d' s c'), (p, .lst (ps.map fun p => .dat p.D))]
abbrev sPuts : Stmt := topS 10
theorem scPuts : FnScope ["_law_urn_here", "_law_most", "_law_hands", "_law_found", "_law_known", "_law_stamp", "_law_k", "_law_hand", "_law_base", "_law_size", "_law_names", "_law_at"] ["_law_urn_here", "_law_most"] (defScope sPuts) := ⟨rfl, rfl, rfl, by decide +kernel, rfl, by decide +kernel, by decide +kernel⟩
abbrev known (ps : List Put) : Node := .lst ((ps.flatMap (·.ns)).map fun x => .dat (datK x))
abbrev found (ps : List Put) : Node := .lst (ps.map fun p => .dat p.D)
theorem ok_puts {f : Addr} {fd : FuncData} (F : Fun K "_law_puts" "_law_puts" sPuts f fd) (T : Bs mg) (c__law_lot : CalZ P w K mg base 1 "_law_lot" ["_law_urn_here", "_law_many"] fLot) : FnOk P w K mg base CX0 2 f fd ["_law_urn_here", "_law_most"] (spZ w K fPuts) := by
  refine Fun.okZ F scPuts (fun xs μ Q h => ?_) (fun cdv A outer s H E hr => ?_)
  · obtain ⟨u, d, s, c, N, m, rfl, _⟩ := h
    rfl
  · have nd := scPuts.nd
    refine ⟨_, (dss_cons (ds_set (i := 2) nd rfl (Or.inl rfl) (d_slice (d_lst (da_cons d_str (da_cons d_str (da_cons d_str (da_cons d_str da_nil))))) do_none (do_some (d_bin oz_add d_int (d_own1 c__law_lot (hr.mono (by decide)) (by rfl) (da_cons (dv 0) (da_cons d_int da_nil)))))))
  (dss_cons (ds_set (i := 3) nd rfl (Or.inl rfl) (d_lst da_nil))
  (dss_cons (ds_set (i := 4) nd rfl (Or.inl rfl) (d_lst da_nil))
  (dss_cons (ds_set (i := 5) nd rfl (Or.inl rfl) d_int)
  (dss_cons (ds_for PassesOwn.never rfl (di_range1 (by rfl) T.range (da_cons (d_own1 c__law_lot (hr.mono (by decide)) (by rfl) (da_cons (dv 0) (da_cons (d_bin oz_add (dv 1) d_int) da_nil))) da_nil)) (dg_name (i := 6) nd rfl (Or.inr rfl))
  (dss_cons (ds_set (i := 7) nd rfl (Or.inr rfl) (d_ix (dv 2) (d_own1 c__law_lot (hr.mono (by decide)) (by rfl) (da_cons (dv 0) (da_cons (d_callB ca_len (by rfl) T.len PySem.boot_len (da_cons (dv 2) da_nil)) da_nil))) (fun _ _ => rfl)))
  (dss_cut (ds_if (DW.dt (dw_and (dt_cmp (oz_ne hr.units) (dv 3) (d_lst da_nil) (nomark _)) (dw_and1 (DW.dt (dw_or (dt_cmp (oz_ge hr.units) (d_ix (d_ix (dv 3) (d_neg d_int) (fun _ _ => rfl)) d_int (fun _ _ => rfl)) (d_tup (da_cons (dv 5) (da_cons (dv 7) da_nil))) (nomark _)) (dw_or1 (dt_cmp (oz_eq hr.units) (d_own1 c__law_lot (hr.mono (by decide)) (by rfl) (da_cons (dv 0) (da_cons d_int da_nil))) d_int (nomark _))))))))
  (dss_one (ds_set (i := 5) nd rfl (Or.inl rfl) (d_bin oz_add (d_bin oz_add (dv 5) d_int) (d_own1 c__law_lot (hr.mono (by decide)) (by rfl) (da_cons (dv 0) (da_cons d_int da_nil))))))
  dss_nil)
  (dss_cons (ds_set (i := 8) nd rfl (Or.inl rfl) (d_ix (d_bin oz_add (d_lst (da_cons d_non da_nil)) (dv 4)) (d_own1 c__law_lot (hr.mono (by decide)) (by rfl) (da_cons (dv 0) (da_cons (d_bin oz_add (d_callB ca_len (by rfl) T.len PySem.boot_len (da_cons (dv 4) da_nil)) d_int) da_nil))) (fun _ _ => rfl)))
  (dss_cut (ds_if (DW.dt (dw_and (dt_cmp (oz_ne hr.units) (dv 4) (d_lst da_nil) (nomark _)) (dw_and1 (dt_cmp (oz_eq hr.units) (d_own1 c__law_lot (hr.mono (by decide)) (by rfl) (da_cons (dv 0) (da_cons d_int da_nil))) d_int (nomark _)))))
  (dss_one (ds_set (i := 8) nd rfl (Or.inl rfl) (d_ix (dv 4) (d_bin oz_sub (d_neg d_int) (d_own1 c__law_lot (hr.mono (by decide)) (by rfl) (da_cons (dv 0) (da_cons (d_callB (ca_min2 rfl) (by rfl) T.min (by decide +kernel) (da_cons d_int (da_cons (d_callB ca_len (by rfl) T.len PySem.boot_len (da_cons (dv 4) da_nil)) da_nil))) da_nil)))) (fun _ _ => rfl))))
  dss_nil)
  (dss_cons (ds_set (i := 9) nd rfl (Or.inl rfl) (d_ix (d_lst (da_cons d_int (da_cons d_int (da_cons d_int (da_cons d_int da_nil))))) (d_own1 c__law_lot (hr.mono (by decide)) (by rfl) (da_cons (dv 0) (da_cons d_int da_nil))) (fun _ _ => rfl)))
  (dss_cons (ds_set (i := 10) nd rfl (Or.inl rfl) (d_callTy ca_tuple (by rfl) T.tuple (by decide +kernel) (da_cons (d_lc (own := [("_law_at", 11)]) rfl nd (di_range1 (by rfl) T.range (da_cons (dv 9) da_nil)) (blkOk_by (own := [("_law_at", 11)]) (N := ["_law_urn_here", "_law_most", "_law_hands", "_law_found", "_law_known", "_law_stamp", "_law_k", "_law_hand", "_law_base", "_law_size", "_law_names", "_law_at"]) (sc := defScope (topS 10)) (by decide +kernel)) (put_name (i := 11) (by decide)) (fun _ _ _ _ _ => (pg_name (i := 11) nd rfl (Or.inl rfl))) (fun _ _ _ _ _ => dts_nil) (fun _ _ _ _ _ => (d_tup (da_cons (dv 7) (da_cons (dv 6) (da_cons (dv 11) da_nil)))))) da_nil)))
  (dss_cut (ds_if (dt_cmp (oz_eq hr.units) (d_own1 c__law_lot (hr.mono (by decide)) (by rfl) (da_cons (dv 0) (da_cons d_int da_nil))) d_int (nomark _))
  (dss_one (ds_set (i := 10) nd rfl (Or.inl rfl) (d_tup (da_cons (d_tup (da_cons (dv 7) (da_cons (dv 6) da_nil))) da_nil))))
  dss_nil)
  (dss_cons (ds_expr (d_lm PySem.F.slot_list_extend PySem.F.type_list_extend me_extend2 (dv 4) (da_cons (dv 10) da_nil)))
  (dss_one (ds_expr (d_lm PySem.F.slot_list_append PySem.F.type_list_append me_append (dv 3) (da_cons (d_tup (da_cons (d_tup (da_cons (dv 5) (da_cons (dv 7) da_nil))) (da_cons (dv 10) (da_cons (dv 8) da_nil)))) da_nil)))))))))))))
  (dss_one (ds_ret (dv 3)))))))), ?_⟩
    rintro xs μ Q ⟨u, d, s, c, N, m, rfl, rfl, ok, hN, m0, m1, q⟩
    have ez : sizeLine = 16777216 := by decide +kernel
    refine ⟨(by decide : 4 ≤ sizeLine), fun t0 => ⟨0, u, _, rfl, u, d, s, c, N, 4, rfl, rfl, ok, by omega, by decide, by decide, fun l d1 c1 l0 l1 ok1 => ⟨_, _, rfl, 1, handsV, rfl, fun hl => ?_⟩⟩⟩
    obtain ⟨hs, eh, hin, hpos, hfew⟩ := hands_cut l0 l1
    rw [eh]
    refine ⟨Nat.zero_le _, fun fo => ⟨Nat.zero_le _, fun kn => ⟨0, u, _, rfl, u, d1, s, c1, N + 1, m + 1, rfl, rfl, ok1, by omega, by omega, by omega, fun t d2 c2 t0' t1 ok2 => ⟨_, _, rfl, by omega, by omega, ?_⟩⟩⟩⟩
    refine ⟨fun i ρ μ => ∃ y6 y7 y8 y9 y10 y11 ps st d' c', ρ = [some (.ptr u), some (.dat (.int m)), some (.ptr hl), some (.ptr fo), some (.ptr kn), some (.dat (.int st)), y6, y7, y8, y9, y10, y11] ∧
      μ = [(u, urnN d' s c'), (t0, .lst handsV), (hl, .lst (hs.map fun h => .dat (.str h))), (fo, found ps), (kn, known ps)] ∧ Drawn ps st ∧ Four ps ∧ (0 ≤ st ∧ st ≤ 2 * (i : Int)) ∧ ps.length = i ∧ UrnOk d' s c' (N + 2 + 8 * i),
      ⟨_, _, _, _, _, _, [], 0, d2, c2, rfl, rfl, .nil, fun _ h => (by cases h), ⟨Int.le_refl _, by decide⟩, rfl, ok2⟩, fun _ _ _ _ _ => trivial, ?_, ?_⟩
    · rintro i y ρ μ hy ⟨y6, y7, y8, y9, y10, y11, ps, st, d', c', rfl, rfl, D, F4, hst2, hi, ok'⟩
      have hlt : i < t.toNat := by
        have := (List.getElem?_eq_some_iff.mp hy).1
        rwa [rangeZ_len] at this
      rw [rangeZ_get hlt] at hy
      cases hy
      rw [Int.zero_add]
      have fu : ps.length ≤ 60 := by omega
      have fl : (ps.map fun p => Val.dat p.D).length = i := by rw [List.length_map]; exact hi
      have kl := D.knowns
      have ed : datOf (ps.map fun p => Val.dat p.D) = some (ps.map Put.D) := by rw [← datOf_map (ps.map Put.D), List.map_map]; rfl
      refine ⟨2, _, rfl, 0, u, _, rfl, u, d', s, c', _, _, rfl, rfl, ok', by omega, by rw [List.length_map]; omega, by rw [List.length_map]; omega, fun k d3 c3 k0 k1 ok3 => ⟨_, _, rfl, ?_⟩⟩
      obtain ⟨kk, hkk, rfl, ek⟩ := atI_in k0 k1
      rw [List.length_map] at hkk
      have h4 : hs[kk] ∈ hands4 := hin _ (List.getElem_mem _)
      rw [List.getElem_map] at ek
      refine ⟨2, _, _, rfl, ek, ?_⟩
      generalize hs[kk] = h at h4
      have hh := four_in h h4
      -- the stamp
      refine ⟨fun ρ μ => ∃ st' d' c' x5, ρ = [some (.ptr u), some (.dat (.int m)), some (.ptr hl), some (.ptr fo), some (.ptr kn), some (.dat (.int st')), some (.dat (.int i)), some (.dat (.str h)), y8, y9, y10, y11] ∧
        μ = [(u, urnN d' s c'), (t0, .lst handsV), (hl, .lst (hs.map fun h => .dat (.str h))), (fo, found ps), (kn, known ps), x5] ∧ UrnOk d' s c' (N + 2 + 8 * i + 3) ∧ (st ≤ st' ∧ st' ≤ st + 2) ∧ ∀ p ∈ ps, PySem.W.dataLt p.m (mrk st' h) = true, ?_, ?_⟩
      · refine ⟨Nat.zero_le _, fun e1 => ⟨.list (ps.map Put.D), .list [], .p 3 rfl ed, .p 5 rfl rfl, D.shaped, rfl, ?_⟩⟩
        have ms : ∀ p ∈ ps, ∃ s1 h1, p.m = mrk s1 h1 ∧ s1 ≤ st := fun p hp => by
          obtain ⟨s1, h1, k1, c1, l1, _, _, _, e, _⟩ := D.each p hp
          exact ⟨s1, h1, e, l1⟩
        have fin : ∀ {t d c : Int} {x5 : Addr × Node}, 0 ≤ t → t < 2 → UrnOk d s c (N + 2 + 8 * i + 3) → ∃ st' d' c' x5', [some (.ptr u), some (.dat (.int m)), some (.ptr hl), some (.ptr fo), some (.ptr kn), some (.dat (.int (st + 1 + t))), some (.dat (.int i)), some (.dat (.str h)), y8, y9, y10, y11] = [some (.ptr u), some (.dat (.int m)), some (.ptr hl), some (.ptr fo), some (.ptr kn), some (.dat (.int st')), some (.dat (.int i)), some (.dat (.str h)), y8, y9, y10, y11] ∧
            ([(u, urnN d s c), (t0, .lst handsV), (hl, .lst (hs.map fun h => .dat (.str h))), (fo, found ps), (kn, known ps), x5] : Store) = [(u, urnN d' s c'), (t0, .lst handsV), (hl, .lst (hs.map fun h => .dat (.str h))), (fo, found ps), (kn, known ps), x5'] ∧ UrnOk d' s c' (N + 2 + 8 * i + 3) ∧ (st ≤ st' ∧ st' ≤ st + 2) ∧ ∀ p ∈ ps, PySem.W.dataLt p.m (mrk st' h) = true := fun {t d c x5} t0' t1' ok => by
          refine ⟨st + 1 + t, d, c, x5, rfl, rfl, ok, by omega, fun p hp => ?_⟩
          obtain ⟨s1, h1, e, le⟩ := ms p hp
          rw [e, Kr.mk_lt, if_neg (by omega)]
          exact decide_eq_true (by omega)
        rcases List.eq_nil_or_concat ps with rfl | ⟨ps', p, rfl⟩
        · exact ⟨st, d3, c3, _, rfl, rfl, ok3.more (by omega), ⟨Int.le_refl _, by omega⟩, fun p hp => (by cases hp)⟩
        · rw [List.concat_eq_append] at *
          have ev : (PyData.list ((ps' ++ [p]).map Put.D)).eqv (.list []) = false := by
            cases ps' <;> rfl
          rw [ev]
          have hp : p ∈ ps' ++ [p] := by simp
          obtain ⟨s1, h1, em, l1⟩ := ms p hp
          have up := D.up
          rw [List.pairwise_append] at up
          have last : ∀ {x : PyData}, PySem.W.dataLt p.m x = true → ∀ q ∈ ps' ++ [p], PySem.W.dataLt q.m x = true := fun {x} hx q hq => by
            rcases List.mem_append.mp hq with hq | hq
            · exact lt_trans3 (up.2.2 q hq p (by simp)) hx
            · rw [List.mem_singleton.mp hq]
              exact hx
          refine ⟨3, _, .dat p.D, rfl, by rw [List.map_append]; exact atI_last, _, rfl, (by decide : 2 ≤ sizeLine), ?_⟩
          rw [em]
          refine ⟨rfl, fun z => (by cases z), (by show 1 ≤ 50; decide), ?_⟩
          refine ite2 (fun c' => ?_) (fun c' => ?_)
          · refine ⟨0, u, _, rfl, u, _, s, _, _, 2, rfl, rfl, ok3, by omega, by decide, by decide, fun t d4 c4 t0' t1' ok4 => ⟨_, _, rfl, fin t0' t1' (ok4.more (by omega))⟩⟩
          · have lt : PySem.W.dataLt (mrk s1 h1) (mrk st h) = true := by
              cases e : PySem.W.dataLt (mrk s1 h1) (mrk st h) with
              | true => rfl
              | false =>
                have c2 : ¬ (!PySem.W.dataLt (mrk s1 h1) (mrk st h)) = true := c'
                rw [e] at c2
                exact absurd rfl c2
            refine ⟨0, u, _, rfl, u, _, s, _, _, 2, rfl, rfl, ok3, by omega, by decide, by decide, fun t d4 c4 t0' t1' ok4 => ⟨_, _, rfl, ?_⟩⟩
            refine ite2 (fun _ => ?_) (fun _ => ?_)
            · refine ⟨0, u, _, rfl, u, _, s, _, _, 2, rfl, rfl, ok4, by omega, by decide, by decide, fun t d5 c5 t0' t1' ok5 => ⟨_, _, rfl, fin t0' t1' ok5⟩⟩
            · exact ⟨st, d4, c4, _, rfl, rfl, ok4.more (by omega), ⟨Int.le_refl _, by omega⟩, last (by rw [em]; exact lt)⟩
      rintro ρ μ ⟨st', d4, c4, x5, rfl, rfl, ok4, hst, hmk⟩
      -- what it is put behind
      have kn1 : Val.dat .none :: (ps.flatMap (·.ns)).map (fun x => Val.dat (datK x)) = (.none :: ps.flatMap (·.ns)).map fun x => Val.dat (datK x) := rfl
      have nmk : ∀ x ∈ ps.flatMap (·.ns), Nm x ps.length := fun x hx => by
        obtain ⟨p, hp, hx⟩ := List.mem_flatMap.mp hx
        exact D.name hp x hx
      have shk : SeqAt.shaped (.list ((ps.flatMap (·.ns)).map datK)) = true := nice_shaped fun d hd => by
        obtain ⟨x, hx, rfl⟩ := List.mem_map.mp hd
        exact (nmk x hx).nice D.few
      have edk : datOf ((ps.flatMap (·.ns)).map fun x => Val.dat (datK x)) = some ((ps.flatMap (·.ns)).map datK) := by rw [← datOf_map ((ps.flatMap (·.ns)).map datK), List.map_map]; rfl
      refine ⟨(by decide : 1 ≤ sizeLine), fun n6 => ⟨_, _, .p 6 rfl, .p 4 rfl, ?_, fun n7 => ?_⟩⟩
      · rw [List.length_map, ez]
        show 1 + _ ≤ _
        omega
      refine ⟨4, _, rfl, 0, u, _, rfl, u, _, s, _, _, _, rfl, rfl, ok4, by omega, by omega, by rw [List.length_map]; omega, fun t d5 c5 t0' t1' ok5 => ⟨_, _, rfl, ?_⟩⟩
      rw [List.length_map] at t1'
      obtain ⟨nn, hnn, rfl, en⟩ := atI_in (xs := NestedKey.none :: ps.flatMap (·.ns)) t0' (by rw [List.length_cons]; omega)
      refine ⟨7, _, _, rfl, by show atI (Val.dat .none :: (ps.flatMap (·.ns)).map _) _ = _; rw [kn1]; exact atI_map en, ?_⟩
      have hb0 := List.getElem_mem hnn
      generalize (NestedKey.none :: ps.flatMap (·.ns))[nn] = b0 at hb0
      have hb1 : Based b0 ps := List.mem_cons.mp hb0
      refine ⟨fun ρ μ => ∃ b d' c' x5 x6 x7 x8, ρ = [some (.ptr u), some (.dat (.int m)), some (.ptr hl), some (.ptr fo), some (.ptr kn), some (.dat (.int st')), some (.dat (.int i)), some (.dat (.str h)), some (.dat (datK b)), y9, y10, y11] ∧
        μ = [(u, urnN d' s c'), (t0, .lst handsV), (hl, .lst (hs.map fun h => .dat (.str h))), (fo, found ps), (kn, known ps), x5, x6, x7, x8] ∧ UrnOk d' s c' (N + 2 + 8 * i + 6) ∧ Based b ps, ?_, ?_⟩
      · refine ⟨Nat.zero_le _, fun e8 => ⟨.list ((ps.flatMap (·.ns)).map datK), .list [], .p 4 rfl edk, .p 8 rfl rfl, shk, rfl, ?_⟩⟩
        cases ek : ps.flatMap (·.ns) with
        | nil => exact ⟨b0, d5, c5, _, _, _, _, rfl, by rw [← ek]; rfl, ok5.more (by omega), hb1⟩
        | cons x xs =>
          refine ⟨0, u, _, rfl, u, _, s, _, _, 2, rfl, rfl, ok5, by omega, by decide, by decide, fun t d6 c6 t0' t1' ok6 => ⟨_, _, rfl, ?_⟩⟩
          refine ite2 (fun _ => ?_) (fun _ => ⟨b0, d6, c6, _, _, _, _, rfl, rfl, ok6.more (by omega), hb1⟩)
          refine ⟨4, _, rfl, 0, u, _, rfl, u, _, s, _, _, _, rfl, rfl, ok6, by omega, ?_, ?_, fun t d7 c7 t0' t1' ok7 => ⟨_, _, rfl, ?_⟩⟩
          · show (0 : Int) < if (((ps.flatMap (·.ns)).map fun x => Val.dat (datK x)).length : Int) < 4 then (((ps.flatMap (·.ns)).map fun x => Val.dat (datK x)).length : Int) else 4
            rw [List.length_map, ek, List.length_cons]
            split <;> omega
          · show (if (((ps.flatMap (·.ns)).map fun x => Val.dat (datK x)).length : Int) < 4 then (((ps.flatMap (·.ns)).map fun x => Val.dat (datK x)).length : Int) else 4) ≤ 1000000
            split <;> omega
          have tl : t < (ps.flatMap (·.ns)).length := by
            have : t < if (((ps.flatMap (·.ns)).map fun x => Val.dat (datK x)).length : Int) < 4 then (((ps.flatMap (·.ns)).map fun x => Val.dat (datK x)).length : Int) else 4 := t1'
            rw [List.length_map] at this
            split at this <;> omega
          obtain ⟨z, hz, ez2⟩ := atI_neg (xs := ps.flatMap (·.ns)) t0' tl
          exact ⟨4, _, _, rfl, atI_map ez2, z, d7, c7, _, _, _, _, rfl, rfl, ok7, .inr hz⟩
      rintro ρ μ ⟨b, d8, c8, x5, x6, x7, x8, rfl, rfl, ok8, hb⟩
      -- the names
      refine ⟨(by decide : 4 ≤ sizeLine), fun e9 => ⟨0, u, _, rfl, u, _, s, _, _, 4, rfl, rfl, ok8, by omega, by decide, by decide, fun t d9 c9 t0' t1' ok9 => ⟨_, _, rfl, ?_⟩⟩⟩
      obtain ⟨sz, esz, hsz⟩ := size_at t0' t1'
      refine ⟨9, sizes, _, rfl, esz, ?_⟩
      refine ⟨by omega, by omega, fun n acc μ => μ = [(u, urnN d9 s c9), (t0, .lst handsV), (hl, .lst (hs.map fun h => .dat (.str h))), (fo, found ps), (kn, known ps), x5, x6, x7, x8, (e9, .lst sizes)] ∧ acc = (List.range n).map (fun a => Val.dat (datK (nm h i a))), ⟨rfl, rfl⟩, fun _ _ _ _ _ => trivial, ?_, ?_⟩
      · rintro n y acc μ hy ⟨rfl, rfl⟩
        have hn : n < sz := by
          have := (List.getElem?_eq_some_iff.mp hy).1
          rw [rangeZ_len] at this
          omega
        rw [rangeZ_get (by omega)] at hy
        cases hy
        rw [Int.zero_add]
        refine ⟨_, rfl, (by decide : 3 ≤ sizeLine), by rw [List.length_map, List.length_range, ez]; omega, _, .refl _, rfl, ?_⟩
        rw [List.range_succ, List.map_append]
        rfl
      rintro acc μ ⟨rfl, rfl⟩ p10
      rw [rangeZ_len]
      have e0 : ((sz : Int)).toNat = sz := Int.toNat_natCast sz
      rw [e0]
      refine ⟨10, _, rfl, (List.range sz).map (fun a => datK (nm h i a)), by rw [← datOf_map ((List.range sz).map _), List.map_map]; rfl, ?_⟩
      refine ⟨fun ρ μ => ∃ co d' c' x9 x10 y9, ρ = [some (.ptr u), some (.dat (.int m)), some (.ptr hl), some (.ptr fo), some (.ptr kn), some (.dat (.int st')), some (.dat (.int i)), some (.dat (.str h)), some (.dat (datK b)), y9, some (.dat (.tuple ((one h i co).map datK))), y11] ∧
        μ = [(u, urnN d' s c'), (t0, .lst handsV), (hl, .lst (hs.map fun h => .dat (.str h))), (fo, found ps), (kn, known ps), x5, x6, x7, x8, x9, x10] ∧ UrnOk d' s c' (N + 2 + 8 * i + 8) ∧ ∀ n, co = some n → 0 < n ∧ n ≤ 60, ?_, ?_⟩
      · refine ⟨0, u, _, rfl, u, _, s, _, _, 4, rfl, rfl, ok9, by omega, by decide, by decide, fun t d10 c10 t0' t1' ok10 => ⟨_, _, rfl, ?_⟩⟩
        refine ite2 (fun _ => ?_) (fun _ => ?_)
        · exact ⟨(by decide : 2 ≤ sizeLine), (by decide : 1 ≤ sizeLine), none, d10, c10, _, _, _, rfl, rfl, ok10, fun _ z => by cases z⟩
        · refine ⟨some sz, d10, c10, _, _, some (.dat (.int sz)), ?_, rfl, ok10, fun n z => by cases z; exact hsz⟩
          unfold one
          rw [List.map_map]
          rfl
      rintro ρ μ ⟨co, d11, c11, x9, x10, z9, rfl, rfl, ok11, hco⟩
      have l1 := one_len (h := h) (k := i) fun n e => (hco n e).2
      refine ⟨⟨4, _, rfl⟩, 4, _, rfl, by rw [List.length_map, List.length_map, ez]; omega, ⟨3, _, rfl⟩, (by decide : 2 ≤ sizeLine), (by decide : 3 ≤ sizeLine), 3, _, rfl, by rw [fl, ez]; omega, ?_⟩
      refine ⟨[(u, urnN d11 s c11), (t0, .lst handsV), (hl, .lst (hs.map fun h => .dat (.str h))), (fo, found (ps ++ [⟨mrk st' h, one h i co, b⟩])), (kn, known (ps ++ [⟨mrk st' h, one h i co, b⟩]))], ?_, _, _, _, _, _, _, ps ++ [⟨mrk st' h, one h i co, b⟩], st', d11, c11, rfl, rfl, ?_, F4.snoc (by omega) (by omega) h4 (fun n e => (hco n e).1), by omega, by simp [hi], ok11.more (by omega)⟩
      · have k1 : known (ps ++ [⟨mrk st' h, one h i co, b⟩]) = .lst ((ps.flatMap (·.ns)).map (fun x => Val.dat (datK x)) ++ ((one h i co).map datK).map .dat) := by
          unfold known
          rw [List.flatMap_append, List.map_append, List.map_map]
          simp
        have k2 : found (ps ++ [⟨mrk st' h, one h i co, b⟩]) = .lst (ps.map (fun p => Val.dat p.D) ++ [.dat (.tuple [.tuple [.int st', .str h], .tuple ((one h i co).map datK), datK b])]) := by
          unfold found
          rw [List.map_append]
          rfl
        rw [k1, k2]
        exact .cons₂ _ (.cons₂ _ (.cons₂ _ (.cons₂ _ (.cons₂ _ (List.nil_sublist _)))))
      · have := D.snoc (h := h) (c := co) (b := b) (by omega) hst.1 hh (fun n e => (hco n e).2) hb hmk
        rw [hi] at this
        exact this
    · rintro ρ μ ⟨y6, y7, y8, y9, y10, y11, ps, st, d', c', rfl, rfl, D, F4, hst2, hi, ok'⟩
      rw [rangeZ_len] at hi ok'
      exact ⟨_, .cons₂ _ (.cons _ (.cons _ (.cons₂ _ (.cons _ .slnil)))), q fo ps st d' c' D F4 (ok'.more (by omega))⟩
end
end Kr
set_option maxRecDepth 10000
namespace Kr
open PySem PySem.Spec PyProof.Rows L2 Lf Zl
def topOf (l : List NestedKey) : NestedKey := l.head?.getD .none
abbrev gtM (M : NestedKey → PyData) (m : PyData) : NestedKey → Bool := fun x => PySem.W.dataLt m (M x)
def barZ (M : NestedKey → PyData) (B : NestedKey → NestedKey) : List NestedKey → List NestedKey → NestedKey
  | _, [] => .none
  | near, n :: ns => if topOf (near.dropWhile (gtM M (M n))) = B n then barZ M B (n :: near.dropWhile (gtM M (M n))) ns else n
def Kn (x : NestedKey) : Prop := x = .none ∨ ∃ m, m ≤ 64 ∧ Nm x m
theorem Kn.nice {x : NestedKey} (h : Kn x) : (datK x).canLay0 = true ∧ (datK x).depth ≤ 8 := by
  rcases h with rfl | ⟨m, hm, h⟩
  · exact ⟨rfl, Nat.zero_le _⟩
  · exact ⟨(h.nice hm).lay, (h.nice hm).dep⟩
theorem Kn.shaped {x : NestedKey} (h : Kn x) : SeqAt.shaped (datK x) = true := by
  unfold SeqAt.shaped
  rw [h.nice.1, Bool.true_and, decide_eq_true_eq]
  have := h.nice.2
  omega
theorem nm_eqv {x y : NestedKey} {m n : Nat} (hx : Nm x m) (hy : Nm y n) : (datK x).eqv (datK y) = decide (x = y) := by
  obtain ⟨h, hh, k, hk, rfl | ⟨a, ha, rfl⟩⟩ := hx.ex <;> obtain ⟨h', hh', k', hk', rfl | ⟨a', ha', rfl⟩⟩ := hy.ex
  · show (PyData.tuple [.str h, .int k]).eqv (.tuple [.str h', .int k']) = decide (NestedKey.tup [.text h, .num k] = .tup [.text h', .num k'])
    rw [Bool.eq_iff_iff]
    simp [PyData.eqv, PyData.eqvAll]
  · show (PyData.tuple [.str h, .int k]).eqv (.tuple [.str h', .int k', .int a']) = decide (NestedKey.tup [.text h, .num k] = .tup [.text h', .num k', .num a'])
    rw [Bool.eq_iff_iff]
    simp [PyData.eqv, PyData.eqvAll]
  · show (PyData.tuple [.str h, .int k, .int a]).eqv (.tuple [.str h', .int k']) = decide (NestedKey.tup [.text h, .num k, .num a] = .tup [.text h', .num k'])
    rw [Bool.eq_iff_iff]
    simp [PyData.eqv, PyData.eqvAll]
  · show (PyData.tuple [.str h, .int k, .int a]).eqv (.tuple [.str h', .int k', .int a']) = decide (NestedKey.tup [.text h, .num k, .num a] = .tup [.text h', .num k', .num a'])
    rw [Bool.eq_iff_iff]
    simp [PyData.eqv, PyData.eqvAll]
theorem tup_of {x : NestedKey} {m : Nat} (hx : Nm x m) : ∃ ks, x = .tup ks := by
  obtain ⟨h, hh, k, hk, rfl | ⟨a, ha, rfl⟩⟩ := hx.ex
  · exact ⟨_, rfl⟩
  · exact ⟨_, rfl⟩
theorem key_cmp {g : Bool → Bool} {x y : NestedKey} {μ : Store} {Q : DK} (hx : Kn x) (hy : Kn y) (q : Q (.dat (.bool (g (decide (x = y))))) μ) : zEqq g (.dat (datK x)) (.dat (datK y)) μ Q := by
  have sx := hx.shaped
  have sy := hy.shaped
  rcases hx with rfl | ⟨m, hm, hx⟩
  · rcases hy with rfl | ⟨n, hn, hy⟩
    · exact q
    · obtain ⟨ks, rfl⟩ := tup_of hy
      exact ⟨sx, sy, q⟩
  · rcases hy with rfl | ⟨n, hn, hy⟩
    · obtain ⟨ks, rfl⟩ := tup_of hx
      exact ⟨sx, sy, q⟩
    · have e := nm_eqv hx hy
      obtain ⟨ks, rfl⟩ := tup_of hx
      obtain ⟨js, rfl⟩ := tup_of hy
      refine ⟨sx, sy, ?_⟩
      rw [e]
      exact q
/-- what is known of the puts when a line is looked at -/
structure Seen (ps : List Put) (M : NestedKey → PyData) (B : NestedKey → NestedKey) (ns : List NestedKey) : Prop where
  dr : ∃ qs st, Drawn qs st ∧ ps.Perm qs
  look : ∀ s ∈ singles ps, M s.n = s.m ∧ B s.n = s.b
  mem : ∀ n ∈ ns, n ∈ (singles ps).map (·.n)
  len : ns.length ≤ 20000
theorem Seen.all {ps : List Put} {M : NestedKey → PyData} {B : NestedKey → NestedKey} {ns : List NestedKey} (h : Seen ps M B ns) : (singles ps).length ≤ 3840 ∧ ((singles ps).map (·.n)).Nodup ∧ ∀ s ∈ singles ps, Kn s.n ∧ Kn s.b ∧ s.n ≠ .none ∧ Vd.KeyOk s.n ∧ ∃ t h, s.m = mrk t h := by
  obtain ⟨qs, st, D, pm⟩ := h.dr
  obtain ⟨po, tr, p2⟩ := D.puts pm
  refine ⟨by rw [p2.length_eq]; exact D.len, tr.nd, fun s hs => ?_⟩
  have hs' := p2.mem_iff.mp hs
  obtain ⟨k1, k2⟩ := D.key s hs'
  obtain ⟨p, hp, e, _⟩ := singles_mem hs'
  obtain ⟨t, h, em⟩ := D.mark hp
  exact ⟨.inr ⟨_, D.few, k2⟩, k1.imp id fun z => ⟨_, D.few, z⟩, k2.nn, k2.key, t, h, e.trans em⟩
end Kr
set_option maxRecDepth 10000
namespace Kr
open PySem PySem.Spec PyProof.Rows L2 Lf Zl
theorem live_all {S : List Sg} {cl : NestedKey → List Sg} (o : Ord S cl) (tr : Tree S) : ∀ n, Live S (run (chOf cl) n).1 (run (chOf cl) n).2
  | 0 => Live.init o.1 tr
  | n + 1 => by
    have ih := live_all o tr n
    show Live S (step (chOf cl) (run (chOf cl) n)).1 (step (chOf cl) (run (chOf cl) n)).2
    rcases List.eq_nil_or_concat (run (chOf cl) n).2 with e | ⟨st, x, e⟩
    · have : step (chOf cl) (run (chOf cl) n) = run (chOf cl) n := by
        unfold step
        rw [e]
        rfl
      rw [this]
      exact ih
    · rw [List.concat_eq_append] at e
      have e2 : step (chOf cl) (run (chOf cl) n) = ((run (chOf cl) n).1 ++ [x], st ++ chOf cl x) := by
        unfold step
        rw [e]
        simp
      rw [e2]
      rw [e] at ih
      exact ih.next (cl := cl) o.1 tr
theorem dfs_in {S : List Sg} {cl : NestedKey → List Sg} {told : List NestedKey} (o : Ord S cl) (tr : Tree S) (d : Dfs (chOf cl) told) : (∀ k ∈ told, k ∈ S.map (·.n)) ∧ told.length ≤ S.length := by
  have h := live_all o tr told.length
  rw [show run (chOf cl) told.length = (told, []) from d] at h
  have := h.le
  exact ⟨fun k hk => h.sub k (by simpa using hk), by simpa using this⟩
/-! ### marks and what each was put behind -/
def markOf (S : List Sg) (x : NestedKey) : PyData := ((S.find? fun s => s.n = x).map (·.m)).getD .none
def baseOf (S : List Sg) (x : NestedKey) : NestedKey := ((S.find? fun s => s.n = x).map (·.b)).getD .none
theorem find_one {S : List Sg} (nd : (S.map (·.n)).Nodup) {s : Sg} (hs : s ∈ S) : S.find? (fun t => t.n = s.n) = some s := by
  cases e : S.find? (fun t => t.n = s.n) with
  | none =>
    have := List.find?_eq_none.mp e s hs
    simp at this
  | some t =>
    have h1 := List.mem_of_find?_eq_some e
    have h2 := List.find?_some e
    rw [nodup_inj nd h1 hs (by simpa using h2)]
theorem look_one {S : List Sg} (nd : (S.map (·.n)).Nodup) {s : Sg} (hs : s ∈ S) : markOf S s.n = s.m ∧ baseOf S s.n = s.b := by
  unfold markOf baseOf
  rw [find_one nd hs]
  exact ⟨rfl, rfl⟩
/-- what it is put behind has a lesser mark, or the same -/
theorem Drawn.less {ps : List Put} {st : Int} (D : Drawn ps st) : ∀ s ∈ singles ps, ∀ t ∈ singles ps, s.b = t.n → PySem.W.dataLt s.m t.m = false := by
  intro s hs t ht e
  obtain ⟨p, hp, hs2⟩ := List.mem_flatMap.mp hs
  obtain ⟨q, hq, ht2⟩ := List.mem_flatMap.mp ht
  obtain ⟨s1, s2, s3⟩ := chain_mem _ _ _ _ hs2
  obtain ⟨t1, t2, t3⟩ := chain_mem _ _ _ _ ht2
  rw [s1, t1]
  have same : ∀ x ∈ p.ns, x ∈ q.ns → p = q := fun x hx hy => by
    obtain ⟨i, hi, rfl⟩ := List.mem_iff_getElem.mp hp
    obtain ⟨j, hj, rfl⟩ := List.mem_iff_getElem.mp hq
    have dj := D.dj
    rw [List.pairwise_iff_getElem] at dj
    rcases Nat.lt_trichotomy i j with c | c | c
    · exact absurd rfl (dj i j hi hj c x hx x hy)
    · subst c
      rfl
    · exact absurd rfl (dj j i hj hi c x hy x hx)
  have irr : ∀ p : Put, PySem.W.dataLt p.m p.m = false := fun p => by
    cases e : PySem.W.dataLt p.m p.m with
    | false => rfl
    | true =>
      have := lt_asym e
      rw [e] at this
      exact this
  rcases s3 with s3 | s3
  · obtain ⟨i, hi, rfl⟩ := List.mem_iff_getElem.mp hp
    rcases D.back (ps.take i) ps[i] (ps.drop (i + 1)) (by simp) with h | h
    · rw [s3, h] at e
      exact absurd e.symm (D.name hq _ t2).nn
    · obtain ⟨r, hr, h⟩ := List.mem_flatMap.mp h
      rw [← s3, e] at h
      obtain ⟨j, hj, rfl⟩ := List.mem_iff_getElem.mp hr
      rw [List.length_take] at hj
      rw [List.getElem_take] at h
      have hq2 : ps[j]'(by omega) = q := by
        obtain ⟨k, hk, rfl⟩ := List.mem_iff_getElem.mp hq
        have dj := D.dj
        rw [List.pairwise_iff_getElem] at dj
        rcases Nat.lt_trichotomy j k with c | c | c
        · exact absurd rfl (dj j k (by omega) hk c _ h _ t2)
        · subst c
          rfl
        · exact absurd rfl (dj k j hk (by omega) c _ t2 _ h)
      have up := D.up
      rw [List.pairwise_iff_getElem] at up
      rw [← hq2]
      exact lt_asym (up j i (by omega) hi (by omega))
  · rw [e] at s3
    rw [same _ s3 t2]
    exact irr q
theorem Drawn.base_in {ps : List Put} {st : Int} (D : Drawn ps st) : ∀ s ∈ singles ps, s.b = .none ∨ s.b ∈ (singles ps).map (·.n) := by
  intro s hs
  rw [singles_names]
  obtain ⟨p, hp, _, _, h3⟩ := singles_mem hs
  rcases h3 with h3 | h3
  · obtain ⟨i, hi, rfl⟩ := List.mem_iff_getElem.mp hp
    rcases D.back (ps.take i) ps[i] (ps.drop (i + 1)) (by simp) with h | h
    · exact .inl (h3.trans h)
    · obtain ⟨r, hr, h⟩ := List.mem_flatMap.mp h
      exact .inr (List.mem_flatMap.mpr ⟨r, List.mem_of_mem_take hr, by rw [h3]; exact h⟩)
  · exact .inr (List.mem_flatMap.mpr ⟨p, hp, h3⟩)
theorem drop_congr {α : Type} {p q : α → Bool} : ∀ {l : List α}, (∀ x ∈ l, p x = q x) → l.dropWhile p = l.dropWhile q
  | [], _ => rfl
  | x :: l, h => by
    rw [List.dropWhile_cons, List.dropWhile_cons, h x (List.mem_cons_self ..), drop_congr fun y hy => h y (List.mem_cons_of_mem _ hy)]
theorem drop_drop {α : Type} {p q : α → Bool} (h : ∀ x, p x = true → q x = true) : ∀ l : List α, (l.dropWhile p).dropWhile q = l.dropWhile q
  | [] => rfl
  | x :: l => by
    rw [List.dropWhile_cons]
    by_cases c : p x = true
    · rw [if_pos c, drop_drop h l, List.dropWhile_cons, if_pos (h x c)]
    · rw [if_neg c]
/-! ### rows that stand by the rule -/
/-- behind rev (what stands ahead, from the right), each of these stands right: among what stands ahead, the nearest that has no greater mark is what it was put behind -/
def Good (M : NestedKey → PyData) (B : NestedKey → NestedKey) : List NestedKey → List NestedKey → Prop
  | _, [] => True
  | rev, n :: ns => topOf (rev.dropWhile (gtM M (M n))) = B n ∧ Good M B (n :: rev) ns
section
variable {M : NestedKey → PyData} {B : NestedKey → NestedKey}
theorem Good.app : ∀ {a b rev : List NestedKey}, Good M B rev (a ++ b) ↔ Good M B rev a ∧ Good M B (a.reverse ++ rev) b
  | [], _, _ => ⟨fun h => ⟨trivial, h⟩, fun h => h.2⟩
  | x :: a, b, rev => by
    have ih := Good.app (a := a) (b := b) (rev := x :: rev)
    have e : (x :: a).reverse ++ rev = a.reverse ++ x :: rev := by simp
    rw [e]
    exact ⟨fun h => ⟨⟨h.1, (ih.mp h.2).1⟩, (ih.mp h.2).2⟩, fun h => ⟨h.1.1, ih.mpr ⟨h.1.2, h.2⟩⟩⟩
theorem Good.at {a b rev : List NestedKey} {x : NestedKey} (h : Good M B rev (a ++ x :: b)) : topOf ((a.reverse ++ rev).dropWhile (gtM M (M x))) = B x := (Good.app.mp h).2.1
theorem top_in {p : NestedKey → Bool} {l : List NestedKey} : topOf (l.dropWhile p) = .none ∨ topOf (l.dropWhile p) ∈ l := by
  cases e : l.dropWhile p with
  | nil => exact .inl rfl
  | cons x r => exact .inr ((List.dropWhile_sublist p).subset (by rw [e]; exact List.mem_cons_self ..))
/-- what is ahead of the first that isn't dropped -/
theorem top_old {p : NestedKey → Bool} : ∀ {a b : List NestedKey}, (∀ x ∈ a, x ≠ .none) → (∀ x ∈ a, x ∉ b) → (topOf ((a ++ b).dropWhile p) = .none ∨ topOf ((a ++ b).dropWhile p) ∈ b) → ∀ x ∈ a, p x = true
  | [], _, _, _, _, x, hx => by cases hx
  | y :: a, b, h1, h2, h3, x, hx => by
    by_cases c : p y = true
    · rcases List.mem_cons.mp hx with rfl | hx
      · exact c
      · refine top_old (fun z hz => h1 z (List.mem_cons_of_mem _ hz)) (fun z hz => h2 z (List.mem_cons_of_mem _ hz)) ?_ x hx
        rw [List.cons_append, List.dropWhile_cons, if_pos c] at h3
        exact h3
    · rw [List.cons_append, List.dropWhile_cons, if_neg c] at h3
      rcases h3 with h3 | h3
      · exact absurd h3 (h1 y (List.mem_cons_self ..))
      · exact absurd h3 (h2 y (List.mem_cons_self ..))
/-- there is one such row -/
theorem Good.one : ∀ {C L L' : List NestedKey}, (C.reverse ++ L).Nodup → (∀ x ∈ L, x ≠ .none) → L.Perm L' → Good M B C L → Good M B C L' → (∀ x ∈ L, B x = .none ∨ B x ∈ C.reverse ++ L) → L = L'
  | C, [], L', _, _, pm, _, _, _ => pm.symm.eq_nil.symm
  | C, x :: L, [], _, _, pm, _, _, _ => pm.eq_nil
  | C, x :: L, y :: L', nd, nn, pm, g, g', hb => by
    by_cases e : x = y
    · subst e
      have := Good.one (C := x :: C) (L := L) (L' := L') (by simpa using nd) (fun z hz => nn z (List.mem_cons_of_mem _ hz)) (pm.cons_inv) g.2 g'.2 (fun z hz => by
        have := hb z (List.mem_cons_of_mem _ hz)
        simpa using this)
      rw [this]
    · exfalso
      have nd2 := nd
      rw [List.nodup_append] at nd2
      have nl := nd2.2.1
      have nl' : (y :: L').Nodup := pm.nodup_iff.mp nl
      have hy : y ∈ L := by
        rcases List.mem_cons.mp (pm.mem_iff.mpr (List.mem_cons_self ..)) with h | h
        · exact absurd h.symm e
        · exact h
      have hx : x ∈ L' := by
        rcases List.mem_cons.mp (pm.mem_iff.mp (List.mem_cons_self ..)) with h | h
        · exact absurd h e
        · exact h
      have gy : ∀ {x y : NestedKey} {L L' : List NestedKey}, Good M B C (x :: L) → Good M B C (y :: L') → y ∈ L → (∀ z ∈ x :: L, z ∉ C) → (∀ z ∈ x :: L, z ≠ .none) → gtM M (M y) x = true := fun {x y L L'} g g' hy out nn => by
        obtain ⟨l1, l2, rfl⟩ := List.append_of_mem hy
        have h1 : topOf (((x :: l1).reverse ++ C).dropWhile (gtM M (M y))) = B y := Good.at (a := x :: l1) (b := l2) (x := y) g
        have h2 : topOf (C.dropWhile (gtM M (M y))) = B y := g'.1
        refine top_old (a := (x :: l1).reverse) (b := C) (fun z hz => nn z ?_) (fun z hz => out z ?_) ?_ x (by simp)
        · rw [List.mem_reverse] at hz
          rw [← List.cons_append]
          exact List.mem_append_left _ hz
        · rw [List.mem_reverse] at hz
          rw [← List.cons_append]
          exact List.mem_append_left _ hz
        · rw [h1, ← h2]
          exact top_in
      have out : ∀ z ∈ x :: L, z ∉ C := fun z hz hc => nd2.2.2 z (by simpa using hc) z hz rfl
      have o1 := gy g g' hy out nn
      have o2 := gy g' g hx (fun z hz => out z (pm.mem_iff.mpr hz)) (fun z hz => nn z (pm.mem_iff.mpr hz))
      have o3 : PySem.W.dataLt (M x) (M y) = true := o2
      rw [lt_asym o1] at o3
      cases o3
/-- a part, closed -/
theorem top_filter {p keep : NestedKey → Bool} : ∀ {l : List NestedKey}, (topOf (l.dropWhile p) = .none → ∀ x ∈ l, p x = true) → (topOf (l.dropWhile p) = .none ∨ keep (topOf (l.dropWhile p)) = true) → topOf ((l.filter keep).dropWhile p) = topOf (l.dropWhile p)
  | [], _, _ => rfl
  | x :: l, h0, h => by
    rw [List.dropWhile_cons] at h h0 ⊢
    by_cases c : p x = true
    · rw [if_pos c] at h h0 ⊢
      rw [List.filter_cons]
      have ih := top_filter (fun e y hy => h0 e y (List.mem_cons_of_mem _ hy)) h
      by_cases k : keep x = true
      · rw [if_pos k, List.dropWhile_cons, if_pos c, ih]
      · rw [if_neg k, ih]
    · rw [if_neg c] at h h0 ⊢
      have ne : topOf (x :: l) ≠ .none := fun e => c (h0 e x (List.mem_cons_self ..))
      rcases h with h | h
      · exact absurd h ne
      · rw [List.filter_cons, if_pos (show keep x = true from h), List.dropWhile_cons, if_neg c]
        rfl
theorem top_none {p : NestedKey → Bool} {l : List NestedKey} (nn : ∀ x ∈ l, x ≠ .none) (e : topOf (l.dropWhile p) = .none) : ∀ x ∈ l, p x = true := by
  refine top_old (a := l) (b := []) nn (fun _ _ h => by cases h) ?_
  rw [List.append_nil]
  exact .inl e
theorem Good.filter {keep : NestedKey → Bool} : ∀ {L rev : List NestedKey}, (∀ x ∈ rev, x ≠ .none) → (∀ x ∈ L, x ≠ .none) → Good M B rev L → (∀ x ∈ L, keep x = true → B x = .none ∨ keep (B x) = true) → Good M B (rev.filter keep) (L.filter keep)
  | [], _, _, _, _, _ => trivial
  | x :: L, rev, h1, h2, g, h => by
    have ih := Good.filter (keep := keep) (L := L) (rev := x :: rev) (fun y hy => by
      rcases List.mem_cons.mp hy with rfl | hy
      · exact h2 y (List.mem_cons_self ..)
      · exact h1 y hy) (fun y hy => h2 y (List.mem_cons_of_mem _ hy)) g.2 (fun y hy => h y (List.mem_cons_of_mem _ hy))
    rw [List.filter_cons] at ih ⊢
    by_cases k : keep x = true
    · rw [if_pos k] at ih ⊢
      refine ⟨?_, ih⟩
      rw [top_filter (top_none h1) (by rw [g.1]; exact h x (List.mem_cons_self ..) k)]
      exact g.1
    · rw [if_neg k] at ih ⊢
      exact ih
theorem Good.congr {M' : NestedKey → PyData} {B' : NestedKey → NestedKey} : ∀ {L rev : List NestedKey}, (∀ x ∈ rev, M x = M' x) → (∀ x ∈ L, M x = M' x ∧ B x = B' x) → Good M B rev L → Good M' B' rev L
  | [], _, _, _, _ => trivial
  | x :: L, rev, h1, h2, g => by
    obtain ⟨m, b⟩ := h2 x (List.mem_cons_self ..)
    refine ⟨?_, Good.congr (fun y hy => ?_) (fun y hy => h2 y (List.mem_cons_of_mem _ hy)) g.2⟩
    · rw [← b, ← g.1, ← m]
      congr 1
      exact (drop_congr fun y hy => by show PySem.W.dataLt _ (M' y) = PySem.W.dataLt _ (M y); rw [h1 y hy])
    · rcases List.mem_cons.mp hy with rfl | hy
      · exact m
      · exact h1 y hy
end
end Kr
set_option maxRecDepth 10000
namespace Kr
open PySem PySem.Spec PyProof.Rows L2 Lf Zl
section
variable {P : Program} {w : World} {K : PySem.W.Frag} {mg : Str → Option Value} {base : Heap}
def fBarred : DSp := fun xs μ Q => ∃ ps ns M B, xs = [.dat (.list (ps.map Put.D)), .dat (.list (ns.map datK))] ∧ μ = [] ∧ Seen ps M B ns ∧ Q (.dat (datK (barZ M B [] ns))) []
abbrev sBarred : Stmt := topS 5
theorem scBarred : FnScope ["puts", "names", "mark", "name", "behind", "placed", "near"] ["puts", "names"] (defScope sBarred) := ⟨rfl, rfl, rfl, by decide +kernel, rfl, by decide +kernel, by decide +kernel⟩

theorem ok_barred {f : Addr} {fd : FuncData} (F : Fun K "barred" "barred" sBarred f fd) (T : Bs mg) (c_single_puts : CalZ P w K mg base 1 "single_puts" ["puts"] fSingle) : FnOk P w K mg base CX0 2 f fd ["puts", "names"] (spZ w K fBarred) := by
  refine Fun.okZ F scBarred (fun xs μ Q h => ?_) (fun cdv A outer s H E hr => ?_)
  · obtain ⟨ps, ns, M, B, rfl, _⟩ := h
    rfl
  · have nd := scBarred.nd
    refine ⟨_, (dss_cons (ds_setDc (i := 5) hr.units (own := [("mark", 2), ("name", 3), ("behind", 4)]) rfl nd rfl rfl (Vd.sw_trueD rfl rfl rfl (by decide +kernel)) (di_seq (d_fz (d_own0 c_single_puts (hr.mono (by decide)) (by rfl) (da_cons (dv 0) da_nil)))) (blkOk_by (own := [("mark", 2), ("name", 3), ("behind", 4)]) (N := ["puts", "names", "mark", "name", "behind", "placed", "near"]) (sc := defScope (topS 5)) (by decide +kernel)) (put_tup (is := [2, 3, 4]) rfl (by decide)) (fun _ _ _ _ _ => (pg_tup rfl (pgs_cons (pg_name (i := 2) nd rfl (Or.inl rfl)) (pgs_cons (pg_name (i := 3) nd rfl (Or.inl rfl)) (pgs_cons (pg_name (i := 4) nd rfl (Or.inl rfl)) pgs_nil))))) (fun _ _ _ _ _ => dts_nil) (fun _ _ _ _ _ => (dv 3)) (fun _ _ _ _ _ => (d_tup (da_cons (dv 2) (da_cons (dv 4) da_nil)))))
  (dss_cons (ds_set (i := 6) nd rfl (Or.inl rfl) (d_lst da_nil))
  (dss_cons (ds_for PassesOwn.never rfl (di_seq (dv 1)) (dg_name (i := 3) nd rfl (Or.inl rfl))
  (dss_cons (ds_asg (d_dix hr.units (dv 5) (dv 3) (fun _ _ => rfl)) (dg_tup rfl (dgs_cons (dg_name (i := 2) nd rfl (Or.inl rfl)) (dgs_cons (dg_name (i := 4) nd rfl (Or.inl rfl)) dgs_nil))))
  (dss_cons (ds_while PassesOwn.never (DW.dt (dw_and (dt_truth (dv 6)) (dw_and1 (dt_cmp (oz_gt hr.units) (d_ix (d_dix hr.units (dv 5) (d_ix (dv 6) (d_neg d_int) (fun _ _ => rfl)) (fun _ _ => rfl)) d_int (fun _ _ => rfl)) (dv 2) (nomark _)))))
  (dss_one (ds_expr (d_lm0 PySem.F.slot_list_pop PySem.F.type_list_pop me_pop (dv 6)))))
  (dss_cons (ds_if (dt_cmp (oz_ne hr.units) (d_ifExp (dt_truth (dv 6)) (d_ix (dv 6) (d_neg d_int) (fun _ _ => rfl)) d_non) (dv 4) (nomark _))
  (dss_one (ds_ret (dv 3)))
  dss_nil)
  (dss_one (ds_expr (d_lm PySem.F.slot_list_append PySem.F.type_list_append me_append (dv 6) (da_cons (dv 3) da_nil))))))))
  (dss_one (ds_ret d_non))))), ?_⟩
    rintro xs μ Q ⟨ps, ns, M, B, rfl, rfl, sn, q⟩
    have ez : sizeLine = 16777216 := by decide +kernel
    obtain ⟨hlen, nod, all⟩ := sn.all
    have nlen := sn.len
    refine ⟨ps, rfl, rfl, by omega, fun sp => ⟨0, _, (singles ps).map Sg.D, rfl, ?_, ?_⟩⟩
    · rw [← datOf_map ((singles ps).map Sg.D), List.map_map]
      rfl
    refine ⟨fun i acc μ => μ = [] ∧ acc.length ≤ i ∧ ∀ s ∈ (singles ps).take i, lookZ acc s.n = some (.dat (.tuple [s.m, datK s.b])), ⟨rfl, Nat.le_refl _, fun s hs => by cases hs⟩, fun _ _ _ _ _ => trivial, ?_, ?_⟩
    · rintro i y acc μ hy ⟨rfl, hl, hv⟩
      rw [List.map_map] at hy
      obtain ⟨g, hg, rfl⟩ := get_map hy
      have hi := (List.getElem?_eq_some_iff.mp hg).1
      have hgm := List.mem_of_getElem? hg
      refine ⟨_, rfl, (by decide : 2 ≤ sizeLine), g.n, keyD_datK _, (all g hgm).2.2.2.1, by omega, _, .refl _, rfl, Nat.le_trans (putZ_len ..) (by omega), fun s hs => ?_⟩
      rw [lookZ_put]
      rw [take_snoc hg] at hs
      rcases List.mem_append.mp hs with hs | hs
      · by_cases e : g.n = s.n
        · have := nodup_inj nod hgm (List.mem_of_mem_take hs) e
          subst this
          rw [if_pos rfl]
        · rw [if_neg e]
          exact hv s hs
      · rw [List.mem_singleton.mp hs, if_pos rfl]
    · rintro acc μ ⟨rfl, hl, hv⟩ pl
      rw [List.length_map, List.length_map, List.take_length] at hv
      refine ⟨Nat.zero_le _, fun nr => ?_⟩
      refine ⟨fun i ρ μ => ∃ near y2 y3 y4, ρ = [some (.dat (.list (ps.map Put.D))), some (.dat (.list (ns.map datK))), y2, y3, y4, some (.ptr pl), some (.ptr nr)] ∧ μ = [(pl, .dv acc), (nr, .lst (near.reverse.map fun k => .dat (datK k)))] ∧ (∀ n ∈ near, n ∈ (singles ps).map (·.n)) ∧ near.length ≤ i ∧ barZ M B [] ns = barZ M B near (ns.drop i),
        ⟨[], _, _, _, rfl, rfl, fun n h => (by cases h), Nat.zero_le _, rfl⟩, fun _ _ _ _ _ => trivial, ?_, ?_⟩
      · rintro i y ρ μ hy ⟨near, y2, y3, y4, rfl, rfl, hm, hnl, hb⟩
        rw [List.map_map] at hy
        obtain ⟨n, hn, rfl⟩ := get_map hy
        have hi := (List.getElem?_eq_some_iff.mp hn).1
        obtain ⟨s, hs, rfl⟩ := List.mem_map.mp (sn.mem n (List.mem_of_getElem? hn))
        obtain ⟨kn, kb, nn, ko, t, h, em⟩ := all s hs
        obtain ⟨look1, look2⟩ := sn.look s hs
        have ed : ns.drop i = s.n :: ns.drop (i + 1) := by
          rw [List.drop_eq_getElem_cons hi]
          congr 1
          exact (List.getElem?_eq_some_iff.mp hn).2
        rw [ed] at hb
        refine ⟨acc, s.n, _, .own 0 rfl, keyD_datK _, ko, hv s hs, rfl, ?_⟩
        refine ⟨fun ρ μ => ∃ nw, ρ = [some (.dat (.list (ps.map Put.D))), some (.dat (.list (ns.map datK))), some (.dat s.m), some (.dat (datK s.n)), some (.dat (datK s.b)), some (.ptr pl), some (.ptr nr)] ∧ μ = [(pl, .dv acc), (nr, .lst (nw.reverse.map fun k => .dat (datK k)))] ∧
          (∀ n ∈ nw, n ∈ (singles ps).map (·.n)) ∧ nw.length ≤ i ∧ near.dropWhile (gtM M s.m) = nw.dropWhile (gtM M s.m), fun _ μ => nodeLen μ 1, ⟨near, rfl, rfl, hm, hnl, rfl⟩, ?_⟩
        rintro ρ μ ⟨nw, rfl, rfl, hm, hnl, hd⟩
        -- what follows the pops
        have fin : nw = nw.dropWhile (gtM M s.m) → ∀ (x : NestedKey), x = topOf nw → Kn x → (if (!decide (x = s.b)) = true then (∃ μ' : Store, List.Sublist μ' [(pl, Node.dv acc), (nr, .lst (nw.reverse.map fun k => .dat (datK k)))] ∧ Q (.dat (datK s.n)) μ')
            else isL (.ptr nr) [(pl, Node.dv acc), (nr, .lst (nw.reverse.map fun k => .dat (datK k)))] ∧ ∃ (j : Nat) (ys : List Val), ([(pl, Node.dv acc), (nr, .lst (nw.reverse.map fun k => .dat (datK k)))] : Store)[j]? = some (nr, Node.lst ys) ∧ ys.length < sizeLine ∧
              less (fun ρ μ => ∃ near y2 y3 y4, ρ = [some (.dat (.list (ps.map Put.D))), some (.dat (.list (ns.map datK))), y2, y3, y4, some (.ptr pl), some (.ptr nr)] ∧ μ = [(pl, .dv acc), (nr, .lst (near.reverse.map fun k => .dat (datK k)))] ∧ (∀ n ∈ near, n ∈ (singles ps).map (·.n)) ∧ near.length ≤ i + 1 ∧ barZ M B [] ns = barZ M B near (ns.drop (i + 1)))
                [some (.dat (.list (ps.map Put.D))), some (.dat (.list (ns.map datK))), some (.dat s.m), some (.dat (datK s.n)), some (.dat (datK s.b)), some (.ptr pl), some (.ptr nr)] (([(pl, Node.dv acc), (nr, .lst (nw.reverse.map fun k => .dat (datK k)))] : Store).set j (nr, .lst (ys ++ [.dat (datK s.n)])))) := fun e x ex kx => by
          rw [← hd] at e
          have hb2 : barZ M B [] ns = if topOf nw = s.b then barZ M B (s.n :: nw) (ns.drop (i + 1)) else s.n := by
            rw [hb]
            show (if topOf (near.dropWhile (gtM M (M s.n))) = B s.n then barZ M B (s.n :: near.dropWhile (gtM M (M s.n))) (ns.drop (i + 1)) else s.n) = _
            rw [look1, look2, ← e]
          refine ite2 (fun c => ?_) (fun c => ?_)
          · have ne : topOf nw ≠ s.b := by
              rw [← ex]
              simpa using c
            rw [if_neg ne] at hb2
            rw [hb2] at q
            exact ⟨[], List.nil_sublist _, q⟩
          · have e2 : topOf nw = s.b := by
              rw [← ex]
              simpa using c
            rw [if_pos e2] at hb2
            refine ⟨⟨1, _, rfl⟩, 1, _, rfl, by rw [List.length_map, List.length_reverse]; omega, _, .refl _, s.n :: nw, _, _, _, rfl, ?_, fun n hn => ?_, Nat.succ_le_succ hnl, hb2⟩
            · simp
            · rcases List.mem_cons.mp hn with rfl | hn
              · exact List.mem_map_of_mem hs
              · exact hm n hn
        cases nw with
        | nil =>
          refine ⟨1, _, rfl, 1, _, rfl, ?_⟩
          refine ite2 (fun c => (Bool.false_ne_true c).elim) (fun _ => ?_)
          refine key_cmp (g := not) (x := .none) (.inl rfl) kb ?_
          exact fin rfl .none rfl (.inl rfl)
        | cons x r =>
          have emp : (!((x :: r).reverse.map fun k => Val.dat (datK k)).isEmpty) = true := by simp
          have elast : atI ((x :: r).reverse.map fun k => Val.dat (datK k)) (-1) = some (.dat (datK x)) := by
            rw [List.reverse_cons, List.map_append]
            exact atI_last
          obtain ⟨t2, ht2, rfl⟩ := List.mem_map.mp (hm x (List.mem_cons_self ..))
          obtain ⟨kn2, _, _, ko2, t3, h3, em2⟩ := all t2 ht2
          have look3 := (sn.look t2 ht2).1
          refine ⟨1, _, rfl, ?_⟩
          rw [emp]
          refine ⟨1, _, _, rfl, elast, acc, t2.n, _, .own 0 rfl, keyD_datK _, ko2, hv t2 ht2, _, rfl, ?_⟩
          rw [em2, em]
          refine ⟨rfl, fun z => (by cases z), (by show 1 ≤ 50; decide), ?_⟩
          rw [← em2, ← em]
          refine ite2 (fun c => ?_) (fun c => ?_)
          · refine ⟨⟨1, _, rfl⟩, 1, _, .dat (datK t2.n), rfl, by simp, _, .refl _, ⟨r, rfl, ?_, fun n hn => hm n (List.mem_cons_of_mem _ hn), by have : r.length + 1 ≤ i := hnl; omega, ?_⟩, ?_⟩
            · simp
            · rw [hd, List.dropWhile_cons, if_pos]
              show PySem.W.dataLt s.m (M t2.n) = true
              rw [look3]
              exact c
            · show (((t2.n :: r).reverse.map fun k => Val.dat (datK k)).dropLast).length < ((t2.n :: r).reverse.map fun k => Val.dat (datK k)).length
              simp
          · refine ⟨1, _, rfl, ?_⟩
            rw [emp]
            refine ⟨1, _, _, rfl, elast, ?_⟩
            refine key_cmp (g := not) kn2 kb ?_
            refine fin ?_ t2.n rfl kn2
            rw [List.dropWhile_cons, if_neg]
            show ¬ PySem.W.dataLt s.m (M t2.n) = true
            rw [look3]
            exact c
      · rintro ρ μ ⟨near, y2, y3, y4, rfl, rfl, hm, hnl, hb⟩
        rw [List.length_map, List.length_map, List.drop_length] at hb
        rw [hb] at q
        exact ⟨[], List.nil_sublist _, q⟩
end
end Kr
set_option maxRecDepth 10000
namespace Kr
open PySem PySem.Spec PyProof.Rows L2 Lf Zl
theorem lt_irr (x : PyData) : PySem.W.dataLt x x = false := by
  cases e : PySem.W.dataLt x x with
  | false => rfl
  | true =>
    have := lt_asym e
    rw [e] at this
    exact this
theorem lt_neg {x y c : PyData} (h1 : PySem.W.dataLt y x = true) (h2 : PySem.W.dataLt c x = false) : PySem.W.dataLt y c = true := by
  cases e : PySem.W.dataLt y c with
  | true => rfl
  | false =>
    have := (Sa.swo_data (α := PyData) id).tr x c y h2 e
    rw [show PySem.W.dataLt (id y) (id x) = true from h1] at this
    cases this
section
variable {M : NestedKey → PyData} {B : NestedKey → NestedKey}
theorem drop_app {p : NestedKey → Bool} : ∀ {a b : List NestedKey}, (a ++ b).dropWhile p = if ∀ x ∈ a, p x = true then b.dropWhile p else a.dropWhile p ++ b
  | [], b => by simp
  | x :: a, b => by
    rw [List.cons_append, List.dropWhile_cons, List.dropWhile_cons]
    by_cases c : p x = true
    · rw [if_pos c, if_pos c, drop_app]
      have : (∀ y ∈ x :: a, p y = true) ↔ ∀ y ∈ a, p y = true := ⟨fun h y hy => h y (List.mem_cons_of_mem _ hy), fun h y hy => by
        rcases List.mem_cons.mp hy with rfl | hy
        · exact c
        · exact h y hy⟩
      simp only [this]
    · rw [if_neg c, if_neg c, if_neg fun h => c (h x (List.mem_cons_self ..))]
      rfl
theorem top_app {p : NestedKey → Bool} {a b : List NestedKey} : topOf ((a ++ b).dropWhile p) = if ∀ x ∈ a, p x = true then topOf (b.dropWhile p) else topOf (a.dropWhile p) := by
  rw [drop_app]
  split
  · rfl
  · rename_i h
    have : a.dropWhile p ≠ [] := fun e => by
      refine h ?_
      clear h
      induction a with
      | nil => intro x hx; cases hx
      | cons y a ih =>
        rw [List.dropWhile_cons] at e
        by_cases c : p y = true
        · rw [if_pos c] at e
          intro x hx
          rcases List.mem_cons.mp hx with rfl | hx
          · exact c
          · exact ih e x hx
        · rw [if_neg c] at e
          cases e
    cases e : a.dropWhile p with
    | nil => exact absurd e this
    | cons y r => rfl
/-- names of one mark come in between, ahead of lesser ones -/
theorem ins_good {m : PyData} {N U : List NestedKey} (hN : ∀ x ∈ N, M x = m) : ∀ {R T : List NestedKey}, (∀ x r, R = x :: r → (T = [] ∧ PySem.W.dataLt (M x) m = true) ∨ ∃ t ∈ T, PySem.W.dataLt (M t) m = true) → Good M B (T ++ U) R → Good M B (T ++ (N ++ U)) R
  | [], _, _, _ => trivial
  | x :: R, T, h, g => by
    have key : topOf ((T ++ (N ++ U)).dropWhile (gtM M (M x))) = topOf ((T ++ U).dropWhile (gtM M (M x))) := by
      rw [top_app (a := T) (b := N ++ U), top_app (a := T) (b := U)]
      split
      · rename_i hT
        rw [top_app (a := N) (b := U), if_pos]
        intro y hy
        show PySem.W.dataLt (M x) (M y) = true
        rw [hN y hy]
        rcases h x R rfl with ⟨_, h⟩ | ⟨t, ht, h⟩
        · exact h
        · exact lt_trans3 (hT t ht) h
      · rfl
    refine ⟨key.trans g.1, ?_⟩
    have ih := ins_good (N := N) (U := U) hN (R := R) (T := x :: T) (fun y r _ => .inr (by
      rcases h x R rfl with ⟨_, h⟩ | ⟨t, ht, h⟩
      · exact ⟨x, List.mem_cons_self .., h⟩
      · exact ⟨t, List.mem_cons_of_mem _ ht, h⟩)) g.2
    exact ih
theorem chain_good {m : PyData} : ∀ {ns : List NestedKey} {b : NestedKey} {rev : List NestedKey}, (∀ s ∈ chain m b ns, M s.n = m ∧ B s.n = s.b) → topOf (rev.dropWhile (gtM M m)) = b → Good M B rev ns
  | [], _, _, _, _ => trivial
  | n :: ns, b, rev, h, e => by
    obtain ⟨h1, h2⟩ := h ⟨m, n, b⟩ (List.mem_cons_self ..)
    dsimp only at h1 h2
    refine ⟨by rw [h1, e, h2], chain_good (b := n) (fun s hs => h s (List.mem_cons_of_mem _ hs)) ?_⟩
    rw [List.dropWhile_cons, if_neg]
    · rfl
    · show ¬ PySem.W.dataLt m (M n) = true
      rw [h1, lt_irr]
      exact Bool.false_ne_true
/-- a put: behind its own, behind all of greater marks that stand there -/
theorem Good.put {m : PyData} {b : NestedKey} {ns A G R : List NestedKey} (g : Good M B [] (A ++ (G ++ R))) (hA : (A = [] ∧ b = .none) ∨ ∃ A0, A = A0 ++ [b] ∧ PySem.W.dataLt m (M b) = false) (hG : ∀ x ∈ G, PySem.W.dataLt m (M x) = true)
    (hR : ∀ x r, R = x :: r → PySem.W.dataLt (M x) m = true) (hc : ∀ s ∈ chain m b ns, M s.n = m ∧ B s.n = s.b) (hm : ∀ x ∈ ns, M x = m) : Good M B [] (A ++ (G ++ (ns ++ R))) := by
  rw [Good.app, Good.app] at g
  rw [Good.app, Good.app, Good.app]
  refine ⟨g.1, g.2.1, chain_good hc ?_, ?_⟩
  · rw [top_app, if_pos fun x hx => hG x (List.mem_reverse.mp hx)]
    rcases hA with ⟨rfl, rfl⟩ | ⟨A0, rfl, h⟩
    · rfl
    · rw [List.reverse_append]
      show topOf ((b :: (A0.reverse ++ [])).dropWhile (gtM M m)) = b
      rw [List.dropWhile_cons, if_neg]
      · rfl
      · show ¬ PySem.W.dataLt m (M b) = true
        rw [h]
        exact Bool.false_ne_true
  · exact ins_good (T := []) (N := ns.reverse) (fun x hx => hm x (List.mem_reverse.mp hx)) (fun x r e => .inl ⟨rfl, hR x r e⟩) g.2.2
end
/-! ### singles that may stand in a row -/
def Ahead (S : List Sg) : Prop := ∀ as s bs, S = as ++ s :: bs → s.b = .none ∨ s.b ∈ as.map (·.n)
structure Fam (S : List Sg) : Prop where
  tr : Tree S
  mkd : ∀ s ∈ S, ∃ t h, s.m = mrk t h
  ah : ∃ S0 : List Sg, S0.Perm S ∧ Ahead S0
  less : ∀ s ∈ S, ∀ t ∈ S, s.b = t.n → PySem.W.dataLt s.m t.m = false
  sib : ∀ s ∈ S, ∀ t ∈ S, s.b = t.b → s = t ∨ PySem.W.dataLt s.m t.m = true ∨ PySem.W.dataLt t.m s.m = true
theorem Fam.perm {S S' : List Sg} (F : Fam S) (p : S'.Perm S) : Fam S' := by
  obtain ⟨S0, p0, a0⟩ := F.ah
  exact ⟨⟨(p.map _).nodup_iff.mpr F.tr.nd, fun s hs => F.tr.nn s (p.mem_iff.mp hs)⟩, fun s hs => F.mkd s (p.mem_iff.mp hs), ⟨S0, p0.trans p.symm, a0⟩, fun s hs t ht => F.less s (p.mem_iff.mp hs) t (p.mem_iff.mp ht), fun s hs t ht => F.sib s (p.mem_iff.mp hs) t (p.mem_iff.mp ht)⟩
theorem Fam.base {S : List Sg} (F : Fam S) : ∀ s ∈ S, s.b = .none ∨ s.b ∈ S.map (·.n) := by
  intro s hs
  obtain ⟨S0, p0, a0⟩ := F.ah
  obtain ⟨as, bs, rfl⟩ := List.append_of_mem (p0.mem_iff.mpr hs)
  refine (a0 as s bs rfl).imp id fun h => (p0.map (·.n)).mem_iff.mp ?_
  rw [List.map_append]
  exact List.mem_append_left _ h
theorem Ahead.all {S : List Sg} (a : Ahead S) {told : List NestedKey} (h : ∀ s ∈ S, (s.b = .none ∨ s.b ∈ told) → s.n ∈ told) : ∀ s ∈ S, s.n ∈ told := by
  have : ∀ k, ∀ s ∈ S.take k, s.n ∈ told := fun k => by
    induction k with
    | zero => intro s hs; rw [List.take_zero] at hs; cases hs
    | succ k ih =>
      intro s hs
      by_cases hk : k < S.length
      · rw [List.take_succ_eq_append_getElem hk] at hs
        rcases List.mem_append.mp hs with hs | hs
        · exact ih s hs
        · rw [List.mem_singleton.mp hs]
          refine h _ (List.getElem_mem hk) ((a (S.take k) S[k] (S.drop (k + 1)) (by simp)).imp id fun hm => ?_)
          obtain ⟨t, ht, e⟩ := List.mem_map.mp hm
          rw [← e]
          exact ih t ht
      · rw [List.take_of_length_le (by omega)] at hs
        exact ih s (by rw [List.take_of_length_le (by omega)]; exact hs)
  intro s hs
  exact this S.length s (by rw [List.take_length]; exact hs)
section
variable {S : List Sg} {cl : NestedKey → List Sg}
/-- while a tree is gone through -/
structure Walk (S : List Sg) (M : NestedKey → PyData) (B : NestedKey → NestedKey) (told st : List NestedKey) : Prop where
  good : Good M B [] told
  up : st.Pairwise fun x y => PySem.W.dataLt (M x) (M y) = true
  top : ∀ y ∈ st, topOf (told.reverse.dropWhile (gtM M (M y))) = B y
  cls : ∀ s ∈ S, s.b = .none ∨ s.b ∈ told → s.n ∈ told ∨ s.n ∈ st
theorem kids_up {M : NestedKey → PyData} (F : Fam S) (o : Ord S cl) (hm : ∀ s ∈ S, M s.n = s.m) (b : NestedKey) : (chOf cl b).Pairwise fun x y => PySem.W.dataLt (M x) (M y) = true := by
  unfold chOf
  have h2 := o.2 b
  have nd : (cl b).Nodup := by
    have := o.1.nd F.tr b
    unfold List.Nodup at this ⊢
    rw [List.pairwise_map] at this
    exact this.imp fun h e => h (congrArg _ e)
  rw [List.pairwise_map] at h2 ⊢
  unfold List.Nodup at nd
  refine (h2.and nd).imp_of_mem fun {s t} hs ht ⟨h, ne⟩ => ?_
  obtain ⟨s1, s2⟩ := o.1.mem.mp hs
  obtain ⟨t1, t2⟩ := o.1.mem.mp ht
  rw [hm s s1, hm t t1]
  rcases F.sib s s1 t t1 (s2.trans t2.symm) with e | e | e
  · exact absurd e ne
  · exact e
  · have : PySem.W.dataLt t.E s.E = true := by
      show PySem.W.dataLt (.tuple [t.m, datK t.n]) (.tuple [s.m, datK s.n]) = true
      obtain ⟨i1, a1, m1⟩ := F.mkd t t1
      obtain ⟨i2, a2, m2⟩ := F.mkd s s1
      rw [m1, m2] at e ⊢
      rw [PySem.W.dataLt_tuple, PySem.W.dataLt_all_no mk_alike (mk_ne e)]
      exact e
    rw [this] at h
    cases h
theorem walk_all {M : NestedKey → PyData} {B : NestedKey → NestedKey} (F : Fam S) (o : Ord S cl) (hm : ∀ s ∈ S, M s.n = s.m ∧ B s.n = s.b) : ∀ n, Walk S M B (run (chOf cl) n).1 (run (chOf cl) n).2
  | 0 => by
    refine ⟨trivial, kids_up F o (fun s hs => (hm s hs).1) _, fun y hy => ?_, fun s hs h => ?_⟩
    · obtain ⟨s, hs, rfl⟩ := List.mem_map.mp hy
      obtain ⟨s1, s2⟩ := o.1.mem.mp hs
      rw [(hm s s1).2, s2]
      rfl
    · rcases h with h | h
      · exact .inr (List.mem_map_of_mem (o.1.mem.mpr ⟨hs, h⟩))
      · cases h
  | n + 1 => by
    have ih := walk_all F o hm n
    show Walk S M B (step (chOf cl) (run (chOf cl) n)).1 (step (chOf cl) (run (chOf cl) n)).2
    have lv := live_all o F.tr n
    rcases List.eq_nil_or_concat (run (chOf cl) n).2 with e | ⟨st, x, e⟩
    · have : step (chOf cl) (run (chOf cl) n) = run (chOf cl) n := by
        unfold step
        rw [e]
        rfl
      rw [this]
      exact ih
    · rw [List.concat_eq_append] at e
      have e2 : step (chOf cl) (run (chOf cl) n) = ((run (chOf cl) n).1 ++ [x], st ++ chOf cl x) := by
        unfold step
        rw [e]
        simp
      rw [e2]
      rw [e] at ih lv
      generalize (run (chOf cl) n).1 = told at ih lv ⊢
      obtain ⟨sx, hsx, ex⟩ := List.mem_map.mp (lv.sub x (by simp))
      have up := ih.up
      rw [List.pairwise_append] at up
      have ux : ∀ y ∈ st, PySem.W.dataLt (M y) (M x) = true := fun y hy => up.2.2 y hy x (by simp)
      have kid : ∀ c ∈ chOf cl x, ∃ s ∈ S, s.n = c ∧ s.b = x := fun c hc => by
        obtain ⟨s, hs, rfl⟩ := List.mem_map.mp hc
        obtain ⟨s1, s2⟩ := o.1.mem.mp hs
        exact ⟨s, s1, rfl, s2⟩
      have ge : ∀ c ∈ chOf cl x, PySem.W.dataLt (M c) (M x) = false := fun c hc => by
        obtain ⟨s, hs, rfl, e⟩ := kid c hc
        rw [(hm s hs).1, ← ex, (hm sx hsx).1]
        exact F.less s hs sx hsx (e.trans ex.symm)
      refine ⟨?_, ?_, fun y hy => ?_, fun s hs h => ?_⟩
      · rw [Good.app]
        exact ⟨ih.good, by rw [List.append_nil]; exact ih.top x (by simp), trivial⟩
      · rw [List.pairwise_append]
        exact ⟨up.1, kids_up F o (fun s hs => (hm s hs).1) x, fun y hy c hc => lt_neg (ux y hy) (ge c hc)⟩
      · rw [List.reverse_append]
        show topOf ((x :: told.reverse).dropWhile (gtM M (M y))) = B y
        rw [List.dropWhile_cons]
        rcases List.mem_append.mp hy with hy | hy
        · rw [if_pos (show gtM M (M y) x = true from ux y hy)]
          exact ih.top y (List.mem_append_left _ hy)
        · rw [if_neg (show ¬ gtM M (M y) x = true by show ¬ PySem.W.dataLt (M y) (M x) = true; rw [ge y hy]; exact Bool.false_ne_true)]
          obtain ⟨s, hs, rfl, e⟩ := kid y hy
          rw [(hm s hs).2, e]
          rfl
      · have old : (s.b = .none ∨ s.b ∈ told) → s.n ∈ told ++ [x] ∨ s.n ∈ st ++ chOf cl x := fun h => by
          rcases ih.cls s hs h with h | h
          · exact .inl (List.mem_append_left _ h)
          · rcases List.mem_append.mp h with h | h
            · exact .inr (List.mem_append_left _ h)
            · exact .inl (List.mem_append_right _ h)
        rcases h with h | h
        · exact old (.inl h)
        · rcases List.mem_append.mp h with h | h
          · exact old (.inr h)
          · exact .inr (List.mem_append_right _ (List.mem_map_of_mem (o.1.mem.mpr ⟨hs, List.mem_singleton.mp h⟩)))
/-- what plain_row tells stands by the rule, and is all of it -/
theorem Fam.dfs {told : List NestedKey} (F : Fam S) (o : Ord S cl) (df : Dfs (chOf cl) told) : Good (markOf S) (baseOf S) [] told ∧ told.Perm (S.map (·.n)) := by
  have w := walk_all (M := markOf S) (B := baseOf S) F o (fun s hs => look_one F.tr.nd hs) told.length
  have l := live_all o F.tr told.length
  rw [show run (chOf cl) told.length = (told, []) from df] at w l
  refine ⟨w.good, ?_⟩
  obtain ⟨S0, p0, a0⟩ := F.ah
  have all := a0.all (told := told) fun s hs h => (w.cls s (p0.mem_iff.mp hs) h).resolve_right (by simp)
  have nd : told.Nodup := by simpa using l.nd
  refine (List.perm_ext_iff_of_nodup nd F.tr.nd).mpr fun x => ⟨fun hx => l.sub x (by simpa using hx), fun hx => ?_⟩
  obtain ⟨s, hs, rfl⟩ := List.mem_map.mp hx
  exact all s (p0.mem_iff.mpr hs)
/-- there is one row of them -/
theorem Fam.one {L L' : List NestedKey} (F : Fam S) (g : Good (markOf S) (baseOf S) [] L) (g' : Good (markOf S) (baseOf S) [] L') (p : L.Perm (S.map (·.n))) (p' : L'.Perm (S.map (·.n))) : L = L' := by
  refine Good.one (C := []) (by simpa using p.nodup_iff.mpr F.tr.nd) (fun x hx => ?_) (p.trans p'.symm) g g' fun x hx => ?_
  · obtain ⟨s, hs, rfl⟩ := List.mem_map.mp (p.mem_iff.mp hx)
    exact F.tr.nn s hs
  · obtain ⟨s, hs, rfl⟩ := List.mem_map.mp (p.mem_iff.mp hx)
    rw [(look_one F.tr.nd hs).2]
    refine (F.base s hs).imp id fun h => ?_
    simpa using p.mem_iff.mpr h
end
theorem Ahead.snoc {S : List Sg} (a : Ahead S) {s : Sg} (h : s.b = .none ∨ s.b ∈ S.map (·.n)) : Ahead (S ++ [s]) := by
  intro as t bs e
  rcases List.eq_nil_or_concat bs with rfl | ⟨bs, x, rfl⟩
  · obtain ⟨rfl, e2⟩ := List.append_inj' e rfl
    cases e2
    exact h
  · rw [List.concat_eq_append, ← List.cons_append, ← List.append_assoc] at e
    exact a as t bs (List.append_inj' e rfl).1
theorem Ahead.chain (m : PyData) : ∀ (ns : List NestedKey) {S : List Sg} {b : NestedKey}, Ahead S → (b = .none ∨ b ∈ S.map (·.n)) → Ahead (S ++ chain m b ns)
  | [], S, b, a, _ => by
    show Ahead (S ++ [])
    rw [List.append_nil]
    exact a
  | n :: ns, S, b, a, h => by
    show Ahead (S ++ (⟨m, n, b⟩ :: Kr.chain m n ns))
    have := Ahead.chain m ns (S := S ++ [⟨m, n, b⟩]) (b := n) (a.snoc h) (.inr (by simp))
    rw [List.append_assoc] at this
    exact this
theorem ahead_puts : ∀ ps : List Put, (∀ as p bs, ps = as ++ p :: bs → p.b = .none ∨ p.b ∈ as.flatMap (·.ns)) → Ahead (singles ps) := by
  intro ps h
  have : ∀ k, k ≤ ps.length → Ahead (singles (ps.take k)) := fun k => by
    induction k with
    | zero =>
      intro _
      rw [List.take_zero]
      intro as s bs e
      cases as <;> cases e
    | succ k ih =>
      intro hk
      have hk2 : k < ps.length := by omega
      rw [List.take_succ_eq_append_getElem hk2, singles_snoc]
      refine Ahead.chain _ _ (ih (by omega)) ?_
      rw [singles_names]
      exact h (ps.take k) ps[k] (ps.drop (k + 1)) (by simp)
  have := this ps.length (Nat.le_refl _)
  rwa [List.take_length] at this
theorem chain_bases (m : PyData) : ∀ (ns : List NestedKey) (b : NestedKey), (b :: ns).Nodup → ∀ s ∈ chain m b ns, ∀ t ∈ chain m b ns, s.b = t.b → s = t
  | [], _, _, s, hs, _, _, _ => by cases hs
  | n :: ns, b, nd, s, hs, t, ht, e => by
    rw [List.nodup_cons] at nd
    have far : ∀ u ∈ chain m n ns, u.b ≠ b := fun u hu z => by
      obtain ⟨_, _, h3⟩ := chain_mem _ _ _ _ hu
      rcases h3 with h3 | h3
      · exact nd.1 (by rw [← z, h3]; exact List.mem_cons_self ..)
      · exact nd.1 (by rw [← z]; exact List.mem_cons_of_mem _ h3)
    rcases List.mem_cons.mp hs with rfl | hs
    · rcases List.mem_cons.mp ht with rfl | ht
      · rfl
      · exact absurd e.symm (far t ht)
    · rcases List.mem_cons.mp ht with rfl | ht
      · exact absurd e (far s hs)
      · exact chain_bases m ns n nd.2 s hs t ht e
theorem Drawn.fam {ps : List Put} {st : Int} (D : Drawn ps st) : Fam (singles ps) := by
  refine ⟨D.tree, fun s hs => ?_, ⟨singles ps, .refl _, ahead_puts ps D.back⟩, D.less, fun s hs t ht e => ?_⟩
  · obtain ⟨p, hp, h1, _⟩ := singles_mem hs
    rw [h1]
    exact D.mark hp
  obtain ⟨p, hp, hs⟩ := List.mem_flatMap.mp hs
  obtain ⟨q, hq, ht⟩ := List.mem_flatMap.mp ht
  obtain ⟨i, hi, rfl⟩ := List.mem_iff_getElem.mp hp
  obtain ⟨j, hj, rfl⟩ := List.mem_iff_getElem.mp hq
  have up := D.up
  rw [List.pairwise_iff_getElem] at up
  obtain ⟨s1, _, _⟩ := chain_mem _ _ _ _ hs
  obtain ⟨t1, _, _⟩ := chain_mem _ _ _ _ ht
  rcases Nat.lt_trichotomy i j with c | c | c
  · exact .inr (.inl (by rw [s1, t1]; exact up i j hi hj c))
  · subst c
    refine .inl (chain_bases _ _ _ ?_ s hs t ht e)
    have nd : (ps[i]).ns.Nodup := by
      obtain ⟨s, h, k, c, _, hh, hk, hc, _, e⟩ := D.each _ hp
      rw [e]
      exact one_nodup
    rw [List.nodup_cons]
    refine ⟨fun hb => ?_, nd⟩
    rcases D.back (ps.take i) ps[i] (ps.drop (i + 1)) (by simp) with h | h
    · rw [h] at hb
      exact (D.name hp _ hb).nn rfl
    · obtain ⟨r, hr, h⟩ := List.mem_flatMap.mp h
      obtain ⟨k, hk, rfl⟩ := List.mem_iff_getElem.mp hr
      rw [List.length_take] at hk
      rw [List.getElem_take] at h
      have dj := D.dj
      rw [List.pairwise_iff_getElem] at dj
      exact dj k i (by omega) hi (by omega) _ h _ hb rfl
  · exact .inr (.inr (by rw [s1, t1]; exact up j i hj hi c))
end Kr
set_option maxRecDepth 10000
namespace Kr
open PySem PySem.Spec PyProof.Rows L2 Lf Zl
abbrev kv (x : NestedKey) : Val := .dat (datK x)
/-! ### links -/
def Lnk (nx : List (NestedKey × Val)) : NestedKey → List NestedKey → Prop
  | _, [] => True
  | x, y :: r => lookZ nx x = some (kv y) ∧ Lnk nx y r
theorem lastOf_app : ∀ {l r : List NestedKey} {b : NestedKey}, lastOf b (l ++ r) = lastOf (lastOf b l) r
  | [], _, _ => rfl
  | _ :: l, r, _ => lastOf_app (l := l) (r := r)
theorem Lnk.app {nx : List (NestedKey × Val)} : ∀ {l r : List NestedKey} {x : NestedKey}, Lnk nx x (l ++ r) ↔ Lnk nx x l ∧ Lnk nx (lastOf x l) r
  | [], r, x => ⟨fun h => ⟨trivial, h⟩, fun h => h.2⟩
  | y :: l, r, x => ⟨fun h => ⟨⟨h.1, (Lnk.app.mp h.2).1⟩, (Lnk.app.mp h.2).2⟩, fun h => ⟨h.1.1, Lnk.app.mpr ⟨h.1.2, h.2⟩⟩⟩
/-- the keys that are asked -/
theorem Lnk.put {nx : List (NestedKey × Val)} {k : NestedKey} {v : Val} : ∀ {l : List NestedKey} {x : NestedKey}, Lnk nx x l → (l = [] ∨ k ∉ (x :: l).dropLast) → Lnk (putZ nx k v) x l
  | [], _, _, _ => trivial
  | y :: l, x, h, n => by
    have n' : k ∉ (x :: y :: l).dropLast := n.resolve_left (by simp)
    rw [List.dropLast_cons₂, List.mem_cons, not_or] at n'
    refine ⟨?_, h.2.put ?_⟩
    · rw [lookZ_put, if_neg n'.1]
      exact h.1
    · exact .inr n'.2
theorem last_mem : ∀ {l : List NestedKey} {x : NestedKey}, lastOf x l = x ∧ l = [] ∨ lastOf x l ∈ l
  | [], _ => .inl ⟨rfl, rfl⟩
  | y :: l, x => by
    rcases last_mem (l := l) (x := y) with ⟨h, _⟩ | h
    · refine .inr ?_
      show lastOf y l ∈ _
      rw [h]
      exact List.mem_cons_self ..
    · exact .inr (List.mem_cons_of_mem _ h)
theorem last_drop : ∀ {l : List NestedKey} {x : NestedKey}, (x :: l).Nodup → lastOf x l ∉ (x :: l).dropLast
  | [], _, _ => by simp
  | y :: l, x, nd => by
    rw [List.nodup_cons] at nd
    rw [List.dropLast_cons₂, List.mem_cons, not_or]
    refine ⟨fun e => nd.1 ?_, last_drop nd.2⟩
    rcases last_mem (l := l) (x := y) with ⟨h, _⟩ | h
    · rw [← e]
      show lastOf y l ∈ _
      rw [h]
      exact List.mem_cons_self ..
    · rw [← e]
      exact List.mem_cons_of_mem _ h
/-- the tables of a row -/
structure RowT (nx mk : List (NestedKey × Val)) (M : NestedKey → PyData) (L : List NestedKey) : Prop where
  lnk : Lnk nx .none (L ++ [.none])
  mks : ∀ x ∈ L, lookZ mk x = some (.dat (M x))
  ks : (mk.map (·.1)).Perm L
  kn : (nx.map (·.1)).Nodup ∧ ∀ k ∈ nx.map (·.1), k ∈ NestedKey.none :: L
  nd : (NestedKey.none :: L).Nodup
def rowS (CR r dx a b : Addr) (nx mk : List (NestedKey × Val)) : Store := [(r, .ins CR dx [("_next", .ptr a), ("_marks", .ptr b)]), (a, .dv nx), (b, .dv mk)]
theorem key_none : Vd.KeyOk .none := ⟨by decide, fun _ _ => trivial⟩
structure Ts (K : PySem.W.Frag) (mg : Str → Option Value) (CR : Addr) : Prop extends Bs mg where
  c_Row : Cls K CR
  n_Row__next : NoAttr K CR "_next"
  n_Row__marks : NoAttr K CR "_marks"
  g_Row : mg "Row" = some (.ref CR)
section
variable {P : Program} {w : World} {K : PySem.W.Frag} {mg : Str → Option Value} {base : Heap} {CR : Addr}
def fRInit (CR : Addr) : DSp := fun xs μ Q => ∃ r dx, xs = [.ptr r] ∧ μ = [(r, .ins CR dx [])] ∧ ∀ a b, Q (.dat .none) (rowS CR r dx a b [(.none, kv .none)] [])
abbrev sRow : Stmt := topS 6
abbrev sRInit : Stmt := inClass sRow 0
theorem scRInit : FnScope ["self"] ["self"] (defScope sRInit) := ⟨rfl, rfl, rfl, by decide +kernel, rfl, by decide +kernel, by decide +kernel⟩
theorem ok_rinit {f : Addr} {fd : FuncData} (F : Fun K "__init__" "Row.__init__" sRInit f fd) (T : Ts K mg CR) : FnOk P w K mg base CX0 1 f fd ["self"] (spZ w K (fRInit CR)) := by
  refine Fun.okZ F scRInit (fun xs μ Q h => ?_) (fun cdv A outer s H E hr => ?_)
  · obtain ⟨r, dx, rfl, _⟩ := h
    rfl
  · have nd := scRInit.nd
    refine ⟨_, (dss_cons (ds_asg (d_dict hr.units (dps_cons d_non d_non dps_nil)) (dg_fld T.c_Row T.n_Row__next (dv 0)))
  (dss_one (ds_asg d_dnew (dg_fld T.c_Row T.n_Row__marks (dv 0))))), ?_⟩
    rintro xs μ Q ⟨r, dx, rfl, rfl, q⟩
    refine ⟨_, rfl, ?_, by decide, fun a => ⟨0, dx, [], rfl, by decide, fun b => ⟨0, dx, _, rfl, (by show 1 < 1000; decide), ?_⟩⟩⟩
    · intro p hp
      rw [List.mem_singleton.mp hp]
      exact key_none
    · exact ⟨_, .refl _, q a b⟩
def fRNames (CR : Addr) : DSp := fun xs μ Q => ∃ r dx a b nx mk M L, xs = [.ptr r] ∧ μ = rowS CR r dx a b nx mk ∧ RowT nx mk M L ∧ L.length ≤ 100000 ∧ (∀ x ∈ L, Vd.KeyOk x) ∧ ∀ p, Q (.ptr p) (rowS CR r dx a b nx mk ++ [(p, .lst (L.map kv))])
abbrev sRNames : Stmt := inClass sRow 2
theorem scRNames : FnScope ["self", "told", "name"] ["self"] (defScope sRNames) := ⟨rfl, rfl, rfl, by decide +kernel, rfl, by decide +kernel, by decide +kernel⟩
theorem ok_rnames {f : Addr} {fd : FuncData} (F : Fun K "names" "Row.names" sRNames f fd) (T : Ts K mg CR) : FnOk P w K mg base CX0 1 f fd ["self"] (spZ w K (fRNames CR)) := by
  refine Fun.okZ F scRNames (fun xs μ Q h => ?_) (fun cdv A outer s H E hr => ?_)
  · obtain ⟨r, dx, a, b, nx, mk, M, L, rfl, _⟩ := h
    rfl
  · have nd := scRNames.nd
    refine ⟨_, (dss_cons (ds_set (i := 1) nd rfl (Or.inl rfl) (d_lst da_nil))
  (dss_cons (ds_set (i := 2) nd rfl (Or.inl rfl) (d_dix hr.units (d_fld T.c_Row T.n_Row__next (dv 0)) d_non (fun _ _ => rfl)))
  (dss_cons (ds_whileN PassesOwn.never (dt_cmp oz_notN (dv 2) d_non (nomark _))
  (dss_cons (ds_expr (d_lm PySem.F.slot_list_append PySem.F.type_list_append me_append (dv 1) (da_cons (dv 2) da_nil)))
  (dss_one (ds_set (i := 2) nd rfl (Or.inl rfl) (d_dix hr.units (d_fld T.c_Row T.n_Row__next (dv 0)) (dv 2) (fun _ _ => rfl))))))
  (dss_one (ds_ret (dv 1)))))), ?_⟩
    rintro xs μ Q ⟨r, dx, a, b, nx, mk, M, L, rfl, rfl, t, hl, hk, q⟩
    have ez : sizeLine = 16777216 := by decide +kernel
    obtain ⟨h0, t0, e0⟩ : ∃ h t, L ++ [.none] = h :: t := by cases L <;> exact ⟨_, _, rfl⟩
    have l0 := t.lnk
    rw [e0] at l0
    refine ⟨Nat.zero_le _, fun p => ⟨0, dx, _, _, rfl, rfl, nx, .none, _, .own 1 rfl, rfl, key_none, l0.1, ?_⟩⟩
    refine ⟨fun n ρ μ => ∃ T R hd tl, n = R.length ∧ L = T ++ R ∧ R ++ [.none] = hd :: tl ∧ Lnk nx hd tl ∧ ρ = [some (.ptr r), some (.ptr p), some (kv hd)] ∧ μ = rowS CR r dx a b nx mk ++ [(p, .lst (T.map kv))], ⟨_, [], L, h0, t0, rfl, rfl, e0, l0.2, rfl, rfl⟩, ?_⟩
    rintro n ρ μ ⟨T1, R, hd, tl, rfl, eL, eR, ln, rfl, rfl⟩
    have nn : ∀ x ∈ L, x ≠ .none := fun x hx e => by
      have := t.nd
      rw [List.nodup_cons] at this
      rw [e] at hx
      exact this.1 hx
    refine is_kv (g := not) ?_
    refine ite2 (fun c => ?_) (fun c => ?_)
    · have c' : hd ≠ .none := by simpa using c
      cases R with
      | nil =>
        injection eR with e1 e2
        exact absurd e1.symm c'
      | cons x R =>
        have e2 : R ++ [NestedKey.none] = tl := (List.cons.inj eR).2
        obtain rfl : x = hd := (List.cons.inj eR).1
        obtain ⟨h1, t1, e1⟩ : ∃ h t, R ++ [NestedKey.none] = h :: t := by cases R <;> exact ⟨_, _, rfl⟩
        rw [← e2, e1] at ln
        have hx : x ∈ L := by rw [eL]; simp
        have := congrArg List.length eL
        rw [List.length_append, List.length_cons] at this
        refine ⟨⟨3, _, rfl⟩, 3, _, rfl, by rw [List.length_map]; omega, 0, dx, _, _, rfl, rfl, nx, x, _, .own 1 rfl, keyD_datK _, hk x hx, ln.1, _, .refl _, R.length, Nat.lt_succ_self _, T1 ++ [x], R, h1, t1, rfl, by rw [eL]; simp, e1, ln.2, rfl, ?_⟩
        rw [List.map_append]
        rfl
    · have c' : hd = .none := by simpa using c
      have : R = [] := by
        cases R with
        | nil => rfl
        | cons x R =>
          injection eR with e1 e2
          exact absurd (e1.trans c') (nn x (by rw [eL]; simp))
      subst this
      rw [List.append_nil] at eL
      subst eL
      exact ⟨_, .refl _, q p⟩
/-- what is put, as the rule says -/
structure PutR (M : NestedKey → PyData) (L A G R ns : List NestedKey) (m : PyData) (b : NestedKey) : Prop where
  eL : L = A ++ (G ++ R)
  hA : (A = [] ∧ b = .none) ∨ ∃ A0, A = A0 ++ [b]
  hG : ∀ x ∈ G, PySem.W.dataLt m (M x) = true
  hR : ∀ x r, R = x :: r → PySem.W.dataLt (M x) m = true
  hn : ∀ n ∈ ns, M n = m
  ks : ∀ x ∈ L ++ ns, Vd.KeyOk x
  mkd : ∀ x ∈ L ++ ns, ∃ t h, M x = mrk t h
  mm : ∃ t h, m = mrk t h
  nd : (.none :: (L ++ ns)).Nodup
theorem lastOf_of {A : List NestedKey} {b : NestedKey} (h : (A = [] ∧ b = .none) ∨ ∃ A0, A = A0 ++ [b]) : lastOf .none A = b := by
  rcases h with ⟨rfl, rfl⟩ | ⟨A0, rfl⟩
  · rfl
  · rw [lastOf_app]
    rfl
theorem putZ_keys : ∀ {kvs : List (NestedKey × Val)} {k : NestedKey} {v : Val}, k ∉ kvs.map (·.1) → (putZ kvs k v).map (·.1) = kvs.map (·.1) ++ [k]
  | [], _, _, _ => rfl
  | x :: r, k, v, h => by
    rw [List.map_cons, List.mem_cons, not_or] at h
    unfold putZ
    rw [if_neg (Ne.symm h.1)]
    show x.1 :: (putZ r k v).map (·.1) = _
    rw [putZ_keys h.2]
    rfl
theorem putZ_nd {kvs : List (NestedKey × Val)} {k : NestedKey} {v : Val} (nd : (kvs.map (·.1)).Nodup) : ((putZ kvs k v).map (·.1)).Nodup ∧ ∀ x ∈ (putZ kvs k v).map (·.1), x ∈ kvs.map (·.1) ∨ x = k := by
  by_cases h : k ∈ kvs.map (·.1)
  · have e : ∀ {kvs : List (NestedKey × Val)}, k ∈ kvs.map (·.1) → (putZ kvs k v).map (·.1) = kvs.map (·.1) := fun {kvs} h => by
      induction kvs with
      | nil => cases h
      | cons x r ih =>
        unfold putZ
        by_cases e : x.1 = k
        · rw [if_pos e]
          rfl
        · rw [if_neg e, List.map_cons, List.map_cons, ih ((List.mem_cons.mp h).resolve_left fun z => e z.symm)]
    rw [e h]
    exact ⟨nd, fun x hx => .inl hx⟩
  · rw [putZ_keys h]
    refine ⟨List.nodup_append.mpr ⟨nd, by simp, fun x hx y hy z => ?_⟩, fun x hx => ?_⟩
    · rw [List.mem_singleton.mp hy] at z
      exact h (z ▸ hx)
    · rcases List.mem_append.mp hx with hx | hx
      · exact .inl hx
      · exact .inr (List.mem_singleton.mp hx)
theorem lookZ_mem : ∀ {kvs : List (NestedKey × Val)} {k : NestedKey}, (lookZ kvs k).isSome = true ↔ k ∈ kvs.map (·.1)
  | [], k => by simp [lookZ]
  | x :: r, k => by
    unfold lookZ
    rw [List.map_cons, List.mem_cons]
    by_cases e : x.1 = k
    · rw [if_pos e]
      simp [e]
    · rw [if_neg e, lookZ_mem]
      exact ⟨.inr, fun h => h.resolve_left fun z => e z.symm⟩
theorem putZ_len_old : ∀ {kvs : List (NestedKey × Val)} {k : NestedKey} {v : Val}, k ∈ kvs.map (·.1) → (putZ kvs k v).length = kvs.length
  | [], _, _, h => by cases h
  | x :: r, k, v, h => by
    unfold putZ
    by_cases e : x.1 = k
    · rw [if_pos e]
      rfl
    · rw [if_neg e, List.length_cons, List.length_cons, putZ_len_old]
      exact (List.mem_cons.mp h).resolve_left fun z => e z.symm
def fRPut (CR : Addr) : DSp := fun xs μ Q => ∃ r dx a b nx mk M L A G R ns m b0, xs = [.ptr r, .dat m, .dat (.tuple (ns.map datK)), .dat (datK b0)] ∧ μ = rowS CR r dx a b nx mk ∧ RowT nx mk M L ∧ PutR M L A G R ns m b0 ∧ (L ++ ns).length ≤ 100000 ∧
  ∀ nx' mk', RowT nx' mk' M (A ++ (G ++ (ns ++ R))) → Q (.dat .none) (rowS CR r dx a b nx' mk')
abbrev sRPut : Stmt := inClass sRow 1
theorem scRPut : FnScope ["self", "mark", "names", "behind", "ahead", "last", "name"] ["self", "mark", "names", "behind"] (defScope sRPut) := ⟨rfl, rfl, rfl, by decide +kernel, rfl, by decide +kernel, by decide +kernel⟩
set_option maxHeartbeats 1000000 in
theorem ok_rput {f : Addr} {fd : FuncData} (F : Fun K "put" "Row.put" sRPut f fd) (T : Ts K mg CR) : FnOk P w K mg base CX0 1 f fd ["self", "mark", "names", "behind"] (spZ w K (fRPut CR)) := by
  refine Fun.okZ F scRPut (fun xs μ Q h => ?_) (fun cdv A outer s H E hr => ?_)
  · obtain ⟨r, dx, a, b, nx, mk, M, L, A, G, R, ns, m, b0, rfl, _⟩ := h
    rfl
  · have nd := scRPut.nd
    refine ⟨_, (dss_cons (ds_set (i := 4) nd rfl (Or.inl rfl) (dv 3))
  (dss_cut (ds_whileN PassesOwn.never (DW.dt (dw_and (dt_cmp oz_notN (d_dix hr.units (d_fld T.c_Row T.n_Row__next (dv 0)) (dv 4) (fun _ _ => rfl)) d_non (nomark _)) (dw_and1 (dt_cmp (oz_gt hr.units) (d_dix hr.units (d_fld T.c_Row T.n_Row__marks (dv 0)) (d_dix hr.units (d_fld T.c_Row T.n_Row__next (dv 0)) (dv 4) (fun _ _ => rfl)) (fun _ _ => rfl)) (dv 1) (nomark _)))))
  (dss_one (ds_set (i := 4) nd rfl (Or.inl rfl) (d_dix hr.units (d_fld T.c_Row T.n_Row__next (dv 0)) (dv 4) (fun _ _ => rfl)))))
  (dss_cons (ds_set (i := 5) nd rfl (Or.inl rfl) (d_dix hr.units (d_fld T.c_Row T.n_Row__next (dv 0)) (dv 4) (fun _ _ => rfl)))
  (dss_cons (ds_for PassesOwn.never rfl (di_seq (dv 2)) (dg_name (i := 6) nd rfl (Or.inl rfl))
  (dss_cons (ds_dput hr.units (d_fld T.c_Row T.n_Row__next (dv 0)) (dv 4) (dv 6) rfl)
  (dss_cons (ds_dput hr.units (d_fld T.c_Row T.n_Row__marks (dv 0)) (dv 6) (dv 1) rfl)
  (dss_one (ds_set (i := 4) nd rfl (Or.inl rfl) (dv 6))))))
  (dss_one (ds_dput hr.units (d_fld T.c_Row T.n_Row__next (dv 0)) (dv 4) (dv 5) rfl)))))), ?_⟩
    rintro xs μ Q ⟨r, dx, a, b, nx, mk, M, L, A, G, R, ns, m, b0, rfl, rfl, t, p, hlen, q⟩
    have ez : sizeLine = 16777216 := by decide +kernel
    have eL := p.eL
    have ndL := t.nd
    rw [List.nodup_cons] at ndL
    have nn : ∀ x ∈ L, x ≠ .none := fun x hx e => ndL.1 (by rw [← e]; exact hx)
    have key : ∀ x ∈ L, Vd.KeyOk x := fun x hx => p.ks x (List.mem_append_left _ hx)
    have lA : lastOf .none A = b0 := lastOf_of p.hA
    obtain ⟨tm, hm, em⟩ := p.mm
    have inL : ∀ x, x ∈ A ∨ x ∈ G ∨ x ∈ R → x ∈ L := fun x h => by
      rw [eL, List.mem_append, List.mem_append]
      exact h
    -- what is asked of a place
    have at_ : ∀ G1 G2, G = G1 ++ G2 → Vd.KeyOk (lastOf .none (A ++ G1)) ∧ ∃ h t, G2 ++ (R ++ [NestedKey.none]) = h :: t ∧ lookZ nx (lastOf .none (A ++ G1)) = some (kv h) ∧ Lnk nx h t := fun G1 G2 e => by
      refine ⟨?_, ?_⟩
      · rcases last_mem (l := A ++ G1) (x := .none) with ⟨h, _⟩ | h
        · rw [h]
          exact key_none
        · refine key _ (inL _ ?_)
          rcases List.mem_append.mp h with h | h
          · exact .inl h
          · exact .inr (.inl (by rw [e]; exact List.mem_append_left _ h))
      · have ln := t.lnk
        have e2 : L ++ [.none] = (A ++ G1) ++ (G2 ++ (R ++ [.none])) := by rw [eL, e]; simp
        rw [e2, Lnk.app] at ln
        obtain ⟨h, tl, e3⟩ : ∃ h t, G2 ++ (R ++ [NestedKey.none]) = h :: t := by
          cases G2 with
          | nil => cases R <;> exact ⟨_, _, rfl⟩
          | cons x G2 => exact ⟨_, _, rfl⟩
        rw [e3] at ln
        exact ⟨h, tl, e3, ln.2.1, ln.2.2⟩
    refine ⟨fun ρ μ => ρ = [some (.ptr r), some (.dat m), some (.dat (.tuple (ns.map datK))), some (kv b0), some (kv (lastOf .none (A ++ G))), none, none] ∧ μ = rowS CR r dx a b nx mk, ?_, ?_⟩
    · refine ⟨fun n ρ μ => ∃ G1 G2, n = G2.length ∧ G = G1 ++ G2 ∧ ρ = [some (.ptr r), some (.dat m), some (.dat (.tuple (ns.map datK))), some (kv b0), some (kv (lastOf .none (A ++ G1))), none, none] ∧ μ = rowS CR r dx a b nx mk, ⟨_, [], G, rfl, rfl, ?_, rfl⟩, ?_⟩
      · rw [List.append_nil, lA]
        rfl
      rintro n ρ μ ⟨G1, G2, rfl, eG, rfl, rfl⟩
      obtain ⟨ka, hd, tl, eT, look, ln⟩ := at_ G1 G2 eG
      refine ⟨0, dx, _, _, rfl, rfl, nx, _, _, .own 1 rfl, keyD_datK _, ka, look, ?_⟩
      refine is_kv (g := not) ?_
      refine ite2 (fun c => ?_) (fun c => ?_)
      · have c' : hd ≠ .none := by simpa using c
        have hL : hd ∈ L := by
          cases G2 with
          | cons x G2 =>
            obtain rfl : x = hd := (List.cons.inj eT).1
            exact inL _ (.inr (.inl (by rw [eG]; simp)))
          | nil =>
            cases R with
            | nil => exact absurd (List.cons.inj eT).1.symm c'
            | cons x R =>
              obtain rfl : x = hd := (List.cons.inj eT).1
              exact inL _ (.inr (.inr (List.mem_cons_self ..)))
        obtain ⟨tx, hx, ex⟩ := p.mkd hd (List.mem_append_left _ hL)
        refine ⟨0, dx, _, _, rfl, rfl, 0, dx, _, _, rfl, rfl, nx, _, _, .own 1 rfl, keyD_datK _, ka, look, mk, hd, _, .own 2 rfl, keyD_datK _, key hd hL, t.mks hd hL, ?_⟩
        rw [ex, em]
        refine ⟨rfl, fun z => (by cases z), (by show 1 ≤ 50; decide), ?_⟩
        rw [← ex, ← em]
        refine ite2 (fun g => ?_) (fun g => ?_)
        · refine ⟨0, dx, _, _, rfl, rfl, nx, _, _, .own 1 rfl, keyD_datK _, ka, look, ?_⟩
          cases G2 with
          | nil =>
            cases R with
            | nil => exact absurd (List.cons.inj eT).1.symm c'
            | cons x R =>
              obtain rfl : x = hd := (List.cons.inj eT).1
              have g' : PySem.W.dataLt m (M x) = true := g
              rw [lt_asym (p.hR x R rfl)] at g'
              exact absurd g' Bool.false_ne_true
          | cons x G2 =>
            obtain rfl : x = hd := (List.cons.inj eT).1
            refine ⟨_, .refl _, G2.length, Nat.lt_succ_self _, G1 ++ [x], G2, rfl, by rw [eG]; simp, ?_, rfl⟩
            have e4 : lastOf .none (A ++ (G1 ++ [x])) = x := by
              rw [← List.append_assoc, lastOf_app]
              rfl
            rw [e4]
            rfl
        · cases G2 with
          | nil =>
            rw [List.append_nil] at eG
            subst eG
            exact ⟨rfl, rfl⟩
          | cons x G2 =>
            obtain rfl : x = hd := (List.cons.inj eT).1
            exact absurd (p.hG x (by rw [eG]; simp)) g
      · have c' : hd = .none := by simpa using c
        refine ite2 (fun z => (Bool.false_ne_true z).elim) fun _ => ?_
        cases G2 with
        | nil =>
          rw [List.append_nil] at eG
          subst eG
          exact ⟨rfl, rfl⟩
        | cons x G2 =>
          obtain rfl : x = hd := (List.cons.inj eT).1
          exact absurd c' (nn x (inL _ (.inr (.inl (by rw [eG]; simp)))))
    rintro ρ μ ⟨rfl, rfl⟩
    obtain ⟨ka, hd, tl, eT, look, ln⟩ := at_ G [] (by simp)
    rw [List.nil_append] at eT
    refine ⟨0, dx, _, _, rfl, rfl, nx, _, _, .own 1 rfl, keyD_datK _, ka, look, ?_⟩
    have ln0 : Lnk nx .none (A ++ G) := by
      have h := t.lnk
      rw [show L ++ [NestedKey.none] = (A ++ G) ++ (R ++ [.none]) by rw [eL]; simp, Lnk.app] at h
      exact h.1
    have nd0 := p.nd
    rw [List.nodup_cons, List.nodup_append] at nd0
    obtain ⟨nd1, nd2, nd3, nd4⟩ := nd0
    have len2 : ∀ kvs : List (NestedKey × Val), (kvs.map (·.1)).Nodup → (∀ k ∈ kvs.map (·.1), k ∈ NestedKey.none :: (L ++ ns)) → kvs.length < sizeLine := fun kvs h1 h2 => by
      have := nodup_le h1 h2
      rw [List.length_map, List.length_cons] at this
      omega
    -- the names put so far
    have pre : ∀ i, (NestedKey.none :: ((A ++ G) ++ ns.take i)).Nodup ∧ (∀ x ∈ (A ++ G) ++ ns.take i, x ∈ L ++ ns ∧ x ∉ R) := fun i => by
      have e : (A ++ G) ++ R = L := by rw [eL]; simp
      have sl : List.Sublist (NestedKey.none :: ((A ++ G) ++ ns.take i)) (NestedKey.none :: (L ++ ns)) := by
        refine List.Sublist.cons₂ _ (List.Sublist.append ?_ (List.take_sublist _ _))
        rw [← e]
        exact List.sublist_append_left _ _
      refine ⟨sl.nodup p.nd, fun x hx => ⟨(List.mem_cons.mp (sl.subset (List.mem_cons_of_mem _ hx))).resolve_left fun z => ?_, fun hR => ?_⟩⟩
      · have := sl.nodup p.nd
        rw [List.nodup_cons] at this
        exact this.1 (z ▸ hx)
      · rcases List.mem_append.mp hx with h | h
        · rw [← e, List.nodup_append] at nd2
          exact nd2.2.2 x h x hR rfl
        · exact nd4 x (by rw [← e]; exact List.mem_append_right _ hR) x (List.mem_of_mem_take h) rfl
    refine ⟨fun i ρ μ => ∃ nx' mk' y, ρ = [some (.ptr r), some (.dat m), some (.dat (.tuple (ns.map datK))), some (kv b0), some (kv (lastOf .none ((A ++ G) ++ ns.take i))), some (kv hd), y] ∧ μ = rowS CR r dx a b nx' mk' ∧
      Lnk nx' .none ((A ++ G) ++ ns.take i) ∧ Lnk nx' hd tl ∧ (∀ x ∈ L ++ ns.take i, lookZ mk' x = some (.dat (M x))) ∧ (mk'.map (·.1)).Perm (L ++ ns.take i) ∧ (nx'.map (·.1)).Nodup ∧ ∀ k ∈ nx'.map (·.1), k ∈ NestedKey.none :: (L ++ ns.take i),
      ⟨nx, mk, none, ?_, rfl, ?_, ln, ?_, ?_, t.kn.1, ?_⟩, fun _ _ _ _ _ => trivial, ?_, ?_⟩
    · rw [List.take_zero, List.append_nil]
      rfl
    · rw [List.take_zero, List.append_nil]
      exact ln0
    · rw [List.take_zero, List.append_nil]
      exact t.mks
    · rw [List.take_zero, List.append_nil]
      exact t.ks
    · rw [List.take_zero, List.append_nil]
      exact t.kn.2
    · rintro i y ρ μ hy ⟨nx', mk', y6, rfl, rfl, l1, l2, h3, h4, h5, h6⟩
      rw [List.map_map] at hy
      obtain ⟨n, hn, rfl⟩ := get_map hy
      have hmem := List.mem_of_getElem? hn
      have es := take_snoc hn
      obtain ⟨pn1, pn2⟩ := pre i
      obtain ⟨pm1, pm2⟩ := pre (i + 1)
      rw [es] at pm1 pm2
      have kn : Vd.KeyOk n := p.ks n (List.mem_append_right _ hmem)
      have sub : ∀ k ∈ NestedKey.none :: (L ++ ns.take i), k ∈ NestedKey.none :: (L ++ ns) := fun k hk => by
        rcases List.mem_cons.mp hk with h | h
        · exact List.mem_cons.mpr (.inl h)
        · rcases List.mem_append.mp h with h | h
          · exact List.mem_cons_of_mem _ (List.mem_append_left _ h)
          · exact List.mem_cons_of_mem _ (List.mem_append_right _ (List.mem_of_mem_take h))
      have lastIn : lastOf .none ((A ++ G) ++ ns.take i) = .none ∨ lastOf .none ((A ++ G) ++ ns.take i) ∈ (A ++ G) ++ ns.take i := by
        rcases last_mem (l := (A ++ G) ++ ns.take i) (x := .none) with ⟨h, _⟩ | h
        · exact .inl h
        · exact .inr h
      have kl : Vd.KeyOk (lastOf .none ((A ++ G) ++ ns.take i)) := by
        rcases lastIn with h | h
        · rw [h]
          exact key_none
        · exact p.ks _ (pn2 _ h).1
      have nL : n ∉ L ++ ns.take i := fun h => by
        rcases List.mem_append.mp h with h | h
        · exact nd4 n h n hmem rfl
        · rw [List.take_succ_eq_append_getElem (List.getElem?_eq_some_iff.mp hn).1] at es
          have nd5 : (ns.take (i + 1)).Nodup := (List.take_sublist _ _).nodup nd3
          rw [take_snoc hn, List.nodup_append] at nd5
          exact nd5.2.2 n h n (by simp) rfl
      refine ⟨0, dx, _, _, rfl, rfl, 1, nx', _, rfl, keyD_datK _, kl, len2 _ h5 (fun k hk => sub k (h6 k hk)), ?_⟩
      refine ⟨0, dx, _, _, rfl, rfl, 2, mk', n, rfl, keyD_datK _, kn, ?_, _, .refl _, putZ nx' (lastOf .none ((A ++ G) ++ ns.take i)) (kv n), putZ mk' n (.dat m), some (kv n), ?_, rfl, ?_, ?_, ?_, ?_, (putZ_nd h5).1, ?_⟩
      · have := h4.length_eq
        rw [List.length_map, List.length_append, List.length_take] at this
        rw [List.length_append] at hlen
        omega
      · have e4 : lastOf .none ((A ++ G) ++ ns.take (i + 1)) = n := by
          rw [es, ← List.append_assoc, lastOf_app]
          rfl
        rw [e4]
        rfl
      · rw [es, ← List.append_assoc, Lnk.app]
        exact ⟨l1.put (.inr (last_drop pn1)), by rw [lookZ_put, if_pos rfl], trivial⟩
      · refine l2.put ?_
        by_cases e : tl = []
        · exact .inl e
        · refine .inr ?_
          rw [← eT, List.dropLast_concat]
          intro hR
          rcases lastIn with h | h
          · rw [h] at hR
            exact nn _ (inL _ (.inr (.inr hR))) rfl
          · exact (pn2 _ h).2 hR
      · intro x hx
        rw [lookZ_put]
        rw [es, ← List.append_assoc] at hx
        rcases List.mem_append.mp hx with hx | hx
        · rw [if_neg fun e => nL (by rw [e]; exact hx)]
          exact h3 x hx
        · rw [List.mem_singleton.mp hx, if_pos rfl, p.hn n hmem]
      · rw [putZ_keys (fun h => nL (h4.mem_iff.mp h)), es, ← List.append_assoc]
        exact h4.append_right _
      · intro k hk
        rw [es, ← List.append_assoc]
        rcases (putZ_nd h5).2 k hk with h | h
        · rcases List.mem_cons.mp (h6 k h) with h | h
          · exact List.mem_cons.mpr (.inl h)
          · exact List.mem_cons_of_mem _ (List.mem_append_left _ h)
        · rcases lastIn with h' | h'
          · exact List.mem_cons.mpr (.inl (h.trans h'))
          · rw [h]
            refine List.mem_cons_of_mem _ (List.mem_append_left _ ?_)
            rcases List.mem_append.mp h' with h' | h'
            · refine List.mem_append_left _ (inL _ ?_)
              rcases List.mem_append.mp h' with h' | h'
              · exact .inl h'
              · exact .inr (.inl h')
            · exact List.mem_append_right _ h'
    · rintro ρ μ ⟨nx', mk', y6, rfl, rfl, l1, l2, h3, h4, h5, h6⟩
      rw [List.length_map, List.length_map, List.take_length] at l1 h3 h4 h6 ⊢
      obtain ⟨pn1, pn2⟩ := pre ns.length
      rw [List.take_length] at pn1 pn2
      have lastIn : lastOf .none ((A ++ G) ++ ns) = .none ∨ lastOf .none ((A ++ G) ++ ns) ∈ (A ++ G) ++ ns := by
        rcases last_mem (l := (A ++ G) ++ ns) (x := .none) with ⟨h, _⟩ | h
        · exact .inl h
        · exact .inr h
      have kl : Vd.KeyOk (lastOf .none ((A ++ G) ++ ns)) := by
        rcases lastIn with h | h
        · rw [h]
          exact key_none
        · exact p.ks _ (pn2 _ h).1
      have pL : (A ++ (G ++ (ns ++ R))).Perm (L ++ ns) := by
        rw [eL, List.append_assoc, List.append_assoc]
        exact (List.perm_append_comm.append_left G).append_left A
      refine ⟨0, dx, _, _, rfl, rfl, 1, nx', _, rfl, keyD_datK _, kl, len2 _ h5 h6, _, .refl _, q (putZ nx' (lastOf .none ((A ++ G) ++ ns)) (kv hd)) mk' ⟨?_, ?_, h4.trans pL.symm, ⟨(putZ_nd h5).1, ?_⟩, ?_⟩⟩
      · have e5 : A ++ (G ++ (ns ++ R)) ++ [NestedKey.none] = ((A ++ G) ++ ns) ++ (hd :: tl) := by rw [← eT]; simp
        rw [e5, Lnk.app]
        refine ⟨l1.put (.inr (last_drop pn1)), by rw [lookZ_put, if_pos rfl], l2.put ?_⟩
        by_cases e : tl = []
        · exact .inl e
        · refine .inr ?_
          rw [← eT, List.dropLast_concat]
          intro hR
          rcases lastIn with h | h
          · rw [h] at hR
            exact nn _ (inL _ (.inr (.inr hR))) rfl
          · exact (pn2 _ h).2 hR
      · intro x hx
        exact h3 x (pL.mem_iff.mp hx)
      · intro k hk
        have fix : ∀ k, k ∈ NestedKey.none :: (L ++ ns) → k ∈ NestedKey.none :: (A ++ (G ++ (ns ++ R))) := fun k h => by
          rcases List.mem_cons.mp h with h | h
          · exact List.mem_cons.mpr (.inl h)
          · exact List.mem_cons_of_mem _ (pL.mem_iff.mpr h)
        rcases (putZ_nd h5).2 k hk with h | h
        · exact fix k (h6 k h)
        · rcases lastIn with h' | h'
          · exact List.mem_cons.mpr (.inl (h.trans h'))
          · rw [h]
            exact fix _ (List.mem_cons_of_mem _ (pn2 _ h').1)
      · have := p.nd
        rw [List.nodup_cons] at this ⊢
        exact ⟨fun h => this.1 (pL.mem_iff.mp h), pL.nodup_iff.mpr this.2⟩
end
end Kr
set_option maxRecDepth 10000
namespace Kr
open PySem PySem.Spec PyProof.Rows L2 Lf Zl
/-- a put at its place -/
theorem good_put_at {M : NestedKey → PyData} {B : NestedKey → NestedKey} {L ns : List NestedKey} {m : PyData} {b : NestedKey} {A rest : List NestedKey} (g : Good M B [] L) (eL : L = A ++ rest) (hA : (A = [] ∧ b = .none) ∨ ∃ A0, A = A0 ++ [b] ∧ b ∈ L) (lb : b ≠ .none → PySem.W.dataLt m (M b) = false)
    (tri : ∀ x ∈ L, PySem.W.dataLt (M x) m = true ∨ PySem.W.dataLt m (M x) = true) (hc : ∀ s ∈ chain m b ns, M s.n = m ∧ B s.n = s.b) (ks : ∀ x ∈ L ++ ns, Vd.KeyOk x) (mkd : ∀ x ∈ L ++ ns, ∃ t h, M x = mrk t h) (mm : ∃ t h, m = mrk t h) (nd : (NestedKey.none :: (L ++ ns)).Nodup) :
    ∃ G R, rest = G ++ R ∧ PutR M L A G R ns m b ∧ Good M B [] (A ++ (G ++ (ns ++ R))) ∧ (A ++ (G ++ (ns ++ R))).Perm (L ++ ns) := by
  have hn : ∀ n ∈ ns, M n = m := fun n hn => by
    obtain ⟨s, hs, e⟩ := List.mem_map.mp (show n ∈ (chain m b ns).map (·.n) by rw [chain_names]; exact hn)
    rw [← e]
    exact (hc s hs).1
  have er : rest = rest.takeWhile (gtM M m) ++ rest.dropWhile (gtM M m) := (List.takeWhile_append_dropWhile).symm
  have inL : ∀ x ∈ rest, x ∈ L := fun x hx => by rw [eL]; exact List.mem_append_right _ hx
  have hG : ∀ x ∈ rest.takeWhile (gtM M m), PySem.W.dataLt m (M x) = true := fun x hx => by
    have : ∀ (l : List NestedKey), ∀ x ∈ l.takeWhile (gtM M m), gtM M m x = true := fun l => by
      induction l with
      | nil => intro x hx; cases hx
      | cons y l ih =>
        intro x hx
        rw [List.takeWhile_cons] at hx
        by_cases c : gtM M m y = true
        · rw [if_pos c] at hx
          rcases List.mem_cons.mp hx with rfl | hx
          · exact c
          · exact ih x hx
        · rw [if_neg c] at hx
          cases hx
    exact this rest x hx
  have hR : ∀ x r, rest.dropWhile (gtM M m) = x :: r → PySem.W.dataLt (M x) m = true := fun x r e => by
    have hx : x ∈ rest := (List.dropWhile_sublist _).subset (by rw [e]; exact List.mem_cons_self ..)
    rcases tri x (inL x hx) with h | h
    · exact h
    · exfalso
      have : ∀ (l : List NestedKey), l.dropWhile (gtM M m) = x :: r → gtM M m x = false := fun l => by
        induction l with
        | nil => intro e; cases e
        | cons y l ih =>
          intro e
          rw [List.dropWhile_cons] at e
          by_cases c : gtM M m y = true
          · rw [if_pos c] at e
            exact ih e
          · rw [if_neg c] at e
            cases e
            exact Bool.eq_false_iff.mpr c
      have h2 : PySem.W.dataLt m (M x) = false := this rest e
      rw [h] at h2
      cases h2
  refine ⟨_, _, er, ⟨by rw [eL]; exact congrArg _ er, hA.imp id fun ⟨A0, e, _⟩ => ⟨A0, e⟩, hG, hR, hn, ks, mkd, mm, nd⟩, ?_, ?_⟩
  · refine Good.put (b := b) (m := m) ?_ ?_ hG hR hc hn
    · rw [← er, ← eL]
      exact g
    · rcases hA with h | ⟨A0, e, hb⟩
      · exact .inl h
      · refine .inr ⟨A0, e, lb fun z => ?_⟩
        rw [List.nodup_cons] at nd
        exact nd.1 (by rw [← z]; exact List.mem_append_left _ hb)
  · have : L = A ++ (rest.takeWhile (gtM M m) ++ rest.dropWhile (gtM M m)) := by rw [eL]; exact congrArg _ er
    rw [this, List.append_assoc, List.append_assoc]
    exact (List.perm_append_comm.append_left _).append_left A
/-- a put finds its place -/
theorem good_put {M : NestedKey → PyData} {B : NestedKey → NestedKey} {L ns : List NestedKey} {m : PyData} {b : NestedKey} (g : Good M B [] L) (hb : b = .none ∨ b ∈ L) (lb : b ≠ .none → PySem.W.dataLt m (M b) = false)
    (tri : ∀ x ∈ L, PySem.W.dataLt (M x) m = true ∨ PySem.W.dataLt m (M x) = true) (hc : ∀ s ∈ chain m b ns, M s.n = m ∧ B s.n = s.b) (ks : ∀ x ∈ L ++ ns, Vd.KeyOk x) (mkd : ∀ x ∈ L ++ ns, ∃ t h, M x = mrk t h) (mm : ∃ t h, m = mrk t h) (nd : (NestedKey.none :: (L ++ ns)).Nodup) :
    ∃ A G R, PutR M L A G R ns m b ∧ Good M B [] (A ++ (G ++ (ns ++ R))) ∧ (A ++ (G ++ (ns ++ R))).Perm (L ++ ns) := by
  obtain ⟨A, rest, eL, hA⟩ : ∃ A rest, L = A ++ rest ∧ ((A = [] ∧ b = .none) ∨ ∃ A0, A = A0 ++ [b] ∧ b ∈ L) := by
    rcases hb with rfl | hb
    · exact ⟨[], L, rfl, .inl ⟨rfl, rfl⟩⟩
    · obtain ⟨A0, rest, e⟩ := List.append_of_mem hb
      exact ⟨A0 ++ [b], rest, by rw [e]; simp, .inr ⟨A0, rfl, hb⟩⟩
  obtain ⟨G, R, _, h⟩ := good_put_at g eL hA lb tri hc ks mkd mm nd
  exact ⟨A, G, R, h⟩
/-- a part of the singles, closed -/
theorem Fam.sub {S S' : List Sg} (F : Fam S) (sl : List.Sublist S' S) (a : Ahead S') : Fam S' :=
  ⟨⟨(sl.map _).nodup F.tr.nd, fun s hs => F.tr.nn s (sl.subset hs)⟩, fun s hs => F.mkd s (sl.subset hs), ⟨S', .refl _, a⟩, fun s hs t ht => F.less s (sl.subset hs) t (sl.subset ht), fun s hs t ht => F.sib s (sl.subset hs) t (sl.subset ht)⟩
/-- one put more -/
theorem Fam.more {S : List Sg} (F : Fam S) {m : PyData} {b : NestedKey} {ns : List NestedKey} (nd : (NestedKey.none :: (S.map (·.n) ++ ns)).Nodup) (mm : ∃ t h, m = mrk t h) (hb : b = .none ∨ b ∈ S.map (·.n)) (lb : ∀ t ∈ S, t.n = b → PySem.W.dataLt m t.m = false)
    (tri : ∀ t ∈ S, PySem.W.dataLt t.m m = true ∨ PySem.W.dataLt m t.m = true) : Fam (S ++ chain m b ns) := by
  obtain ⟨S0, p0, a0⟩ := F.ah
  rw [List.nodup_cons, List.nodup_append] at nd
  obtain ⟨n1, n2, n3, n4⟩ := nd
  have bn : (b :: ns).Nodup := by
    rw [List.nodup_cons]
    refine ⟨fun h => ?_, n3⟩
    rcases hb with hb | hb
    · exact n1 (by rw [← hb]; exact List.mem_append_right _ h)
    · exact n4 b hb b h rfl
  have cm : ∀ s ∈ chain m b ns, s.m = m ∧ s.n ∈ ns ∧ (s.b = b ∨ s.b ∈ ns) := fun s hs => chain_mem _ _ _ _ hs
  have inS : ∀ t ∈ S, t.n ∈ S.map (·.n) := fun t ht => List.mem_map_of_mem ht
  have old : ∀ s ∈ S, s.b = .none ∨ s.b ∈ S.map (·.n) := F.base
  refine ⟨⟨?_, fun s hs => ?_⟩, fun s hs => ?_, ⟨S0 ++ chain m b ns, p0.append_right _, Ahead.chain m ns a0 ?_⟩, fun s hs t ht e => ?_, fun s hs t ht e => ?_⟩
  · rw [List.map_append, chain_names, List.nodup_append]
    exact ⟨n2, n3, n4⟩
  · rcases List.mem_append.mp hs with hs | hs
    · exact F.tr.nn s hs
    · exact fun z => n1 (by rw [← z]; exact List.mem_append_right _ (cm s hs).2.1)
  · rcases List.mem_append.mp hs with hs | hs
    · exact F.mkd s hs
    · rw [(cm s hs).1]
      exact mm
  · exact hb.imp id fun h => (p0.map (·.n)).mem_iff.mpr h
  · rcases List.mem_append.mp hs with hs | hs
    · rcases List.mem_append.mp ht with ht | ht
      · exact F.less s hs t ht e
      · exfalso
        rcases old s hs with h | h
        · exact n1 (by rw [← h, e]; exact List.mem_append_right _ (cm t ht).2.1)
        · exact n4 _ h _ (cm t ht).2.1 e
    · rcases List.mem_append.mp ht with ht | ht
      · rw [(cm s hs).1]
        rcases (cm s hs).2.2 with h | h
        · exact lb t ht (e.symm.trans h)
        · exact absurd e.symm (n4 _ (inS t ht) _ h)
      · rw [(cm s hs).1, (cm t ht).1]
        exact lt_irr m
  · rcases List.mem_append.mp hs with hs | hs
    · rcases List.mem_append.mp ht with ht | ht
      · exact F.sib s hs t ht e
      · rw [(cm t ht).1]
        exact .inr (tri s hs)
    · rcases List.mem_append.mp ht with ht | ht
      · rw [(cm s hs).1]
        exact .inr ((tri t ht).symm)
      · exact .inl (chain_bases m ns b bn s hs t ht e)
/-- the marks and bases of a greater family are those of a lesser one -/
theorem look_sub {S S' : List Sg} (nd : (S.map (·.n)).Nodup) (nd' : (S'.map (·.n)).Nodup) (sub : ∀ s ∈ S', s ∈ S) : ∀ x ∈ S'.map (·.n), markOf S' x = markOf S x ∧ baseOf S' x = baseOf S x := fun x hx => by
  obtain ⟨s, hs, rfl⟩ := List.mem_map.mp hx
  obtain ⟨a1, a2⟩ := look_one nd' hs
  obtain ⟨b1, b2⟩ := look_one nd (sub s hs)
  exact ⟨a1.trans b1.symm, a2.trans b2.symm⟩
theorem Good.over {S S' : List Sg} {L : List NestedKey} (g : Good (markOf S') (baseOf S') [] L) (nd : (S.map (·.n)).Nodup) (nd' : (S'.map (·.n)).Nodup) (sub : ∀ s ∈ S', s ∈ S) (p : ∀ x ∈ L, x ∈ S'.map (·.n)) : Good (markOf S) (baseOf S) [] L :=
  g.congr (fun _ h => by cases h) fun x hx => look_sub nd nd' sub x (p x hx)
theorem Good.under {S S' : List Sg} {L : List NestedKey} (g : Good (markOf S) (baseOf S) [] L) (nd : (S.map (·.n)).Nodup) (nd' : (S'.map (·.n)).Nodup) (sub : ∀ s ∈ S', s ∈ S) (p : ∀ x ∈ L, x ∈ S'.map (·.n)) : Good (markOf S') (baseOf S') [] L :=
  g.congr (fun _ h => by cases h) fun x hx => ⟨(look_sub nd nd' sub x (p x hx)).1.symm, (look_sub nd nd' sub x (p x hx)).2.symm⟩
/-- called otherwise -/
theorem Good.map {M M' : NestedKey → PyData} {B B' f : NestedKey → NestedKey} (f0 : f .none = .none) : ∀ {L rev : List NestedKey}, (∀ n ∈ L, B' (f n) = f (B n) ∧ ∀ x, (x ∈ L ∨ x ∈ rev) → PySem.W.dataLt (M' (f n)) (M' (f x)) = PySem.W.dataLt (M n) (M x)) → Good M B rev L → Good M' B' (rev.map f) (L.map f)
  | [], _, _, _ => trivial
  | n :: L, rev, h, g => by
    obtain ⟨h1, h2⟩ := h n (List.mem_cons_self ..)
    refine ⟨?_, ?_⟩
    · rw [h1, ← g.1]
      have : ∀ l : List NestedKey, (∀ x ∈ l, PySem.W.dataLt (M' (f n)) (M' (f x)) = PySem.W.dataLt (M n) (M x)) → topOf ((l.map f).dropWhile (gtM M' (M' (f n)))) = f (topOf (l.dropWhile (gtM M (M n)))) := fun l => by
        induction l with
        | nil => exact fun _ => f0.symm
        | cons y l ih =>
          intro hl
          rw [List.map_cons, List.dropWhile_cons, List.dropWhile_cons]
          have e : gtM M' (M' (f n)) (f y) = gtM M (M n) y := hl y (List.mem_cons_self ..)
          rw [e]
          by_cases c : gtM M (M n) y = true
          · rw [if_pos c, if_pos c]
            exact ih fun x hx => hl x (List.mem_cons_of_mem _ hx)
          · rw [if_neg c, if_neg c]
            rfl
      exact this rev fun x hx => h2 x (.inr hx)
    · have := Good.map (M := M) (M' := M') (B := B) (B' := B') (f := f) f0 (L := L) (rev := n :: rev) (fun k hk => ⟨(h k (List.mem_cons_of_mem _ hk)).1, fun x hx => (h k (List.mem_cons_of_mem _ hk)).2 x ?_⟩) g.2
      · exact this
      · rcases hx with hx | hx
        · exact .inl (List.mem_cons_of_mem _ hx)
        · rcases List.mem_cons.mp hx with rfl | hx
          · exact .inl (List.mem_cons_self ..)
          · exact .inr hx
/-- what plain_row asks of the puts, from the kinds of names and marks -/
theorem puts_ok {ps : List Put} (l : (singles ps).length ≤ 100000) (h : ∀ s ∈ singles ps, (∃ t h, s.m = mrk t h) ∧ (s.b = .none ∨ ∃ j, Nm s.b j) ∧ ∃ j, Nm s.n j) : PutsOk ps := by
  refine ⟨l, fun s hs => ?_, fun s hs => ?_, fun s hs t ht _ => ?_⟩
  · obtain ⟨_, h2, j, h3⟩ := h s hs
    refine ⟨?_, h3.key⟩
    rcases h2 with h2 | ⟨j, h2⟩
    · rw [h2]
      exact key_none
    · exact h2.key
  · obtain ⟨⟨t, a, e⟩, _, j, h3⟩ := h s hs
    refine ⟨by rw [e]; rfl, ?_⟩
    show (PyData.tuple [s.m, datK s.n]).depth ≤ 50
    rw [e, PyData.depth, PyData.depthAll.eq_2, PyData.depthAll.eq_2, h3.depth]
    exact (by decide : 2 ≤ 50)
  · obtain ⟨⟨t1, a1, e1⟩, _, j1, h1⟩ := h s hs
    obtain ⟨⟨t2, a2, e2⟩, _, j2, h2⟩ := h t ht
    refine .inl ?_
    show PySem.W.alike (.tuple [s.m, datK s.n]) (.tuple [t.m, datK t.n]) = true
    rw [e1, e2, PySem.W.alike.eq_6, PySem.W.alikeAll.eq_1, PySem.W.alikeAll.eq_1, h1.alike h2]
    rfl
end Kr
set_option maxRecDepth 10000
namespace Kr
open PySem PySem.Spec PyProof.Rows L2 Lf Zl
local macro_rules | `(tactic| walk_at "sub") => `(tactic| first | exact List.nil_sublist _ | (refine .cons₂ _ ?_; walk_at "sub") | (refine .cons _ ?_; walk_at "sub"))
theorem datOf_D (ps : List Put) : datOf (ps.map fun p => Val.dat p.D) = some (ps.map Put.D) := by
  rw [← datOf_map (ps.map Put.D), List.map_map]
  rfl
theorem datOf_K (ks : List NestedKey) : datOf (ks.map kv) = some (ks.map datK) := by
  rw [← datOf_map (ks.map datK), List.map_map]
  rfl
theorem kn_shape {line : List NestedKey} (h : ∀ x ∈ line, Kn x) : SeqAt.shaped (.list (line.map datK)) = true := by
  obtain ⟨a1, a2⟩ := lay_all (ds := line.map datK) (n := 8) fun d hd => by
    obtain ⟨x, hx, rfl⟩ := List.mem_map.mp hd
    exact (h x hx).nice
  unfold SeqAt.shaped
  rw [PyData.canLay0.eq_5, a1, Bool.true_and, decide_eq_true_eq, PyData.depth]
  omega
theorem kn_refl {line : List NestedKey} (h : ∀ x ∈ line, Kn x) : (PyData.list (line.map datK)).eqv (.list (line.map datK)) = true := by
  obtain ⟨a1, a2⟩ := lay_all (ds := line.map datK) (n := 8) fun d hd => by
    obtain ⟨x, hx, rfl⟩ := List.mem_map.mp hd
    exact (h x hx).nice
  exact SeqAt.eqv_refl _ (by rw [PyData.canLay0.eq_5]; exact a1)
theorem ptr_dat {g : Bool → Bool} {a : Addr} {d : PyData} {μ : Store} {Q : DK} {e : PyData} (h1 : View μ (.ptr a) e) (s1 : SeqAt.shaped e = true) (s2 : SeqAt.shaped d = true) (q : Q (.dat (.bool (g (PyData.eqv e d)))) μ) : zEqq g (.ptr a) (.dat d) μ Q := ⟨e, d, h1, .d d, s1, s2, q⟩
theorem ptr_cmp {g : Bool → Bool} {a b : Addr} {μ : Store} {Q : DK} {d e : PyData} (h1 : View μ (.ptr a) d) (h2 : View μ (.ptr b) e) (s1 : SeqAt.shaped d = true) (s2 : SeqAt.shaped e = true) (q : Q (.dat (.bool (g (PyData.eqv d e)))) μ) : zEqq g (.ptr a) (.ptr b) μ Q := ⟨d, e, h1, h2, s1, s2, q⟩
/-- a name found in a list of names -/
theorem any_nm {ks : List NestedKey} {x : NestedKey} {m : Nat} (hx : Nm x m) (hk : ∀ k ∈ ks, ∃ j, Nm k j) : (ks.map datK).any (fun z => PyData.eqv z (datK x)) = decide (x ∈ ks) := by
  induction ks with
  | nil => rfl
  | cons k ks ih =>
    obtain ⟨j, hj⟩ := hk k (List.mem_cons_self ..)
    rw [List.map_cons, List.any_cons, nm_eqv hj hx, ih fun j hj => hk j (List.mem_cons_of_mem _ hj)]
    by_cases e : k = x
    · subst e
      simp
    · have : (x = k) = False := by simp; exact fun z => e z.symm
      simp [e, this]
end Kr
set_option maxRecDepth 10000
namespace Kr
open PySem PySem.Spec PyProof.Rows L2 Lf Zl
theorem pair_or {α : Type} {R : α → α → Prop} : ∀ {l : List α} {a b : α}, l.Pairwise R → a ∈ l → b ∈ l → a ≠ b → R a b ∨ R b a
  | [], _, _, _, h, _, _ => by cases h
  | x :: l, a, b, h, ha, hb, ne => by
    rw [List.pairwise_cons] at h
    rcases List.mem_cons.mp ha with e1 | ha1
    · rcases List.mem_cons.mp hb with e2 | hb1
      · exact absurd (e1.trans e2.symm) ne
      · exact .inl (by rw [e1]; exact h.1 b hb1)
    · rcases List.mem_cons.mp hb with e2 | hb1
      · exact .inr (by rw [e2]; exact h.1 a ha1)
      · exact pair_or h.2 ha1 hb1 ne
def Backed (qs : List Put) : Prop := ∀ as p bs, qs = as ++ p :: bs → p.b = .none ∨ p.b ∈ as.flatMap (·.ns)
theorem Backed.snoc {qs : List Put} (h : Backed qs) {p : Put} (hb : p.b = .none ∨ p.b ∈ qs.flatMap (·.ns)) : Backed (qs ++ [p]) := by
  intro as r bs e
  rcases List.eq_nil_or_concat bs with rfl | ⟨bs, x, rfl⟩
  · obtain ⟨rfl, e2⟩ := List.append_inj' e rfl
    cases e2
    exact hb
  · rw [List.concat_eq_append, ← List.cons_append, ← List.append_assoc] at e
    exact h as r bs (List.append_inj' e rfl).1
/-- a row under way: what came, what is left, how it stands -/
structure Blk (ps came left : List Put) (st : Int) (L : List NestedKey) : Prop where
  D : Drawn ps st
  F4 : Four ps
  pm : (came ++ left).Perm ps
  sl : List.Sublist left ps
  bk : Backed came
  g : Good (markOf (singles ps)) (baseOf (singles ps)) [] L
  p : L.Perm ((singles came).map (·.n))
theorem Drawn.nodup {ps : List Put} {st : Int} (D : Drawn ps st) : ps.Nodup := D.up.imp fun {a b} h e => by
  subst e
  rw [lt_irr] at h
  cases h
theorem singles_app (as bs : List Put) : singles (as ++ bs) = singles as ++ singles bs := List.flatMap_append ..
theorem Blk.start {ps : List Put} {st : Int} (D : Drawn ps st) (F4 : Four ps) : Blk ps [] ps st [] := ⟨D, F4, .refl _, .refl _, fun as p bs e => (by cases as <;> cases e), trivial, .nil⟩
namespace Blk
variable {ps came left : List Put} {st : Int} {L : List NestedKey} (k : Blk ps came left st L)
include k
theorem subC : ∀ p ∈ came, p ∈ ps := fun p hp => k.pm.mem_iff.mp (List.mem_append_left _ hp)
theorem nodupC : (came ++ left).Nodup := k.pm.nodup_iff.mpr k.D.nodup
theorem subS : ∀ s ∈ singles came, s ∈ singles ps := fun s hs => by
  obtain ⟨p, hp, hs⟩ := List.mem_flatMap.mp hs
  exact List.mem_flatMap.mpr ⟨p, k.subC p hp, hs⟩
theorem ndS : ((singles ps).map (·.n)).Nodup := k.D.tree.nd
theorem fam : Fam (singles came) := by
  obtain ⟨_, _, p2⟩ := k.D.puts k.pm
  have F := k.D.fam.perm p2
  rw [singles_app] at F
  exact F.sub (List.sublist_append_left _ _) (ahead_puts came k.bk)
theorem lenC : (singles came).length ≤ 3840 := by
  obtain ⟨_, _, p2⟩ := k.D.puts k.pm
  have := p2.length_eq
  rw [singles_app, List.length_append] at this
  have := k.D.len
  omega
theorem name {x : NestedKey} (hx : x ∈ L) : Nm x ps.length ∧ ∃ p ∈ came, x ∈ p.ns := by
  obtain ⟨s, hs, rfl⟩ := List.mem_map.mp (k.p.mem_iff.mp hx)
  obtain ⟨p, hp, _, h, _⟩ := singles_mem hs
  exact ⟨k.D.name (k.subC p hp) _ h, p, hp, h⟩
theorem kn : ∀ x ∈ L, Kn x := fun x hx => .inr ⟨_, k.D.few, (k.name hx).1⟩
theorem keyL : ∀ x ∈ L, Vd.KeyOk x := fun x hx => (k.name hx).1.key
theorem lenL : L.length ≤ 3840 := by
  rw [k.p.length_eq, List.length_map]
  exact k.lenC
theorem puts : PutsOk came := by
  refine puts_ok (Nat.le_trans k.lenC (by decide)) fun s hs => ?_
  obtain ⟨h1, h2⟩ := k.D.key s (k.subS s hs)
  obtain ⟨p, hp, e, _⟩ := singles_mem hs
  obtain ⟨t, h, em⟩ := k.D.mark (k.subC p hp)
  exact ⟨⟨t, h, e.trans em⟩, h1.imp id fun z => ⟨_, z⟩, _, h2⟩
theorem told {cl : NestedKey → List Sg} {l : List NestedKey} (o : Ord (singles came) cl) (df : Dfs (chOf cl) l) : l = L := by
  obtain ⟨g1, p1⟩ := k.fam.dfs o df
  exact k.fam.one g1 (Good.under k.g k.ndS k.fam.tr.nd k.subS fun x hx => k.p.mem_iff.mp hx) p1 k.p
theorem ready (h : left ≠ []) : ∃ p ∈ left, p.b = .none ∨ p.b ∈ came.flatMap (·.ns) := by
  cases left with
  | nil => exact absurd rfl h
  | cons p r =>
    refine ⟨p, List.mem_cons_self .., ?_⟩
    obtain ⟨r1, r2, e, h1, h2⟩ := List.cons_sublist_iff.mp k.sl
    obtain ⟨a, b, rfl⟩ := List.append_of_mem h1
    have e2 : ps = a ++ p :: (b ++ r2) := by rw [e]; simp
    refine (k.D.back a p _ e2).imp id fun hx => ?_
    obtain ⟨q, hq, hx⟩ := List.mem_flatMap.mp hx
    refine List.mem_flatMap.mpr ⟨q, ?_, hx⟩
    have nd := k.D.nodup
    rw [e2, List.nodup_append] at nd
    rcases List.mem_append.mp (k.pm.mem_iff.mpr (show q ∈ ps by rw [e2]; exact List.mem_append_left _ hq)) with hc | hc
    · exact hc
    · exfalso
      rcases List.mem_cons.mp hc with rfl | hc
      · exact nd.2.2 q hq q (List.mem_cons_self ..) rfl
      · exact nd.2.2 q hq q (List.mem_cons_of_mem _ (List.mem_append_right _ (h2.subset hc))) rfl
theorem put {p : Put} {j : Nat} (hj : left[j]? = some p) (hb : p.b = .none ∨ p.b ∈ came.flatMap (·.ns)) :
    ∃ A G R, PutR (markOf (singles ps)) L A G R p.ns p.m p.b ∧ (L ++ p.ns).length ≤ 3840 ∧ Blk ps (came ++ [p]) (left.eraseIdx j) st (A ++ (G ++ (p.ns ++ R))) := by
  have hpl := List.mem_of_getElem? hj
  have hp : p ∈ ps := k.sl.subset hpl
  have pm2 : (came ++ [p] ++ left.eraseIdx j).Perm ps := by
    rw [List.append_assoc]
    exact ((perm_at hj).symm.append_left _).trans k.pm
  have bk2 : Backed (came ++ [p]) := k.bk.snoc hb
  have F1 : Fam (singles (came ++ [p])) := by
    obtain ⟨_, _, p2⟩ := k.D.puts pm2
    have F := k.D.fam.perm p2
    rw [singles_app] at F
    exact F.sub (List.sublist_append_left _ _) (ahead_puts _ bk2)
  have len1 : (singles (came ++ [p])).length ≤ 3840 := by
    obtain ⟨_, _, p2⟩ := k.D.puts pm2
    have := p2.length_eq
    rw [singles_app (came ++ [p]), List.length_append] at this
    have := k.D.len
    omega
  have sS : singles (came ++ [p]) = singles came ++ chain p.m p.b p.ns := singles_snoc _ _
  have subP : ∀ s ∈ singles (came ++ [p]), s ∈ singles ps := fun s hs => by
    obtain ⟨q, hq, hs⟩ := List.mem_flatMap.mp hs
    refine List.mem_flatMap.mpr ⟨q, ?_, hs⟩
    rcases List.mem_append.mp hq with hq | hq
    · exact k.subC q hq
    · rw [List.mem_singleton.mp hq]
      exact hp
  have namesL : ∀ x ∈ L, ∃ s ∈ singles came, s.n = x := fun x hx => List.mem_map.mp (k.p.mem_iff.mp hx)
  have all : ∀ x ∈ L ++ p.ns, ∃ s ∈ singles (came ++ [p]), s.n = x := fun x hx => by
    rcases List.mem_append.mp hx with hx | hx
    · obtain ⟨s, hs, e⟩ := namesL x hx
      exact ⟨s, by rw [sS]; exact List.mem_append_left _ hs, e⟩
    · obtain ⟨s, hs, e⟩ := List.mem_map.mp (show x ∈ (chain p.m p.b p.ns).map (·.n) by rw [chain_names]; exact hx)
      exact ⟨s, by rw [sS]; exact List.mem_append_right _ hs, e⟩
  have pmN : (L ++ p.ns).Perm ((singles (came ++ [p])).map (·.n)) := by
    rw [sS, List.map_append, chain_names]
    exact k.p.append_right _
  have bIn : p.b = .none ∨ p.b ∈ L := hb.imp id fun h => k.p.mem_iff.mpr (by rw [singles_names]; exact h)
  have diff : ∀ t ∈ singles came, PySem.W.dataLt t.m p.m = true ∨ PySem.W.dataLt p.m t.m = true := fun t ht => by
    obtain ⟨r, hr, ht⟩ := List.mem_flatMap.mp ht
    rw [(chain_mem _ _ _ _ ht).1]
    refine pair_or k.D.up (k.subC r hr) hp fun e => ?_
    subst e
    exact (List.nodup_append.mp k.nodupC).2.2 r hr r hpl rfl
  have lookS : ∀ s ∈ singles (came ++ [p]), markOf (singles ps) s.n = s.m ∧ baseOf (singles ps) s.n = s.b := fun s hs => look_one k.ndS (subP s hs)
  have gp := good_put (ns := p.ns) (m := p.m) (b := p.b) k.g bIn (fun hn => ?_) (fun x hx => ?_) (fun s hs => ?_) (fun x hx => ?_) (fun x hx => ?_) (k.D.mark hp) ?_
  · obtain ⟨A, G, R, pr, g2, p3⟩ := gp
    refine ⟨A, G, R, pr, ?_, k.D, k.F4, pm2, (List.eraseIdx_sublist ..).trans k.sl, bk2, g2, p3.trans pmN⟩
    rw [pmN.length_eq, List.length_map]
    exact len1
  · -- the base is the lesser
    obtain ⟨as, bs, e⟩ := List.append_of_mem hp
    obtain ⟨r, hr, hx⟩ := List.mem_flatMap.mp ((k.D.back as p bs e).resolve_left hn)
    have hrp : r ∈ ps := by rw [e]; exact List.mem_append_left _ hr
    have up := k.D.up
    rw [e, List.pairwise_append] at up
    have lt := up.2.2 r hr p (List.mem_cons_self ..)
    obtain ⟨s, hs, es⟩ := List.mem_map.mp (show p.b ∈ (chain r.m r.b r.ns).map (·.n) by rw [chain_names]; exact hx)
    rw [← es, (look_one k.ndS (List.mem_flatMap.mpr ⟨r, hrp, hs⟩)).1, (chain_mem _ _ _ _ hs).1]
    exact lt_asym lt
  · obtain ⟨s, hs, rfl⟩ := namesL x hx
    rw [(look_one k.ndS (k.subS s hs)).1]
    exact diff s hs
  · obtain ⟨l1, l2⟩ := lookS s (by rw [sS]; exact List.mem_append_right _ hs)
    exact ⟨l1.trans (chain_mem _ _ _ _ hs).1, l2⟩
  · obtain ⟨s, hs, rfl⟩ := all x hx
    exact (k.D.key s (subP s hs)).2.key
  · obtain ⟨s, hs, rfl⟩ := all x hx
    rw [(lookS s hs).1]
    exact F1.mkd s hs
  · rw [List.nodup_cons]
    refine ⟨fun h => ?_, pmN.nodup_iff.mpr F1.tr.nd⟩
    obtain ⟨s, hs, e⟩ := all _ h
    exact F1.tr.nn s hs e
/-- names that aren't there -/
theorem none99 : nm2 "zz" 99 ∉ L := fun h => by
  obtain ⟨h, hh, kk, hk, e | ⟨a, ha, e⟩⟩ := (k.name h).1.ex
  · injection e with e; injection e with _ e; injection e with e; injection e with e
    have := k.D.few
    omega
  · injection e with e; injection e with _ e; injection e with _ e; cases e
theorem noneB : nm2 "b" 1000000000 ∉ L := fun h => by
  obtain ⟨h, hh, kk, hk, e | ⟨a, ha, e⟩⟩ := (k.name h).1.ex
  · injection e with e; injection e with _ e; injection e with e; injection e with e
    have := k.D.few
    omega
  · injection e with e; injection e with _ e; injection e with _ e; cases e
theorem noneA : nm "a" 0 60 ∉ L := fun h => by
  obtain ⟨p, hp, hx⟩ := (k.name h).2
  obtain ⟨s, h, kk, c, _, hh, hk, hc, _, e⟩ := k.D.each p (k.subC p hp)
  rw [e] at hx
  cases c with
  | none =>
    have e := List.mem_singleton.mp hx
    injection e with e; injection e with _ e; injection e with _ e; cases e
  | some n =>
    obtain ⟨a, ha, e⟩ := List.mem_map.mp hx
    injection e with e; injection e with _ e; injection e with _ e; injection e with e; injection e with e
    have := hc n rfl
    have := List.mem_range.mp ha
    omega
theorem first {p : Put} (hp : p ∈ left) : ∃ x r, p.ns = x :: r ∧ x ∉ L ∧ Nm x ps.length := by
  obtain ⟨s, h, kk, c, _, _, _, _, e, hc⟩ := k.F4 p (k.sl.subset hp)
  obtain ⟨x, r, e2⟩ : ∃ x r, p.ns = x :: r := by
    rw [e]
    cases c with
    | none => exact ⟨_, _, rfl⟩
    | some n =>
      have := hc n rfl
      obtain ⟨n, rfl⟩ : ∃ m, n = m + 1 := ⟨n - 1, by omega⟩
      show ∃ x r, (List.range (n + 1)).map (fun a => nm h kk a) = x :: r
      rw [List.range_succ_eq_map]
      exact ⟨_, _, rfl⟩
  refine ⟨x, r, e2, fun hx => ?_, k.D.name (k.sl.subset hp) x (by rw [e2]; exact List.mem_cons_self ..)⟩
  obtain ⟨q, hq, hx⟩ := (k.name hx).2
  have ne : q ≠ p := fun e => by
    subst e
    exact (List.nodup_append.mp k.nodupC).2.2 q hq q hp rfl
  rcases pair_or (k.D.dj) (k.subC q hq) (k.sl.subset hp) ne with h | h
  · exact h x hx x (by rw [e2]; exact List.mem_cons_self ..) rfl
  · exact h x (by rw [e2]; exact List.mem_cons_self ..) x hx rfl
end Blk
end Kr
set_option maxRecDepth 10000
namespace Kr
open PySem PySem.Spec PyProof.Rows L2 Lf Zl
theorem noLists_all : ∀ {ds : List PyData}, (∀ d ∈ ds, noList d = true) → noLists ds = true
  | [], _ => rfl
  | d :: ds, h => by
    rw [noLists, h d (List.mem_cons_self ..), noLists_all fun e he => h e (List.mem_cons_of_mem _ he)]
    rfl
theorem flat_nm {x : NestedKey} (h : ∃ m, Nm x m) : noList (datK x) = true := by
  obtain ⟨m, h⟩ := h
  obtain ⟨h, hh, k, hk, rfl | ⟨a, ha, rfl⟩⟩ := h.ex <;> rfl
theorem Drawn.flat {ps : List Put} {st : Int} (D : Drawn ps st) : ∀ p ∈ ps, noList p.D = true := fun p hp => by
  unfold Put.D
  rw [noList, noLists, noLists, noLists, noLists, noList]
  obtain ⟨s, h, e⟩ := D.mark hp
  have h1 : noList p.m = true := by rw [e]; rfl
  have h2 : noLists (p.ns.map datK) = true := noLists_all fun d hd => by
    obtain ⟨x, hx, rfl⟩ := List.mem_map.mp hd
    exact flat_nm ⟨_, D.name hp x hx⟩
  have h3 : noList (datK p.b) = true := by
    rcases D.base p hp with e | h
    · rw [e]
      rfl
    · exact flat_nm ⟨_, h⟩
  rw [h1, h2, h3]
  rfl
theorem Drawn.eqv_refl {ps : List Put} {st : Int} (D : Drawn ps st) {p : Put} (hp : p ∈ ps) : p.D.eqv p.D = true := SeqAt.eqv_refl _ (D.lay p hp).1
theorem Drawn.eqv_ne {ps : List Put} {st : Int} (D : Drawn ps st) {p q : Put} (hp : p ∈ ps) (hq : q ∈ ps) (ne : p ≠ q) : p.D.eqv q.D = false := by
  obtain ⟨s, h, e⟩ := D.mark hp
  obtain ⟨s', h', e'⟩ := D.mark hq
  have m : p.m.eqv q.m = false := by
    rcases pair_or D.up hp hq ne with l | l
    · rw [e, e'] at l ⊢
      exact mk_ne l
    · rw [e, e'] at l ⊢
      exact mrk_sym (mk_ne l)
  have : p.D.eqv q.D = (p.m.eqv q.m && (PyData.eqvAll [.tuple (p.ns.map datK), datK p.b] [.tuple (q.ns.map datK), datK q.b])) := by
    unfold Put.D
    rw [PyData.eqv, PyData.eqvAll]
  rw [this, m]
  rfl
theorem puts_shaped {qs : List Put} {n : Nat} (h : ∀ p ∈ qs, p.D.canLay0 = true ∧ p.D.depth ≤ 10) : SeqAt.shaped (.list (qs.map Put.D)) = true := by
  obtain ⟨a1, a2⟩ := lay_all (ds := qs.map Put.D) (n := 10) fun d hd => by
    obtain ⟨x, hx, rfl⟩ := List.mem_map.mp hd
    exact h x hx
  unfold SeqAt.shaped
  rw [PyData.canLay0.eq_5, a1, Bool.true_and, decide_eq_true_eq, PyData.depth]
  omega
theorem put_shaped {p : Put} (h : p.D.canLay0 = true ∧ p.D.depth ≤ 10) : SeqAt.shaped p.D = true := by
  unfold SeqAt.shaped
  rw [h.1, Bool.true_and, decide_eq_true_eq]
  omega
theorem eqv_nil {ds : List PyData} : (PyData.list ds).eqv (.list []) = decide (ds = []) := by
  cases ds <;> rfl
end Kr
namespace Kr
open PySem PySem.Spec PyProof.Rows L2 Lf Zl
theorem kn_eqv {x y : NestedKey} (hx : Kn x) (hy : Kn y) : (datK x).eqv (datK y) = decide (x = y) := by
  rcases hx with rfl | ⟨m, _, hx⟩
  · rcases hy with rfl | ⟨n, _, hy⟩
    · rfl
    · obtain ⟨ks, rfl⟩ := tup_of hy
      rfl
  · rcases hy with rfl | ⟨n, _, hy⟩
    · obtain ⟨ks, rfl⟩ := tup_of hx
      rfl
    · exact nm_eqv hx hy
theorem any_kn {ks : List NestedKey} {x : NestedKey} (hx : Kn x) (hk : ∀ k ∈ ks, Kn k) : (ks.map datK).any (fun z => PyData.eqv z (datK x)) = decide (x ∈ ks) := by
  induction ks with
  | nil => rfl
  | cons k ks ih =>
    rw [List.map_cons, List.any_cons, kn_eqv (hk k (List.mem_cons_self ..)) hx, ih fun j hj => hk j (List.mem_cons_of_mem _ hj)]
    by_cases e : k = x
    · subst e
      simp
    · have : (x = k) = False := by simp; exact fun z => e z.symm
      simp [e, this]
def thr (came : List Put) : List NestedKey := NestedKey.none :: came.flatMap (·.ns)
def rdy (came : List Put) (p : Put) : Bool := decide (p.b ∈ thr came)
section
variable {P : Program} {w : World} {K : PySem.W.Frag} {mg : Str → Option Value} {base : Heap} {CR : Addr}
def fOne (CR : Addr) : DSp := fun xs μ Q => ∃ u d s c N, ∃ (ps : List Put) (st : Int), xs = [.ptr u, .dat (.list (ps.map Put.D))] ∧ μ = [(u, urnN d s c)] ∧ UrnOk d s c N ∧ N ≤ 100000 ∧ Drawn ps st ∧ Four ps ∧
  ∀ p L d' c', Good (markOf (singles ps)) (baseOf (singles ps)) [] L → L.Perm ((singles ps).map (·.n)) → UrnOk d' s c' (N + 64) → Q (.ptr p) [(u, urnN d' s c'), (p, .lst (L.map kv))]
abbrev sOne : Stmt := topS 12
theorem scOne : FnScope ["_law_urn_here", "_law_puts_here", "_law_row", "_law_left", "_law_there", "_law_put", "_law_some"] ["_law_urn_here", "_law_puts_here"] (defScope sOne) := ⟨rfl, rfl, rfl, by decide +kernel, rfl, by decide +kernel, by decide +kernel⟩
set_option maxHeartbeats 1000000 in
theorem ok_one {f : Addr} {fd : FuncData} (F : Fun K "_law_one_by_one" "_law_one_by_one" sOne f fd) (T : Ts K mg CR) (c__law_lot : CalZ P w K mg base 1 "_law_lot" ["_law_urn_here", "_law_many"] fLot) (k_Row : KCalZ P w K mg base 1 CR ["self"] (fRInit CR))
    (m_Row_put : MCalZ P w K mg base 1 CR "put" ["self", "mark", "names", "behind"] (fRPut CR)) (m_Row_names : MCalZ P w K mg base 1 CR "names" ["self"] (fRNames CR)) : FnOk P w K mg base CX0 3 f fd ["_law_urn_here", "_law_puts_here"] (spZ w K (fOne CR)) := by
  refine Fun.okZ F scOne (fun xs μ Q h => ?_) (fun cdv A outer s H E hr => ?_)
  · obtain ⟨u, d, s, c, N, ps, st, rfl, _⟩ := h
    rfl
  · have nd := scOne.nd
    refine ⟨_, (dss_cons (ds_set (i := 2) nd rfl (Or.inl rfl) (d_make0 k_Row (hr.mono (by decide)) (by rfl) T.g_Row))
  (dss_cons (ds_set (i := 3) nd rfl (Or.inl rfl) (d_callTy ca_list (by rfl) T.list (by decide +kernel) (da_cons (dv 1) da_nil)))
  (dss_cons (ds_set (i := 4) nd rfl (Or.inr rfl) (d_lst (da_cons d_non da_nil)))
  (dss_cons (ds_whileN PassesOwn.never (dt_cmp (oz_ne hr.units) (dv 3) (d_lst da_nil) (nomark _))
  (dss_cons (ds_setLc (i := 6) (own := [("_law_put", 5)]) rfl nd rfl rfl (sw_true rfl rfl rfl (by decide +kernel)) (di_seq (dv 3)) (blkOk_by (own := [("_law_put", 5)]) (N := ["_law_urn_here", "_law_puts_here", "_law_row", "_law_left", "_law_there", "_law_put", "_law_some"]) (sc := defScope (topS 12)) (by decide +kernel)) (put_name (i := 5) (by decide)) (fun _ _ _ _ _ => (pg_name (i := 5) nd rfl (Or.inl rfl))) (fun _ _ _ _ _ => (dts_one (dt_cmp (oz_in (room65 hr)) (d_ix (dv 5) d_int (fun _ _ => rfl)) (dv 4) (by rfl)))) (fun _ _ _ _ _ => (dv 5)))
  (dss_cons (ds_set (i := 5) nd rfl (Or.inl rfl) (d_ix (dv 6) (d_own1 c__law_lot (hr.mono (by decide)) (by rfl) (da_cons (dv 0) (da_cons (d_callB ca_len (by rfl) T.len PySem.boot_len (da_cons (dv 6) da_nil)) da_nil))) (fun _ _ => rfl)))
  (dss_cons (ds_expr (d_meth (pl := _) m_Row_put T.c_Row (hr.mono (by decide)) (dv 2) (da_cons (d_ix (dv 5) d_int (fun _ _ => rfl)) (da_cons (d_ix (dv 5) d_int (fun _ _ => rfl)) (da_cons (d_ix (dv 5) d_int (fun _ _ => rfl)) da_nil)))))
  (dss_cons (ds_expr (d_lm PySem.F.slot_list_extend PySem.F.type_list_extend me_extend2 (dv 4) (da_cons (d_ix (dv 5) d_int (fun _ _ => rfl)) da_nil)))
  (dss_one (ds_expr (d_lm PySem.F.slot_list_remove PySem.F.type_list_remove (me_remove (room65 hr)) (dv 3) (da_cons (dv 5) da_nil)))))))))
  (dss_one (ds_ret (d_meth0 (pl := _) m_Row_names T.c_Row (hr.mono (by decide)) (dv 2)))))))), ?_⟩
    rintro xs μ Q ⟨u, d, s, c, N, ps, st, rfl, rfl, oku, hN, D, F4, q⟩
    have ez : sizeLine = 16777216 := by decide +kernel
    have few := D.few
    refine fun r dx => ⟨[_], [_], [], rfl, r, dx, rfl, rfl, fun a b => ⟨_, [], (List.append_nil _).symm, rfl, ?_⟩⟩
    refine fun lf => ⟨(by decide : 1 ≤ sizeLine), fun th => ?_⟩
    refine ⟨fun n ρ μ => ∃ (nx mk : List (NestedKey × Val)) (came left : List Put) (L : List NestedKey) (e c : Int) (y5 y6 : Option Val), ρ = [some (.ptr u), some (.dat (.list (ps.map Put.D))), some (.ptr r), some (.ptr lf), some (.ptr th), y5, y6] ∧
      μ = [(u, urnN e s c)] ++ rowS CR r dx a b nx mk ++ [(lf, found left), (th, .lst ((thr came).map kv))] ∧ RowT nx mk (markOf (singles ps)) L ∧ Blk ps came left st L ∧ n = left.length ∧ UrnOk e s c (N + (ps.length - left.length)), ?_, ?_⟩
    · have t0 : ∀ M, RowT [(.none, kv .none)] [] M [] := fun M => ⟨⟨rfl, trivial⟩, fun _ h => (by cases h), .nil, ⟨by simp, fun x hx => by simpa using hx⟩, by simp⟩
      exact ⟨ps.length, _, _, [], ps, [], d, c, _, _, rfl, (by rw [List.map_map]; rfl), t0 _, Blk.start D F4, rfl, by rw [Nat.sub_self]; exact oku⟩
    rintro n ρ μ ⟨nx, mk, came, left, L, e, c, y5, y6, rfl, rfl, rt, k, en, oku'⟩
    have lay : ∀ p ∈ left, p.D.canLay0 = true ∧ p.D.depth ≤ 10 := fun p hp => k.D.lay p (k.sl.subset hp)
    have ll : left.length ≤ 64 := Nat.le_trans k.sl.length_le few
    have lps : left.length ≤ ps.length := k.sl.length_le
    refine ⟨Nat.zero_le _, fun pe => ?_⟩
    refine ptr_cmp (g := not) (d := .list (left.map Put.D)) (e := .list []) (.p 4 rfl (datOf_D _)) (.p 6 rfl rfl) (puts_shaped (n := 0) lay) rfl ?_
    rw [eqv_nil]
    refine ite2 (fun g => ?_) (fun g => ?_)
    · have ne : left ≠ [] := by simpa using g
      have knT : ∀ x ∈ thr came, Kn x := fun x hx => by
        rcases List.mem_cons.mp hx with rfl | hx
        · exact .inl rfl
        · obtain ⟨p, hp, hx⟩ := List.mem_flatMap.mp hx
          exact .inr ⟨_, few, k.D.name (k.subC p hp) x hx⟩
      have knB : ∀ p ∈ left, Kn p.b := fun p hp => (k.D.base p (k.sl.subset hp)).imp id fun h => ⟨_, few, h⟩
      refine ⟨4, _, rfl, fun n acc μ => μ = [(u, urnN e s c)] ++ rowS CR r dx a b nx mk ++ [(lf, found left), (th, .lst ((thr came).map kv)), (pe, .lst [])] ∧ acc = ((left.take n).filter (rdy came)).map fun p => Val.dat p.D, ⟨rfl, rfl⟩, fun _ _ _ _ h => ⟨4, by rw [h.1]; rfl⟩, ?_, ?_⟩
      · rintro n y acc μ hy ⟨rfl, rfl⟩
        obtain ⟨p, hp, rfl⟩ := get_map hy
        have hpl := List.mem_of_getElem? hp
        refine ⟨_, rfl, _, rfl, datK p.b, (thr came).map datK, .d _, .p 5 rfl (datOf_K _), (knB p hpl).shaped, kn_shape knT, ?_⟩
        rw [any_kn (knB p hpl) knT]
        refine ite2 (fun g => ?_) (fun g => ?_)
        · refine ⟨?_, _, .refl _, rfl, ?_⟩
          · rw [List.length_map, ez]
            refine Nat.lt_of_le_of_lt (List.length_filter_le _ _) ?_
            rw [List.length_take]
            omega
          · rw [take_snoc hp, List.filter_append, List.filter_cons, if_pos (show rdy came p = true from g), List.map_append]
            rfl
        · refine ⟨_, .refl _, rfl, ?_⟩
          rw [take_snoc hp, List.filter_append, List.filter_cons, if_neg (show ¬ rdy came p = true from g), List.map_append]
          simp
      rintro acc μ ⟨rfl, rfl⟩ so
      rw [List.length_map, List.take_length]
      obtain ⟨p0, hp0, hb0⟩ := k.ready ne
      have in0 : p0 ∈ left.filter (rdy came) := List.mem_filter.mpr ⟨hp0, decide_eq_true (List.mem_cons.mpr hb0)⟩
      generalize hq : left.filter (rdy came) = qs at in0
      have hqs : ∀ p ∈ qs, p ∈ left ∧ (p.b = .none ∨ p.b ∈ came.flatMap (·.ns)) := fun p hp => by
        rw [← hq] at hp
        obtain ⟨h1, h2⟩ := List.mem_filter.mp hp
        exact ⟨h1, List.mem_cons.mp (of_decide_eq_true h2)⟩
      have lq : qs.length ≤ left.length := by rw [← hq]; exact List.length_filter_le ..
      have qpos : 0 < qs.length := List.length_pos_of_mem in0
      refine ⟨7, _, rfl, 0, u, _, rfl, u, _, s, _, _, _, rfl, rfl, oku', by omega, by rw [List.length_map]; omega, by rw [List.length_map]; omega, fun t4 e4 c4 t40 t41 oku4 => ⟨_, _, rfl, ?_⟩⟩
      obtain ⟨kk, hkk, rfl, ek⟩ := atI_in t40 t41
      rw [List.length_map] at hkk
      rw [List.getElem_map] at ek
      refine ⟨7, _, _, rfl, ek, ?_⟩
      obtain ⟨hpl, hb⟩ := hqs _ (List.getElem_mem hkk)
      generalize qs[kk] = p at hpl hb
      obtain ⟨jj, hjj, ejj⟩ := List.mem_iff_getElem.mp hpl
      have ej : left[jj]? = some p := by rw [List.getElem?_eq_getElem hjj, ejj]
      have hp := k.sl.subset hpl
      have ndl : left.Nodup := k.D.nodup.sublist k.sl
      obtain ⟨A1, G1, R1, pr, len1, k1⟩ := k.put ej hb
      refine ⟨⟨1, dx, _, rfl, rfl⟩, _, rfl, _, rfl, _, rfl, ?_⟩
      refine ⟨[_], rowS CR r dx a b nx mk, [_, _, _, _], rfl, r, dx, a, b, nx, mk, _, L, A1, G1, R1, p.ns, p.m, p.b, rfl, rfl, rt, pr, by omega, fun nx' mk' rt' => ⟨rowS CR r dx a b nx' mk', [], (List.append_nil _).symm, ?_⟩⟩
      have cl : came.length ≤ 64 := by
        have := k.pm.length_eq
        rw [List.length_append] at this
        omega
      have lt2 : (thr (came ++ [p])).length ≤ 10000 := by
        have h1 := k1.lenC
        have h2 : ((singles (came ++ [p])).map (·.n)).length = ((came ++ [p]).flatMap (·.ns)).length := by rw [singles_names]
        rw [List.length_map] at h2
        show ((came ++ [p]).flatMap (·.ns)).length + 1 ≤ _
        omega
      have eth : (thr came).map kv ++ p.ns.map kv = (thr (came ++ [p])).map kv := by
        unfold thr
        rw [List.flatMap_append, ← List.map_append]
        simp
      refine ⟨⟨5, _, rfl⟩, _, rfl, 5, _, rfl, ?_, ?_⟩
      · have h1 := congrArg List.length eth
        rw [List.length_append, List.length_map, List.length_map, List.length_map] at h1
        rw [List.length_map, List.length_map, ez]
        omega
      have er : List.eraseIdx (left.map fun p => Val.dat p.D) jj = (left.eraseIdx jj).map fun p => Val.dat p.D := erase_map _ _ _
      have eT : (thr came).map kv ++ (p.ns.map datK).map Val.dat = (thr (came ++ [p])).map kv := by
        rw [← eth, List.map_map]
        rfl
      rw [eT]
      refine ⟨⟨4, _, rfl⟩, 4, _, p.D, left.map Put.D, jj, p.D, rfl, datOf_D _, .d _, puts_shaped (n := 0) lay, put_shaped (lay p hpl), by rw [List.getElem?_map, ej]; rfl, k.D.eqv_refl hp, fun m z hm hz => ?_, ?_⟩
      · rw [List.getElem?_map] at hz
        obtain ⟨r, hr, rfl⟩ := Option.map_eq_some_iff.mp hz
        refine k.D.eqv_ne (k.sl.subset (List.mem_of_getElem? hr)) hp fun er => ?_
        subst er
        have := (List.getElem?_inj (List.getElem?_eq_some_iff.mp hr).1 ndl).mp (hr.trans ej.symm)
        omega
      rw [er]
      have le1 : (left.eraseIdx jj).length + 1 = left.length := by
        rw [List.length_eraseIdx, if_pos hjj]
        omega
      refine ⟨[(u, urnN e4 s c4)] ++ rowS CR r dx a b nx' mk' ++ [(lf, found (left.eraseIdx jj)), (th, .lst ((thr (came ++ [p])).map kv))], .cons₂ _ (.cons₂ _ (.cons₂ _ (.cons₂ _ (.cons₂ _ (.cons₂ _ (List.nil_sublist _)))))), left.length - 1, by omega, nx', mk', came ++ [p], left.eraseIdx jj, _, e4, c4, _, _, rfl, rfl, rt', k1, by omega, oku4.more (by omega)⟩
    · have e0 : left = [] := by simpa using g
      subst e0
      have pmc : came.Perm ps := by have := k.pm; rwa [List.append_nil] at this
      obtain ⟨_, _, p2⟩ := k.D.puts pmc
      have lenL := k.lenL
      refine ⟨⟨1, dx, _, rfl, rfl⟩, [_], rowS CR r dx a b nx mk, [_, _, _], rfl, r, dx, a, b, nx, mk, _, L, rfl, rfl, rt, by omega, k.keyL, fun pf => ⟨rowS CR r dx a b nx mk, [_], rfl, ?_⟩⟩
      refine ⟨[(u, urnN e s c), (pf, .lst (L.map kv))], .cons₂ _ (.cons _ (.cons _ (.cons _ (.cons _ (.cons _ (.cons _ (.refl _))))))), q pf L e c k.g (k.p.trans (p2.map _)) (oku'.more (by omega))⟩
end
end Kr
namespace Kr
open PySem PySem.Spec PyProof.Rows L2 Lf Zl
theorem bar_good {M : NestedKey → PyData} {B : NestedKey → NestedKey} : ∀ (ns near rev : List NestedKey), (∀ n ∈ ns, n ≠ .none) → (∀ m, topOf (rev.dropWhile (gtM M m)) = topOf (near.dropWhile (gtM M m))) → (barZ M B near ns = .none ↔ Good M B rev ns)
  | [], _, _, _, _ => ⟨fun _ => trivial, fun _ => rfl⟩
  | n :: ns, near, rev, h1, h3 => by
    have nn := h1 n (List.mem_cons_self ..)
    show (if topOf (near.dropWhile (gtM M (M n))) = B n then barZ M B (n :: near.dropWhile (gtM M (M n))) ns else n) = .none ↔ topOf (rev.dropWhile (gtM M (M n))) = B n ∧ Good M B (n :: rev) ns
    rw [h3 (M n)]
    by_cases c : topOf (near.dropWhile (gtM M (M n))) = B n
    · rw [if_pos c]
      have ih := bar_good (M := M) (B := B) ns (n :: near.dropWhile (gtM M (M n))) (n :: rev) (fun k hk => h1 k (List.mem_cons_of_mem _ hk)) fun m => by
        rw [List.dropWhile_cons, List.dropWhile_cons]
        by_cases g : gtM M m n = true
        · rw [if_pos g, if_pos g, drop_drop (p := gtM M (M n)) (q := gtM M m) (fun x hx => lt_trans3 (show PySem.W.dataLt m (M n) = true from g) hx) near]
          exact h3 m
        · rw [if_neg g, if_neg g]
          rfl
      rw [ih]
      exact ⟨fun h => ⟨c, h⟩, fun h => h.2⟩
    · rw [if_neg c]
      exact ⟨fun h => absurd h nn, fun h => absurd h.1 c⟩
/-! ### names are told apart by what repr tells -/
def dg (k : Nat) : List Nat := (Str.ofString (toString (k : Int))).cps.toList
def rp (h : Str) : List Nat := (reprText h).cps.toList
theorem s2 (h : Str) (k : Nat) : (PyData.tuple [.str h, .int k]).shown.cps.toList = 40 :: (rp h ++ 44 :: (32 :: dg k ++ [41])) := by
  rw [PyData.shown_tuple, PyData.shownAll_cons, PyData.shownAll_cons, PyData.shownAll.eq_1, PyData.shown.eq_4, PyData.shown_int]
  unfold dg rp
  simp [Str.join, Str.cps_append]
  rfl
theorem s3 (h : Str) (k a : Nat) : (PyData.tuple [.str h, .int k, .int a]).shown.cps.toList = 40 :: (rp h ++ 44 :: (32 :: dg k ++ 44 :: (32 :: dg a ++ [41]))) := by
  rw [PyData.shown_tuple, PyData.shownAll_cons, PyData.shownAll_cons, PyData.shownAll_cons, PyData.shownAll.eq_1, PyData.shown.eq_4, PyData.shown_int, PyData.shown_int]
  unfold dg rp
  simp [Str.join, Str.cps_append]
  rfl
theorem dgs : ∀ k : Nat, k < 64 → (44 ∉ dg k ∧ 41 ∉ dg k) ∧ (dg k).foldl (fun n c => 10 * n + (c - 48)) 0 = k := by decide +kernel
theorem rps : (∀ h ∈ hands, 44 ∉ rp h ∧ 41 ∉ rp h) ∧ ∀ h ∈ hands, ∀ h' ∈ hands, rp h = rp h' → h = h' := by decide +kernel
theorem dg_inj {j k : Nat} (hj : j < 64) (hk : k < 64) (e : dg j = dg k) : j = k := by
  rw [← (dgs j hj).2, e, (dgs k hk).2]
theorem cut_eq : ∀ {l1 l2 r1 r2 : List Nat} {c1 c2 : Nat}, (c1 = 44 ∨ c1 = 41) → (c2 = 44 ∨ c2 = 41) → (44 ∉ l1 ∧ 41 ∉ l1) → (44 ∉ l2 ∧ 41 ∉ l2) → l1 ++ c1 :: r1 = l2 ++ c2 :: r2 → l1 = l2 ∧ c1 = c2 ∧ r1 = r2
  | [], [], _, _, _, _, _, _, _, _, e => by
    simp at e
    exact ⟨rfl, e.1, e.2⟩
  | [], y :: l2, _, _, _, _, h1, _, _, n2, e => by
    simp at e
    obtain ⟨e, _⟩ := e
    rcases h1 with rfl | rfl
    · exact absurd (by rw [e]; exact List.mem_cons_self ..) n2.1
    · exact absurd (by rw [e]; exact List.mem_cons_self ..) n2.2
  | x :: l1, [], _, _, _, _, _, h2, n1, _, e => by
    simp at e
    obtain ⟨e, _⟩ := e
    rcases h2 with rfl | rfl
    · exact absurd (by rw [e]; exact List.mem_cons_self ..) n1.1
    · exact absurd (by rw [e]; exact List.mem_cons_self ..) n1.2
  | x :: l1, y :: l2, _, _, _, _, h1, h2, n1, n2, e => by
    rw [List.cons_append, List.cons_append] at e
    obtain ⟨e1, e2⟩ := List.cons.inj e
    obtain ⟨a, b, c⟩ := cut_eq h1 h2 ⟨fun z => n1.1 (List.mem_cons_of_mem _ z), fun z => n1.2 (List.mem_cons_of_mem _ z)⟩ ⟨fun z => n2.1 (List.mem_cons_of_mem _ z), fun z => n2.2 (List.mem_cons_of_mem _ z)⟩ e2
    exact ⟨by rw [e1, a], b, c⟩
theorem ns32 {l : List Nat} (h : 44 ∉ l ∧ 41 ∉ l) : 44 ∉ (32 :: l) ∧ 41 ∉ (32 :: l) := ⟨fun z => (List.mem_cons.mp z).elim (by decide) h.1, fun z => (List.mem_cons.mp z).elim (by decide) h.2⟩
theorem shown_inj {x y : NestedKey} {m n : Nat} (hx : Nm x m) (hy : Nm y n) (hm : m ≤ 64) (hn : n ≤ 64) (e : (datK x).shown.cps.toList = (datK y).shown.cps.toList) : x = y := by
  obtain ⟨h, hh, k, hk, rfl | ⟨a, ha, rfl⟩⟩ := hx.ex <;> obtain ⟨h', hh', k', hk', rfl | ⟨a', ha', rfl⟩⟩ := hy.ex
  · have e : 40 :: (rp h ++ 44 :: (32 :: dg k ++ [41])) = 40 :: (rp h' ++ 44 :: (32 :: dg k' ++ [41])) := by rw [← s2, ← s2]; exact e
    obtain ⟨e1, _, e2⟩ := cut_eq (.inl rfl) (.inl rfl) (rps.1 h hh) (rps.1 h' hh') (List.cons.inj e).2
    obtain ⟨e3, _, _⟩ := cut_eq (.inr rfl) (.inr rfl) (ns32 (dgs k (by omega)).1) (ns32 (dgs k' (by omega)).1) e2
    rw [rps.2 h hh h' hh' e1, dg_inj (by omega) (by omega) (List.cons.inj e3).2]
  · have e : 40 :: (rp h ++ 44 :: (32 :: dg k ++ [41])) = 40 :: (rp h' ++ 44 :: (32 :: dg k' ++ 44 :: (32 :: dg a' ++ [41]))) := by rw [← s2, ← s3]; exact e
    obtain ⟨e1, _, e2⟩ := cut_eq (.inl rfl) (.inl rfl) (rps.1 h hh) (rps.1 h' hh') (List.cons.inj e).2
    obtain ⟨_, e3, _⟩ := cut_eq (.inr rfl) (.inl rfl) (ns32 (dgs k (by omega)).1) (ns32 (dgs k' (by omega)).1) e2
    cases e3
  · have e : 40 :: (rp h ++ 44 :: (32 :: dg k ++ 44 :: (32 :: dg a ++ [41]))) = 40 :: (rp h' ++ 44 :: (32 :: dg k' ++ [41])) := by rw [← s2, ← s3]; exact e
    obtain ⟨e1, _, e2⟩ := cut_eq (.inl rfl) (.inl rfl) (rps.1 h hh) (rps.1 h' hh') (List.cons.inj e).2
    obtain ⟨_, e3, _⟩ := cut_eq (.inl rfl) (.inr rfl) (ns32 (dgs k (by omega)).1) (ns32 (dgs k' (by omega)).1) e2
    cases e3
  · have e : 40 :: (rp h ++ 44 :: (32 :: dg k ++ 44 :: (32 :: dg a ++ [41]))) = 40 :: (rp h' ++ 44 :: (32 :: dg k' ++ 44 :: (32 :: dg a' ++ [41]))) := by rw [← s3, ← s3]; exact e
    obtain ⟨e1, _, e2⟩ := cut_eq (.inl rfl) (.inl rfl) (rps.1 h hh) (rps.1 h' hh') (List.cons.inj e).2
    obtain ⟨e3, _, e4⟩ := cut_eq (.inl rfl) (.inl rfl) (ns32 (dgs k (by omega)).1) (ns32 (dgs k' (by omega)).1) e2
    obtain ⟨e5, _, _⟩ := cut_eq (.inr rfl) (.inr rfl) (ns32 (dgs a (by omega)).1) (ns32 (dgs a' (by omega)).1) e4
    rw [rps.2 h hh h' hh' e1, dg_inj (by omega) (by omega) (List.cons.inj e3).2, dg_inj (by omega) (by omega) (List.cons.inj e5).2]
def kR (d : PyData) : PyData := .str d.shown
theorem leK_iff {kf : PyData → PyData} {x y : PyData} : PySem.W.dataLe false kf x y = true ↔ PySem.W.dataLt (kf y) (kf x) = false := by
  unfold PySem.W.dataLe PySem.W.sortLe PySem.W.dataLt
  simp
theorem sortK_sorted {kf : PyData → PyData} {L : List PyData} : (L.mergeSort (PySem.W.dataLe false kf)).Pairwise fun x y => PySem.W.dataLt (kf y) (kf x) = false := by
  have sw := Sa.swo_data (α := PyData) kf
  refine (List.pairwise_mergeSort (le := PySem.W.dataLe false kf) (fun a b c h1 h2 => ?_) (fun a b => ?_) L).imp fun h => leK_iff.mp h
  · rw [leK_iff] at *
    exact sw.2 a b c h1 h2
  · cases e : PySem.W.dataLe false kf a b with
    | true => rfl
    | false =>
      have : PySem.W.dataLt (kf b) (kf a) = true := by
        cases e2 : PySem.W.dataLt (kf b) (kf a) with
        | true => rfl
        | false => rw [leK_iff.mpr e2] at e; cases e
      rw [Bool.false_or]
      exact leK_iff.mpr (sw.1 b a this)
theorem sortR_same {L L' : List NestedKey} (p : L.Perm L') (h : ∀ x ∈ L, ∃ m, m ≤ 64 ∧ Nm x m) : (L.map datK).mergeSort (PySem.W.dataLe false kR) = (L'.map datK).mergeSort (PySem.W.dataLe false kR) := by
  have pm := (List.mergeSort_perm (L.map datK) (PySem.W.dataLe false kR)).trans ((p.map datK).trans (List.mergeSort_perm (L'.map datK) (PySem.W.dataLe false kR)).symm)
  refine List.Perm.eq_of_pairwise (le := fun x y => PySem.W.dataLt (kR y) (kR x) = false) (fun x y hx hy h1 h2 => ?_) sortK_sorted sortK_sorted pm
  obtain ⟨a, ha, rfl⟩ := List.mem_map.mp ((List.mergeSort_perm _ _).mem_iff.mp hx)
  obtain ⟨b, hb, rfl⟩ := List.mem_map.mp ((List.mergeSort_perm _ _).mem_iff.mp hy)
  obtain ⟨m, hm, na⟩ := h a ha
  obtain ⟨n, hn, nb⟩ := h b (p.mem_iff.mpr hb)
  unfold kR at h1 h2
  rw [PySem.W.dataLt_str, decide_eq_false_iff_not] at h1 h2
  rw [shown_inj na nb hm hn (List.le_antisymm (Std.not_lt.mp h1) (Std.not_lt.mp h2))]
end Kr
namespace Kr
open PySem PySem.Spec PyProof.Rows L2 Lf Zl
theorem r200 {k : Nat} {A : Around} (h : Room k A) : A.units + 200 < cLine := by
  have := h.un
  omega
def Pr (d : PyData) : Prop := ∃ ds, d = .tuple ds ∧ d.showable = true ∧ d.hasDict = false ∧ d.depth ≤ 50 ∧ d.shown.length ≤ sizeLine
theorem key_of_repr {X : Cx} {params : Arguments} {scope : Scope} {x : Str} {p1 p2 p3 : Pos} (hg : X.A.guards = some []) (hu : X.A.units + 200 < cLine) (hd : X.A.depth < recursionLimit) (hm : X.mg "repr" = none)
    (kind : scope.kind = .function) (co : scope.isCoroutine = false) (gen : scope.isGenerator = false) (hcl : ∀ y ∈ scope.names, y.2 ≠ NameKind.cell) (hloc : List.lookup x scope.names = some .local) (hrp : List.lookup ("repr" : Str) scope.names = some .globalImplicit) (nodb : (x == ("__debug__" : Str)) = false)
    (hbind : ∀ (q : Str) (body : Expr) (scope : Scope) (cl : List (Str × Addr)) (pm cv ctv v : Value), bindArgs (PySem.W.kla_fn (Str.ofString "<lambda>") q params body scope cl pm cv ctv) ⟨[v], []⟩ = pure [(x, v)]) :
    ∀ (s : Shared) (f c' : Addr) (pm ctv : Value), L2.Mod X.K X.mg X.base → (∀ b o, X.base.get? b = some o → s.heap.get? b = some o) → s.heap.get? f = some (PySem.W.kla_obj (Str.ofString "<lambda>") (X.env.qual ++ Str.ofString "<lambda>") params (.Call (.Name "repr" p1) [.Name x p2] [] p3) scope (cloFrom X.env.cells scope.names []) pm c' ctv) → s.heap.CodeRec (.ref c') (X.env.qual ++ Str.ofString "<lambda>") → KeyTells X f kR Pr s := by
  intro s f c' pm ctv M hb hf hr s' k v d ⟨ds, ed, h1, h2, h3, h4⟩ r
  subst ed
  obtain ⟨mb, nb, hboot⟩ := M.blt
  have k2 : ∀ b o, X.base.get? b = some o → s'.heap.get? b = some o := fun b o e => k.mem b o (hb b o e)
  have hr' : s'.heap.CodeRec (.ref c') (X.env.qual ++ Str.ofString "<lambda>") := by
    obtain ⟨c, o, vs, t, e, ho, hd, hv⟩ := hr
    exact ⟨c, o, vs, t, e, k.mem _ _ ho, hd, hv⟩
  refine Zq.key_lam (k.mem _ _ hf) kind co gen hcl hloc hr' (hbind _ _ _ _ _ _ _ _) (M.nolimit.keeps k2) hd nodb (fun env s0 K1 e1 e2 e3 nm => ?_) r
  refine Zq.pu_repr (mg := X.mg) (mb := mb) (nm _) (by rw [e1]; exact kind) (by show List.lookup _ env.scope.names = _; rw [e1]; exact hrp) (by rw [e2]; exact (M.glob.keeps k2).keeps K1.mem) hm (by rw [e3]; exact (nb.keeps k2).keeps K1.mem) (by rw [hboot _ (by decide)]; rfl) hg (by show X.A.units + 1 + 1 + 3 + _ < _; omega) h1 h2 h4
theorem flat_urn (d s c : Int) : flatN (urnN d s c) := fun x hx => by
  rcases List.mem_cons.mp hx with rfl | hx
  · exact rfl
  rcases List.mem_cons.mp hx with rfl | hx
  · exact rfl
  rw [List.mem_singleton.mp hx]
  exact rfl
theorem bar_in {M : NestedKey → PyData} {B : NestedKey → NestedKey} : ∀ (ns near : List NestedKey), barZ M B near ns = .none ∨ barZ M B near ns ∈ ns
  | [], _ => .inl rfl
  | n :: ns, near => by
    show (if topOf (near.dropWhile (gtM M (M n))) = B n then barZ M B (n :: near.dropWhile (gtM M (M n))) ns else n) = .none ∨ (if topOf (near.dropWhile (gtM M (M n))) = B n then barZ M B (n :: near.dropWhile (gtM M (M n))) ns else n) ∈ n :: ns
    by_cases c : topOf (near.dropWhile (gtM M (M n))) = B n
    · rw [if_pos c]
      exact (bar_in ns _).imp id (List.mem_cons_of_mem _)
    · rw [if_neg c]
      exact .inr (List.mem_cons_self ..)
theorem cut_len {α : Type} {xs : List α} {lo hi : Option Int} : (cutG xs lo hi).length ≤ xs.length := by
  unfold cutG
  rw [List.length_take, List.length_drop]
  omega
theorem kns_eqv : ∀ {ks ls : List NestedKey}, (∀ x ∈ ks, Kn x) → (∀ x ∈ ls, Kn x) → PyData.eqvAll (ks.map datK) (ls.map datK) = decide (ks = ls)
  | [], [], _, _ => rfl
  | [], _ :: _, _, _ => rfl
  | _ :: _, [], _, _ => rfl
  | k :: ks, l :: ls, h1, h2 => by
    show PyData.eqvAll (datK k :: ks.map datK) (datK l :: ls.map datK) = _
    rw [PyData.eqvAll, kn_eqv (h1 k (List.mem_cons_self ..)) (h2 l (List.mem_cons_self ..)), kns_eqv (fun x hx => h1 x (List.mem_cons_of_mem _ hx)) fun x hx => h2 x (List.mem_cons_of_mem _ hx)]
    simp
theorem kl_eqv {ks ls : List NestedKey} (h1 : ∀ x ∈ ks, Kn x) (h2 : ∀ x ∈ ls, Kn x) : (PyData.list (ks.map datK)).eqv (.list (ls.map datK)) = decide (ks = ls) := by
  rw [PyData.eqv]
  exact kns_eqv h1 h2
theorem isN_kn {x : NestedKey} (h : Kn x) : isN (.dat (datK x)) = decide (x = .none) := by
  rcases h with rfl | ⟨m, _, h⟩
  · rfl
  · obtain ⟨ks, rfl⟩ := tup_of h
    rfl
theorem kn_pr {L : List NestedKey} (h : ∀ x ∈ L, ∃ m, m ≤ 64 ∧ Nm x m) : PySem.W.AllAlike ((L.map datK).map kR) ∧ PySem.W.Sortable ((L.map datK).map kR) ∧ ∀ d ∈ L.map datK, (kR d).depth ≤ 50 ∧ noList d = true ∧ Pr d := by
  refine ⟨fun x hx y hy => ?_, .inr fun x hx => ?_, fun d hd => ?_⟩
  · obtain ⟨a, _, rfl⟩ := List.mem_map.mp hx
    obtain ⟨b, _, rfl⟩ := List.mem_map.mp hy
    rfl
  · obtain ⟨a, _, rfl⟩ := List.mem_map.mp hx
    exact ⟨fun z => (by cases z), fun _ z => (by cases z)⟩
  · obtain ⟨x, hx, rfl⟩ := List.mem_map.mp hd
    obtain ⟨m, hm, n⟩ := h x hx
    have nc := n.nice hm
    obtain ⟨ks, rfl⟩ := tup_of n
    have ez : sizeLine = 16777216 := by decide +kernel
    have l := PyData.shown_le 20 (by decide) (datK (.tup ks)) nc.lea
    have w := nc.wei
    have dp := nc.dep
    refine ⟨Nat.zero_le _, flat_nm ⟨m, n⟩, _, rfl, nc.sho, nc.nod, by omega, by rw [ez]; omega⟩
section
variable {P : Program} {w : World} {K : PySem.W.Frag} {mg : Str → Option Value} {base : Heap} {CR c Pt : Addr}
abbrev qL : Str := ("law" : Str) ++ Str.ofString ".<locals>." ++ Str.ofString "<lambda>"
def fLaw (Pt : Addr) : DSp := fun xs μ Q => ∃ ns, xs = [.scr ns] ∧ μ = [(Pt, .tab qL)] ∧ Q (.dat (.bool true)) [(Pt, .tab qL)]
abbrev sLaw : Stmt := topS 13
theorem scLaw : FnScope ["_law_script", "_law_k", "_law_urn_here", "_law_puts_here", "_law_line", "_law_names", "_law_put", "_law_others", "_law_at", "_law_other"] ["_law_script"] (defScope sLaw) := ⟨rfl, rfl, rfl, by decide +kernel, rfl, by decide +kernel, by decide +kernel⟩
set_option maxHeartbeats 2000000 in
theorem run_law {f : Addr} {fd : FuncData} (F : Fun K "law" "law" sLaw f fd) (hcd : fd.code = .ref c) (TB : LamX.TabB base mg c Pt) (T : Ts K mg CR)
    (c__law_urn : CalZ P w K mg base 1 "_law_urn" ["_law_script", "_law_k"] fUrn) (c__law_puts : CalZ P w K mg base 2 "_law_puts" ["_law_urn_here", "_law_most"] fPuts) (c__law_mixed : CalZ P w K mg base 2 "_law_mixed" ["_law_urn_here", "_law_things"] fMixed)
    (c_plain_row : CalZ P w K mg base 3 "plain_row" ["puts"] fPlain) (c_barred : CalZ P w K mg base 2 "barred" ["puts", "names"] fBarred) (c__law_one_by_one : CalZ P w K mg base 3 "_law_one_by_one" ["_law_urn_here", "_law_puts_here"] (fOne CR)) : Gd.RunAt callerA P w K mg base f fd ["_law_script"] (spZ w K (fLaw Pt)) := by
  refine runZC (k := 4) F hcd scLaw ⟨rfl, by decide, by decide⟩ (fun xs μ Q h => ?_) (fun outer s H E hr => ?_)
  · obtain ⟨ns, rfl, _⟩ := h
    rfl
  · have nd := scLaw.nd
    have hG : (callerA.deeper (envOfC "law" (defScope sLaw) s.heap.objs.size f (.ref c))).guards = some [] := rfl
    refine ⟨_, (dss_cons (ds_for PassesOwn.never rfl (di_range1 (by rfl) T.range (da_cons (d_callB (ca_max2 rfl) (by rfl) T.max (by decide +kernel) (da_cons d_int (da_cons (d_callB (ca_min2 rfl) (by rfl) T.min (by decide +kernel) (da_cons d_int (da_cons (d_callB ca_len (by rfl) T.len PySem.boot_len (da_cons (dv 0) da_nil)) da_nil))) da_nil))) da_nil)) (dg_name (i := 1) nd rfl (Or.inl rfl))
  (dss_cons (ds_set (i := 2) nd rfl (Or.inl rfl) (d_own0 c__law_urn (hr.mono (by decide)) (by rfl) (da_cons (dv 0) (da_cons (dv 1) da_nil))))
  (dss_cons (ds_set (i := 3) nd rfl (Or.inl rfl) (d_own1 c__law_puts (hr.mono (by decide)) (by rfl) (da_cons (dv 2) (da_cons d_int da_nil))))
  (dss_cons (ds_set (i := 4) nd rfl (Or.inl rfl) (d_ownL c_plain_row (hr.mono (by decide)) (by rfl) (da_cons (dv 3) da_nil)))
  (dss_cons (ds_if (DW.dt (dw_or (dt_cmp (oz_ne hr.units) (d_ownL c_plain_row (hr.mono (by decide)) (by rfl) (da_cons (d_ownM c__law_mixed (hr.mono (by decide)) (by rfl) (da_cons (dv 2) (da_cons (dv 3) da_nil))) da_nil)) (dv 4) (nomark _)) (dw_or1 (dt_cmp (oz_ne hr.units) (d_ownM c__law_one_by_one (hr.mono (by decide)) (by rfl) (da_cons (dv 2) (da_cons (dv 3) da_nil))) (dv 4) (nomark _)))))
  (dss_one (ds_ret d_bl))
  dss_nil)
  (dss_cons (ds_set (i := 5) nd rfl (Or.inl rfl) (d_lst da_nil))
  (dss_cons (ds_for PassesOwn.never rfl (di_seq (dv 3)) (dg_name (i := 6) nd rfl (Or.inl rfl))
  (dss_one (ds_expr (d_lm PySem.F.slot_list_extend PySem.F.type_list_extend me_extend2 (dv 5) (da_cons (d_ix (dv 6) d_int (fun _ _ => rfl)) da_nil)))))
  (dss_cons (ds_if (dt_cmp (oz_ne hr.units) (d_sortL hr.units (by rfl) T.sorted TB rfl (by rfl) (by decide +kernel) (by exact key_of_repr hG (r200 hr) hr.depth T.repr rfl rfl rfl (by decide +kernel) (by decide +kernel) (by decide +kernel) (by decide) (fun _ _ _ _ _ _ _ _ => rfl)) (da_cons (dv 5) da_nil)) (d_sortL hr.units (by rfl) T.sorted TB rfl (by rfl) (by decide +kernel) (by exact key_of_repr hG (r200 hr) hr.depth T.repr rfl rfl rfl (by decide +kernel) (by decide +kernel) (by decide +kernel) (by decide) (fun _ _ _ _ _ _ _ _ => rfl)) (da_cons (dv 4) da_nil)) (nomark _))
  (dss_one (ds_ret d_bl))
  dss_nil)
  (dss_cons (ds_if (dt_cmp oz_notN (d_ownL c_barred (hr.mono (by decide)) (by rfl) (da_cons (dv 3) (da_cons (dv 4) da_nil))) d_non (nomark _))
  (dss_one (ds_ret d_bl))
  dss_nil)
  (dss_cons (ds_set (i := 7) nd rfl (Or.inl rfl) (d_lst (da_cons (d_fz (d_rev (dv 4))) (da_cons (d_fz (d_ownM c__law_mixed (hr.mono (by decide)) (by rfl) (da_cons (dv 2) (da_cons (dv 4) da_nil)))) (da_cons (d_fz (d_ownM c__law_mixed (hr.mono (by decide)) (by rfl) (da_cons (dv 2) (da_cons (dv 4) da_nil)))) da_nil)))))
  (dss_cons (ds_for PassesOwn.never rfl (di_range1 (by rfl) T.range (da_cons (d_bin oz_sub (d_callB ca_len (by rfl) T.len PySem.boot_len (da_cons (dv 4) da_nil)) d_int) da_nil)) (dg_name (i := 8) nd rfl (Or.inl rfl))
  (dss_cons (ds_expr (d_lm PySem.F.slot_list_append PySem.F.type_list_append me_append (dv 7) (da_cons (d_fz (d_bin oz_add (d_bin oz_add (d_slice (dv 4) do_none (do_some (dv 8))) (d_lst (da_cons (d_ix (dv 4) (d_bin oz_add (dv 8) d_int) (fun _ _ => rfl)) (da_cons (d_ix (dv 4) (dv 8) (fun _ _ => rfl)) da_nil)))) (d_slice (dv 4) (do_some (d_bin oz_add (dv 8) d_int)) do_none))) da_nil)))
  (dss_one (ds_expr (d_lm PySem.F.slot_list_append PySem.F.type_list_append me_append (dv 7) (da_cons (d_fz (d_bin oz_add (d_bin oz_add (d_lst (da_cons (d_ix (dv 4) (d_bin oz_add (dv 8) d_int) (fun _ _ => rfl)) da_nil)) (d_slice (dv 4) do_none (do_some (d_bin oz_add (dv 8) d_int)))) (d_slice (dv 4) (do_some (d_bin oz_add (dv 8) d_int)) do_none))) da_nil))))))
  (dss_one (ds_for PassesOwn.never rfl (di_seq (dv 7)) (dg_name (i := 9) nd rfl (Or.inl rfl))
  (dss_one (ds_if (dt_cmp (oz_ne hr.units) (d_cmp oz_isN (d_ownL c_barred (hr.mono (by decide)) (by rfl) (da_cons (dv 3) (da_cons (dv 9) da_nil))) d_non (nomark _)) (d_cmp (oz_eq hr.units) (dv 9) (dv 4) (nomark _)) (nomark _))
  (dss_one (ds_ret d_bl))
  dss_nil)))))))))))))))
  (dss_one (ds_ret d_bl))), ?_⟩
    rintro xs μ Q ⟨ns, rfl, rfl, q⟩
    have ez : sizeLine = 16777216 := by decide +kernel
    obtain ⟨j, j0, j1, ej⟩ : ∃ j : Int, 2 ≤ j ∧ j ≤ 3 ∧ (if (if ((ns.length : Nat) : Int) < 3 then ((ns.length : Nat) : Int) else 3) > 2 then (if ((ns.length : Nat) : Int) < 3 then ((ns.length : Nat) : Int) else 3) else 2) = j := ⟨_, by split <;> omega, by split <;> split <;> omega, rfl⟩
    show -(2 ^ 62) ≤ (if (if ((ns.length : Nat) : Int) < 3 then ((ns.length : Nat) : Int) else 3) > 2 then (if ((ns.length : Nat) : Int) < 3 then ((ns.length : Nat) : Int) else 3) else 2) ∧ _
    rw [ej]
    refine ⟨by omega, by omega, fun i ρ μ => ∃ y1 y2 y3 y4 y5 y6 y7 y8 y9, ρ = [some (.scr ns), y1, y2, y3, y4, y5, y6, y7, y8, y9] ∧ μ = [(Pt, .tab qL)], ⟨_, _, _, _, _, _, _, _, _, rfl, rfl⟩, fun _ _ _ _ _ => trivial, ?_, ?_⟩
    rotate_left
    · rintro ρ μ ⟨y1, y2, y3, y4, y5, y6, y7, y8, y9, rfl, rfl⟩
      exact ⟨_, .refl _, q⟩
    rintro i y ρ μ hy ⟨y1, y2, y3, y4, y5, y6, y7, y8, y9, rfl, rfl⟩
    have hlt : i < j.toNat := by
      have := (List.getElem?_eq_some_iff.mp hy).1
      rwa [rangeZ_len] at this
    rw [rangeZ_get hlt] at hy
    cases hy
    rw [Int.zero_add]
    refine ⟨ns, i, rfl, rfl, by omega, by omega, fun u d s d0 s0 s1 => ?_⟩
    refine ⟨1, u, _, rfl, u, d, s, 0, 0, 10, rfl, rfl, ⟨d0, s0, s1, Int.le_refl _, Int.le_refl _⟩, by decide, by decide, by decide, fun p ps st d2 c2 D F4 ok2 => ⟨_, [_], rfl, ?_⟩⟩
    obtain ⟨po, tr, _⟩ := D.puts (.refl _)
    have few := D.few
    have flN : ∀ {a : Addr} {L : List NestedKey}, (∀ x ∈ L, ∃ m, m ≤ 64 ∧ Nm x m) → ∀ p ∈ [(a, Node.lst (L.map kv))], flatN p.2 := fun {a L} h p hp => by
      rw [List.mem_singleton.mp hp]
      intro x hx
      obtain ⟨y, hy, rfl⟩ := List.mem_map.mp hx
      exact flat_nm ⟨_, (h y hy).choose_spec.2⟩
    have flP : ∀ {a : Addr} {qs : List Put}, (∀ x ∈ qs, x ∈ ps) → ∀ p ∈ [(a, found qs)], flatN p.2 := fun {a qs} h p hp => by
      rw [List.mem_singleton.mp hp]
      intro x hx
      obtain ⟨y, hy, rfl⟩ := List.mem_map.mp hx
      exact D.flat y (h y hy)
    have nmS : ∀ x ∈ (singles ps).map (·.n), ∃ m, m ≤ 64 ∧ Nm x m := fun x hx => by
      obtain ⟨s, hs, rfl⟩ := List.mem_map.mp hx
      exact ⟨_, few, (D.key s hs).2⟩
    have lenS := D.len
    have F1 := D.fam
    have ndS : ((singles ps).map (·.n)).Nodup := tr.nd
    refine ⟨[_], .cons (.p 2 rfl (datOf_D ps)) .nil, ps, rfl, rfl, po, tr, fun li told cl od df => ?_⟩
    obtain ⟨gd, pt⟩ := F1.dfs od df
    have nmL : ∀ x ∈ told, ∃ m, m ≤ 64 ∧ Nm x m := fun x hx => nmS x (pt.mem_iff.mp hx)
    have lenL : told.length ≤ 3840 := by rw [pt.length_eq, List.length_map]; exact lenS
    have knL : ∀ x ∈ told, Kn x := fun x hx => .inr (nmL x hx)
    have shL := kn_shape knL
    have rfL := kn_refl knL
    refine ⟨⟨trivial, flN nmL⟩, ?_⟩
    -- put by put, mixed
    refine ⟨1, u, _, [.ptr u, .dat (.list (ps.map Put.D))], rfl, .cons (.keep _) (.cons (.p 2 (by decide) rfl (datOf_D ps)) .nil), u, d2, s, c2, _, ps.map Put.D, rfl, rfl, ok2, by rw [List.length_map]; omega, fun pm es d3 c3 perm ok3 => ⟨_, [(pm, _)], rfl, ⟨trivial, flat_urn _ _ _, ?_⟩, ?_⟩⟩
    · intro r hr
      rw [List.mem_singleton.mp hr]
      intro x hx
      obtain ⟨d, hd, rfl⟩ := List.mem_map.mp hx
      obtain ⟨d, hd2, rfl⟩ := List.mem_map.mp (perm.mem_iff.mp hd)
      exact D.flat d hd2
    obtain ⟨qs, pq, rfl⟩ := perm_inv perm
    obtain ⟨po', tr', _⟩ := D.puts pq
    refine ⟨[_], .cons (.p 4 rfl (datOf_map (qs.map Put.D))) .nil, qs, rfl, rfl, po', tr', fun pd told2 cl2 od2 df2 => ?_⟩
    have e1 := D.ord (.refl _) od
    have e2 := D.ord pq od2
    rw [e1] at df
    rw [e2] at df2
    obtain rfl := dfs_one df df2
    refine ⟨⟨trivial, flN nmL⟩, ?_⟩
    refine ptr_cmp (g := not) (.p 5 rfl (datOf_K told)) (.p 3 rfl (datOf_K told)) shL shL ?_
    rw [rfL]
    refine ⟨1, u, _, [.ptr u, .dat (.list (ps.map Put.D))], rfl, .cons (.keep _) (.cons (.p 2 (by decide) rfl (datOf_D ps)) .nil), u, d3, s, c3, _, ps, st, rfl, rfl, ok3, by rw [List.length_map]; omega, D, F4, fun p1 L2 d4 c4 g2 pt2 ok4 => ⟨_, [(p1, _)], rfl, ⟨trivial, flat_urn _ _ _, ?_⟩, ?_⟩⟩
    · exact flN fun x hx => nmS x (pt2.mem_iff.mp hx)
    obtain rfl := F1.one gd g2 pt pt2
    refine ptr_cmp (g := not) (.p 6 rfl (datOf_K told)) (.p 3 rfl (datOf_K told)) shL shL ?_
    rw [rfL]
    -- the names, sorted
    refine ⟨Nat.zero_le _, fun nm => ?_⟩
    refine ⟨2, _, rfl, fun n ρ μ => ∃ (y6 y7 y8 y9 : Option Val), ρ = [some (.scr ns), some (.dat (.int i)), some (.ptr u), some (.ptr p), some (.ptr li), some (.ptr nm), y6, y7, y8, y9] ∧ μ = [(Pt, .tab qL), (u, urnN d4 s c4), (p, found ps), (li, .lst (told.map kv)), (pm, .lst ((qs.map Put.D).map .dat)), (pd, .lst (told.map kv)), (p1, .lst (told.map kv)), (nm, .lst (((ps.take n).flatMap (·.ns)).map kv))], ⟨_, _, _, _, rfl, rfl⟩, fun _ _ _ _ h => ?_, ?_, ?_⟩
    · obtain ⟨_, _, _, _, _, e⟩ := h
      exact ⟨2, by rw [e]; rfl⟩
    · rintro n y ρ μ hy ⟨y6, y7, y8, y9, rfl, rfl⟩
      obtain ⟨pp, hp, rfl⟩ := get_map hy
      have et := take_snoc hp
      have lt1 : ((ps.take (n + 1)).flatMap (·.ns)).length ≤ 3840 := by
        have h1 : (singles ps).map (·.n) = ps.flatMap (·.ns) := singles_names ps
        have h2 : ps.flatMap (·.ns) = (ps.take (n + 1)).flatMap (·.ns) ++ (ps.drop (n + 1)).flatMap (·.ns) := by rw [← List.flatMap_append, List.take_append_drop]
        have h3 := congrArg List.length (h1.trans h2)
        rw [List.length_map, List.length_append] at h3
        omega
      have e9 : ((ps.take n).flatMap (·.ns)).map kv ++ (pp.ns.map datK).map Val.dat = ((ps.take (n + 1)).flatMap (·.ns)).map kv := by
        rw [et, List.flatMap_append, List.map_append, List.map_map]
        simp
      refine ⟨⟨7, _, rfl⟩, _, rfl, 7, _, rfl, ?_, ?_⟩
      · have := congrArg List.length e9
        rw [List.length_append, List.length_map, List.length_map, List.length_map, List.length_map] at this
        rw [List.length_map, List.length_map, ez]
        omega
      rw [e9]
      exact ⟨_, .refl _, _, _, _, _, rfl, rfl⟩
    rintro ρ μ ⟨y6, y7, y8, y9, rfl, rfl⟩
    rw [List.length_map, List.take_length, ← singles_names ps]
    obtain ⟨a1, a2, a3⟩ := kn_pr nmS
    obtain ⟨b1, b2, b3⟩ := kn_pr nmL
    refine ⟨⟨0, rfl⟩, 7, _, rfl, ⟨7, _, rfl⟩, ((singles ps).map (·.n)).map datK, datOf_K _, a1, a2, a3, fun t1 => ?_⟩
    refine ⟨⟨0, rfl⟩, 3, _, rfl, ⟨3, _, rfl⟩, told.map datK, datOf_K _, b1, b2, b3, fun t2 => ?_⟩
    rw [sortR_same pt.symm nmS]
    generalize hS : (told.map datK).mergeSort (PySem.W.dataLe false kR) = S
    have inS : ∀ d ∈ S, d.canLay0 = true ∧ d.depth ≤ 8 := fun d hd => by
      rw [← hS] at hd
      obtain ⟨x, hx, rfl⟩ := List.mem_map.mp ((List.mergeSort_perm _ _).mem_iff.mp hd)
      exact (knL x hx).nice
    obtain ⟨v1, v2⟩ := lay_all (ds := S) (n := 8) inS
    have cS : (PyData.list S).canLay0 = true := by rw [PyData.canLay0.eq_5]; exact v1
    have shS : SeqAt.shaped (.list S) = true := by
      unfold SeqAt.shaped
      rw [cS, Bool.true_and, decide_eq_true_eq, PyData.depth]
      omega
    refine ptr_cmp (g := not) (.p 8 rfl (datOf_map S)) (.p 9 rfl (datOf_map S)) shS shS ?_
    rw [SeqAt.eqv_refl _ cS]
    -- nothing in it is barred
    have seen : ∀ ks : List NestedKey, ks.Perm told → Seen ps (markOf (singles ps)) (baseOf (singles ps)) ks := fun ks hk => ⟨⟨ps, st, D, .refl _⟩, fun s hs => look_one ndS hs, fun n hn => pt.mem_iff.mp (hk.mem_iff.mp hn), by rw [hk.length_eq]; omega⟩
    have nnL : ∀ n ∈ told, n ≠ .none := fun n hn => (nmL n hn).choose_spec.2.nn
    have bar : ∀ ks : List NestedKey, ks.Perm told → (barZ (markOf (singles ps)) (baseOf (singles ps)) [] ks = .none ↔ ks = told) := fun ks hk => by
      rw [bar_good ks [] [] (fun n hn => nnL n (hk.mem_iff.mp hn)) fun _ => rfl]
      exact ⟨fun g => F1.one g gd (hk.trans pt) pt, fun e => by rw [e]; exact gd⟩
    have kb : ∀ ks : List NestedKey, ks.Perm told → noList (datK (barZ (markOf (singles ps)) (baseOf (singles ps)) [] ks)) = true := fun ks hk => by
      rcases bar_in (M := markOf (singles ps)) (B := baseOf (singles ps)) ks [] with e | e
      · rw [e]
        rfl
      · exact flat_nm ⟨_, (nmL _ (hk.mem_iff.mp e)).choose_spec.2⟩
    refine ⟨[_, _], .cons (.p 2 rfl (datOf_D ps)) (.cons (.p 3 rfl (datOf_K told)) .nil), ps, told, _, _, rfl, rfl, seen told (.refl _), ⟨⟨kb told (.refl _), fun _ h => by cases h⟩, ?_⟩⟩
    rw [(bar told (.refl _)).mpr rfl]
    -- other orders
    refine ⟨⟨3, _, rfl⟩, 3, _, rfl, fun r1 => ⟨10, _, told.reverse.map datK, rfl, by rw [← List.map_reverse]; exact datOf_K _, ?_⟩⟩
    refine ⟨1, u, _, [.ptr u, .dat (.list (told.map datK))], rfl, .cons (.keep _) (.cons (.p 3 (by decide) rfl (datOf_K told)) .nil), u, d4, s, c4, _, told.map datK, rfl, rfl, ok4, by rw [List.length_map, List.length_map]; omega, fun q1 es1 d5 c5 perm1 ok5 => ⟨_, [(q1, _)], rfl, ⟨trivial, flat_urn _ _ _, ?_⟩, ?_⟩⟩
    · obtain ⟨k1, pk1, rfl⟩ := perm_inv perm1
      have := flN (a := q1) (L := k1) fun x hx => nmL x (pk1.mem_iff.mp hx)
      rwa [show k1.map kv = (k1.map datK).map Val.dat by rw [List.map_map]; rfl] at this
    obtain ⟨k1, pk1, rfl⟩ := perm_inv perm1
    refine ⟨10, _, k1.map datK, rfl, datOf_map _, ?_⟩
    refine ⟨1, u, _, [.ptr u, .dat (.list (told.map datK))], rfl, .cons (.keep _) (.cons (.p 3 (by decide) rfl (datOf_K told)) .nil), u, d5, s, c5, _, told.map datK, rfl, rfl, ok5, by rw [List.length_map, List.length_map]; omega, fun q2 es2 d6 c6 perm2 ok6 => ⟨_, [(q2, _)], rfl, ⟨trivial, flat_urn _ _ _, ?_⟩, ?_⟩⟩
    · obtain ⟨k2, pk2, rfl⟩ := perm_inv perm2
      have := flN (a := q2) (L := k2) fun x hx => nmL x (pk2.mem_iff.mp hx)
      rwa [show k2.map kv = (k2.map datK).map Val.dat by rw [List.map_map]; rfl] at this
    obtain ⟨k2, pk2, rfl⟩ := perm_inv perm2
    refine ⟨10, _, k2.map datK, rfl, datOf_map _, (by decide : 3 ≤ sizeLine), fun ot => ?_⟩
    refine ⟨3, _, rfl, ?_⟩
    rw [List.length_map]
    refine ⟨by omega, by omega, fun n ρ μ => ∃ (os : List (List NestedKey)) (z8 z9 : Option Val), ρ = [some (.scr ns), some (.dat (.int i)), some (.ptr u), some (.ptr p), some (.ptr li), some (.ptr nm), y6, some (.ptr ot), z8, z9] ∧ μ = [(Pt, .tab qL), (u, urnN d6 s c6), (p, found ps), (li, .lst (told.map kv)), (pm, .lst ((qs.map Put.D).map .dat)), (pd, .lst (told.map kv)), (p1, .lst (told.map kv)), (nm, .lst (((singles ps).map (·.n)).map kv)), (t1, .lst (S.map .dat)), (t2, .lst (S.map .dat)), (ot, .lst (os.map fun ks => Val.dat (.list (ks.map datK))))] ∧ (∀ ks ∈ os, ks.Perm told) ∧ os.length ≤ 3 + 2 * n,
      ⟨[told.reverse, k1, k2], _, _, rfl, rfl, ?_, (by show 3 ≤ 3 + 2 * 0; decide)⟩, fun _ _ _ _ _ => trivial, ?_, ?_⟩
    · intro ks hk
      rcases List.mem_cons.mp hk with rfl | hk
      · exact List.reverse_perm told
      rcases List.mem_cons.mp hk with rfl | hk
      · exact pk1
      rw [List.mem_singleton.mp hk]
      exact pk2
    · rintro n y ρ μ hy ⟨os, z8, z9, rfl, rfl, pos, los⟩
      have hn : n < ((told.length : Int) - 1).toNat := by
        have := (List.getElem?_eq_some_iff.mp hy).1
        rwa [rangeZ_len] at this
      rw [rangeZ_get hn] at hy
      cases hy
      rw [Int.zero_add]
      have h0 : n < told.length := by omega
      have h1 : n + 1 < told.length := by omega
      have at0 : atI (told.map kv) (n : Int) = some (kv told[n]) := atI_nat (by rw [List.getElem?_map, List.getElem?_eq_getElem h0]; rfl)
      have at1 : atI (told.map kv) ((n : Int) + 1) = some (kv told[n + 1]) := (atI_nat (by rw [List.getElem?_map, List.getElem?_eq_getElem h1]; rfl) : atI (told.map kv) ((n + 1 : Nat) : Int) = _)
      have cl : ∀ lo hi, (cutG (told.map kv) lo hi).length ≤ 3840 := fun lo hi => Nat.le_trans cut_len (by rw [List.length_map]; exact lenL)
      have eL : told = told.take n ++ told[n] :: told[n + 1] :: told.drop (n + 2) := by
        conv => lhs; rw [← List.take_append_drop n told]
        rw [List.drop_eq_getElem_cons h0, List.drop_eq_getElem_cons h1]
      let o1 : List NestedKey := told.take n ++ [told[n + 1], told[n]] ++ told.drop (n + 2)
      let o2 : List NestedKey := [told[n + 1]] ++ told.take (n + 1) ++ told.drop (n + 2)
      have po1 : o1.Perm told := by
        show (told.take n ++ [told[n + 1], told[n]] ++ told.drop (n + 2)).Perm told
        conv => rhs; rw [eL]
        rw [List.append_assoc]
        exact (List.Perm.swap ..).append_left _
      have po2 : o2.Perm told := by
        show ([told[n + 1]] ++ told.take (n + 1) ++ told.drop (n + 2)).Perm told
        have e2 : told.take (n + 1) = told.take n ++ [told[n]] := by rw [List.take_succ, List.getElem?_eq_getElem h0]; rfl
        conv => rhs; rw [eL]
        rw [e2]
        have : ([told[n + 1]] ++ (told.take n ++ [told[n]]) ++ told.drop (n + 2)) = told[n + 1] :: ((told.take n ++ [told[n]]) ++ told.drop (n + 2)) := by simp
        rw [this]
        refine List.perm_middle.symm.trans ?_
        have : told.take n ++ [told[n]] ++ told[n + 1] :: told.drop (n + 2) = told.take n ++ told[n] :: told[n + 1] :: told.drop (n + 2) := by simp
        rw [this]
      have d1 : datOf (cutG (told.map kv) none (some (n : Int)) ++ [kv told[n + 1], kv told[n]] ++ cutG (told.map kv) (some ((n : Int) + 2)) none) = some (o1.map datK) := by
        rw [cutG_take, show ((n : Int) + 2) = ((n + 2 : Nat) : Int) from rfl, cutG_drop, ← List.map_take, ← List.map_drop, show [kv told[n + 1], kv told[n]] = [told[n + 1], told[n]].map kv from rfl, ← List.map_append, ← List.map_append]
        exact datOf_K _
      have d2 : datOf ([kv told[n + 1]] ++ cutG (told.map kv) none (some ((n : Int) + 1)) ++ cutG (told.map kv) (some ((n : Int) + 2)) none) = some (o2.map datK) := by
        rw [show ((n : Int) + 1) = ((n + 1 : Nat) : Int) from rfl, cutG_take, show ((n : Int) + 2) = ((n + 2 : Nat) : Int) from rfl, cutG_drop, ← List.map_take, ← List.map_drop, show [kv told[n + 1]] = [told[n + 1]].map kv from rfl, ← List.map_append, ← List.map_append]
        exact datOf_K _
      refine ⟨⟨10, _, rfl⟩, 3, _, rfl, fun s1 => ?_⟩
      refine ⟨3, _, _, rfl, at1, 3, _, _, rfl, at0, (by decide : 2 ≤ sizeLine), fun l1 => ?_⟩
      refine ⟨_, _, .p 11 rfl, .p 12 rfl, ?_, fun a1 => ?_⟩
      · have := cl none (some (n : Int))
        rw [ez]
        show _ + 2 ≤ _
        omega
      refine ⟨3, _, rfl, fun s2 => ?_⟩
      refine ⟨_, _, .p 13 rfl, .p 14 rfl, ?_, fun a2 => ?_⟩
      · have h2 := cl none (some (n : Int))
        have h3 := cl (some ((n : Int) + 2)) none
        rw [ez, List.length_append]
        show _ + 2 + _ ≤ _
        omega
      refine ⟨15, _, _, rfl, d1, ?_⟩
      refine ⟨10, _, rfl, by rw [List.length_map, ez]; omega, ?_⟩
      refine ⟨⟨10, _, rfl⟩, 3, _, _, rfl, at1, (by decide : 1 ≤ sizeLine), fun l2 => ?_⟩
      refine ⟨3, _, rfl, fun s3 => ?_⟩
      refine ⟨_, _, .p 15 rfl, .p 16 rfl, ?_, fun a3 => ?_⟩
      · have := cl none (some ((n : Int) + 1))
        rw [ez]
        show 1 + _ ≤ _
        omega
      refine ⟨3, _, rfl, fun s4 => ?_⟩
      refine ⟨_, _, .p 17 rfl, .p 18 rfl, ?_, fun a4 => ?_⟩
      · have h2 := cl none (some ((n : Int) + 1))
        have h3 := cl (some ((n : Int) + 2)) none
        rw [ez, List.length_append]
        show 1 + _ + _ ≤ _
        omega
      refine ⟨19, _, _, rfl, d2, ?_⟩
      refine ⟨10, _, rfl, by rw [List.length_append, List.length_map, ez]; show _ + 1 < _; omega, ?_⟩
      have eo : (os.map fun ks => Val.dat (.list (ks.map datK))) ++ [Val.dat (.list (o1.map datK))] ++ [Val.dat (.list (o2.map datK))] = (os ++ [o1, o2]).map fun ks => Val.dat (.list (ks.map datK)) := by simp
      rw [eo]
      refine ⟨_, .cons₂ _ (.cons₂ _ (.cons₂ _ (.cons₂ _ (.cons₂ _ (.cons₂ _ (.cons₂ _ (.cons₂ _ (.cons₂ _ (.cons₂ _ (.cons₂ _ (List.nil_sublist _))))))))))), os ++ [o1, o2], _, _, rfl, rfl, fun ks hk => ?_, by rw [List.length_append]; show _ + 2 ≤ _; omega⟩
      rcases List.mem_append.mp hk with hk | hk
      · exact pos ks hk
      rcases List.mem_cons.mp hk with rfl | hk
      · exact po1
      rw [List.mem_singleton.mp hk]
      exact po2
    · rintro ρ μ ⟨os, z8, z9, rfl, rfl, pos, los⟩
      refine ⟨10, _, rfl, fun n ρ μ => ∃ (z9 : Option Val), ρ = [some (.scr ns), some (.dat (.int i)), some (.ptr u), some (.ptr p), some (.ptr li), some (.ptr nm), y6, some (.ptr ot), z8, z9] ∧ μ = [(Pt, .tab qL), (u, urnN d6 s c6), (p, found ps), (li, .lst (told.map kv)), (pm, .lst ((qs.map Put.D).map .dat)), (pd, .lst (told.map kv)), (p1, .lst (told.map kv)), (nm, .lst (((singles ps).map (·.n)).map kv)), (t1, .lst (S.map .dat)), (t2, .lst (S.map .dat)), (ot, .lst (os.map fun ks => Val.dat (.list (ks.map datK))))], ⟨_, rfl, rfl⟩, fun _ _ _ _ h => ?_, ?_, ?_⟩
      · obtain ⟨_, _, e⟩ := h
        exact ⟨10, by rw [e]; rfl⟩
      · rintro n y ρ μ hy ⟨z9, rfl, rfl⟩
        obtain ⟨ks, hks, rfl⟩ := get_map hy
        have pk := pos ks (List.mem_of_getElem? hks)
        have knK : ∀ x ∈ ks, Kn x := fun x hx => knL x (pk.mem_iff.mp hx)
        refine ⟨[_, _], .cons (.p 2 rfl (datOf_D ps)) (.cons (.keep _) .nil), ps, ks, _, _, rfl, rfl, seen ks pk, ⟨⟨kb ks pk, fun _ h => by cases h⟩, ?_⟩⟩
        have kbar : Kn (barZ (markOf (singles ps)) (baseOf (singles ps)) [] ks) := by
          rcases bar_in (M := markOf (singles ps)) (B := baseOf (singles ps)) ks [] with e | e
          · exact .inl e
          · exact knK _ e
        refine ⟨.list (ks.map datK), .list (told.map datK), .d _, .p 3 rfl (datOf_K told), kn_shape knK, shL, ?_⟩
        rw [kl_eqv knK knL]
        have e3 : isN (.dat (datK (barZ (markOf (singles ps)) (baseOf (singles ps)) [] ks))) = decide (ks = told) := by
          rw [isN_kn kbar]
          exact decide_eq_decide.mpr (bar ks pk)
        rw [e3]
        generalize decide (ks = told) = bb
        cases bb <;> exact ⟨_, .refl _, _, rfl, rfl⟩
      · rintro ρ μ ⟨z9, rfl, rfl⟩
        exact ⟨_, .cons₂ _ (List.nil_sublist _), _, _, _, _, _, _, _, _, _, rfl, rfl⟩
end
end Kr
namespace Kr
open PySem PySem.Spec PyProof.Rows L2 Lf Zl
section
set_option maxHeartbeats 4000000 in
theorem all_mk {l : PySem.W.OpenLaw} {w : World} {K : PySem.W.Frag} {h : Heap} {mg : Str → Option Value} {fa CR cT Pt : Addr} (X : K.In h) (G : h.Ns mainGlobals mg) (hfa : mg "law" = some (.ref fa))
    {od0 an0 : Option Addr} {sl0 : Array (Option Value)} {oc0 kV0 dc0 pm0 cd0 ct0 : Value} {f0 : Addr}
    {od1 an1 : Option Addr} {sl1 : Array (Option Value)} {oc1 kV1 dc1 pm1 cd1 ct1 : Value} {f1 : Addr}
    {od2 an2 : Option Addr} {sl2 : Array (Option Value)} {oc2 kV2 dc2 pm2 cd2 ct2 : Value} {f2 : Addr}
    {od3 an3 : Option Addr} {sl3 : Array (Option Value)} {oc3 kV3 dc3 pm3 cd3 ct3 : Value} {f3 : Addr}
    {od4 an4 : Option Addr} {sl4 : Array (Option Value)} {oc4 kV4 dc4 pm4 cd4 ct4 : Value} {f4 : Addr}
    {od5 an5 : Option Addr} {sl5 : Array (Option Value)} {oc5 kV5 dc5 pm5 cd5 ct5 : Value} {f5 : Addr}
    {od6 an6 : Option Addr} {sl6 : Array (Option Value)} {oc6 kV6 dc6 pm6 cd6 ct6 : Value} {f6 : Addr}
    {od7 an7 : Option Addr} {sl7 : Array (Option Value)} {oc7 kV7 dc7 pm7 cd7 ct7 : Value} {f7 : Addr}
    {od8 an8 : Option Addr} {sl8 : Array (Option Value)} {oc8 kV8 dc8 pm8 cd8 ct8 : Value} {f8 : Addr}
    {od9 an9 : Option Addr} {sl9 : Array (Option Value)} {oc9 kV9 dc9 pm9 cd9 ct9 : Value} {f9 : Addr}
    {od10 an10 : Option Addr} {sl10 : Array (Option Value)} {oc10 kV10 dc10 pm10 cd10 ct10 : Value} {f10 : Addr}
    {od11 an11 : Option Addr} {sl11 : Array (Option Value)} {oc11 kV11 dc11 pm11 cd11 ct11 : Value} {f11 : Addr}
    {od12 an12 : Option Addr} {sl12 : Array (Option Value)} {oc12 kV12 dc12 pm12 cd12 ct12 : Value} {f12 : Addr}
    (aC0 : PySem.W.nsIn K mainGlobals "Row" = some (some (.ref CR)))
    (pg0 : PySem.W.plainGet K CR Str.empty = true)
    (hd0 : PySem.W.hasDictIn K CR = true)
    (po0 : PySem.W.plainOver K CR = true)
    (sa0 : PySem.W.findIn K (.ref CR) "__setattr__" = some (some (.builtin "object.__setattr__")))
    (mk0 : PySem.W.makesIn K CR = true)
    (kc0 : PySem.W.keepIn K (.ref CR) = true)
    (na0_0 : PySem.W.findIn K (.ref CR) "_next" = some none)
    (na0_1 : PySem.W.findIn K (.ref CR) "_marks" = some none)
    (a0 : PySem.W.nsIn K mainGlobals "plain_row" = some (some (.ref f0)))
    (l0 : K.lookup f0 = some ⟨oc0, od0, .func (PySem.W.fnOf "plain_row" "plain_row" (defArgs (topS 2)) (defBody (topS 2)) (defScope (topS 2)) .none kV0 dc0 pm0 an0 cd0 ct0), sl0⟩)
    (c0 : PySem.W.codeIn K cd0 "plain_row" = true)
    (k0 : PySem.W.keepIn K (.ref f0) = true)
    (a1 : PySem.W.nsIn K mainGlobals "followers" = some (some (.ref f1)))
    (l1 : K.lookup f1 = some ⟨oc1, od1, .func (PySem.W.fnOf "followers" "followers" (defArgs (topS 3)) (defBody (topS 3)) (defScope (topS 3)) .none kV1 dc1 pm1 an1 cd1 ct1), sl1⟩)
    (c1 : PySem.W.codeIn K cd1 "followers" = true)
    (k1 : PySem.W.keepIn K (.ref f1) = true)
    (a2 : PySem.W.nsIn K mainGlobals "single_puts" = some (some (.ref f2)))
    (l2 : K.lookup f2 = some ⟨oc2, od2, .func (PySem.W.fnOf "single_puts" "single_puts" (defArgs (topS 4)) (defBody (topS 4)) (defScope (topS 4)) .none kV2 dc2 pm2 an2 cd2 ct2), sl2⟩)
    (c2 : PySem.W.codeIn K cd2 "single_puts" = true)
    (k2 : PySem.W.keepIn K (.ref f2) = true)
    (a3 : PySem.W.nsIn K mainGlobals "barred" = some (some (.ref f3)))
    (l3 : K.lookup f3 = some ⟨oc3, od3, .func (PySem.W.fnOf "barred" "barred" (defArgs (topS 5)) (defBody (topS 5)) (defScope (topS 5)) .none kV3 dc3 pm3 an3 cd3 ct3), sl3⟩)
    (c3 : PySem.W.codeIn K cd3 "barred" = true)
    (k3 : PySem.W.keepIn K (.ref f3) = true)
    (a4 : PySem.W.findIn K (.ref CR) "__init__" = some (some (.ref f4)))
    (i4 : PySem.W.isFn K (.ref f4) = true)
    (l4 : K.lookup f4 = some ⟨oc4, od4, .func (PySem.W.fnOf "__init__" "Row.__init__" (defArgs (inClass (topS 6) 0)) (defBody (inClass (topS 6) 0)) (defScope (inClass (topS 6) 0)) .none kV4 dc4 pm4 an4 cd4 ct4), sl4⟩)
    (c4 : PySem.W.codeIn K cd4 "Row.__init__" = true)
    (k4 : PySem.W.keepIn K (.ref f4) = true)
    (a5 : PySem.W.findIn K (.ref CR) "put" = some (some (.ref f5)))
    (i5 : PySem.W.isFn K (.ref f5) = true)
    (l5 : K.lookup f5 = some ⟨oc5, od5, .func (PySem.W.fnOf "put" "Row.put" (defArgs (inClass (topS 6) 1)) (defBody (inClass (topS 6) 1)) (defScope (inClass (topS 6) 1)) .none kV5 dc5 pm5 an5 cd5 ct5), sl5⟩)
    (c5 : PySem.W.codeIn K cd5 "Row.put" = true)
    (k5 : PySem.W.keepIn K (.ref f5) = true)
    (a6 : PySem.W.findIn K (.ref CR) "names" = some (some (.ref f6)))
    (i6 : PySem.W.isFn K (.ref f6) = true)
    (l6 : K.lookup f6 = some ⟨oc6, od6, .func (PySem.W.fnOf "names" "Row.names" (defArgs (inClass (topS 6) 2)) (defBody (inClass (topS 6) 2)) (defScope (inClass (topS 6) 2)) .none kV6 dc6 pm6 an6 cd6 ct6), sl6⟩)
    (c6 : PySem.W.codeIn K cd6 "Row.names" = true)
    (k6 : PySem.W.keepIn K (.ref f6) = true)
    (a7 : PySem.W.nsIn K mainGlobals "_law_urn" = some (some (.ref f7)))
    (l7 : K.lookup f7 = some ⟨oc7, od7, .func (PySem.W.fnOf "_law_urn" "_law_urn" (defArgs (topS 8)) (defBody (topS 8)) (defScope (topS 8)) .none kV7 dc7 pm7 an7 cd7 ct7), sl7⟩)
    (c7 : PySem.W.codeIn K cd7 "_law_urn" = true)
    (k7 : PySem.W.keepIn K (.ref f7) = true)
    (a8 : PySem.W.nsIn K mainGlobals "_law_lot" = some (some (.ref f8)))
    (l8 : K.lookup f8 = some ⟨oc8, od8, .func (PySem.W.fnOf "_law_lot" "_law_lot" (defArgs (topS 9)) (defBody (topS 9)) (defScope (topS 9)) .none kV8 dc8 pm8 an8 cd8 ct8), sl8⟩)
    (c8 : PySem.W.codeIn K cd8 "_law_lot" = true)
    (k8 : PySem.W.keepIn K (.ref f8) = true)
    (a9 : PySem.W.nsIn K mainGlobals "_law_puts" = some (some (.ref f9)))
    (l9 : K.lookup f9 = some ⟨oc9, od9, .func (PySem.W.fnOf "_law_puts" "_law_puts" (defArgs (topS 10)) (defBody (topS 10)) (defScope (topS 10)) .none kV9 dc9 pm9 an9 cd9 ct9), sl9⟩)
    (c9 : PySem.W.codeIn K cd9 "_law_puts" = true)
    (k9 : PySem.W.keepIn K (.ref f9) = true)
    (a10 : PySem.W.nsIn K mainGlobals "_law_mixed" = some (some (.ref f10)))
    (l10 : K.lookup f10 = some ⟨oc10, od10, .func (PySem.W.fnOf "_law_mixed" "_law_mixed" (defArgs (topS 11)) (defBody (topS 11)) (defScope (topS 11)) .none kV10 dc10 pm10 an10 cd10 ct10), sl10⟩)
    (c10 : PySem.W.codeIn K cd10 "_law_mixed" = true)
    (k10 : PySem.W.keepIn K (.ref f10) = true)
    (a11 : PySem.W.nsIn K mainGlobals "_law_one_by_one" = some (some (.ref f11)))
    (l11 : K.lookup f11 = some ⟨oc11, od11, .func (PySem.W.fnOf "_law_one_by_one" "_law_one_by_one" (defArgs (topS 12)) (defBody (topS 12)) (defScope (topS 12)) .none kV11 dc11 pm11 an11 cd11 ct11), sl11⟩)
    (c11 : PySem.W.codeIn K cd11 "_law_one_by_one" = true)
    (k11 : PySem.W.keepIn K (.ref f11) = true)
    (a12 : PySem.W.nsIn K mainGlobals "law" = some (some (.ref f12)))
    (l12 : K.lookup f12 = some ⟨oc12, od12, .func (PySem.W.fnOf "law" "law" (defArgs (topS 13)) (defBody (topS 13)) (defScope (topS 13)) .none kV12 dc12 pm12 an12 cd12 ct12), sl12⟩)
    (c12 : PySem.W.codeIn K cd12 "law" = true)
    (k12 : PySem.W.keepIn K (.ref f12) = true)
    (z0 : PySem.W.nsIn K mainGlobals "len" = some none)
    (z1 : PySem.W.nsIn K mainGlobals "range" = some none)
    (z2 : PySem.W.nsIn K mainGlobals "list" = some none)
    (z3 : PySem.W.nsIn K mainGlobals "tuple" = some none)
    (z4 : PySem.W.nsIn K mainGlobals "max" = some none)
    (z5 : PySem.W.nsIn K mainGlobals "min" = some none)
    (z6 : PySem.W.nsIn K mainGlobals "sorted" = some none)
    (z7 : PySem.W.nsIn K mainGlobals "repr" = some none)
    (hcT : cd12 = .ref cT)
    : ∃ fd : FuncData, (∀ (s : Shared) (v : Value), BindsTo s fd ⟨[v], []⟩ [("_law_script", v)]) ∧ ∀ base : Heap, K.In base → base.Ns mainGlobals mg → LamX.TabB base mg cT Pt → Gd.RunAt callerA l.prog w K mg base fa fd ["_law_script"] (spZ w K (fLaw Pt)) := by
  have e := hfa.symm.trans (PySem.W.mg_of X G a12)
  cases e
  have TB : Bs mg := ⟨PySem.W.mg_none_of X G z0, PySem.W.mg_none_of X G z1, PySem.W.mg_none_of X G z2, PySem.W.mg_none_of X G z3, PySem.W.mg_none_of X G z4, PySem.W.mg_none_of X G z5, PySem.W.mg_none_of X G z6, PySem.W.mg_none_of X G z7⟩
  have T : Ts K mg CR := { toBs := TB, c_Row := ⟨pg0, hd0, po0, sa0⟩, g_Row := PySem.W.mg_of X G aC0, n_Row__next := na0_0, n_Row__marks := na0_1 }
  have F_plain_row := fun_mk (st := topS 2) l0 c0 k0
  have b_plain_row := F_plain_row.binds (ps := ["puts"]) fun _ _ _ _ _ _ us hl => match us, hl with | [_], _ => rfl
  have g_plain_row := PySem.W.mg_of X G a0
  have F_followers := fun_mk (st := topS 3) l1 c1 k1
  have b_followers := F_followers.binds (ps := ["puts"]) fun _ _ _ _ _ _ us hl => match us, hl with | [_], _ => rfl
  have g_followers := PySem.W.mg_of X G a1
  have F_single_puts := fun_mk (st := topS 4) l2 c2 k2
  have b_single_puts := F_single_puts.binds (ps := ["puts"]) fun _ _ _ _ _ _ us hl => match us, hl with | [_], _ => rfl
  have g_single_puts := PySem.W.mg_of X G a2
  have F_barred := fun_mk (st := topS 5) l3 c3 k3
  have b_barred := F_barred.binds (ps := ["puts", "names"]) fun _ _ _ _ _ _ us hl => match us, hl with | [_, _], _ => rfl
  have g_barred := PySem.W.mg_of X G a3
  have F_Row___init__ := fun_mk (st := inClass (topS 6) 0) l4 c4 k4
  have b_Row___init__ := F_Row___init__.binds (ps := ["self"]) fun _ _ _ _ _ _ us hl => match us, hl with | [_], _ => rfl
  have M_Row___init__ : Meth K CR "__init__" f4 := ⟨a4, i4, k4⟩
  have K_Row : Mk K CR f4 := ⟨mk0, a4, i4, kc0⟩
  have F_Row_put := fun_mk (st := inClass (topS 6) 1) l5 c5 k5
  have b_Row_put := F_Row_put.binds (ps := ["self", "mark", "names", "behind"]) fun _ _ _ _ _ _ us hl => match us, hl with | [_, _, _, _], _ => rfl
  have M_Row_put : Meth K CR "put" f5 := ⟨a5, i5, k5⟩
  have F_Row_names := fun_mk (st := inClass (topS 6) 2) l6 c6 k6
  have b_Row_names := F_Row_names.binds (ps := ["self"]) fun _ _ _ _ _ _ us hl => match us, hl with | [_], _ => rfl
  have M_Row_names : Meth K CR "names" f6 := ⟨a6, i6, k6⟩
  have F__law_urn := fun_mk (st := topS 8) l7 c7 k7
  have b__law_urn := F__law_urn.binds (ps := ["_law_script", "_law_k"]) fun _ _ _ _ _ _ us hl => match us, hl with | [_, _], _ => rfl
  have g__law_urn := PySem.W.mg_of X G a7
  have F__law_lot := fun_mk (st := topS 9) l8 c8 k8
  have b__law_lot := F__law_lot.binds (ps := ["_law_urn_here", "_law_many"]) fun _ _ _ _ _ _ us hl => match us, hl with | [_, _], _ => rfl
  have g__law_lot := PySem.W.mg_of X G a8
  have F__law_puts := fun_mk (st := topS 10) l9 c9 k9
  have b__law_puts := F__law_puts.binds (ps := ["_law_urn_here", "_law_most"]) fun _ _ _ _ _ _ us hl => match us, hl with | [_, _], _ => rfl
  have g__law_puts := PySem.W.mg_of X G a9
  have F__law_mixed := fun_mk (st := topS 11) l10 c10 k10
  have b__law_mixed := F__law_mixed.binds (ps := ["_law_urn_here", "_law_things"]) fun _ _ _ _ _ _ us hl => match us, hl with | [_, _], _ => rfl
  have g__law_mixed := PySem.W.mg_of X G a10
  have F__law_one_by_one := fun_mk (st := topS 12) l11 c11 k11
  have b__law_one_by_one := F__law_one_by_one.binds (ps := ["_law_urn_here", "_law_puts_here"]) fun _ _ _ _ _ _ us hl => match us, hl with | [_, _], _ => rfl
  have g__law_one_by_one := PySem.W.mg_of X G a11
  have F_law := fun_mk (st := topS 13) l12 c12 k12
  have b_law := F_law.binds (ps := ["_law_script"]) fun _ _ _ _ _ _ us hl => match us, hl with | [_], _ => rfl
  have g_law := PySem.W.mg_of X G a12
  refine ⟨PySem.W.fnOf "law" "law" (defArgs (topS 13)) (defBody (topS 13)) (defScope (topS 13)) .none kV12 dc12 pm12 an12 cd12 ct12, fun s v => .of_eq rfl, fun base _ _ TBt => ?_⟩
  have C_urn : CalZ l.prog w K mg base 1 "_law_urn" ["_law_script", "_law_k"] fUrn := ⟨_, _, ok_urn F__law_urn T.toBs, g__law_urn, F__law_urn.kp, b__law_urn⟩
  have C_lot : CalZ l.prog w K mg base 1 "_law_lot" ["_law_urn_here", "_law_many"] fLot := ⟨_, _, ok_lot F__law_lot T.toBs, g__law_lot, F__law_lot.kp, b__law_lot⟩
  have C_puts : CalZ l.prog w K mg base 2 "_law_puts" ["_law_urn_here", "_law_most"] fPuts := ⟨_, _, ok_puts F__law_puts T.toBs C_lot, g__law_puts, F__law_puts.kp, b__law_puts⟩
  have C_mixed : CalZ l.prog w K mg base 2 "_law_mixed" ["_law_urn_here", "_law_things"] fMixed := ⟨_, _, ok_mixed F__law_mixed T.toBs C_lot, g__law_mixed, F__law_mixed.kp, b__law_mixed⟩
  have C_single : CalZ l.prog w K mg base 1 "single_puts" ["puts"] fSingle := ⟨_, _, ok_single F_single_puts T.toBs, g_single_puts, F_single_puts.kp, b_single_puts⟩
  have C_foll : CalZ l.prog w K mg base 2 "followers" ["puts"] fFoll := ⟨_, _, ok_foll F_followers T.toBs C_single, g_followers, F_followers.kp, b_followers⟩
  have C_plain : CalZ l.prog w K mg base 3 "plain_row" ["puts"] fPlain := ⟨_, _, ok_plain F_plain_row T.toBs C_foll, g_plain_row, F_plain_row.kp, b_plain_row⟩
  have C_barred : CalZ l.prog w K mg base 2 "barred" ["puts", "names"] fBarred := ⟨_, _, ok_barred F_barred T.toBs C_single, g_barred, F_barred.kp, b_barred⟩
  have R_put : MCalZ l.prog w K mg base 1 CR "put" ["self", "mark", "names", "behind"] (fRPut CR) := ⟨_, _, ok_rput F_Row_put T, M_Row_put, b_Row_put⟩
  have R_names : MCalZ l.prog w K mg base 1 CR "names" ["self"] (fRNames CR) := ⟨_, _, ok_rnames F_Row_names T, M_Row_names, b_Row_names⟩
  have R_make : KCalZ l.prog w K mg base 1 CR ["self"] (fRInit CR) := ⟨_, _, ok_rinit F_Row___init__ T, K_Row, b_Row___init__⟩
  have C_one : CalZ l.prog w K mg base 3 "_law_one_by_one" ["_law_urn_here", "_law_puts_here"] (fOne CR) := ⟨_, _, ok_one F__law_one_by_one T C_lot R_make R_put R_names, g__law_one_by_one, F__law_one_by_one.kp, b__law_one_by_one⟩
  exact run_law F_law hcT TBt T C_urn C_puts C_mixed C_plain C_barred C_one
end
end Kr
open PySem PySem.W PyProof.Rows
set_option maxRecDepth 100000 in
set_option maxHeartbeats 0 in
theorem PySem.Challenge.cw_leafround_k11_whole_just_one_row_holds : PySem.Challenge.rw_leafround_k11_whole_just_one_row.Holds := by
  w_on; o_law; k_head; (case hw => w_witness2)
  k_fill
  refine Gt.walk_tab (l := PySem.Challenge.rw_leafround_k11_whole_just_one_row) (n := 63) (x := "_law_script") (c := 129) (Pt := 125) (sp := fun w => Zl.spZ w (_) (Kr.fLaw 125)) rfl (by decide) rfl (fun w h Y => ⟨PySem.W.km_in_of Y, PySem.W.km_tabs_of Y 125 (by decide)⟩) (fun w => rfl) (fun w => rfl) ?F (fun _ _ a ns _ hP na hS => by exact Zl.law_spT (F := Kr.fLaw 125) ⟨ns, rfl, rfl, rfl⟩ hP na hS)
  case F =>
    intro w mg fa h KX G hmg
    refine' Kr.all_mk KX G hmg ?aC0 ?pg0 ?hd0 ?po0 ?sa0 ?mk0 ?kc0 ?na0_0 ?na0_1 ?a0 ?l0 ?c0 ?k0 ?a1 ?l1 ?c1 ?k1 ?a2 ?l2 ?c2 ?k2 ?a3 ?l3 ?c3 ?k3 ?a4 ?i4 ?l4 ?c4 ?k4 ?a5 ?i5 ?l5 ?c5 ?k5 ?a6 ?i6 ?l6 ?c6 ?k6 ?a7 ?l7 ?c7 ?k7 ?a8 ?l8 ?c8 ?k8 ?a9 ?l9 ?c9 ?k9 ?a10 ?l10 ?c10 ?k10 ?a11 ?l11 ?c11 ?k11 ?a12 ?l12 ?c12 ?k12 ?z0 ?z1 ?z2 ?z3 ?z4 ?z5 ?z6 ?z7 ?hcT
    (case aC0 => k_is); (case pg0 => k_is); (case hd0 => k_is); (case po0 => k_is); (case sa0 => k_is); (case mk0 => k_is); (case kc0 => k_is); (case na0_0 => k_is); (case na0_1 => k_is); (case a0 => k_is); (case l0 => k_is); (case c0 => k_is); (case k0 => k_is); (case a1 => k_is); (case l1 => k_is); (case c1 => k_is); (case k1 => k_is); (case a2 => k_is); (case l2 => k_is); (case c2 => k_is); (case k2 => k_is); (case a3 => k_is); (case l3 => k_is); (case c3 => k_is); (case k3 => k_is); (case a4 => k_is); (case i4 => k_is); (case l4 => k_is); (case c4 => k_is); (case k4 => k_is); (case a5 => k_is); (case i5 => k_is); (case l5 => k_is); (case c5 => k_is); (case k5 => k_is); (case a6 => k_is); (case i6 => k_is); (case l6 => k_is); (case c6 => k_is); (case k6 => k_is); (case a7 => k_is); (case l7 => k_is); (case c7 => k_is); (case k7 => k_is); (case a8 => k_is); (case l8 => k_is); (case c8 => k_is); (case k8 => k_is); (case a9 => k_is); (case l9 => k_is); (case c9 => k_is); (case k9 => k_is); (case a10 => k_is); (case l10 => k_is); (case c10 => k_is); (case k10 => k_is); (case a11 => k_is); (case l11 => k_is); (case c11 => k_is); (case k11 => k_is); (case a12 => k_is); (case l12 => k_is); (case c12 => k_is); (case k12 => k_is); (case z0 => k_is); (case z1 => k_is); (case z2 => k_is); (case z3 => k_is); (case z4 => k_is); (case z5 => k_is); (case z6 => k_is); (case z7 => k_is)
    (case hcT => rfl)
