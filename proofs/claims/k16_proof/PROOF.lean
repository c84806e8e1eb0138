import PyProof.Rows.All
import Wide.All
import OpenK.AllK
import Wide.FinOn
import HandS.ForMost
import HandS.Star
import HandS.Style
import HandS.Wide
import HandS.IsInst
import HandS.EndBits
import HandS.More
import HandS.TupAny
import HandS.Evl
import KE.KeyNested
import PyProof.DictMoreH
import HandS.SetKeys
import HandS.DictComp
import PyProof.ReprRoads
import KE.SortData
import KE.DataCmp
import HandS.SortRule
import HandS.Lambda
import HandS.Deep
import HandS.Text
import HandS.Iter
import PyProof.CallFns
import PyProof.Rows.TupDisplay
import HandS.TupLen
import HandS.Defaults
import HandS.Conv
import HandS.Flow
import HandS.SetFor
import HandS.OwnEq
import HandS.Dict
import KE.DataMinMax
import HandS.SortKw
import KE.SortKeyHeap
import HandS.NestedK
import KE.GoesEnumKw
import KE.KDictPairs
import HandS.TryOnly
import PySem.Challenge.RW_leafround_k16_whole_no_cell_beneath_itse
set_option Elab.async false
set_option linter.all false
set_option maxRecDepth 100000
namespace Lf
open PySem PySem.Spec PyProof.Rows L2

/-- an own def: where it stands, its promise, how it is called -/
def Callee (P : Program) (w : World) (K : PySem.W.Frag) (mg : Str → Option Value) (base : Heap) (k : Nat) (x : Str) (ps : List Str) (sp : Sp) : Prop :=
  ∃ (f : Addr) (fd : FuncData), FnOk P w K mg base CX0 k f fd ps sp ∧ mg x = some (.ref f) ∧ PySem.W.keepIn K (.ref f) = true ∧ Binds K fd ps []
section
variable {X : Cx} {k : Nat} {x : Str} {ps : List Str} {sp : Sp} {e : Expr} {es : List Expr} {t : TA} {p pos : Pos}
theorem pe_own (C : Callee X.prog X.w X.K X.mg X.base k x ps sp) (hr : Room k X.A) (hg : Gl X x) (ha : PA X (e :: es) t)
    (hdb : (x == ("__debug__" : Str)) = false := by decide) (he : starEach (e :: es) X.env = (false, eval e X.env) :: starEach es X.env := by rfl) (hpl : (backTo pos (starEach es X.env)).any (·.1) = false := by rfl) :
    PE X (.Call (.Name x p) (e :: es) [] pos) (tCall sp [] E0 t) := by
  obtain ⟨f, fd, F, hm, hk, hb⟩ := C
  exact pe_call F hr hg hm hk hb .nil pass0 ha hdb he hpl
end

/-- all but the object at a stays -/
def Kp (a : Addr) (H H' : Hp) : Prop := ∀ b o, b ≠ a → H b = some o → H' b = some o
theorem Kp.refl (a : Addr) (H : Hp) : Kp a H H := fun _ _ _ h => h
theorem Kp.trans {a : Addr} {H H1 H2 : Hp} (x : Kp a H H1) (y : Kp a H1 H2) : Kp a H H2 := fun b o n h => y b o n (x b o n h)
theorem Kp.new {a p : Addr} {H H' : Hp} {o : HO} (x : Kp a H H') (h : H' p = none) : Kp a H (upd H' p o) := fun b u n e => by
  rw [upd_ne (ne_of_none (x b u n e) h)]
  exact x b u n e
theorem Kp.mut {a : Addr} {H H' : Hp} {o : HO} (x : Kp a H H') : Kp a H (upd H' a o) := fun b u n e => by
  rw [upd_ne n]
  exact x b u n e
theorem Kp.seqL {K : PySem.W.Frag} {a p : Addr} {H H' : Hp} {xs : List V} (x : Kp a H H') (n : p ≠ a) (h : SqL K H p xs) : SqL K H' p xs := by
  rcases h with (h | ⟨o, h⟩) | h
  · exact .inl (.inl (x _ _ n h))
  · exact .inl (.inr ⟨o, x _ _ n h⟩)
  · exact .inr h

/-- the tape: two ints -/
def TapeAt (H : Hp) (a : Addr) : Prop := ∃ u v : Int, H a = some (.lst [.int u, .int v]) ∧ 0 ≤ u ∧ 0 ≤ v ∧ v < 2147483648
theorem TapeAt.keep {a b : Addr} {H H' : Hp} (h : TapeAt H a) (k : Kp b H H') (n : a ≠ b) : TapeAt H' a := by
  obtain ⟨u, v, e, r⟩ := h
  exact ⟨u, v, k _ _ n e, r⟩
theorem TapeAt.new {a p : Addr} {H : Hp} {o : HO} (h : TapeAt H a) (n : H p = none) : TapeAt (upd H p o) a := by
  obtain ⟨u, v, e, r⟩ := h
  exact ⟨u, v, by rw [upd_ne (ne_of_none e n)]; exact e, r⟩
def spDigit : Sp := fun vs H Q _ => ∃ (a : Addr) (n : Int), vs = [.ref a, .int n] ∧ TapeAt H a ∧ 0 < n ∧ n ≤ 10 ^ 60 ∧
  ∀ (v : Int) (H' : Hp), Kp a H H' → TapeAt H' a → 0 ≤ v → v < n → Q (.int v) H'
/-- an object that H does not know may change -/
theorem Kp.mutN {a p : Addr} {H H' : Hp} {o : HO} (x : Kp a H H') (h : H p = none) : Kp a H (upd H' p o) := fun b u n e => by
  rw [upd_ne (ne_of_none e h)]
  exact x b u n e
theorem Kp.fresh {a p : Addr} {H H' : Hp} (x : Kp a H H') (h : H' p = none) (n : p ≠ a) : H p = none := by
  cases e : H p with
  | none => rfl
  | some o =>
    rw [x p o n e] at h
    cases h
theorem Kp.get {a b : Addr} {H H' : Hp} {o : HO} (x : Kp a H H') (n : b ≠ a) (h : H b = some o) : H' b = some o := x b o n h
theorem TapeAt.ne {a p : Addr} {H : Hp} (h : TapeAt H a) (n : H p = none) : p ≠ a := fun e => by
  obtain ⟨u, v, h, _⟩ := h
  rw [e, h] at n
  cases n
theorem TapeAt.mut {a p : Addr} {H : Hp} {o : HO} (h : TapeAt H a) (n : p ≠ a) : TapeAt (upd H p o) a := by
  obtain ⟨u, v, e, r⟩ := h
  exact ⟨u, v, by rw [upd_ne n.symm]; exact e, r⟩
theorem atI_mem {α : Type} {xs : List α} {i : Int} (h0 : 0 ≤ i) (h1 : i < xs.length) : ∃ x, x ∈ xs ∧ atI xs i = some x := by
  obtain ⟨n, rfl⟩ := Int.eq_ofNat_of_zero_le h0
  have h : n < xs.length := by omega
  exact ⟨xs[n], List.getElem_mem h, atI_nat (List.getElem?_eq_getElem h)⟩
theorem str_len_append (x y : Str) : (x ++ y).length = x.length + y.length := by
  show (x.cps ++ y.cps).size = _
  rw [Array.size_append]
  rfl
theorem join_len (sep : Str) (hs : sep.length = 0) : ∀ ys : List Str, (Str.join sep ys).length = (ys.map (·.length)).sum
  | [] => rfl
  | [x] => by
    show x.length = x.length + 0
    omega
  | x :: y :: r => by
    show (x ++ sep ++ Str.join sep (y :: r)).length = x.length + ((y :: r).map (·.length)).sum
    rw [str_len_append, str_len_append, join_len sep hs (y :: r), hs]
    omega
theorem sum_ones : ∀ {ys : List Str}, (∀ y ∈ ys, y.length = 1) → (ys.map (·.length)).sum = ys.length
  | [], _ => rfl
  | y :: r, h => by
    rw [List.map_cons, List.sum_cons, h y (List.mem_cons_self ..), sum_ones fun z hz => h z (List.mem_cons_of_mem _ hz)]
    show 1 + r.length = r.length + 1
    omega
end Lf
namespace L2
open PySem
theorem Same.kp {a : Addr} {H H' : Hp} (s : Same H H') : Lf.Kp a H H' := fun b o _ h => s b o h
theorem same_new {H : Hp} {p : Addr} {o : HO} (h : H p = none) : Same H (upd H p o) := fun b x e => by
  rw [upd_ne (ne_of_none e h)]
  exact e
theorem Same.tr {H H1 H2 : Hp} (x : Same H H1) (y : Same H1 H2) : Same H H2 := fun b o h => y b o (x b o h)
theorem Same.fresh {H H' : Hp} {p : Addr} (s : Same H H') (h : H' p = none) : H p = none := by
  cases e : H p with
  | none => rfl
  | some o =>
    rw [s p o e] at h
    cases h
theorem Same.mutN {H H' : Hp} {p : Addr} {o : HO} (s : Same H H') (h : H p = none) : Same H (upd H' p o) := fun b u e => by
  rw [upd_ne (ne_of_none e h)]
  exact s b u e
theorem same_refl (H : Hp) : Same H H := fun _ _ h => h
end L2
namespace Lf
open PySem PySem.Spec PyProof.Rows L2
/-- a comprehension over enumerate(list): each turn's pair is a new tuple at T -/
theorem lc_enum {K : PySem.W.Frag} {a : Addr} {xs : List V} {g : TG} {tt : TT} {te : TE} {vs : List Nat} {σ : L2.St} {H1 : Hp} {D : Addr} {Qd : Hp → Prop} (Pv : Nat → Hp → Prop)
    (h0 : Pv 0 (upd H1 D (.lst []))) (hl : ∀ i H, Pv i H → SqL K H a xs)
    (hs : ∀ i x T H, xs[i]? = some x → H T = none → Pv i H → g (.ref T) (wipe σ vs) (upd H T (.tup [.int (i : Nat), x])) fun σ2 H2 => wipe σ2 vs = wipe σ vs ∧ tt σ2 H2 fun b H3 =>
      if b = true then te σ2 H3 fun y H4 => ∃ acc, H4 D = some (.lst acc) ∧ acc.length < sizeLine ∧ Pv (i + 1) (upd H4 D (.lst (acc ++ [y]))) else Pv (i + 1) H3)
    (hd : ∀ H, Pv xs.length H → Qd H) :
    ∃ W : Nat → Nat → Hp → Prop, (∃ m, W 0 m (upd H1 D (.lst []))) ∧ ∀ i m H, W i m H → ((Ite K a).stop i H ∧ Qd H) ∨
      ((Ite K a).go i H ∧ ∃ Nx : Hp → Prop, (∀ H', Nx H' → ∃ m', m' < m ∧ W (i + 1) m' H') ∧ ∀ x H', (Ite K a).yld i H x H' → g x (wipe σ vs) H' fun σ2 H2 => wipe σ2 vs = wipe σ vs ∧ tt σ2 H2 fun b H3 =>
        if b = true then te σ2 H3 fun y H4 => ∃ acc, H4 D = some (.lst acc) ∧ acc.length < sizeLine ∧ Nx (upd H4 D (.lst (acc ++ [y]))) else Nx H3) := by
  refine ⟨fun i m H => i + m = xs.length ∧ Pv i H, ⟨xs.length, Nat.zero_add _, h0⟩, fun i m H ⟨em, p⟩ => ?_⟩
  by_cases hi : i < xs.length
  · refine .inr ⟨⟨xs, xs[i], hl i H p, List.getElem?_eq_getElem hi⟩, Pv (i + 1), fun H' p' => ⟨m - 1, by omega, by omega, p'⟩, fun x H' y => ?_⟩
    obtain ⟨T, z, rfl, hT, rfl, hz⟩ := y
    exact hs i z T H (hz xs (hl i H p)) hT p
  · have e : i = xs.length := by omega
    exact .inl ⟨⟨xs, hl i H p, by omega⟩, hd H (e ▸ p)⟩
end Lf
namespace Lf
open PySem PySem.Spec PyProof.Rows L2
/-- signs that a text may hold -/
abbrev SOk (x : Str) : Prop := ∀ c ∈ x.cps.toList, c < 0x110000
theorem sok_append {x y : Str} (h1 : SOk x) (h2 : SOk y) : SOk (x ++ y) := fun c hc => by
  have e : (x ++ y).cps.toList = x.cps.toList ++ y.cps.toList := by
    show (x.cps ++ y.cps).toList = _
    rw [Array.toList_append]
  rw [e] at hc
  rcases List.mem_append.mp hc with h | h
  · exact h1 c h
  · exact h2 c h
theorem sok_join {sep : Str} (hs : SOk sep) : ∀ {ys : List Str}, (∀ y ∈ ys, SOk y) → SOk (Str.join sep ys)
  | [], _ => fun c hc => by
    have h : c ∈ ([] : List Nat) := hc
    cases h
  | [x], h => h x (List.mem_cons_self ..)
  | x :: y :: r, h => sok_append (sok_append (h x (List.mem_cons_self ..)) hs) (sok_join hs fun z hz => h z (List.mem_cons_of_mem _ hz))
end Lf
namespace Lf
open PySem PySem.Spec PyProof.Rows L2
theorem len_K {X : Cx} : CallR X (.builtin "len") (Evl.rLenS X.K) := call_len_seq
end Lf
/-! Dicts whose keys are data of any depth: None, whole numbers, tuples of what they like. -/
namespace Vd
open PySem
section
variable {prog : Program} {w : World} {A : Around} {E : Value → Shared → Prop} {s : Shared}
abbrev Row := NestedKey × Value × Value
/-- what may be a key here: not too deep -/
structure KeyOk (k : NestedKey) : Prop where
  deep : k.depth ≤ 8
  noText : ∀ x, k = .text x → True
def ent (w : World) (x : Row) : DictEntry := { hash := x.1.hash w, key := x.2.1, val := x.2.2 }
/-- these rows may stand in a dict of the heap h -/
structure Rows (h : Heap) (xs : List Row) : Prop where
  ok : ∀ x ∈ xs, KeyOk x.1
  is : ∀ x ∈ xs, NestedIs h x.1 x.2.1
  nd : (xs.map (·.1)).Nodup
theorem one_place {xs : List Row} (hn : (xs.map (·.1)).Nodup) {i j : Nat} {k : NestedKey} {p q : Value × Value} (hi : xs[i]? = some (k, p)) (hj : xs[j]? = some (k, q)) : i = j := by
  have a : (xs.map (·.1))[i]? = some k := by rw [List.getElem?_map, hi]; rfl
  have b : (xs.map (·.1))[j]? = some k := by rw [List.getElem?_map, hj]; rfl
  exact (List.getElem?_inj (List.getElem?_eq_some_iff.mp a).1 hn).mp (a.trans b.symm)
theorem ent_at {es : Array DictEntry} {xs : List Row} (he : es.toList = xs.map (ent w)) (j : Nat) : es[j]? = (xs[j]?).map (ent w) := by
  rw [← Array.getElem?_toList, he, List.getElem?_map]
theorem ent_size {es : Array DictEntry} {xs : List Row} (he : es.toList = xs.map (ent w)) : es.size = xs.length := by
  rw [← Array.length_toList, he, List.length_map]
theorem eq_key {x y : NestedKey} {a b : Value} {Q : Bool → Shared → Prop} (hx : NestedIs s.heap x a) (hy : NestedIs s.heap y b) (ox : x.depth ≤ 8) (hu : A.units + 8 < cLine) (h : Q (decide (x = y)) s) :
    wpAny (model prog w) A (eqBool a b) Q E s := by
  have hm : A.units + min x.depth y.depth < cLine := by omega
  exact eqAt_key x y A s _ _ hx hy hm _ _ _ _ (by rw [← NestedKey.decide_eq]; exact h)
/-- the places asked are those of one hash -/
theorem places_mem {n i : Nat} {f : Nat → Option Int} {h : Int} : i ∈ placesWithHash n f h ↔ i < n ∧ (f i == some h) = true := by
  unfold placesWithHash
  rw [List.mem_filter, List.mem_range]
theorem places_nodup {n : Nat} {f : Nat → Option Int} {h : Int} : (placesWithHash n f h).Nodup := by
  unfold placesWithHash
  exact List.Pairwise.filter _ List.nodup_range
theorem may_tell {key : Value} {k : NestedKey} {stored : List Value} {Q : Bool → Shared → Prop} (hk : NestedIs s.heap k key) (ok : k.depth ≤ 8) (hst : ∀ v ∈ stored, ∃ j, NestedIs s.heap j v ∧ j.depth ≤ 8) (h : Q false s) :
    wpAny (model prog w) A (tableMayTell key stored) Q E s := by
  unfold tableMayTell
  split
  · exact wpAny_pure h
  · refine wpAny_bind (quiet_key k key 8 s hk ok A E _ ?_)
    rw [if_neg (by simp)]
    refine wpAny_bind (wpAny_forIn_list _ (fun rest r s' => s' = s ∧ r = (none, ()) ∧ ∀ v ∈ rest, ∃ j, NestedIs s.heap j v ∧ j.depth ≤ 8) _ ?_ ?_ _ _ ⟨rfl, rfl, hst⟩)
    · rintro x rest r s' ⟨rfl, rfl, hr⟩
      obtain ⟨j, hj, oj⟩ := hr x (List.mem_cons_self ..)
      refine wpAny_bind (quiet_key j x 8 s' hj oj A E _ ?_)
      rw [if_neg (by simp)]
      exact wpAny_pure ⟨rfl, rfl, fun v hv => hr v (List.mem_cons_of_mem _ hv)⟩
    · rintro r s' ⟨rfl, rfl, _⟩
      exact wpAny_pure h
theorem wIf {M : Model} {α : Type} {c : Prop} [Decidable c] {x y : Sem α} {Q : α → Shared → Prop} (h1 : c → wpAny M A x Q E s) (h2 : ¬ c → wpAny M A y Q E s) : wpAny M A (if c then x else y) Q E s := by
  by_cases h : c
  · rw [if_pos h]; exact h1 h
  · rw [if_neg h]; exact h2 h
/-- where a key stands, if anywhere -/
theorem find {d : Addr} {key : Value} {o : Obj} {es : Array DictEntry} {ep : Nat} {xs : List Row} {k : NestedKey} {Q : Option Nat → Shared → Prop} (hu : A.units + 8 < cLine) (hk : NestedIs s.heap k key) (ok : KeyOk k)
    (ho : s.heap.get? d = some o) (hd : o.data = .dict es ep) (he : es.toList = xs.map (ent w)) (R : Rows s.heap xs)
    (h0 : (∀ (j : Nat) (p : Value × Value), xs[j]? ≠ some (k, p)) → Q none s) (h1 : ∀ (j : Nat) (p : Value × Value), xs[j]? = some (k, p) → Q (some j) s) :
    wpAny (model prog w) A (dictFind d key (k.hash w)) Q E s := by
  have hsz : es.size = xs.length := ent_size he
  have row : ∀ i : Nat, i < es.size → ∃ (z : NestedKey) (p : Value × Value), xs[i]? = some (z, p) ∧ es[i]? = some (ent w (z, p)) ∧ NestedIs s.heap z p.1 ∧ KeyOk z := by
    intro i hi
    have hx : xs[i]? = some (xs[i]'(by omega)) := List.getElem?_eq_getElem _
    refine ⟨(xs[i]'(by omega)).1, (xs[i]'(by omega)).2, hx, ?_, R.is _ (List.mem_of_getElem? hx), R.ok _ (List.mem_of_getElem? hx)⟩
    rw [ent_at he i, hx]
    rfl
  have rowm : ∀ e ∈ es, ∃ z p, e = ent w (z, p) ∧ NestedIs s.heap z p.1 ∧ KeyOk z := by
    intro e hin
    obtain ⟨i, hi⟩ := Array.mem_iff_getElem?.mp hin
    obtain ⟨z, p, _, e2, r1, r2⟩ := row i (Array.getElem?_eq_some_iff.mp hi).1
    exact ⟨z, p, Option.some.inj (hi.symm.trans e2), r1, r2⟩
  generalize hpl : placesWithHash es.size (fun i => es[i]?.map (·.hash)) (k.hash w) = places
  have pm : ∀ i ∈ places, i < es.size ∧ ((es[i]?.map (·.hash)) == some (k.hash w)) = true := fun i hi => places_mem.mp (hpl ▸ hi)
  have pin : ∀ (j : Nat) (p : Value × Value), xs[j]? = some (k, p) → j ∈ places := by
    intro j p hj
    rw [← hpl]
    refine places_mem.mpr ⟨?_, ?_⟩
    · rw [hsz]
      exact (List.getElem?_eq_some_iff.mp hj).1
    · show (es[j]?.map (·.hash) == some (k.hash w)) = true
      rw [ent_at he j, hj]
      simp [ent]
  have pnd : places.Nodup := hpl ▸ places_nodup
  have turn : ∀ x ∈ places, ∃ (z : NestedKey) (p : Value × Value), xs[x]? = some (z, p) ∧ es[x]? = some (ent w (z, p)) ∧ NestedIs s.heap z p.1 ∧ KeyOk z ∧ z.hash w = k.hash w := by
    intro x hx
    obtain ⟨a, b⟩ := pm x hx
    obtain ⟨z, p, e1, e2, r1, r2⟩ := row x a
    refine ⟨z, p, e1, e2, r1, r2, ?_⟩
    rw [e2] at b
    simpa [ent] using b
  have walk : wpAny (model prog w) A (dictWalkPlain d key (k.hash w) es places) Q E s := by
    unfold dictWalkPlain
    refine wpAny_bind (wpAny_forIn_list _ (fun rest r s' => s' = s ∧ r = (none, ()) ∧ (∀ i ∈ rest, i ∈ places) ∧ ∀ (j : Nat) (p : Value × Value), xs[j]? = some (k, p) → j ∈ rest) _ ?_ ?_ _ _ ⟨rfl, rfl, fun _ h => h, pin⟩)
    · rintro x rest r s' ⟨rfl, rfl, hr, hj⟩
      obtain ⟨z, p, e1, e2, r1, r2, r3⟩ := turn x (hr x (List.mem_cons_self ..))
      have later : z ≠ k → ∀ (j : Nat) (p : Value × Value), xs[j]? = some (k, p) → j ∈ rest := fun ne j q hq => by
        rcases List.mem_cons.mp (hj j q hq) with e | h
        · subst e
          rw [e1] at hq
          cases hq
          exact absurd rfl ne
        · exact h
      rw [e2]
      dsimp only [ent]
      rw [if_pos (by rw [r3]; simp)]
      refine wpAny_bind (wpAny_dictEpoch ho hd (wpAny_bind (eq_key r1 hk r2.deep hu (wpAny_bind (wpAny_dictEpoch ho hd ?_)))))
      rw [if_neg (by simp)]
      by_cases c : z = k
      · rw [decide_eq_true c, if_pos rfl]
        subst c
        exact wpAny_bind (wpAny_rule (wpAny_pure (wpAny_pure (h1 x p e1))))
      · rw [decide_eq_false c, if_neg (by simp)]
        exact wpAny_bind (wpAny_rule (wpAny_pure ⟨rfl, rfl, fun i hi => hr i (List.mem_cons_of_mem _ hi), later c⟩))
    · rintro r s' ⟨rfl, rfl, _, hj⟩
      exact wpAny_pure (h0 fun j p hp => nomatch hj j p hp)
  have stq : ∀ v ∈ places.filterMap (fun i => es[i]?.map (·.key)), ∃ j, NestedIs s.heap j v ∧ j.depth ≤ 8 := by
    intro v hv
    obtain ⟨i, hi, e⟩ := List.mem_filterMap.mp hv
    obtain ⟨z, p, _, e2, r1, r2, _⟩ := turn i hi
    rw [e2] at e
    cases e
    exact ⟨z, r1, r2.deep⟩
  unfold dictFind
  refine wpAny_holding ?_
  refine wpAny_bind (wpAny_dictEntries ho hd ?_)
  have nany : ∀ a : Addr, key = .ref a → ¬ (es.any fun e => e.key == Value.ref a && e.hash != k.hash w) = true := by
    rintro a rfl
    rw [← Array.any_toList, List.any_eq_true]
    rintro ⟨e, hin, hc⟩
    obtain ⟨z, p, rfl, r1, r2⟩ := rowm e (Array.mem_toList_iff.mp hin)
    simp only [ent, Bool.and_eq_true, beq_iff_eq, bne_iff_ne, ne_eq] at hc
    have q := hc.1 ▸ r1
    exact hc.2 (by rw [NestedIs.inj _ _ _ q hk])
  have loop : ∀ f : Nat → Option (Option Nat) × Option Nat → Sem (ForInStep (Option (Option Nat) × Option Nat)),
      (∀ (i : Nat) (z : NestedKey) (p : Value × Value) (hit : Option Nat) (P : ForInStep (Option (Option Nat) × Option Nat) → Shared → Prop), es[i]? = some (ent w (z, p)) → NestedIs s.heap z p.1 → KeyOk z → z.hash w = k.hash w →
        (z = k → hit = none ∧ P (.done (some (some i), hit)) s ∧ P (.yield (none, some i)) s) → (z ≠ k → P (.yield (none, hit)) s) → wpAny (model prog w) A (f i (none, hit)) P E s) →
      wpAny (model prog w) A (forIn places (none, none) f) (fun r s' => s' = s ∧ ((∃ i p, xs[i]? = some (k, p) ∧ (r.1 = some (some i) ∨ (r.1 = none ∧ r.2 = some i))) ∨ ((∀ (j : Nat) (p : Value × Value), xs[j]? ≠ some (k, p)) ∧ r.1 = none ∧ r.2 = none))) E s := by
    intro f hf
    refine wpAny_forIn_list _ (fun rest r s' => s' = s ∧ rest.Nodup ∧ (∀ i ∈ rest, i ∈ places) ∧ r.1 = none ∧
      ((r.2 = none ∧ ∀ (j : Nat) (p : Value × Value), xs[j]? = some (k, p) → j ∈ rest) ∨ ∃ j p, r.2 = some j ∧ xs[j]? = some (k, p) ∧ j ∉ rest)) _ ?_ ?_ _ _ ⟨rfl, pnd, fun _ h => h, rfl, .inl ⟨rfl, pin⟩⟩
    · rintro x rest ⟨r1, hit⟩ s' ⟨rfl, hn, hr, e, hj⟩
      dsimp only at e hj
      subst e
      obtain ⟨z, p, e1, e2, i1, i2, i3⟩ := turn x (hr x (List.mem_cons_self ..))
      have hn' := List.nodup_cons.mp hn
      refine hf x z p hit _ e2 i1 i2 i3 (fun c => ?_) fun c => ⟨rfl, hn'.2, fun i hi => hr i (List.mem_cons_of_mem _ hi), rfl, ?_⟩
      · subst c
        have hz : hit = none := by
          rcases hj with ⟨a, _⟩ | ⟨j, q, _, b, c⟩
          · exact a
          · exact absurd (one_place R.nd e1 b ▸ List.mem_cons_self ..) c
        exact ⟨hz, ⟨rfl, .inl ⟨x, p, e1, .inl rfl⟩⟩, rfl, hn'.2, fun i hi => hr i (List.mem_cons_of_mem _ hi), rfl, .inr ⟨x, p, rfl, e1, hn'.1⟩⟩
      · rcases hj with ⟨a, b⟩ | ⟨j, q, a, b, c'⟩
        · refine .inl ⟨a, fun j q hq => ?_⟩
          rcases List.mem_cons.mp (b j q hq) with e | h
          · subst e
            rw [e1] at hq
            cases hq
            exact absurd rfl c
          · exact h
        · exact .inr ⟨j, q, a, b, fun h => c' (List.mem_cons_of_mem _ h)⟩
    · rintro ⟨r1, hit⟩ s' ⟨rfl, _, _, e, hj⟩
      dsimp only at e hj
      subst e
      rcases hj with ⟨rfl, b⟩ | ⟨j, q, rfl, b, _⟩
      · exact ⟨rfl, .inr ⟨fun j p hp => (nomatch b j p hp), rfl, rfl⟩⟩
      · exact ⟨rfl, .inl ⟨j, q, b, .inr ⟨rfl, rfl⟩⟩⟩
  have hk' := hk
  have bindW : ∀ W : Sem (Option Nat), wpAny (model prog w) A W Q E s → wpAny (model prog w) A (W >>= fun r => pure r) Q E s := fun W h => wpAny_bind (wpAny_mono h (fun _ _ h => wpAny_pure h) fun _ _ h => h)
  have walk' := bindW _ walk
  have tell : wpAny (model prog w) A (tableMayTell key (places.filterMap fun i => es[i]?.map (·.key))) (fun b s' => b = false ∧ s' = s) E s := may_tell hk ok.deep stq ⟨rfl, rfl⟩
  have step : ∀ {α : Type} {z : NestedKey} {p : Value × Value} {rest : Bool → Sem α} {P : α → Shared → Prop}, NestedIs s.heap z p.1 → KeyOk z → wpAny (model prog w) A (rest (decide (z = k))) P E s →
      wpAny (model prog w) A (eqBool p.1 key >>= rest) P E s := fun a b c => wpAny_bind (eq_key a hk b.deep hu c)
  have dec : ∀ z : NestedKey, z = k ∨ z ≠ k := fun z => Decidable.em _
  cases hk with
  | text x t =>
    dsimp only
    simp only [hpl]
    refine wIf (fun hall => ?_) fun _ => ?_
    · unfold foundByValue
      cases hf : es.findIdx? (fun e => e.key.isStr x) with
      | none =>
        refine wpAny_pure (h0 fun j p hj => ?_)
        have hx := ent_at (w := w) he j
        rw [hj] at hx
        have := Array.findIdx?_eq_none_iff.mp hf (ent w (.text x, p)) (Array.mem_of_getElem? hx)
        have r := R.is _ (List.mem_of_getElem? hj)
        dsimp only [ent] at this r
        generalize p.1 = v at this r
        cases r
        simp [Value.isStr] at this
      | some i =>
        have hi : i < es.size := (Array.findIdx?_eq_some_iff_getElem.mp hf).1
        have hs := (Array.findIdx?_eq_some_iff_getElem.mp hf).2.1
        obtain ⟨z, p, e1, e2, r1, r2⟩ := row i hi
        have ez : z = .text x := by
          have e3 : es[i] = ent w (z, p) := Option.some.inj ((Array.getElem?_eq_getElem hi).symm.trans e2)
          rw [e3] at hs
          dsimp only [ent] at hs
          generalize p.1 = v at hs r1
          cases r1 with
          | text y u =>
            simp [Value.isStr] at hs
            rw [hs]
          | _ => simp [Value.isStr] at hs
        subst ez
        dsimp only
        rw [e2]
        dsimp only [ent]
        refine wpAny_bind (wpAny_dictEpoch ho hd (wpAny_bind (eq_key r1 hk' r2.deep hu (wpAny_bind (wpAny_dictEpoch ho hd ?_)))))
        rw [if_neg (by simp), decide_eq_true rfl, if_pos rfl]
        exact wpAny_bind (wpAny_rule (wpAny_pure (h1 i p e1)))
    · skip
      refine wIf (fun ca => ?_) fun _ => ?_
      · first | exact walk | exact walk' | (simp [carriedByValue] at ca)
      · first | (refine wIf (fun c => absurd c (nany _ rfl)) fun _ => ?_) | skip
        refine wIf (fun _ => ?_) fun _ => ?_ <;>
          (first | refine wpAny_bind (wpAny_pure ?_) | refine wpAny_bind (wpAny_mono tell (fun b s' h => ?_) fun _ _ h => h); obtain ⟨rfl, rfl⟩ := h)
        all_goals
          rw [if_neg (by simp)]
          refine wpAny_bind (wpAny_mono (loop _ fun i z p hit P e2 i1 i2 i3 yes no => ?_) (fun r s' h => ?_) fun _ _ h => h)
          rotate_left
          · obtain ⟨rfl, ⟨i, p, e1, e | ⟨e, e'⟩⟩ | ⟨no, e, e'⟩⟩ := h <;> rw [e]
            · exact wpAny_pure (h1 i p e1)
            · dsimp only
              rw [e']
              exact wpAny_pure (h1 i p e1)
            · dsimp only
              rw [e']
              exact wpAny_pure (h0 no)
          rw [e2]
          dsimp only [ent]
          rw [if_pos (by rw [i3]; simp)]
          refine wpAny_bind (wpAny_dictEpoch ho hd (step i1 i2 (wpAny_bind (wpAny_dictEpoch ho hd ?_))))
          rw [if_neg (by simp)]
          rcases dec z with c | c
          · obtain ⟨rfl, y1, y2⟩ := yes c
            rw [decide_eq_true c, if_pos rfl, if_neg (by simp)]
            refine wpAny_bind (wpAny_rule ?_)
            split
            · exact wpAny_pure y1
            · exact wpAny_pure y2
          · rw [decide_eq_false c, if_neg (by simp)]
            refine wpAny_bind (wpAny_rule ?_)
            rw [if_neg (by simp)]
            exact wpAny_pure (no c)
  | _ =>
    dsimp only
    simp only [hpl]
    refine wIf (fun ca => ?_) fun _ => ?_
    · first | exact walk | exact walk' | (simp [carriedByValue] at ca)
    · first | (refine wIf (fun c => absurd c (nany _ rfl)) fun _ => ?_) | skip
      refine wIf (fun _ => ?_) fun _ => ?_ <;>
        (first | refine wpAny_bind (wpAny_pure ?_) | refine wpAny_bind (wpAny_mono tell (fun b s' h => ?_) fun _ _ h => h); obtain ⟨rfl, rfl⟩ := h)
      all_goals
        rw [if_neg (by simp)]
        refine wpAny_bind (wpAny_mono (loop _ fun i z p hit P e2 i1 i2 i3 yes no => ?_) (fun r s' h => ?_) fun _ _ h => h)
        rotate_left
        · obtain ⟨rfl, ⟨i, p, e1, e | ⟨e, e'⟩⟩ | ⟨no, e, e'⟩⟩ := h <;> rw [e]
          · exact wpAny_pure (h1 i p e1)
          · dsimp only
            rw [e']
            exact wpAny_pure (h1 i p e1)
          · dsimp only
            rw [e']
            exact wpAny_pure (h0 no)
        rw [e2]
        dsimp only [ent]
        rw [if_pos (by rw [i3]; simp)]
        refine wpAny_bind (wpAny_dictEpoch ho hd (step i1 i2 (wpAny_bind (wpAny_dictEpoch ho hd ?_))))
        rw [if_neg (by simp)]
        rcases dec z with c | c
        · obtain ⟨rfl, y1, y2⟩ := yes c
          rw [decide_eq_true c, if_pos rfl, if_neg (by simp)]
          refine wpAny_bind (wpAny_rule ?_)
          split
          · exact wpAny_pure y1
          · exact wpAny_pure y2
        · rw [decide_eq_false c, if_neg (by simp)]
          refine wpAny_bind (wpAny_rule ?_)
          rw [if_neg (by simp)]
          exact wpAny_pure (no c)
end
end Vd
namespace Vd
open PySem PySem.Calls PyProof.Rows
section
variable {prog : Program} {w : World} {A : Around} {E : Value → Shared → Prop} {s : Shared}
/-- what stands under a key -/
def look : List Row → NestedKey → Option Value
  | [], _ => none
  | x :: r, k => if x.1 = k then some x.2.2 else look r k
/-- a value put under a key: the key that stands there stays, a new one comes behind all -/
def put : List Row → NestedKey → Value → Value → List Row
  | [], k, a, v => [(k, a, v)]
  | x :: r, k, a, v => if x.1 = k then (x.1, x.2.1, v) :: r else x :: put r k a v
theorem look_none : ∀ {xs : List Row} {k : NestedKey}, (∀ (j : Nat) (p : Value × Value), xs[j]? ≠ some (k, p)) → look xs k = none
  | [], _, _ => rfl
  | x :: r, k, h => by
    rw [look, if_neg fun e => h 0 x.2 (by rw [← e]; rfl)]
    exact look_none fun j p e => h (j + 1) p e
theorem look_at : ∀ {xs : List Row} {j : Nat} {k : NestedKey} {p : Value × Value}, (xs.map (·.1)).Nodup → xs[j]? = some (k, p) → look xs k = some p.2
  | x :: r, 0, k, p, _, h => by
    cases h
    rw [look, if_pos rfl]
  | x :: r, j + 1, k, p, hn, h => by
    have hn' := List.nodup_cons.mp hn
    have hm : k ∈ r.map (·.1) := List.mem_map.mpr ⟨_, List.mem_of_getElem? (show r[j]? = some (k, p) from h), rfl⟩
    have ne : ¬ x.1 = k := fun e => hn'.1 (by show x.1 ∈ _; rw [e]; exact hm)
    rw [look, if_neg ne]
    exact look_at hn'.2 h
theorem put_new : ∀ {xs : List Row} {k : NestedKey} (a v : Value), (∀ (j : Nat) (p : Value × Value), xs[j]? ≠ some (k, p)) → put xs k a v = xs ++ [(k, a, v)]
  | [], _, _, _, _ => rfl
  | x :: r, k, a, v, h => by
    rw [put, if_neg fun e => h 0 x.2 (by rw [← e]; rfl), put_new a v fun j p e => h (j + 1) p e]
    rfl
theorem put_old (a v : Value) {k : NestedKey} {p : Value × Value} (xs : List Row) : ∀ {j : Nat}, (xs.map (·.1)).Nodup → xs[j]? = some (k, p) → put xs k a v = xs.set j (k, p.1, v) := by
  induction xs with
  | nil => intro j _ h; cases h
  | cons x r ih =>
    intro j hn h
    have hn' := List.nodup_cons.mp hn
    cases j with
    | zero =>
      have e : x = (k, p) := Option.some.inj h
      subst e
      rw [put, if_pos rfl]
      rfl
    | succ j =>
      have h' : r[j]? = some (k, p) := h
      have hm : k ∈ r.map (·.1) := List.mem_map.mpr ⟨_, List.mem_of_getElem? h', rfl⟩
      have ne : ¬ x.1 = k := fun e => hn'.1 (by show x.1 ∈ _; rw [e]; exact hm)
      rw [put, if_neg ne, ih hn'.2 h', List.set_cons_succ]
theorem put_keys : ∀ (xs : List Row) (k : NestedKey) (a v : Value), (put xs k a v).map (·.1) = if k ∈ xs.map (·.1) then xs.map (·.1) else xs.map (·.1) ++ [k]
  | [], k, a, v => rfl
  | x :: r, k, a, v => by
    rw [put]
    by_cases e : x.1 = k
    · rw [if_pos e, List.map_cons, List.map_cons, if_pos (by rw [e]; exact List.mem_cons_self ..)]
    · have ne : k ≠ x.1 := fun z => e z.symm
      rw [if_neg e, List.map_cons, List.map_cons, put_keys r k a v]
      by_cases m : k ∈ r.map (·.1)
      · rw [if_pos m, if_pos (List.mem_cons_of_mem _ m)]
      · rw [if_neg m, if_neg fun h => (List.mem_cons.mp h).elim ne m]
        rfl
theorem put_nd {xs : List Row} {k : NestedKey} {a v : Value} (h : (xs.map (·.1)).Nodup) : ((put xs k a v).map (·.1)).Nodup := by
  rw [put_keys]
  split
  · exact h
  · rename_i m
    refine List.nodup_append.mpr ⟨h, by simp, fun x hx y hy => ?_⟩
    rw [List.mem_singleton.mp hy]
    exact fun e => m (e ▸ hx)
theorem put_mem : ∀ {xs : List Row} {k : NestedKey} {a v : Value} {x : Row}, x ∈ put xs k a v → (x.1 = k ∧ x.2.1 = a) ∨ ∃ y ∈ xs, y.1 = x.1 ∧ y.2.1 = x.2.1
  | [], k, a, v, x, h => by
    rw [List.mem_singleton.mp h]
    exact .inl ⟨rfl, rfl⟩
  | z :: r, k, a, v, x, h => by
    rw [put] at h
    split at h
    · rcases List.mem_cons.mp h with e | h
      · rw [e]
        exact .inr ⟨z, List.mem_cons_self .., rfl, rfl⟩
      · exact .inr ⟨x, List.mem_cons_of_mem _ h, rfl, rfl⟩
    · rcases List.mem_cons.mp h with e | h
      · rw [e]
        exact .inr ⟨z, List.mem_cons_self .., rfl, rfl⟩
      · rcases put_mem h with h | ⟨y, h, e⟩
        · exact .inl h
        · exact .inr ⟨y, List.mem_cons_of_mem _ h, e⟩
theorem put_len (xs : List Row) (k : NestedKey) (a v : Value) : (put xs k a v).length ≤ xs.length + 1 := by
  have h := congrArg List.length (put_keys xs k a v)
  rw [List.length_map] at h
  rw [h]
  split <;> simp
/-- the object of a dict with these rows -/
def Holds (w : World) (h : Heap) (d : Addr) (xs : List Row) : Prop := ∃ o es ep, h.get? d = some o ∧ o.ExactDict ∧ o.data = .dict es ep ∧ es.toList = xs.map (ent w)
theorem Holds.ty {d : Addr} {xs : List Row} (x : Holds w s.heap d xs) : s.TypeIs (.ref d) "dict" := let ⟨o, _, _, e, c, _⟩ := x; ⟨o, e, c.1⟩
theorem Holds.stay {h h' : Heap} {d : Addr} {xs : List Row} (x : Holds w h d xs) (k : ∀ o, h.get? d = some o → h'.get? d = some o) : Holds w h' d xs := let ⟨o, es, ep, e, r⟩ := x; ⟨o, es, ep, k o e, r⟩
theorem Holds.new (h : Heap) : Holds w (h.push { cls := .type "dict", data := .dict #[] }) h.objs.size [] := ⟨_, #[], 0, Heap.get?_push_size _ rfl, ⟨rfl, rfl, rfl⟩, rfl, rfl⟩
/-- keys stay keys while a dict changes -/
theorem key_stays {h h' : Heap} {d : Addr} {o : Obj} {es : Array DictEntry} {ep : Nat} (ho : h.get? d = some o) (hd : o.data = .dict es ep) (sb : Heap.SameBut d h h') {k : NestedKey} {v : Value} (x : NestedIs h k v) : NestedIs h' k v :=
  NestedIs.at (fun b ob vs n hb hc => (sb.2 b fun e => by
    subst e
    rw [ho] at hb
    cases hb
    rw [hd] at hc
    cases hc).trans hb) k v x
theorem get {d : Addr} {key : Value} {xs : List Row} {k : NestedKey} {Q : Option Value → Shared → Prop} (hu : A.units + 8 < cLine) (hk : NestedIs s.heap k key) (ok : KeyOk k) (hm : Holds w s.heap d xs) (R : Rows s.heap xs)
    (h : Q (look xs k) { s with toks := s.toks + k.draws }) : wpAny (model prog w) A (dictGet d key) Q E s := by
  have hd8 := ok.deep
  obtain ⟨o, es, ep, ho, hc, hd, he⟩ := hm
  unfold dictGet
  refine wpAny_holding (wpAny_bind (pyHash_key k key A s _ hk (by omega) (wpAny_bind (find (s := { s with toks := s.toks + k.draws }) hu hk ok ho hd he ⟨R.ok, R.is, R.nd⟩ (fun no => ?_) fun j p hj => ?_))))
  · rw [look_none no] at h
    exact wpAny_pure h
  · rw [look_at R.nd hj] at h
    refine wpAny_bind (wpAny_dictEntries ho hd ?_)
    rw [ent_at he j, hj]
    exact wpAny_pure h
theorem set {d : Addr} {key v : Value} {xs : List Row} {k : NestedKey} {Q : Unit → Shared → Prop} (hu : A.units + 8 < cLine) (hk : NestedIs s.heap k key) (ok : KeyOk k) (hm : Holds w s.heap d xs) (R : Rows s.heap xs) (hz : xs.length ≤ sizeLine)
    (h : ∀ h', Holds w h' d (put xs k key v) → Rows h' (put xs k key v) → Heap.SameBut d s.heap h' → Q () { s with heap := h', toks := s.toks + k.draws }) : wpAny (model prog w) A (dictSet d key v) Q E s := by
  have hd8 := ok.deep
  obtain ⟨o, es, ep, ho, hc, hd, he⟩ := hm
  have hes := ent_size he
  have R' : ∀ h', Heap.SameBut d s.heap h' → Rows h' (put xs k key v) := fun h' sb => ⟨fun x hx => by
    rcases put_mem hx with ⟨e, _⟩ | ⟨y, hy, e, _⟩
    · rw [e]; exact ok
    · rw [← e]; exact R.ok y hy, fun x hx => by
    rcases put_mem hx with ⟨e, e'⟩ | ⟨y, hy, e, e'⟩
    · rw [e, e']; exact key_stays ho hd sb hk
    · rw [← e, ← e']; exact key_stays ho hd sb (R.is y hy), put_nd R.nd⟩
  unfold dictSet
  refine wpAny_holding (wpAny_bind (pyHash_key k key A s _ hk (by omega) ?_))
  unfold dictSetHashed
  refine wpAny_holding (wpAny_bind (find (s := { s with toks := s.toks + k.draws }) hu hk ok ho hd he ⟨R.ok, R.is, R.nd⟩ (fun no => ?_) fun j p hj => ?_))
  · refine wpAny_bind (wpAny_rule (wpAny_updateDictKeys (hz := by omega) ho hd (h _ ⟨_, _, ep + 1, Heap.get?_update_self _ ho (Obj.isFreed_of_dict (Obj.data_mapDictKeys hd _)), hc.mapDictKeys _, Obj.data_mapDictKeys hd _, ?_⟩ (R' _ (Heap.SameBut.update ..)) (Heap.SameBut.update ..))))
    rw [put_new _ _ no]
    simp [he, ent]
  · refine wpAny_bind (wpAny_rule (wpAny_bind (wpAny_updateDict ho hd (wpAny_point (h _ ⟨_, _, ep, Heap.get?_update_self _ ho (Obj.isFreed_of_dict (Obj.data_mapDict hd _)), hc.mapDict _, Obj.data_mapDict hd _, ?_⟩ (R' _ (Heap.SameBut.update ..)) (Heap.SameBut.update ..))))))
    have e1 : es[j]? = some (ent w (k, p)) := by rw [ent_at he j, hj]; rfl
    have e2 : (xs.map (ent w))[j]? = some (ent w (k, p)) := by rw [List.getElem?_map, hj]; rfl
    rw [put_old _ _ xs R.nd hj, Array.toList_modify, he]
    refine List.ext_getElem? fun i => ?_
    rw [List.getElem?_modify, List.map_set, List.getElem?_set]
    by_cases c : j = i
    · subst c
      have hlt : j < (xs.map (ent w)).length := (List.getElem?_eq_some_iff.mp e2).1
      rw [if_pos rfl, e2, if_pos hlt]
      simp [ent]
    · simp [c]
theorem setdefault {d : Addr} {key v : Value} {xs : List Row} {k : NestedKey} {Q : Value → Shared → Prop} (hu : A.units + 8 < cLine) (hk : NestedIs s.heap k key) (ok : KeyOk k) (hm : Holds w s.heap d xs) (R : Rows s.heap xs) (hz : xs.length ≤ sizeLine)
    (h1 : ∀ u, look xs k = some u → Q u { s with toks := s.toks + k.draws })
    (h2 : look xs k = none → ∀ h', Holds w h' d (put xs k key v) → Rows h' (put xs k key v) → Heap.SameBut d s.heap h' → Q v { s with heap := h', toks := s.toks + k.draws }) : wpAny (model prog w) A (dictSetDefault d key v) Q E s := by
  have hd8 := ok.deep
  obtain ⟨o, es, ep, ho, hc, hd, he⟩ := hm
  have hes := ent_size he
  have R' : ∀ h', Heap.SameBut d s.heap h' → Rows h' (put xs k key v) := fun h' sb => ⟨fun x hx => by
    rcases put_mem hx with ⟨e, _⟩ | ⟨y, hy, e, _⟩
    · rw [e]; exact ok
    · rw [← e]; exact R.ok y hy, fun x hx => by
    rcases put_mem hx with ⟨e, e'⟩ | ⟨y, hy, e, e'⟩
    · rw [e, e']; exact key_stays ho hd sb hk
    · rw [← e, ← e']; exact key_stays ho hd sb (R.is y hy), put_nd R.nd⟩
  unfold dictSetDefault
  refine wpAny_holding (wpAny_bind (pyHash_key k key A s _ hk (by omega) (wpAny_bind (find (s := { s with toks := s.toks + k.draws }) hu hk ok ho hd he ⟨R.ok, R.is, R.nd⟩ (fun no => ?_) fun j p hj => ?_))))
  · refine wpAny_bind (wpAny_rule (wpAny_bind (wpAny_updateDictKeys (hz := by omega) ho hd (wpAny_pure (h2 (look_none no) _ ⟨_, _, ep + 1, Heap.get?_update_self _ ho (Obj.isFreed_of_dict (Obj.data_mapDictKeys hd _)), hc.mapDictKeys _, Obj.data_mapDictKeys hd _, ?_⟩ (R' _ (Heap.SameBut.update ..)) (Heap.SameBut.update ..))))))
    rw [put_new _ _ no]
    simp [he, ent]
  · refine wpAny_bind (wpAny_dictEntries ho hd ?_)
    rw [ent_at he j, hj]
    exact wpAny_bind (wpAny_rule (wpAny_pure (h1 p.2 (look_at R.nd hj))))
end
end Vd
/-! Such dicts over the abstract heap. -/
namespace Vd
open PySem PySem.Spec PyProof.Rows L2
abbrev KVR := NestedKey × V × V
mutual
/-- the value y is the key k -/
def KeyAt (H : Hp) : NestedKey → V → Prop
  | .none, y => y = .non
  | .num i, y => y = .int i
  | .text x, y => y = .str x
  | .tup ks, y => ∃ a ys, y = .ref a ∧ H a = some (.tup ys) ∧ KeysAt H ks ys
def KeysAt (H : Hp) : List NestedKey → List V → Prop
  | [], ys => ys = []
  | k :: ks, ys => ∃ y r, ys = y :: r ∧ KeyAt H k y ∧ KeysAt H ks r
end
/-- the tuples of H stand in H' -/
def Tups (H H' : Hp) : Prop := ∀ a xs, H a = some (.tup xs) → H' a = some (.tup xs)
mutual
theorem KeyAt.keep {H H' : Hp} (t : Tups H H') : ∀ {k : NestedKey} {y : V}, KeyAt H k y → KeyAt H' k y
  | .none, _, h => h
  | .num _, _, h => h
  | .text _, _, h => h
  | .tup ks, _, h => by
    simp only [KeyAt] at h ⊢
    obtain ⟨a, ys, e, ha, hk⟩ := h
    exact ⟨a, ys, e, t a ys ha, KeysAt.keep t hk⟩
theorem KeysAt.keep {H H' : Hp} (t : Tups H H') : ∀ {ks : List NestedKey} {ys : List V}, KeysAt H ks ys → KeysAt H' ks ys
  | [], _, h => h
  | k :: ks, _, h => by
    simp only [KeysAt] at h ⊢
    obtain ⟨y, r, e, h1, h2⟩ := h
    exact ⟨y, r, e, KeyAt.keep t h1, KeysAt.keep t h2⟩
end
mutual
theorem KeyAt.is {P : Program} {w : World} {H : Hp} {h : Heap} (ok : HOk P w H h) : ∀ {k : NestedKey} {y : V} {u : Value}, KeyAt H k y → RelV y u → NestedIs h k u
  | .none, _, _, e, r => by
    simp only [KeyAt] at e
    subst e
    cases r
    exact .none
  | .num i, _, _, e, r => by
    simp only [KeyAt] at e
    subst e
    obtain ⟨t, rfl⟩ := r
    exact .int i t
  | .text x, _, _, e, r => by
    simp only [KeyAt] at e
    subst e
    obtain ⟨t, rfl⟩ := r
    exact .text x t
  | .tup ks, _, _, e, r => by
    simp only [KeyAt] at e
    obtain ⟨a, ys, rfl, ha, hk⟩ := e
    cases r
    obtain ⟨_, its, rv, o, ho, hc, n, hd⟩ := (show ObjOk P w H h a (.tup ys) from ok a _ ha)
    exact .tup ho hc hd (KeysAt.are ok hk rv)
theorem KeysAt.are {P : Program} {w : World} {H : Hp} {h : Heap} (ok : HOk P w H h) : ∀ {ks : List NestedKey} {ys : List V} {us : List Value}, KeysAt H ks ys → Vals ys us → NestedAll h ks us
  | [], _, _, e, r => by
    simp only [KeysAt] at e
    subst e
    cases r
    exact .nil
  | k :: ks, _, _, e, r => by
    simp only [KeysAt] at e
    obtain ⟨y, ys, rfl, h1, h2⟩ := e
    cases r with
    | cons r1 r2 => exact .cons (KeyAt.is ok h1 r1) (KeysAt.are ok h2 r2)
end
def RelR (p : KVR) (q : Row) : Prop := p.1 = q.1 ∧ RelV p.2.1 q.2.1 ∧ RelV p.2.2 q.2.2
def lookV : List KVR → NestedKey → Option V
  | [], _ => none
  | x :: r, k => if x.1 = k then some x.2.2 else lookV r k
def putV : List KVR → NestedKey → V → V → List KVR
  | [], k, y, v => [(k, y, v)]
  | x :: r, k, y, v => if x.1 = k then (x.1, x.2.1, v) :: r else x :: putV r k y v
theorem rel_look {kvs : List KVR} {xs : List Row} (r : Paired RelR kvs xs) (k : NestedKey) : RelO (lookV kvs k) (look xs k) := by
  induction r with
  | nil => exact True.intro
  | cons h _ ih =>
    rw [lookV, look, ← h.1]
    split
    · exact h.2.2
    · exact ih
theorem rel_put {kvs : List KVR} {xs : List Row} (r : Paired RelR kvs xs) (k : NestedKey) {y v : V} {a u : Value} (ry : RelV y a) (rv : RelV v u) : Paired RelR (putV kvs k y v) (put xs k a u) := by
  induction r with
  | nil => exact .cons ⟨rfl, ry, rv⟩ .nil
  | cons h t ih =>
    rw [putV, put, ← h.1]
    split
    · exact .cons ⟨rfl, h.2.1, rv⟩ t
    · exact .cons h ih
theorem rel_keys {kvs : List KVR} {xs : List Row} (r : Paired RelR kvs xs) : kvs.map (·.1) = xs.map (·.1) := by
  induction r with
  | nil => rfl
  | cons h _ ih => rw [List.map_cons, List.map_cons, ih, h.1]
theorem putV_len : ∀ (kvs : List KVR) (k : NestedKey) (y v : V), (putV kvs k y v).length ≤ kvs.length + 1
  | [], _, _, _ => Nat.le_refl _
  | x :: r, k, y, v => by
    rw [putV]
    split
    · exact Nat.le_succ _
    · exact Nat.succ_le_succ (putV_len r k y v)
theorem putV_keys : ∀ (xs : List KVR) (k : NestedKey) (a v : V), (putV xs k a v).map (·.1) = if k ∈ xs.map (·.1) then xs.map (·.1) else xs.map (·.1) ++ [k]
  | [], k, a, v => rfl
  | x :: r, k, a, v => by
    rw [putV]
    by_cases e : x.1 = k
    · rw [if_pos e, List.map_cons, List.map_cons, if_pos (by rw [e]; exact List.mem_cons_self ..)]
    · have ne : k ≠ x.1 := fun z => e z.symm
      rw [if_neg e, List.map_cons, List.map_cons, putV_keys r k a v]
      by_cases m : k ∈ r.map (·.1)
      · rw [if_pos m, if_pos (List.mem_cons_of_mem _ m)]
      · rw [if_neg m, if_neg fun h => (List.mem_cons.mp h).elim ne m]
        rfl
theorem putV_mem : ∀ {xs : List KVR} {k : NestedKey} {a v : V} {x : KVR}, x ∈ putV xs k a v → (x.1 = k ∧ x.2.1 = a) ∨ ∃ y ∈ xs, y.1 = x.1 ∧ y.2.1 = x.2.1
  | [], k, a, v, x, h => by
    rw [List.mem_singleton.mp h]
    exact .inl ⟨rfl, rfl⟩
  | z :: r, k, a, v, x, h => by
    rw [putV] at h
    split at h
    · rcases List.mem_cons.mp h with e | h
      · rw [e]
        exact .inr ⟨z, List.mem_cons_self .., rfl, rfl⟩
      · exact .inr ⟨x, List.mem_cons_of_mem _ h, rfl, rfl⟩
    · rcases List.mem_cons.mp h with e | h
      · rw [e]
        exact .inr ⟨z, List.mem_cons_self .., rfl, rfl⟩
      · rcases putV_mem h with h | ⟨y, h, e⟩
        · exact .inl h
        · exact .inr ⟨y, List.mem_cons_of_mem _ h, e⟩
theorem lookV_put : ∀ (kvs : List KVR) (k j : NestedKey) (y v : V), lookV (putV kvs k y v) j = if k = j then some v else lookV kvs j
  | [], k, j, y, v => rfl
  | x :: r, k, j, y, v => by
    rw [putV]
    by_cases e : x.1 = k
    · rw [if_pos e, lookV, lookV, e]
      by_cases c : k = j
      · rw [if_pos c, if_pos c]
      · rw [if_neg c, if_neg c, if_neg c]
    · rw [if_neg e, lookV, lookV, lookV_put r k j y v]
      by_cases c : k = j
      · subst c
        rw [if_neg e, if_pos rfl, if_pos rfl]
      · rw [if_neg c, if_neg c]
/-- what stands at the address of such a dict -/
def dV (w : World) (d : Addr) (kvs : List KVR) : HO := .ext fun h => (d == sysModules) = false ∧ kvs.length ≤ sizeLine ∧ ∃ xs, Paired RelR kvs xs ∧ Holds w h d xs
theorem dV_ok {P : Program} {w : World} {H : Hp} {h : Heap} {d : Addr} {kvs : List KVR} {xs : List Row} (hd : (d == sysModules) = false) (hz : kvs.length ≤ sizeLine) (r : Paired RelR kvs xs) (m : Holds w h d xs) : ObjOk P w H h d (dV w d kvs) :=
  ⟨⟨hd, hz, xs, r, m⟩, (let ⟨o, _, _, e, _⟩ := m; ⟨o, e⟩), fun _ _ p k => let ⟨a, b, ys, c, m⟩ := p; ⟨a, b, ys, c, m.stay k⟩⟩
/-- a dict of these entries -/
structure DAt (w : World) (H : Hp) (d : Addr) (kvs : List KVR) : Prop where
  «at» : Rd H d (dV w d kvs)
  ok : ∀ p ∈ kvs, KeyOk p.1 ∧ KeyAt H p.1 p.2.1
  nd : (kvs.map (·.1)).Nodup
theorem paired_mem {kvs : List KVR} {xs : List Row} (r : Paired RelR kvs xs) {x : Row} (hx : x ∈ xs) : ∃ p ∈ kvs, RelR p x := by
  induction r with
  | nil => cases hx
  | cons h _ ih =>
    rcases List.mem_cons.mp hx with e | hx
    · rw [e]
      exact ⟨_, List.mem_cons_self .., h⟩
    · obtain ⟨p, hp, q⟩ := ih hx
      exact ⟨p, List.mem_cons_of_mem _ hp, q⟩
theorem DAt.out {P : Program} {w : World} {H : Hp} {h : Heap} {d : Addr} {kvs : List KVR} (D : DAt w H d kvs) (ok : HOk P w H h) :
    (d == sysModules) = false ∧ kvs.length ≤ sizeLine ∧ ∃ xs, Paired RelR kvs xs ∧ Holds w h d xs ∧ Rows h xs := by
  obtain ⟨⟨hd, hz, xs, r, m⟩, _⟩ := (show ObjOk P w H h d (dV w d kvs) from D.at.ok ok)
  refine ⟨hd, hz, xs, r, m, ?_, ?_, by rw [← rel_keys r]; exact D.nd⟩
  · intro x hx
    obtain ⟨p, hp, q⟩ := paired_mem r hx
    rw [← q.1]
    exact (D.ok p hp).1
  · intro x hx
    obtain ⟨p, hp, q⟩ := paired_mem r hx
    rw [← q.1]
    exact (D.ok p hp).2.is ok q.2.1
theorem DAt.keep {w : World} {H H' : Hp} {d : Addr} {kvs : List KVR} (D : DAt w H d kvs) (t : Tups H H') (e : Rd H' d (dV w d kvs)) : DAt w H' d kvs := ⟨e, fun p hp => ⟨(D.ok p hp).1, (D.ok p hp).2.keep t⟩, D.nd⟩
theorem DAt.put {w : World} {H : Hp} {d : Addr} {kvs : List KVR} {k : NestedKey} {y v : V} (D : DAt w H d kvs) (hd : H d = some (dV w d kvs)) (ok : KeyOk k) (hy : KeyAt H k y) : DAt w (upd H d (dV w d (putV kvs k y v))) d (putV kvs k y v) := by
  have t : Tups H (upd H d (dV w d (putV kvs k y v))) := fun a xs e => by
    rw [upd_ne (ne_of e hd (fun z => nomatch z))]
    exact e
  refine ⟨.inl upd_same, fun p hp => ?_, ?_⟩
  · rcases putV_mem hp with ⟨e, e'⟩ | ⟨q, hq, e, e'⟩
    · rw [e, e']
      exact ⟨ok, hy.keep t⟩
    · rw [← e, ← e']
      exact ⟨(D.ok q hq).1, (D.ok q hq).2.keep t⟩
  · rw [putV_keys]
    split
    · exact D.nd
    · rename_i m
      refine List.nodup_append.mpr ⟨D.nd, by simp, fun x hx z hz => ?_⟩
      rw [List.mem_singleton.mp hz]
      exact fun e => m (e ▸ hx)
end Vd
namespace Vd
open PySem PySem.Spec PyProof.Rows L2
section
variable {X : Cx} {pins : List (Addr × Obj)} {σ : L2.St} {H : Hp} {s : Shared} {a : Addr} {kvs : List KVR} {k : NestedKey} {y z : V} {u r : Value} {A : Around} {E : Value → Shared → Prop}
/-- room for a call that looks a key up -/
theorem room8 (hu : A.units + 64 < cLine) : A.in1.units + 8 < cLine := by rw [Around.in1_units]; omega
theorem look_cases {kvs : List KVR} {xs : List Row} (r : Paired RelR kvs xs) (k : NestedKey) : (lookV kvs k = none ∧ look xs k = none) ∨ ∃ v u, lookV kvs k = some v ∧ look xs k = some u ∧ RelV v u := by
  have h := rel_look r k
  cases e1 : lookV kvs k with
  | none =>
    cases e2 : look xs k with
    | none => exact .inl ⟨rfl, rfl⟩
    | some u => rw [e1, e2] at h; exact h.elim
  | some v =>
    cases e2 : look xs k with
    | none => rw [e1, e2] at h; exact h.elim
    | some u => rw [e1, e2] at h; exact .inr ⟨v, u, rfl, rfl, h⟩
theorem inv_tok {n : Nat} (I : Inv X pins σ H s) : Inv X pins σ H { s with toks := n } := I.tok _
theorem c_get2 {Q : Value → Shared → Prop} (hu : A.units + 64 < cLine) (I : Inv X pins σ H s) (D : DAt X.w H a kvs) (ok : KeyOk k) (ky : KeyAt H k y) (ry : RelV y u) (rz : RelV z r) (h : ∀ w' s', Inv X pins σ H s' → RelV ((lookV kvs k).getD z) w' → Q w' s') :
    wpAny (model X.prog X.w) A (call (.builtin "dict.get") [.ref a, u, r]) Q E s := by
  obtain ⟨hd, hz, xs, rel, m, R⟩ := D.out I.hok
  refine call_meetsIn PySem.F.slot_dict_get m.ty PySem.F.entry_dict_get (PySem.F.args_dict_get_3 _ _ _) (S := fun A' R s' => A' = A ∧ s' = s ∧ ∀ w' s2, Inv X pins σ H s2 → RelV ((lookV kvs k).getD z) w' → R (.ok (.ret w')) s2) (.of_wp fun A' R' s' hS => ?_) ⟨rfl, rfl, fun w' s2 i q => h w' s2 i q⟩
  obtain ⟨rfl, rfl, hq⟩ := hS
  show wpAny _ _ (dictGet a u >>= _) _ _ _
  refine wpAny_bind (get (room8 hu) (ky.is I.hok ry) ok m R ?_)
  rcases look_cases rel k with ⟨e1, e2⟩ | ⟨v, w', e1, e2, rv⟩
  · rw [e2]
    rw [e1] at hq
    show wpAny _ _ (Builtin.Dict.missed a u >>= _) _ _ _
    exact wpAny_bind (wpAny_missed_other hd (wpAny_pure ⟨r, rfl, hq r _ (I.tok _) rz⟩))
  · rw [e2]
    rw [e1] at hq
    exact wpAny_pure ⟨w', rfl, hq w' _ (I.tok _) rv⟩
theorem c_setd {Q : Value → Shared → Prop} (hu : A.units + 64 < cLine) (I : Inv X pins σ H s) (hD : H a = some (dV X.w a kvs)) (D : DAt X.w H a kvs) (ok : KeyOk k) (ky : KeyAt H k y) (ry : RelV y u) (rz : RelV z r) (hl : kvs.length < sizeLine)
    (h1 : ∀ v, lookV kvs k = some v → ∀ w' s', Inv X pins σ H s' → RelV v w' → Q w' s') (h2 : lookV kvs k = none → ∀ w' s', Inv X pins σ (upd H a (dV X.w a (putV kvs k y z))) s' → RelV z w' → Q w' s') :
    wpAny (model X.prog X.w) A (call (.builtin "dict.setdefault") [.ref a, u, r]) Q E s := by
  obtain ⟨hd, hz, xs, rel, m, R⟩ := D.out I.hok
  have hzx : xs.length ≤ sizeLine := by rw [← Paired.length rel]; exact hz
  have hzp : (putV kvs k y z).length ≤ sizeLine := by have := putV_len kvs k y z; omega
  refine call_meetsIn PySem.F.slot_dict_setdefault m.ty PySem.F.entry_dict_setdefault (PySem.F.args_dict_setdefault_3 _ _ _) (S := fun A' R s' => A' = A ∧ s' = s ∧ (∀ v, lookV kvs k = some v → ∀ w' s', Inv X pins σ H s' → RelV v w' → R (.ok (.ret w')) s') ∧
    (lookV kvs k = none → ∀ w' s', Inv X pins σ (upd H a (dV X.w a (putV kvs k y z))) s' → RelV z w' → R (.ok (.ret w')) s')) (.of_wp fun A' R' s' hS => ?_) ⟨rfl, rfl, h1, h2⟩
  obtain ⟨rfl, rfl, q1, q2⟩ := hS
  unfold Builtin.«dict.setdefault»
  refine wpAny_bind ?_
  unfold Builtin.Dict.keyAndDefault
  refine wpAny_bind (wpAny_notOrdered_dict m.ty ?_)
  show wpAny _ _ (pure (a, u, some r)) _ _ _
  refine wpAny_pure ?_
  show wpAny _ _ (if (a == sysModules) = true then _ else (dictSetDefault a u r >>= _)) _ _ _
  rw [if_neg (by rw [hd]; exact Bool.false_ne_true)]
  refine wpAny_bind (setdefault (room8 hu) (ky.is I.hok ry) ok m R hzx (fun v hv => ?_) fun hn h' m' R2 sb => ?_)
  · rcases look_cases rel k with ⟨e1, e2⟩ | ⟨v', w', e1, e2, rv⟩
    · rw [e2] at hv; cases hv
    · rw [e2] at hv
      cases hv
      exact wpAny_pure ⟨v, rfl, q1 v' e1 v _ (I.tok _) rv⟩
  · rcases look_cases rel k with ⟨e1, e2⟩ | ⟨v', w', e1, e2, rv⟩
    · refine wpAny_pure ⟨r, rfl, q2 e1 r _ (d_write I (by rw [hD]; exact True.intro) sb (let ⟨o, _, _, e, _⟩ := m'; ⟨o, e⟩) (dV_ok hd hzp (rel_put rel k ry rz) m')) rz⟩
    · rw [e2] at hn; cases hn
theorem c_item {v : V} {Q : Value → Shared → Prop} (hu : A.units + 64 < cLine) (I : Inv X pins σ H s) (D : DAt X.w H a kvs) (ok : KeyOk k) (ky : KeyAt H k y) (ry : RelV y u) (hv : lookV kvs k = some v) (h : ∀ w' s', Inv X pins σ H s' → RelV v w' → Q w' s') :
    wpAny (model X.prog X.w) A (getItem (.ref a) u) Q E s := by
  obtain ⟨hd, hz, xs, rel, m, R⟩ := D.out I.hok
  unfold getItem
  refine wpAny_holding (wpAny_bind (wpAny_sequenceKey m.ty (by decide) ?_))
  refine wpAny_bind (wpAny_callSpecial?_slot (name := Str.ofString "__getitem__") m.ty slot_dict_getitem (wpAny_call_entry slot_dict_getitem m.ty entry_dict_getitem ?_ (args_dict_getitem _ _)))
  show wpAny _ _ (dictGet a u >>= _) _ _ _
  refine wpAny_bind (get (room8 hu) (ky.is I.hok ry) ok m R ?_)
  rcases look_cases rel k with ⟨e1, e2⟩ | ⟨v', w', e1, e2, rv⟩
  · rw [e1] at hv; cases hv
  · rw [e1] at hv
    cases hv
    rw [e2]
    exact wpAny_pure ⟨w', rfl, wpAny_pure (h w' _ (I.tok _) rv)⟩
theorem c_in {Q : Bool → Shared → Prop} (hu : A.units + 64 < cLine) (I : Inv X pins σ H s) (D : DAt X.w H a kvs) (ok : KeyOk k) (ky : KeyAt H k y) (ry : RelV y u) (h : ∀ s', Inv X pins σ H s' → Q (lookV kvs k).isSome s') :
    wpAny (model X.prog X.w) A (contains (.ref a) u) Q E s := by
  obtain ⟨hd, hz, xs, rel, m, R⟩ := D.out I.hok
  refine wpAny_contains_slot m.ty PySem.F.slot_dict_contains ?_
  refine call_meetsIn PySem.F.slot_dict_contains m.ty PySem.F.entry_dict_contains (PySem.F.args_dict_contains_2 _ _) (S := fun A' R s' => A' = A ∧ s' = s ∧ ∀ s2, Inv X pins σ H s2 → R (.ok (.ret (.bool (lookV kvs k).isSome))) s2) (fun A' R' s' hS => ?_) ⟨rfl, rfl, fun s2 i => wpAny_truthy_bool (h s2 i)⟩
  obtain ⟨rfl, rfl, hq⟩ := hS
  show wpAny _ _ (dictGet a u >>= _) _ _ _
  refine wpAny_bind (get (room8 hu) (ky.is I.hok ry) ok m R ?_)
  rcases look_cases rel k with ⟨e1, e2⟩ | ⟨v', w', e1, e2, rv⟩
  · rw [e2]
    rw [e1] at hq
    show wpAny _ _ (Builtin.Dict.pendingKey? a u >>= _) _ _ _
    exact wpAny_bind (wpAny_pendingKey_other hd (wpAny_pure (hq _ (I.tok _))))
  · rw [e2]
    rw [e1] at hq
    exact wpAny_pure (hq _ (I.tok _))
theorem c_put {Q : Unit → Shared → Prop} (hu : A.units + 64 < cLine) (I : Inv X pins σ H s) (hD : H a = some (dV X.w a kvs)) (D : DAt X.w H a kvs) (ok : KeyOk k) (ky : KeyAt H k y) (ry : RelV y u) (rz : RelV z r) (hl : kvs.length < sizeLine)
    (h : ∀ s', Inv X pins σ (upd H a (dV X.w a (putV kvs k y z))) s' → Q () s') : wpAny (model X.prog X.w) A (dictSet a u r) Q E s := by
  obtain ⟨hd, hz, xs, rel, m, R⟩ := D.out I.hok
  have hzx : xs.length ≤ sizeLine := by rw [← Paired.length rel]; exact hz
  have hzp : (putV kvs k y z).length ≤ sizeLine := by have := putV_len kvs k y z; omega
  have h8 : A.units + 8 < cLine := by omega
  exact set h8 (ky.is I.hok ry) ok m R hzx fun h' m' R2 sb => h _ (d_write I (by rw [hD]; exact True.intro) sb (let ⟨o, _, _, e, _⟩ := m'; ⟨o, e⟩) (dV_ok hd hzp (rel_put rel k ry rz) m'))
theorem c_store {Q : Unit → Shared → Prop} (hu : A.units + 64 < cLine) (I : Inv X pins σ H s) (hD : H a = some (dV X.w a kvs)) (D : DAt X.w H a kvs) (ok : KeyOk k) (ky : KeyAt H k y) (ry : RelV y u) (rz : RelV z r) (hl : kvs.length < sizeLine)
    (h : ∀ s', Inv X pins σ (upd H a (dV X.w a (putV kvs k y z))) s' → Q () s') : wpAny (model X.prog X.w) A (setItem (.ref a) u r) Q E s := by
  obtain ⟨hd, hz, xs, rel, m, R⟩ := D.out I.hok
  have hu' : A.in1.units + 62 < cLine := by rw [Around.in1_units]; omega
  unfold setItem
  refine wpAny_holding (wpAny_bind (wpAny_sequenceKey m.ty (by decide) ?_))
  refine wpAny_bind (wpAny_callSpecial?_slot (name := Str.ofString "__setitem__") m.ty slot_dict_setitem (wpAny_call_entry slot_dict_setitem m.ty entry_dict_setitem ?_ (args_dict_setitem _ _ _)))
  show wpAny _ _ (Builtin.Dict.notOrdered "__setitem__" ⟨[.ref a, u, r], []⟩ >>= _) _ _ _
  refine wpAny_bind (wpAny_notOrdered_dict m.ty ?_)
  show wpAny _ _ (dictSet a u r >>= _) _ _ _
  have hzx : xs.length ≤ sizeLine := by rw [← Paired.length rel]; exact hz
  have hzp : (putV kvs k y z).length ≤ sizeLine := by have := putV_len kvs k y z; omega
  exact wpAny_bind (set (room8 hu) (ky.is I.hok ry) ok m R hzx fun h' m' R2 sb => wpAny_pure ⟨.none, rfl, wpAny_pure (h _ (d_write I (by rw [hD]; exact True.intro) sb (let ⟨o, _, _, e, _⟩ := m'; ⟨o, e⟩) (dV_ok hd hzp (rel_put rel k ry rz) m')))⟩)
end
end Vd
/-! The rules: {}, d.get(k, x), d.setdefault(k, x), d[k], d[k] = v, k in d; the keys walked. -/
namespace Vd
open PySem PySem.Spec PyProof.Rows L2
/-- some dict of this layer stands at a -/
def Some (w : World) (H : Hp) (a : Addr) : Prop := ∃ kvs, Rd H a (dV w a kvs)
theorem some_at {X : Cx} {pins : List (Addr × Obj)} {σ : L2.St} {H : Hp} {s : Shared} {a : Addr} (I : Inv X pins σ H s) (d : Some X.w H a) :
    s.TypeIs (.ref a) "dict" ∧ ∀ b, Value.ref a = .ref b → ∃ ob, s.heap.get? b = some ob ∧ ob.dict = none := by
  obtain ⟨kvs, e⟩ := d
  obtain ⟨⟨_, _, xs, _, m⟩, _⟩ := (show ObjOk X.prog X.w H s.heap a (dV X.w a kvs) from e.ok I.hok)
  refine ⟨m.ty, fun b q => ?_⟩
  cases q
  obtain ⟨o, _, _, h1, h2, _⟩ := m
  exact ⟨o, h1, h2.2.1⟩
/-- {} -/
def tNew (w : World) : TE := fun _ H Q => ∀ p, H p = none → Q (.ref p) (upd H p (dV w p []))
/-- d.get(k, x) -/
def tGet2 (w : World) (td ty tx : TE) : TE := fun σ H Q => td σ H fun x H1 => ∃ a, x = .ref a ∧ Some w H1 a ∧ ty σ H1 fun y H2 => tx σ H2 fun z H3 => ∃ kvs k, DAt w H3 a kvs ∧ KeyOk k ∧ KeyAt H3 k y ∧ Q ((lookV kvs k).getD z) H3
/-- d.setdefault(k, x) -/
def tSetd (w : World) (td ty tx : TE) : TE := fun σ H Q => td σ H fun x H1 => ∃ a, x = .ref a ∧ Some w H1 a ∧ ty σ H1 fun y H2 => tx σ H2 fun z H3 => ∃ kvs k, H3 a = some (dV w a kvs) ∧ DAt w H3 a kvs ∧ KeyOk k ∧ KeyAt H3 k y ∧ kvs.length < sizeLine ∧
  (∀ v, lookV kvs k = some v → Q v H3) ∧ (lookV kvs k = none → Q z (upd H3 a (dV w a (putV kvs k y z))))
/-- d[k], the key there -/
def tIx (w : World) (td ty : TE) : TE := fun σ H Q => td σ H fun x H1 => ty σ H1 fun y H2 => ∃ a kvs k v, x = .ref a ∧ DAt w H2 a kvs ∧ KeyOk k ∧ KeyAt H2 k y ∧ lookV kvs k = some v ∧ Q v H2
/-- k in d -/
def tIn (w : World) (ty td : TE) : TE := fun σ H Q => ty σ H fun y H1 => td σ H1 fun x H2 => ∃ a kvs k, x = .ref a ∧ DAt w H2 a kvs ∧ KeyOk k ∧ KeyAt H2 k y ∧ Q (.bl (lookV kvs k).isSome) H2
def tNotIn (w : World) (ty td : TE) : TE := fun σ H Q => ty σ H fun y H1 => td σ H1 fun x H2 => ∃ a kvs k, x = .ref a ∧ DAt w H2 a kvs ∧ KeyOk k ∧ KeyAt H2 k y ∧ Q (.bl (!(lookV kvs k).isSome)) H2
/-- d[k] = v -/
def sPut (w : World) (td ty tv : TE) : TS := fun D σ H => tv σ H fun v H1 => td σ H1 fun x H2 => ty σ H2 fun y H3 => ∃ a kvs k, x = .ref a ∧ H3 a = some (dV w a kvs) ∧ DAt w H3 a kvs ∧ KeyOk k ∧ KeyAt H3 k y ∧ kvs.length < sizeLine ∧ D.nx σ (upd H3 a (dV w a (putV kvs k y v)))
section
variable {X : Cx} {o i e f value : Expr} {pos pos' apos cpos : Pos} {td ty tx tv : TE}
theorem pe_new : PE X (.Dict [] [] pos) (tNew X.w) := ⟨fun pins s σ H Q I h =>
  wpAny_Dict_empty ⟨.ref s.heap.objs.size, _, I.laid (a := s.heap.objs.size) (o := dV X.w s.heap.objs.size []) (t' := s.toks) (fun _ _ q => Heap.get?_push_of_some _ q) (Nat.le_refl _)
    (dV_ok (beq_eq_false_iff_ne.mpr (Ne.symm (Nat.ne_of_lt I.big))) (Nat.zero_le _) .nil (Holds.new s.heap)), rfl, h _ (I.hok.fresh (Nat.le_refl _))⟩⟩
theorem pe_get2 (hu : X.A.units + 64 < cLine) (ho : PE X o td) (he : PE X e ty) (hf : PE X f tx) (m : M2 X o "get" apos e f cpos) : PE X (.Call (.Attribute o "get" apos) [e, f] [] cpos) (tGet2 X.w td ty tx) := by
  refine ⟨fun pins s σ H Q I h => ?_⟩
  refine wpAny_Call_method m.base m.few m.line PySem.F.plainAttrs_dict PySem.F.slot_dict_get PySem.F.type_dict_get (thn (ho.run pins s σ H _ I h) fun u s1 ⟨x, H1, I1, rx, a, ex, d, q1⟩ => ?_)
  subst ex
  cases (show u = Value.ref a from rx)
  refine ⟨(some_at I1 d).1, (some_at I1 d).2, ?_⟩
  rw [m.trees]
  refine Calls.callWith_builtin rfl (Calls.evalArgs_plain (Calls.spliced_cons (thn (he.run pins s1 σ H1 _ I1 q1) fun iv s2 ⟨y, H2, I2, ry, q2⟩ => Calls.spliced_cons (thn (hf.run pins s2 σ H2 _ I2 q2) fun fv s3 ⟨z, H3, I3, rz, kvs, k, D, ok, ky, q3⟩ => Calls.spliced_nil ?_))))
  exact c_get2 hu I3 D ok ky ry rz fun w' s4 I4 rw' => ⟨_, H3, I4, rw', q3⟩
theorem pe_setd (hu : X.A.units + 64 < cLine) (ho : PE X o td) (he : PE X e ty) (hf : PE X f tx) (m : M2 X o "setdefault" apos e f cpos) : PE X (.Call (.Attribute o "setdefault" apos) [e, f] [] cpos) (tSetd X.w td ty tx) := by
  refine ⟨fun pins s σ H Q I h => ?_⟩
  refine wpAny_Call_method m.base m.few m.line PySem.F.plainAttrs_dict PySem.F.slot_dict_setdefault PySem.F.type_dict_setdefault (thn (ho.run pins s σ H _ I h) fun u s1 ⟨x, H1, I1, rx, a, ex, d, q1⟩ => ?_)
  subst ex
  cases (show u = Value.ref a from rx)
  refine ⟨(some_at I1 d).1, (some_at I1 d).2, ?_⟩
  rw [m.trees]
  refine Calls.callWith_builtin rfl (Calls.evalArgs_plain (Calls.spliced_cons (thn (he.run pins s1 σ H1 _ I1 q1) fun iv s2 ⟨y, H2, I2, ry, q2⟩ => Calls.spliced_cons (thn (hf.run pins s2 σ H2 _ I2 q2) fun fv s3 ⟨z, H3, I3, rz, kvs, k, hD, D, ok, ky, hl, q3, q4⟩ => Calls.spliced_nil ?_))))
  exact c_setd hu I3 hD D ok ky ry rz hl (fun v hv w' s4 I4 rw' => ⟨v, _, I4, rw', q3 v hv⟩) fun hn w' s4 I4 rw' => ⟨z, _, I4, rw', q4 hn⟩
theorem pe_ix (hu : X.A.units + 64 < cLine) (ho : PE X o td) (hi : PE X i ty) (hs : NoSl i) : PE X (.Subscript o i pos) (tIx X.w td ty) := by
  refine ⟨fun pins s σ H Q I h => ?_⟩
  refine subD_of PySem.F.slot_dict_getitem.lookup hs (thn (ho.run pins s σ H _ I h) fun u s1 ⟨x, H1, I1, rx, q1⟩ => thn (hi.run pins s1 σ H1 _ I1 q1) fun iv s2 ⟨y, H2, I2, ry, a, kvs, k, v, ex, D, ok, ky, hv, q2⟩ => ?_)
  subst ex
  cases (show u = Value.ref a from rx)
  exact ⟨(some_at I2 ⟨kvs, D.at⟩).1, c_item hu I2 D ok ky ry hv fun w' s3 I3 rw' => ⟨v, H2, I3, rw', q2⟩⟩
theorem pc_in (hu : X.A.units + 64 < cLine) (hi : PE X i ty) (ho : PE X o td) : PC X .In i o (tIn X.w ty td) := by
  refine ⟨fun pins s σ H Q I h => ?_⟩
  refine thn (hi.run pins s σ H _ I h) fun iv s1 ⟨y, H1, I1, ry, q1⟩ => thn (ho.run pins s1 σ H1 _ I1 q1) fun u s2 ⟨x, H2, I2, rx, a, kvs, k, ex, D, ok, ky, q2⟩ => ?_
  subst ex
  cases (show u = Value.ref a from rx)
  show wpAny _ _ (contains (.ref a) iv >>= fun b => pure (Value.bool b)) _ _ _
  exact wpAny_bind (c_in hu I2 D ok ky ry fun s3 I3 => wpAny_pure ⟨.bl (lookV kvs k).isSome, H2, I3, rfl, q2⟩)
theorem pc_notin (hu : X.A.units + 64 < cLine) (hi : PE X i ty) (ho : PE X o td) : PC X .NotIn i o (tNotIn X.w ty td) := by
  refine ⟨fun pins s σ H Q I h => ?_⟩
  refine thn (hi.run pins s σ H _ I h) fun iv s1 ⟨y, H1, I1, ry, q1⟩ => thn (ho.run pins s1 σ H1 _ I1 q1) fun u s2 ⟨x, H2, I2, rx, a, kvs, k, ex, D, ok, ky, q2⟩ => ?_
  subst ex
  cases (show u = Value.ref a from rx)
  show wpAny _ _ (contains (.ref a) iv >>= fun b => pure (Value.bool (!b))) _ _ _
  exact wpAny_bind (c_in hu I2 D ok ky ry fun s3 I3 => wpAny_pure ⟨.bl (!(lookV kvs k).isSome), H2, I3, rfl, q2⟩)
theorem ps_put (hu : X.A.units + 64 < cLine) (ho : PE X o td) (hi : PE X i ty) (hv : PE X value tv) (hs : swapsWith value (some (.Subscript o i pos')) pos.line X.env = pure false) :
    PS X (.Assign [.Subscript o i pos'] value pos) (sPut X.w td ty tv) := by
  refine ⟨fun pins s σ H D I h => ?_⟩
  refine wpAny_Assign_Subscript (thn (hv.run pins s σ H _ I h) fun r s1 ⟨v, H1, I1, rv, q1⟩ => thn (ho.run pins s1 σ H1 _ I1 q1) fun u s2 ⟨x, H2, I2, rx, q2⟩ => thn (hi.run pins s2 σ H2 _ I2 q2) fun iv s3 ⟨y, H3, I3, ry, a, kvs, k, ex, hD, D3, ok, ky, hl, q3⟩ => ?_) hs
  subst ex
  cases (show u = Value.ref a from rx)
  exact c_store hu I3 hD D3 ok ky ry rv hl fun s4 I4 => ⟨σ, _, I4, q3⟩
end
/-! ### the keys walked -/
/-- the keys of the locked dict at d, in their order -/
def Itk (w : World) (d : Addr) (o : Obj) (kvs : List KVR) : It where
  go := fun i H => H d = some (.frz o (dV w d kvs)) ∧ i < kvs.length
  yld := fun i H x H' => H' = H ∧ ∃ p, kvs[i]? = some p ∧ x = p.2.1
  stop := fun i H => H d = some (.frz o (dV w d kvs)) ∧ kvs.length ≤ i
theorem frz_out {X : Cx} {pins : List (Addr × Obj)} {σ : L2.St} {H : Hp} {s : Shared} {d : Addr} {o : Obj} {kvs : List KVR} (I : Inv X pins σ H s) (h : H d = some (.frz o (dV X.w d kvs))) :
    (d == sysModules) = false ∧ s.heap.get? d = some o ∧ o.ExactDict ∧ ∃ (es : Array DictEntry) (ep : Nat), o.data = .dict es ep ∧ es.size = kvs.length ∧ ∀ (i : Nat) (p : KVR), kvs[i]? = some p → ∃ en : DictEntry, es[i]? = some en ∧ RelV p.2.1 en.key := by
  obtain ⟨ho, ⟨hd, hz, xs, r, o', es, ep, ho', hx, hdt, he⟩, _⟩ := I.hok d _ h
  rw [ho] at ho'
  cases ho'
  refine ⟨hd, ho, hx, es, ep, hdt, ?_, fun i p e => ?_⟩
  · rw [ent_size he, ← Paired.length r]
  · obtain ⟨q, hq, rq⟩ := paired_get r e
    refine ⟨ent X.w q, ?_, rq.2.1⟩
    rw [ent_at he i, hq]
    rfl
section
variable {w : World} {P : Program} {K : PySem.W.Frag} {tg : Expr} {d : Addr} {o : Obj} {es : Array DictEntry} {ep : Nat}
theorem turn_keys {kvs : List KVR} (it : Addr) (hod : o.data = .dict es ep) : Turn P w K tg (Itk w d o kvs) [it] it (fun i h => h.IsKeyIter it d i kvs.length ep) where
  mem := List.mem_singleton.mpr rfl
  obj := by
    intro i h st b hb
    rw [List.mem_singleton.mp hb]
    obtain ⟨oi, e, c, dd⟩ := st
    exact ⟨oi, e, fun v z => by rw [dd] at z; cases z⟩
  keep := fun i h h' st k => st.at fun oi e => k it (List.mem_singleton.mpr rfl) oi e
  item := by
    intro X hP hw hK hc i pins s σ H E I hf st hg
    subst hP hw hK
    have F := hf it (List.mem_singleton.mpr rfl)
    obtain ⟨hs, hgd, hx, es', ep', hdt, hsz, hm⟩ := frz_out I hg.1
    obtain ⟨rfl, rfl⟩ := dict_ep hod hdt
    have hlt : i < kvs.length := hg.2
    have hp : kvs[i]? = some (kvs[i]'hlt) := List.getElem?_eq_getElem hlt
    obtain ⟨en, hen, ren⟩ := hm i _ hp
    refine next_key_item st hgd hdt hsz hen fun h' stays sb => ?_
    have I1 : Inv X pins σ H { s with heap := h' } := I.turned (t' := s.toks) (fun b ob hb e => (sb.2 b hb).trans e) F.1 F.2.1 F.2.2.2.1 F.2.2.2.2.1 F.2.2.2.2.2
    obtain ⟨oi, e, c, dd⟩ := id stays
    exact ⟨en.key, rfl, go_of (s := { s with heap := h' }) e c dd (by decide) ⟨_, H, I1, ren, ⟨rfl, _, hp, rfl⟩, stays, fun b hb => (hf b hb).1⟩⟩
  done := by
    intro X hP hw hK hc i pins s σ H E I hf st hg
    subst hP hw hK
    have F := hf it (List.mem_singleton.mpr rfl)
    obtain ⟨hs, hgd, hx, es', ep', hdt, hsz, hm⟩ := frz_out I hg.1
    obtain ⟨rfl, rfl⟩ := dict_ep hod hdt
    exact next_key_end (I.ok.hd hc) st hgd hdt hsz hg.2 fun h' eb => ⟨rfl, I.turned (t' := s.toks) (fun b ob hb e => eb b ob hb e) F.1 F.2.1 F.2.2.2.1 F.2.2.2.2.1 F.2.2.2.2.2⟩
  self := fun A i s Q E st h => wpAny_pyIter_keyiter st h
end
/-- for k in d, the dict locked -/
def iKeys (w : World) (td : TE) : TI := fun σ H R => td σ H fun x H1 => ∃ d o kvs, x = .ref d ∧ H1 d = some (.frz o (dV w d kvs)) ∧ R (Itk w d o kvs) H1
theorem pi_keys {X : Cx} {tg e : Expr} {td : TE} (he : PE X e td) : PI X tg e (iKeys X.w td) := by
  refine ⟨fun pins s σ H R I h => thn (he.run pins s σ H _ I h) fun u s1 ⟨x, H1, I1, rx, d, o, kvs, ex, hd, q⟩ => ?_⟩
  subst ex
  cases (show u = Value.ref d from rx)
  obtain ⟨hs, hgd, hx, es, ep, hdt, hsz, hm⟩ := frz_out I1 hd
  refine iter_keys hs hgd hx hdt (pi_one (tk := s1.toks) I1 _ (turn_keys _ hdt) ⟨_, Heap.get?_push_size _ rfl, rfl, ?_⟩ q)
  rw [hsz]
  rfl
end Vd
/-! A dict comprehension whose dict is of this layer. -/
namespace Vd
open PySem PySem.Spec PyProof.Rows L2
/-- what an entry of the comprehension asks: D holds kvs still, the key is a key -/
def tEntry (w : World) (D : Addr) (tk tv : TE) (Nx : Hp → Prop) : L2.St → Hp → Prop := fun σ H => tk σ H fun y H1 => tv σ H1 fun z H2 => ∃ kvs k, H2 D = some (dV w D kvs) ∧ DAt w H2 D kvs ∧ KeyOk k ∧ KeyAt H2 k y ∧ kvs.length < sizeLine ∧ Nx (upd H2 D (dV w D (putV kvs k y z)))
/-- {k: v for target in iter if ..}: D the new dict -/
def tDc (w : World) (wi : TI) (g : TG) (tt : TT) (tk tv : TE) (vs : List Nat) : TE := fun σ H Q => wi σ H fun J H1 => ∀ D, H1 D = none → ∃ W : Nat → Nat → Hp → Prop, (∃ m, W 0 m (upd H1 D (dV w D []))) ∧ ∀ i m H, W i m H →
  (J.stop i H ∧ Q (.ref D) H) ∨ (J.go i H ∧ ∃ Nx : Hp → Prop, (∀ H', Nx H' → ∃ m', m' < m ∧ W (i + 1) m' H') ∧ ∀ x H', J.yld i H x H' → g x (wipe σ vs) H' fun σ2 H2 => wipe σ2 vs = wipe σ vs ∧ tt σ2 H2 fun b H3 => if b = true then tEntry w D tk tv Nx σ2 H3 else Nx H3)
section
variable {X : Cx}
theorem pe_dc {kx vx tg iter : Expr} {ifs : List Expr} {scope : Scope} {own : List (Str × Nat)} {pos : Pos} {wi : TI} {g : TG} {tt : TT} {tk tv : TE} (hu : X.A.units + 64 < cLine) (hc : X.calm = true) (hN : X.N.Nodup) (hi : PI X tg iter wi) (ok : BlkOk X.N X.env.scope scope own)
    (hg : ∀ (s : Shared) (H : Hp) (C : Addr) (cl : List (Str × Addr)) (fp : List Addr), PG (X.blk s H scope (compEnvC scope cl C X.env) fp) tg g) (ht : ∀ (s : Shared) (H : Hp) (C : Addr) (cl : List (Str × Addr)) (fp : List Addr), PTs (X.blk s H scope (compEnvC scope cl C X.env) fp) ifs tt)
    (hk : ∀ (s : Shared) (H : Hp) (C : Addr) (cl : List (Str × Addr)) (fp : List Addr), PE (X.blk s H scope (compEnvC scope cl C X.env) fp) kx tk) (he : ∀ (s : Shared) (H : Hp) (C : Addr) (cl : List (Str × Addr)) (fp : List Addr), PE (X.blk s H scope (compEnvC scope cl C X.env) fp) vx tv)
    (hs : ∀ x, foldedSetIterable iter X.env x = pure x := by intro _; rfl) : PE X (.DictComp kx vx [⟨tg, iter, ifs, 0⟩] scope pos) (tDc X.w wi g tt tk tv (own.map (·.2))) := by
  refine ⟨fun pins s σ H Q I h => ?_⟩
  rw [arm_eval_DictComp]
  have there : ∀ y ∈ scope.names, y.2 = .free → ∃ c, X.env.cells.lookup y.1 = some c := fun y hy e => (ok.free y hy e).elim (fun k => I.ok.has _ (.inl k)) fun k => I.ok.has _ (.inr k)
  refine wpAny_comprehension_free rfl hs (closure_ok there) ok.kind (fun y hy e => by rw [ok.uniq y hy, e]) (thn (hi.run pins s σ H _ I h) fun _ _ hx => thn hx fun _ s2 ⟨it, fp, tn, J, H2, e, I2, T, st2, f2, q⟩ => ?_)
  subst e
  refine wpAny_newObj_type (newEnv_comp ?_)
  -- the new dict stands at D
  obtain ⟨D, hD⟩ : ∃ D, s2.heap.objs.size = D := ⟨_, rfl⟩
  rw [hD]
  obtain ⟨W, ⟨m0, w0⟩, turn⟩ := q D (I2.hok.fresh (Nat.le_of_eq hD))
  obtain ⟨s3, hs3⟩ : ∃ s3 : Shared, { s2 with heap := s2.heap.push { cls := .type "dict", data := .dict #[] } } = s3 := ⟨_, rfl⟩
  rw [hs3]
  have h3 : s3.heap = s2.heap.push { cls := .type "dict", data := .dict #[] } := hs3 ▸ rfl
  have I3 : Inv X pins σ (upd H2 D (dV X.w D [])) s3 := by
    rw [← hs3]
    refine I2.laid (t' := s2.toks) (fun _ _ there => Heap.get?_push_of_some _ there) (Nat.le_of_eq hD) ?_
    rw [← hD]
    exact dV_ok (beq_eq_false_iff_ne.mpr (Ne.symm (Nat.ne_of_lt I2.big))) (Nat.zero_le _) .nil (Holds.new s2.heap)
  have up : ∀ b ∈ fp, ∀ o, s2.heap.get? b = some o → s3.heap.get? b = some o := fun b _ o e => by rw [h3]; exact Heap.get?_push_of_some _ e
  have old : ∀ b ∈ fp, b < s2.heap.objs.size := fun b hb => let ⟨_, e, _⟩ := T.obj _ _ st2 b hb; Heap.lt_size e
  have f3 : ∀ b ∈ fp, FpOk X pins (upd H2 D (dV X.w D [])) b ∧ b < s3.heap.objs.size := fun b hb =>
    ⟨⟨by rw [upd_ne (fun e => Nat.lt_irrefl _ (Nat.lt_of_lt_of_eq (old b hb) (hD.trans e.symm)))]; exact (f2 b hb).1, (f2 b hb).2⟩, by rw [h3, Heap.size_push]; exact Nat.lt_succ_of_lt (old b hb)⟩
  have I4 := block_start I3 ok hN f3
  obtain ⟨C, hC⟩ : ∃ C, s3.heap.objs.size = C := ⟨_, rfl⟩
  rw [hC] at I4
  obtain ⟨cl, hcl⟩ : ∃ cl, cellsFrom (C + 1) scope.names (cloFrom X.env.cells scope.names []) = cl := ⟨_, rfl⟩
  rw [hcl] at I4
  have pg := hg s3 (upd H2 D (dV X.w D [])) C cl fp
  have pt := ht s3 (upd H2 D (dV X.w D [])) C cl fp
  have pk := hk s3 (upd H2 D (dV X.w D [])) C cl fp
  have pv := he s3 (upd H2 D (dV X.w D [])) C cl fp
  obtain ⟨ce, hce⟩ : ∃ ce, compEnvC scope cl C X.env = ce := ⟨_, rfl⟩
  have cL : ce.locals = C := hce ▸ rfl
  rw [hce] at I4 pg pt pk pv
  obtain ⟨s4, hs4⟩ : ∃ s4 : Shared, { s3 with heap := pushCells (s3.heap.push { cls := .type "dict", data := .dict #[] }) scope.names } = s4 := ⟨_, rfl⟩
  rw [hs4] at I4
  obtain ⟨H3, hH3⟩ : ∃ H3, upd H2 D (dV X.w D []) = H3 := ⟨_, rfl⟩
  rw [hH3] at I3 I4 pg pt pk pv w0 f3
  have st4 : tn 0 s4.heap := T.keep _ _ _ (T.keep _ _ _ st2 up) fun b _ o e => by rw [← hs4]; exact pushCells_keeps _ _ _ _ (Heap.get?_push_of_some _ e)
  have stat : ∀ {σ' : L2.St} {H' : Hp} {s' : Shared}, Inv (X.blk s3 H3 scope ce fp) [] σ' H' s' → (∀ b ∈ fp, H' b = none) → ∀ b ∈ fp, FpOk (X.blk s3 H3 scope ce fp) [] H' b := fun I' hn b hb =>
    ⟨hn b hb, (I'.ok.exf b hb).1, I'.ok.exfs b hb, .inl hb, fun x c e => (I'.ok.exf b hb).2 x c e, fun p hp => by cases hp⟩
  have post : ∀ (s' : Shared) (H' : Hp), Inv X pins σ H' s' → Q (.ref D) H' → ∀ m, s'.heap.Ns C m → FpOk X pins H' C → compPost (model X.prog X.w) X.A X.xe none (EP X pins σ Q) (.ref D) C (.ok .next) s' := fun s' H' I' q m hn f =>
    ⟨m, hn, fun h'' sb => ⟨.ref D, H', I'.turned (t' := s'.toks) (fun b o hb e => (sb.2 b hb).trans e) f.1 f.2.1 f.2.2.2.1 f.2.2.2.2.1 f.2.2.2.2.2, rfl, q⟩⟩
  have loop : codeAny (model X.prog X.w) X.A (.compLoop (.DictComp kx vx [⟨tg, iter, ifs, 0⟩] scope pos) 0 (.ref it) (.ref D) ce) (compPost (model X.prog X.w) X.A X.xe none (EP X pins σ Q) (.ref D) C) s4 := by
    refine compLoop_anyD (fun n s' => ∃ i H', Inv (X.blk s3 H3 scope ce fp) [] (wipe σ (own.map (·.2))) H' s' ∧ tn i s'.heap ∧ (∀ b ∈ fp, H' b = none) ∧ W i n H') ?_ m0 ⟨0, H3, I4, st4, fun b hb => (f3 b hb).1.1, w0⟩
    rintro n sT ⟨i, HT, jT, tT, zT, wT⟩
    rcases turn i n HT wT with ⟨ends, qq⟩ | ⟨goes, Nx, hNx, then_⟩
    · refine thnF (T.done (X.blk s3 H3 scope ce fp) rfl rfl rfl hc i [] sT _ HT (fun _ _ => False) jT (stat jT zT) tT ends) fun r sN ⟨hr, jN⟩ => ?_
      subst hr
      have jA : Inv X pins σ HT sN := I3.call' (ch := fp) jN.os jN.base jN.hok jN.bare fun b hb => ⟨(f3 b hb).1.2.2.2.1, (f3 b hb).1.2.1, (f3 b hb).1.2.2.2.2.1, (f3 b hb).1.2.2.2.2.2⟩
      have nC : HT C = none := cL ▸ (show HT ce.locals = none from jN.free)
      obtain ⟨m, hn, _⟩ := jN.loc
      exact post sN HT jA qq m (cL ▸ (show sN.heap.Ns ce.locals m from hn)) (I3.fpOk (Nat.le_of_eq hC) nC)
    · refine thnF (T.item (X.blk s3 H3 scope ce fp) rfl rfl rfl hc i [] sT _ HT (fun _ _ => False) jT (stat jT zT) tT goes) fun r sN ⟨u, hr, hN⟩ => ?_
      subst hr
      refine thnF hN fun _ sA ⟨x, HA, jA, rA, yA, tA, zA⟩ => ?_
      refine thnF (pg.run _ sA _ HA x u _ (jA.pinned (stat jA zA) (T.obj _ _ tA)) rA (then_ x HA yA)) fun _ sG ⟨τ, HG, jG, same, qG⟩ => ?_
      refine thnF (pt.run _ sG τ HG _ jG qG) fun b sI ⟨HI, jI, qI⟩ => ?_
      have fin : ∀ {s' : Shared} {H' : Hp}, Inv (X.blk s3 H3 scope ce fp) ([] ++ pinsAt fp sA.heap) τ H' s' → Nx H' → ∃ m, m < n ∧ ∃ i H', Inv (X.blk s3 H3 scope ce fp) [] (wipe σ (own.map (·.2))) H' s' ∧ tn i s'.heap ∧ (∀ b ∈ fp, H' b = none) ∧ W i m H' := fun {s' H'} I' next => by
        obtain ⟨m', hm, w'⟩ := hNx H' next
        have pin : ∀ b ∈ fp, ∀ o, sA.heap.get? b = some o → s'.heap.get? b = some o ∧ H' b = none := fun b hb o e => let z := I'.pin (b, o) (List.mem_append_right _ (List.mem_append_right _ (mem_pinsAt hb e))); ⟨z.1, z.2.1⟩
        have len : (wipe σ (own.map (·.2))).length = τ.length := by rw [← same, wipe_length]
        exact ⟨m', hm, i + 1, H', (I'.unpinned (pins := [])).weak len (fun j v e => (wipe_some (same ▸ e)).1), T.keep _ _ _ tA fun b hb o e => (pin b hb o e).1, fun b hb => let ⟨o, e, _⟩ := T.obj _ _ tA b hb; (pin b hb o e).2, w'⟩
      cases b with
      | false => exact fin jI qI
      | true =>
        refine thnF (pk.run _ sI τ HI _ jI qI) fun z sK ⟨yk, HK, jK, r10, qK⟩ => ?_
        refine thnF (pv.run _ sK τ HK _ jK qK) fun z2 sV ⟨yv, HV, jV, r11, kvs, k, hD11, D11, okk, ky, hz11, next⟩ => ?_
        exact c_put (X := X.blk s3 H3 scope ce fp) hu jV hD11 D11 okk ky r10 r11 hz11 fun sE jE => fin jE next
  rw [← hce, ← hcl, ← hC, ← hs4] at loop
  exact codeAny_compStart_dict loop (T.self X.A 0 _ _ _ (hs4 ▸ st4) loop)
end
end Vd
/-! name = {..} on one line. -/
namespace Vd
open PySem PySem.Spec PyProof.Rows L2
section
variable {X : Cx}
theorem dc_core {pins : List (Addr × Obj)} {s : Shared} {σ : L2.St} {H : Hp} {Q : VK} {kx vx tg iter : Expr} {ifs : List Expr} {scope : Scope} {own : List (Str × Nat)} {pos pos' : Pos} {wi : TI} {g : TG} {tt : TT} {tk tv : TE} {use : Option (Value → Sem Unit)} {Qf : Value → Shared → Prop}
    (hu : X.A.units + 64 < cLine) (hc : X.calm = true) (hN : X.N.Nodup) (I : Inv X pins σ H s) (hi : PI X tg iter wi) (ok : BlkOk X.N X.env.scope scope own)
    (hg : ∀ (s : Shared) (H : Hp) (C : Addr) (cl : List (Str × Addr)) (fp : List Addr), PG (X.blk s H scope (compEnvC scope cl C X.env) fp) tg g) (ht : ∀ (s : Shared) (H : Hp) (C : Addr) (cl : List (Str × Addr)) (fp : List Addr), PTs (X.blk s H scope (compEnvC scope cl C X.env) fp) ifs tt)
    (hk : ∀ (s : Shared) (H : Hp) (C : Addr) (cl : List (Str × Addr)) (fp : List Addr), PE (X.blk s H scope (compEnvC scope cl C X.env) fp) kx tk) (he : ∀ (s : Shared) (H : Hp) (C : Addr) (cl : List (Str × Addr)) (fp : List Addr), PE (X.blk s H scope (compEnvC scope cl C X.env) fp) vx tv)
    (hs : ∀ x, foldedSetIterable iter X.env x = pure x) (h : tDc X.w wi g tt tk tv (own.map (·.2)) σ H Q)
    (hRR : ∀ D C s' m H', Inv X pins σ H' s' → Q (.ref D) H' → s'.heap.Ns C m → FpOk X pins H' C → compPost (model X.prog X.w) X.A X.xe use Qf (.ref D) C (.ok .next) s') :
    wpAny (model X.prog X.w) X.A (comprehension (.DictComp kx vx [⟨tg, iter, ifs, 0⟩] scope pos) scope X.env pos' newDict false (eval iter X.env) use) Qf X.xe s := by
  have there : ∀ y ∈ scope.names, y.2 = .free → ∃ c, X.env.cells.lookup y.1 = some c := fun y hy e => (ok.free y hy e).elim (fun k => I.ok.has _ (.inl k)) fun k => I.ok.has _ (.inr k)
  refine wpAny_comprehension_free (use := use) rfl hs (closure_ok there) ok.kind (fun y hy e => by rw [ok.uniq y hy, e]) (thn (hi.run pins s σ H _ I h) fun _ _ hx => thn hx fun _ s2 ⟨it, fp, tn, J, H2, e, I2, T, st2, f2, q⟩ => ?_)
  subst e
  refine wpAny_newObj_type (newEnv_comp ?_)
  -- the new dict stands at D
  obtain ⟨D, hD⟩ : ∃ D, s2.heap.objs.size = D := ⟨_, rfl⟩
  rw [hD]
  obtain ⟨W, ⟨m0, w0⟩, turn⟩ := q D (I2.hok.fresh (Nat.le_of_eq hD))
  obtain ⟨s3, hs3⟩ : ∃ s3 : Shared, { s2 with heap := s2.heap.push { cls := .type "dict", data := .dict #[] } } = s3 := ⟨_, rfl⟩
  rw [hs3]
  have h3 : s3.heap = s2.heap.push { cls := .type "dict", data := .dict #[] } := hs3 ▸ rfl
  have I3 : Inv X pins σ (upd H2 D (dV X.w D [])) s3 := by
    rw [← hs3]
    refine I2.laid (t' := s2.toks) (fun _ _ there => Heap.get?_push_of_some _ there) (Nat.le_of_eq hD) ?_
    rw [← hD]
    exact dV_ok (beq_eq_false_iff_ne.mpr (Ne.symm (Nat.ne_of_lt I2.big))) (Nat.zero_le _) .nil (Holds.new s2.heap)
  have up : ∀ b ∈ fp, ∀ o, s2.heap.get? b = some o → s3.heap.get? b = some o := fun b _ o e => by rw [h3]; exact Heap.get?_push_of_some _ e
  have old : ∀ b ∈ fp, b < s2.heap.objs.size := fun b hb => let ⟨_, e, _⟩ := T.obj _ _ st2 b hb; Heap.lt_size e
  have f3 : ∀ b ∈ fp, FpOk X pins (upd H2 D (dV X.w D [])) b ∧ b < s3.heap.objs.size := fun b hb =>
    ⟨⟨by rw [upd_ne (fun e => Nat.lt_irrefl _ (Nat.lt_of_lt_of_eq (old b hb) (hD.trans e.symm)))]; exact (f2 b hb).1, (f2 b hb).2⟩, by rw [h3, Heap.size_push]; exact Nat.lt_succ_of_lt (old b hb)⟩
  have I4 := block_start I3 ok hN f3
  obtain ⟨C, hC⟩ : ∃ C, s3.heap.objs.size = C := ⟨_, rfl⟩
  rw [hC] at I4
  obtain ⟨cl, hcl⟩ : ∃ cl, cellsFrom (C + 1) scope.names (cloFrom X.env.cells scope.names []) = cl := ⟨_, rfl⟩
  rw [hcl] at I4
  have pg := hg s3 (upd H2 D (dV X.w D [])) C cl fp
  have pt := ht s3 (upd H2 D (dV X.w D [])) C cl fp
  have pk := hk s3 (upd H2 D (dV X.w D [])) C cl fp
  have pv := he s3 (upd H2 D (dV X.w D [])) C cl fp
  obtain ⟨ce, hce⟩ : ∃ ce, compEnvC scope cl C X.env = ce := ⟨_, rfl⟩
  have cL : ce.locals = C := hce ▸ rfl
  rw [hce] at I4 pg pt pk pv
  obtain ⟨s4, hs4⟩ : ∃ s4 : Shared, { s3 with heap := pushCells (s3.heap.push { cls := .type "dict", data := .dict #[] }) scope.names } = s4 := ⟨_, rfl⟩
  rw [hs4] at I4
  obtain ⟨H3, hH3⟩ : ∃ H3, upd H2 D (dV X.w D []) = H3 := ⟨_, rfl⟩
  rw [hH3] at I3 I4 pg pt pk pv w0 f3
  have st4 : tn 0 s4.heap := T.keep _ _ _ (T.keep _ _ _ st2 up) fun b _ o e => by rw [← hs4]; exact pushCells_keeps _ _ _ _ (Heap.get?_push_of_some _ e)
  have stat : ∀ {σ' : L2.St} {H' : Hp} {s' : Shared}, Inv (X.blk s3 H3 scope ce fp) [] σ' H' s' → (∀ b ∈ fp, H' b = none) → ∀ b ∈ fp, FpOk (X.blk s3 H3 scope ce fp) [] H' b := fun I' hn b hb =>
    ⟨hn b hb, (I'.ok.exf b hb).1, I'.ok.exfs b hb, .inl hb, fun x c e => (I'.ok.exf b hb).2 x c e, fun p hp => by cases hp⟩
  have loop : codeAny (model X.prog X.w) X.A (.compLoop (.DictComp kx vx [⟨tg, iter, ifs, 0⟩] scope pos) 0 (.ref it) (.ref D) ce) (compPost (model X.prog X.w) X.A X.xe use Qf (.ref D) C) s4 := by
    refine compLoop_anyD (fun n s' => ∃ i H', Inv (X.blk s3 H3 scope ce fp) [] (wipe σ (own.map (·.2))) H' s' ∧ tn i s'.heap ∧ (∀ b ∈ fp, H' b = none) ∧ W i n H') ?_ m0 ⟨0, H3, I4, st4, fun b hb => (f3 b hb).1.1, w0⟩
    rintro n sT ⟨i, HT, jT, tT, zT, wT⟩
    rcases turn i n HT wT with ⟨ends, qq⟩ | ⟨goes, Nx, hNx, then_⟩
    · refine thnF (T.done (X.blk s3 H3 scope ce fp) rfl rfl rfl hc i [] sT _ HT (fun _ _ => False) jT (stat jT zT) tT ends) fun r sN ⟨hr, jN⟩ => ?_
      subst hr
      have jA : Inv X pins σ HT sN := I3.call' (ch := fp) jN.os jN.base jN.hok jN.bare fun b hb => ⟨(f3 b hb).1.2.2.2.1, (f3 b hb).1.2.1, (f3 b hb).1.2.2.2.2.1, (f3 b hb).1.2.2.2.2.2⟩
      have nC : HT C = none := cL ▸ (show HT ce.locals = none from jN.free)
      obtain ⟨m, hn, _⟩ := jN.loc
      exact hRR D C sN m HT jA qq (cL ▸ (show sN.heap.Ns ce.locals m from hn)) (I3.fpOk (Nat.le_of_eq hC) nC)
    · refine thnF (T.item (X.blk s3 H3 scope ce fp) rfl rfl rfl hc i [] sT _ HT (fun _ _ => False) jT (stat jT zT) tT goes) fun r sN ⟨u, hr, hN⟩ => ?_
      subst hr
      refine thnF hN fun _ sA ⟨x, HA, jA, rA, yA, tA, zA⟩ => ?_
      refine thnF (pg.run _ sA _ HA x u _ (jA.pinned (stat jA zA) (T.obj _ _ tA)) rA (then_ x HA yA)) fun _ sG ⟨τ, HG, jG, same, qG⟩ => ?_
      refine thnF (pt.run _ sG τ HG _ jG qG) fun b sI ⟨HI, jI, qI⟩ => ?_
      have fin : ∀ {s' : Shared} {H' : Hp}, Inv (X.blk s3 H3 scope ce fp) ([] ++ pinsAt fp sA.heap) τ H' s' → Nx H' → ∃ m, m < n ∧ ∃ i H', Inv (X.blk s3 H3 scope ce fp) [] (wipe σ (own.map (·.2))) H' s' ∧ tn i s'.heap ∧ (∀ b ∈ fp, H' b = none) ∧ W i m H' := fun {s' H'} I' next => by
        obtain ⟨m', hm, w'⟩ := hNx H' next
        have pin : ∀ b ∈ fp, ∀ o, sA.heap.get? b = some o → s'.heap.get? b = some o ∧ H' b = none := fun b hb o e => let z := I'.pin (b, o) (List.mem_append_right _ (List.mem_append_right _ (mem_pinsAt hb e))); ⟨z.1, z.2.1⟩
        have len : (wipe σ (own.map (·.2))).length = τ.length := by rw [← same, wipe_length]
        exact ⟨m', hm, i + 1, H', (I'.unpinned (pins := [])).weak len (fun j v e => (wipe_some (same ▸ e)).1), T.keep _ _ _ tA fun b hb o e => (pin b hb o e).1, fun b hb => let ⟨o, e, _⟩ := T.obj _ _ tA b hb; (pin b hb o e).2, w'⟩
      cases b with
      | false => exact fin jI qI
      | true =>
        refine thnF (pk.run _ sI τ HI _ jI qI) fun z sK ⟨yk, HK, jK, r10, qK⟩ => ?_
        refine thnF (pv.run _ sK τ HK _ jK qK) fun z2 sV ⟨yv, HV, jV, r11, kvs, k, hD11, D11, okk, ky, hz11, next⟩ => ?_
        exact c_put (X := X.blk s3 H3 scope ce fp) hu jV hD11 D11 okk ky r10 r11 hz11 fun sE jE => fin jE next
  rw [← hce, ← hcl, ← hC, ← hs4] at loop
  exact codeAny_compStart_dict loop (T.self X.A 0 _ _ _ (hs4 ▸ st4) loop)
theorem ps_setDc {i : Nat} {y : Str} {py : Pos} {kx vx tg iter : Expr} {ifs : List Expr} {scope : Scope} {own : List (Str × Nat)} {pos spos : Pos} {wi : TI} {g : TG} {tt : TT} {tk tv : TE} (hu : X.A.units + 64 < cLine) (hc : X.calm = true) (hN : X.N.Nodup) (hy : X.N[i]? = some y) (hyl : X.env.scope.names.lookup y = some .local)
    (hsw : swapsWith (.DictComp kx vx [⟨tg, iter, ifs, 0⟩] scope pos) (some (.Name y py)) spos.line X.env = pure true) (hi : PI X tg iter wi) (ok : BlkOk X.N X.env.scope scope own)
    (hg : ∀ (s : Shared) (H : Hp) (C : Addr) (cl : List (Str × Addr)) (fp : List Addr), PG (X.blk s H scope (compEnvC scope cl C X.env) fp) tg g) (ht : ∀ (s : Shared) (H : Hp) (C : Addr) (cl : List (Str × Addr)) (fp : List Addr), PTs (X.blk s H scope (compEnvC scope cl C X.env) fp) ifs tt)
    (hk : ∀ (s : Shared) (H : Hp) (C : Addr) (cl : List (Str × Addr)) (fp : List Addr), PE (X.blk s H scope (compEnvC scope cl C X.env) fp) kx tk) (he : ∀ (s : Shared) (H : Hp) (C : Addr) (cl : List (Str × Addr)) (fp : List Addr), PE (X.blk s H scope (compEnvC scope cl C X.env) fp) vx tv)
    (hs : ∀ x, foldedSetIterable iter X.env x = pure x := by intro _; rfl) :
    PS X (.Assign [.Name y py] (.DictComp kx vx [⟨tg, iter, ifs, 0⟩] scope pos) spos) (tAsg (tDc X.w wi g tt tk tv (own.map (·.2))) (gName i)) := by
  refine ⟨fun pins s σ H D I h => ?_⟩
  rw [exec_Assign_Name_used _ _ _ _ hsw]
  refine wpAny_bind (wpAny_standAt (wpAny_bind ?_))
  show wpAny _ X.A (do let _ ← comprehension (.DictComp kx vx [⟨tg, iter, ifs, 0⟩] scope pos) scope X.env (firstIterPos [⟨tg, iter, ifs, 0⟩] pos) newDict false (eval iter X.env) (some (assign (.Name y py) X.env))) _ _ s
  have h : tDc X.w wi g tt tk tv (own.map (·.2)) σ H (fun x H1 => gName i x σ H1 D.nx) := h
  refine wpAny_bind (thn (dc_core (Qf := fun _ s' => SP X pins D .next s') hu hc hN I hi ok hg ht hk he hs h fun L C s' m H' I' q hn f => ?_) fun _ s' hq => wpAny_pure (wpAny_pure hq))
  show wpAny _ _ (assign (.Name y py) X.env (.ref L)) _ _ _
  refine wpAny_assign_Name (store_ok2 (v := V.ref L) I' hN hy (.inl hyl) rfl (fun s2 I2 ⟨a, sb, ha⟩ => ?_) (.inr hyl))
  obtain ⟨g0, g1, g2, g3, g4, g5⟩ := f
  have other : C ≠ a := ha.elim (fun z => z ▸ g1) fun z e => g4 y a z e.symm
  exact ⟨m, hn.sameBut sb other, fun h3 sb3 => ⟨_, H', I2.turned (t' := s2.toks) (fun b o hb e => (sb3.2 b hb).trans e) g0 g1 g3 g4 g5, q⟩⟩
theorem sw_trueD {kx vx : Expr} {gs : List Comprehension} {scope : Scope} {pos py : Pos} {y : Str} {l : Nat} {env : Env} (hk : env.scope.kind = .function) (hy : env.scope.names.lookup y = some .local) (hl : (py.line == pos.line) = true)
    (ha : (scope.names.any fun (n, k) => n == y && (k == .local || k == .cell)) = false) : swapsWith (.DictComp kx vx gs scope pos) (some (.Name y py)) l env = pure true := by
  have e1 : env.kindOf y = some .local := hy
  have e2 : env.blockKind = .function := by unfold Env.blockKind; rw [hk]; rfl
  unfold swapsWith
  simp only [e2, e1, ha, Expr.pos, hl]
  rfl
end
end Vd
/-! A law's own def, run where the law is entered: there no guard stands around it, so repr of lists and tuples can be told. -/
namespace Gd
open PySem PySem.Spec PyProof.Rows L2
/-- the promise of a def at one place A alone -/
def RunAt (A : Around) (P : Program) (w : World) (K : PySem.W.Frag) (mg : Str → Option Value) (base : Heap) (f : Addr) (fd : FuncData) (ps : List Str) (sp : Sp) : Prop :=
  ∀ outer s H args us vs Q E, Env0 P w K mg base A outer s H → BindsTo s fd args (ps.zip us) → Vals vs us → sp vs H Q E → codeAny (model P w) A (.call (.ref f) args) (CR CX0 outer P w H s Q E) s
/-- the body's judgement, at this place, gives it -/
theorem runAt {A : Around} {P : Program} {w : World} {K : PySem.W.Frag} {mg : Str → Option Value} {base : Heap} {k : Nat} {x qual : Str} {st : Stmt} {f : Addr} {fd : FuncData} {N ps : List Str} {sp : Sp}
    (F : Fun K x qual st f fd) (S : FnScope N ps (defScope st)) (rm : Room (k + 1) A) (len : ∀ vs H Q E, sp vs H Q E → vs.length = ps.length)
    (body : ∀ cdv outer s H vs Q E, sp vs H Q E → ∃ t, PSs (cxOf CX0 P w K mg base N qual (defScope st) f cdv A outer s H E).nox (defBody st) t ∧ t { nx := fun _ H' => Q .non H', rt := Q } (start N vs) H) :
    RunAt A P w K mg base f fd ps sp := by
  obtain ⟨oc, od, kV, doc, pm, an, cdv, ct, osl, rfl, lk, hcd⟩ := F.ex
  intro outer s H args us vs Q E e0 hb rv hsp
  have inK : K.In s.heap := e0.mod.kin.keeps fun b o e => (e0.bs b o e).1
  refine codeAny_call_function rm.depth (inK _ _ lk) rfl S.co S.gen rfl (PySem.W.codeRec_of inK hcd) (hb _ _ _ _ ?_)
  refine wpAny_newFunctionEnv_cells S.kind (fun ⟨n, v⟩ hm => (S.par n (List.of_mem_zip hm).1).imp id fun c => ⟨c, PySem.W.cellsFrom_some _ _ _ (.inl c)⟩) fun env he s1 ic => ?_
  subst he
  obtain ⟨t, ht, hq⟩ := body cdv outer s H vs Q E hsp
  refine ⟨(e0.mod.nolimit.keeps fun b o e => (e0.bs b o e).1).keeps ic.toInCall.keep, codeAny_func (wpAny_mono (ht.nox.run [] s1 (start N vs) H _ (inv_start S rm.hd e0 (len _ _ _ _ hsp) rv ic) hq) (fun fl s' hs => ?_) fun _ _ h => h)⟩
  cases fl with
  | ret u => exact let ⟨v, _, H', J, r, q⟩ := hs; ⟨v, H', J.os, J.bare, J.base, J.hok, r, q⟩
  | next => exact let ⟨_, H', J, q⟩ := hs; ⟨V.non, H', J.os, J.bare, J.base, J.hok, rfl, q⟩
  | brk => exact (let ⟨_, _, _, q⟩ := hs; q : False).elim
  | cont => exact (let ⟨_, _, _, q⟩ := hs; q : False).elim
/-- what is tracked where the law is entered: at most the script, locked -/
def entry (a : Addr) (t : Bool) (o : Obj) (xs : List V) : Hp := fun b => if b = a ∧ t = true then some (.frz o (.lst xs)) else none
theorem entry_some {a b : Addr} {t : Bool} {o : Obj} {xs : List V} {u : HO} (h : entry a t o xs b = some u) : b = a ∧ t = true ∧ u = .frz o (.lst xs) := by
  unfold entry at h
  split at h
  · rename_i c
    exact ⟨c.1, c.2, (Option.some.inj h).symm⟩
  · cases h
theorem law_at {P : Program} {w : World} {K : PySem.W.Frag} {mg mb : Str → Option Value} {fa a : Addr} {fd : FuncData} {x : Str} {sp : Sp} {s : Shared} {vs : List Value} {ns : List Int}
    (inK : K.In s.heap) (glob : s.heap.Ns mainGlobals mg) (hb : s.heap.Ns builtinsNs mb) (boot : ∀ x : Str, x ≠ "__name__" → mb x = bootBuiltins x) (lim : s.heap.NoLimit) (hg : s.gens = #[])
    (at_ : s.heap.get? a = some { cls := .type "list", data := .seq vs.toArray }) (hi : IntsAre vs ns) (hl : ns.length ≤ sizeLine)
    (run : ∀ base : Heap, K.In base → base.Ns mainGlobals mg → RunAt callerA P w K mg base fa fd [x] sp) (binds : ∀ (s : Shared) (u : Value), BindsTo s fd ⟨[u], []⟩ [(x, u)])
    (hsp : ∀ H : Hp, Only H → SqL K H a (ns.map V.int) → sp [.ref a] H (fun v _ => v = .bl true) fun _ _ _ => False) :
    codeAny (model P w) callerA (.call (.ref fa) ⟨[.ref a], []⟩) (fun r s' => r = .ok (.ret (.bool true)) ∧ OldK s.heap s'.heap ∧ s'.os = s.os ∧ AllBare s'.gens) s := by
  have rv := vals_ints hi
  obtain ⟨t, ht⟩ : ∃ t : Bool, t = true ↔ K.lookup a = none := ⟨(K.lookup a).isNone, Option.isNone_iff_eq_none⟩
  let o : Obj := { cls := .type "list", data := .seq vs.toArray }
  let H : Hp := entry a t o (ns.map V.int)
  have none_of : ∀ {b : Addr} {u : Obj}, s.heap.get? b = some u → (b = a → t = true → u ≠ o) → H b = none := fun {b u} e n => by
    cases q : H b with
    | none => rfl
    | some z =>
      obtain ⟨rfl, h1, _⟩ := entry_some q
      rw [at_] at e
      exact absurd (Option.some.inj e).symm (n rfl h1)
  have names : ∀ {b : Addr} {m : Str → Option Value}, s.heap.Ns b m → (hidT s.heap H).Ns b m := fun {b m} ⟨u, es, ep, e, d, r⟩ =>
    ⟨u, es, ep, hidT_get e (none_of e fun _ _ z => by rw [z] at d; cases (show Data.seq vs.toArray _ = Data.dict es ep from d)), d, r⟩
  have kept : K.In (hidT s.heap H) := fun b u e => hidT_get (inK b u e) (none_of (inK b u e) fun h1 h2 _ => by rw [h1, ht.mp h2] at e; cases e)
  have ok : HOk P w H s.heap := fun b u q => by
    obtain ⟨rfl, _, rfl⟩ := entry_some q
    exact ⟨at_, by rw [List.length_map]; exact hl, vs, _, rv, at_⟩
  have only : Only H := fun b => by
    cases q : H b with
    | none => exact .inl rfl
    | some u => exact .inr ⟨_, _, congrArg some (entry_some q).2.2⟩
  have script : SqL K H a (ns.map V.int) := by
    cases q : K.lookup a with
    | none => exact .inl (.inr ⟨o, if_pos ⟨rfl, ht.mpr q⟩⟩)
    | some u =>
      obtain rfl : o = u := Option.some.inj (at_.symm.trans (inK a u q))
      exact .inr ⟨_, vs.toArray, _, q, rfl, rfl, rfl, by rw [List.size_toArray, hi.length]; exact hl, by simpa using rv⟩
  have env : Env0 P w K mg (hidT s.heap H) callerA [] s H :=
    { frames := rfl, mod := ⟨kept, names glob, ⟨mb, names hb, boot⟩, let ⟨mc, h1, h2⟩ := lim; ⟨mc, names h1, h2⟩⟩, bs := fun _ _ e => of_hidT e, bsz := Nat.le_of_eq (hidT_size _ _), funs := trivial, frf := fun b hb => absurd hb List.not_mem_nil, hok := ok, bare := .of_eq hg }
  refine codeAny_mono (run _ kept (names glob) [] s H ⟨[.ref a], []⟩ [.ref a] [.ref a] _ _ env (binds s _) (.cons rfl .nil) (hsp H only script)) fun r s' h => ?_
  match r, h with
  | .ok (.ret u), ⟨v, H', os, bare, un, hok', r', q⟩ =>
    obtain rfl : v = .bl true := q
    refine ⟨by rw [show u = Value.bool true from r'], OldK.of_keep fun b z e => ?_, os, bare⟩
    cases hb : H b with
    | none => exact un.keep b z e hb (by intro z; cases z) (by simp)
    | some y =>
      obtain ⟨rfl, _, rfl⟩ := entry_some hb
      have e2 := (hok' b _ (un.frzs b o _ hb)).1
      rw [at_] at e
      exact (Option.some.inj e) ▸ e2
/-- the end of a text: as L2.walk_of, the law's def run where it is entered -/
theorem walk_at {l : PySem.W.OpenLaw} {n : Nat} {q : Program} {loose : List Str} {XP : (Str → Option Value) → Heap → Prop} {YP : World → Heap → Prop} {d : DefRec} {K : Params → PySem.W.Frag} {sp : World → Sp} {x : Str}
    (hn : l.most = some n) (hn2 : n ≤ sizeLine) (hdf : d.params.defaults = []) (hY : ∀ (w : World) (h : Heap), YP w h → (K w.params).In h)
    (F : ∀ (w : World) (mg : Str → Option Value) (fa : Addr) (h : Heap), (K w.params).In h → h.Ns mainGlobals mg → mg d.name = some (.ref fa) →
      ∃ fd : FuncData, (∀ (s : Shared) (u : Value), BindsTo s fd ⟨[u], []⟩ [(x, u)]) ∧ ∀ base : Heap, (K w.params).In base → base.Ns mainGlobals mg → RunAt callerA l.prog w (K w.params) mg base fa fd [x] (sp w))
    (hsp : ∀ (w : World) (H : Hp) (a : Addr) (ns : List Int), ns.length ≤ n → Only H → SqL (K w.params) H a (ns.map V.int) → sp w [.ref a] H (fun v _ => v = .bl true) fun _ _ _ => False) :
    PySem.W.WalkO q loose XP YP l.row.toRowW d [] (fun f vs => PySem.call f vs) := by
  refine Att.attach_call hn hdf fun w _ s mg mb fa o pm cd doc a vs ns G Y ho hd hcd hmg hobj hints hlen hg => ?_
  obtain ⟨fd, hb, hF⟩ := F w mg fa _ (hY w _ Y) G.T.g hmg
  exact law_at (hY w _ Y) G.T.g G.T.b G.T.builtins G.T.nolimit hg hobj hints (Nat.le_trans hlen hn2) hF hb fun H hO hS => hsp w H a ns hlen hO hS
/-- no guard stands around the law's own def -/
theorem no_guards (env : Env) : (callerA.deeper env).guards = some [] := rfl
/-- repr of data at any depth -/
def rRepr (K : PySem.W.Frag) : List V → Hp → VK → Prop := fun vs H Q => ∃ (a : Addr) (d : PyData), vs = [.ref a] ∧ Dp K H (.ref a) d ∧ d.showable = true ∧ d.hasDict = false ∧ d.depth ≤ 60 ∧ d.shown.length ≤ sizeLine ∧ Q (.str d.shown) H
theorem call_repr {X : Cx} (hg : X.A.guards = some []) (hu : X.A.units + 64 < cLine) : CallR X (.builtin "repr") (rRepr X.K) := by
  intro pins s σ H xs us Q I r h
  obtain ⟨a, d, rfl, dp, hs, hd, hdep, hl, q⟩ := h
  obtain rfl := Vals.ref1 r
  obtain ⟨as, rd⟩ := Dp.reads I d _ _ dp rfl
  exact repr_of_reads' rd hs (fun z => by rw [hd] at z; cases z) hg (by omega) (fun _ _ e => e) (fun h' u tk hk => ⟨.str d.shown, H, I.kept hk, ⟨u, rfl⟩, q⟩) hl
end Gd
/-! Data at any depth, alike: <, >, <=, >=, sorted. -/
namespace Dt
open PySem PySem.Spec PySem.W PyProof.Rows L2
section
variable {X : Cx}
def rCmpD (K : PySem.W.Frag) (f : PyData → PyData → Bool) : R2 := fun x y H Q => ∃ d e, Dp K H x d ∧ Dp K H y e ∧ PySem.W.alike d e = true ∧ d ≠ .none ∧ d.depth ≤ 50 ∧ Q (.bl (f d e)) H
theorem op_ltD (hu : X.A.units + 64 < cLine) : OpR X (compareOp .Lt) (rCmpD X.K fun d e => dataLt d e) := by
  intro pins s σ H x y v u Q I rx ry h
  obtain ⟨d, e, hd, he, al, dn, dp, q⟩ := h
  obtain ⟨as, r1⟩ := Dp.reads I d x v hd rx
  obtain ⟨bs, r2⟩ := Dp.reads I e y u he ry
  exact lt_data r1 r2 al dn (by have := Nat.min_le_left d.depth e.depth; omega) ⟨.bl _, H, I, rfl, q⟩
theorem op_gtD (hu : X.A.units + 64 < cLine) : OpR X (compareOp .Gt) (rCmpD X.K fun d e => dataLt e d) := by
  intro pins s σ H x y v u Q I rx ry h
  obtain ⟨d, e, hd, he, al, dn, dp, q⟩ := h
  obtain ⟨as, r1⟩ := Dp.reads I d x v hd rx
  obtain ⟨bs, r2⟩ := Dp.reads I e y u he ry
  exact gt_data r1 r2 al dn (by have := Nat.min_le_left d.depth e.depth; omega) ⟨.bl _, H, I, rfl, q⟩
theorem op_leD (hu : X.A.units + 64 < cLine) : OpR X (compareOp .LtE) (rCmpD X.K fun d e => !dataLt e d) := by
  intro pins s σ H x y v u Q I rx ry h
  obtain ⟨d, e, hd, he, al, dn, dp, q⟩ := h
  obtain ⟨as, r1⟩ := Dp.reads I d x v hd rx
  obtain ⟨bs, r2⟩ := Dp.reads I e y u he ry
  exact le_data r1 r2 al dn (by have := Nat.min_le_left d.depth e.depth; omega) ⟨.bl _, H, I, rfl, q⟩
theorem op_geD (hu : X.A.units + 64 < cLine) : OpR X (compareOp .GtE) (rCmpD X.K fun d e => !dataLt d e) := by
  intro pins s σ H x y v u Q I rx ry h
  obtain ⟨d, e, hd, he, al, dn, dp, q⟩ := h
  obtain ⟨as, r1⟩ := Dp.reads I d x v hd rx
  obtain ⟨bs, r2⟩ := Dp.reads I e y u he ry
  exact ge_data r1 r2 al dn (by have := Nat.min_le_left d.depth e.depth; omega) ⟨.bl _, H, I, rfl, q⟩
/-- sorted(xs): the items with what they are -/
def rSortedD (K : PySem.W.Frag) : List V → Hp → VK → Prop := fun vs H Q => ∃ (a : Addr) (bs : List (V × PyData)), vs = [.ref a] ∧ SqL K H a (bs.map (·.1)) ∧ (∀ b ∈ bs, Dp K H b.1 b.2) ∧ AllAlike (bs.map (·.2)) ∧ Sortable (bs.map (·.2)) ∧
  (∀ b ∈ bs, b.2.depth ≤ 50) ∧ ∀ p, H p = none → Q (.ref p) (upd H p (.lst ((bs.mergeSort (dataLe false (·.2))).map (·.1))))
theorem each_out : ∀ {out : List Value} {bs : List (V × PyData)}, EachIs (fun u (b : V × PyData) => RelV b.1 u) out bs → Vals (bs.map (·.1)) out
  | [], [], _ => .nil
  | _ :: _, _ :: _, .cons h1 h2 => .cons h1 (each_out h2)
theorem each_in : ∀ {bs : List (V × PyData)} {us : List Value}, Vals (bs.map (·.1)) us → EachIs (fun u (b : V × PyData) => RelV b.1 u) us bs
  | [], _, r => by
    cases r
    exact .nil
  | b :: bs, _, r => by
    cases r with
    | cons h1 h2 => exact .cons h1 (each_in h2)
theorem each_both {α β : Type} {R S : α → β → Prop} : ∀ {as : List α} {bs : List β}, EachIs R as bs → (∀ a b, b ∈ bs → R a b → S a b) → EachIs S as bs
  | _, _, .nil, _ => .nil
  | _, _, .cons h1 h2, f => .cons (f _ _ (List.mem_cons_self ..) h1) (each_both h2 fun a b m r => f a b (List.mem_cons_of_mem _ m) r)
theorem cr_sortedD (hu : X.A.units + 64 < cLine) : CallR X (.builtin "sorted") (rSortedD X.K) := by
  intro pins s σ H vs us Q I r h
  obtain ⟨a, bs, rfl, hs, hd, al, so, dep, q⟩ := h
  obtain ⟨its, rv, hl, hz⟩ := I.list hs
  obtain rfl := Vals.ref1 r
  have e := each_in rv
  have er : EachIs (fun u (b : V × PyData) => ∃ as, Reads s.heap u b.2 as) its bs := each_both e fun u b m rb => Dp.reads I b.2 b.1 u (hd b m) rb
  have hbl : bs.length ≤ sizeLine := by
    rw [List.length_map] at hz
    exact hz
  refine sorted_data (enc := fun b : V × PyData => b.2) hl.isList e er al so hbl (fun b m => by have := dep b m; omega) fun out hlen ho => ?_
  obtain ⟨ep, he'⟩ := PyProof.Rows.sortedAll_at s.heap its out.toArray
  have hlen2 : ((bs.mergeSort (dataLe false (·.2))).map (·.1)).length ≤ sizeLine := by
    rw [List.length_map, List.length_mergeSort]
    exact hbl
  exact ⟨.ref _, upd H (s.heap.objs.size + 1) (.lst ((bs.mergeSort (dataLe false (·.2))).map (·.1))), I.laid (t' := s.toks) (fun _ _ => PyProof.Rows.sortedAll_old) (Nat.le_succ _) ⟨hlen2, out, ep, each_out ho, he'⟩, rfl, q _ (I.hok.fresh (Nat.le_succ _))⟩
end
end Dt
/-! sorted of tuples that are alike, or unlike by their first items (which are alike): what stands behind is not asked. -/
namespace Sa
open PySem PySem.Spec PySem.W PySem.Calls PyProof.Rows L2 SrtO
/-- d < d' can be told: they are alike, or tuples whose first items are alike and not equal -/
def Akin (d d' : PyData) : Prop := alike d d' = true ∨ ∃ x r x' r', d = .tuple (x :: r) ∧ d' = .tuple (x' :: r') ∧ alike x x' = true ∧ PyData.eqv x x' = false
/-- .. or told apart by their second items -/
def Akin3 (d d' : PyData) : Prop := Akin d d' ∨ ∃ x y r x' y' r', d = .tuple (x :: y :: r) ∧ d' = .tuple (x' :: y' :: r') ∧ alike x x' = true ∧ PyData.eqv x x' = true ∧ alike y y' = true ∧ PyData.eqv y y' = false
theorem swo_data {α : Type} (k : α → PyData) : Swo fun x y => dataLt (k x) (k y) := by
  refine ⟨fun x y h => ?_, fun x y z h1 h2 => ?_⟩
  · cases e : dataLt (k y) (k x) with
    | false => rfl
    | true =>
      have z := lex_trans (O := itemOrd) _ _ _ h e
      have z2 : dataLt (k x) (k x) = false := lex_irrefl _
      have z3 : dataLt (k x) (k x) = true := z
      rw [z2] at z3
      cases z3
  · cases e : dataLt (k z) (k x) with
    | false => rfl
    | true =>
      rcases lex_negTrans (O := itemOrd) (keyToks (k z)) (keyToks (k y)) (keyToks (k x)) e with q | q
      · exact absurd (show dataLt (k z) (k y) = true from q) (by rw [h2]; simp)
      · exact absurd (show dataLt (k y) (k x) = true from q) (by rw [h1]; simp)
section
variable {prog : Program} {w : World} {A : Around} {s : Shared}
theorem akin_cmp {vs : List Value} {k : Value → PyData} (T : Value) (hr : ∀ v ∈ vs, ∃ as x r, Reads s.heap v (k v) as ∧ k v = .tuple (x :: r) ∧ dataType x = T) (hk : ∀ v ∈ vs, ∀ u ∈ vs, Akin3 (k v) (k u)) (hu : ∀ v ∈ vs, A.units + (k v).depth < cLine) :
    Cmp prog w A s (tuples' (T != Value.type "tuple")) (fun p => p.1 ∈ vs) (lt2 fun v u => dataLt (k v) (k u)) := by
  intro p q hm hm'
  show wpAny (model prog w) A (keyLt' _ p.1 q.1) (fun r s' => s' = s ∧ r = dataLt (k p.1) (k q.1)) (fun _ _ => False) s
  obtain ⟨as, x1, r1, ra, e1, t1⟩ := hr _ hm
  obtain ⟨bs, x2, r2, rb, e2, t2⟩ := hr _ hm'
  have ak := hk _ hm _ hm'
  have room := hu _ hm
  rw [e1] at ra ak room ⊢
  rw [e2] at rb ak ⊢
  have hd : (PyData.tuple (x1 :: r1)).depth = PyData.depthAll (x1 :: r1) + 1 := by simp [PyData.depth]
  have hd1 : x1.depth ≤ PyData.depthAll (x1 :: r1) := by
    simp only [PyData.depthAll]
    exact Nat.le_max_left _ _
  have htop : (T != Value.type "tuple") = true → ∀ t, x1 ≠ .tuple t := fun hb t e => by
    rw [← t1, e] at hb
    have hb' : (Value.type "tuple" != Value.type "tuple") = true := hb
    exact absurd hb' (by decide)
  revert ra rb
  generalize p.1 = va
  generalize q.1 = vb
  intro ra rb
  cases ra with
  | @tuple l o xs n _ _ h1 h2 h3 h4 =>
  cases rb with
  | @tuple l' o' xs' n' _ _ k1 k2 k3 k4 =>
  have n1 : xs.size = (x1 :: r1).length := by simpa using SeqAt.ReadsAll.length _ _ _ h4
  have n2 : xs'.size = (x2 :: r2).length := by simpa using SeqAt.ReadsAll.length _ _ _ k4
  rw [dataLt_tuple]
  rcases ak with (al | ⟨y, r, y', r', ey, ey', al, ne⟩) | ⟨y, z, r, y', z', r', ey, ey', al0, eq0, al, ne⟩
  · exact kat_lt h1 h3 k1 k3 (katLex_alike (x1 :: r1) (x2 :: r2) 0 _ _ _ _ h4 k4 (by simpa [alike] using al) (by have := Nat.min_le_left (PyData.depthAll (x1 :: r1)) (PyData.depthAll (x2 :: r2)); omega)
      (fun hb _ x r t ex => by obtain ⟨rfl, rfl⟩ := List.cons.inj ex; exact htop hb t) (by rw [n1, n2]) ⟨rfl, rfl⟩)
  · cases ey
    cases ey'
    have dn : x1 ≠ .none := ne_none_of al ne
    refine kat_lt h1 h3 k1 k3 ?_
    cases hx : xs.toList with
    | nil =>
      rw [hx] at h4
      cases h4
    | cons f fr =>
    cases hx' : xs'.toList with
    | nil =>
      rw [hx'] at k4
      cases k4
    | cons g gr =>
    rw [hx] at h4
    rw [hx'] at k4
    cases h4 with
    | cons ra1 ra2 =>
    cases k4 with
    | cons rb1 rb2 =>
    have hroom : A.units + min x1.depth x2.depth < cLine := by
      have := Nat.min_le_left x1.depth x2.depth
      omega
    refine kat_cons ((eqAt_alike x1 x2 A s f g _ _ ra1 rb1 al hroom) prog w _ _ ?_)
    rw [ne]
    refine kat_no (oneLt_alike (fun hb t e => ?_) ra1 rb1 al dn hroom ⟨rfl, (dataLt_all_no al ne).symm⟩)
    rw [Bool.and_eq_true] at hb
    exact htop hb.1 t e
  · cases ey
    cases ey'
    have dn : z ≠ .none := ne_none_of al ne
    refine kat_lt h1 h3 k1 k3 ?_
    cases hx : xs.toList with
    | nil =>
      rw [hx] at h4
      cases h4
    | cons f fr =>
    cases hx' : xs'.toList with
    | nil =>
      rw [hx'] at k4
      cases k4
    | cons g gr =>
    rw [hx] at h4
    rw [hx'] at k4
    cases h4 with
    | cons ra1 ra2 =>
    cases k4 with
    | cons rb1 rb2 =>
    cases ra2 with
    | cons ra2 ra3 =>
    cases rb2 with
    | cons rb2 rb3 =>
    have hd2 : z.depth ≤ PyData.depthAll (x1 :: z :: r) := by
      simp only [PyData.depthAll]
      omega
    have hroom : A.units + min x1.depth x2.depth < cLine := by
      have := Nat.min_le_left x1.depth x2.depth
      omega
    have hroom2 : A.units + min z.depth z'.depth < cLine := by
      have := Nat.min_le_left z.depth z'.depth
      omega
    refine kat_cons ((eqAt_alike x1 x2 A s f g _ _ ra1 rb1 al0 hroom) prog w _ _ ?_)
    rw [eq0]
    refine kat_yes (kat_cons ((eqAt_alike z z' A s _ _ _ _ ra2 rb2 al hroom2) prog w _ _ ?_))
    rw [ne]
    refine kat_no (oneLt_alike (fun hb t e => ?_) ra2 rb2 al dn hroom2 ⟨rfl, ((dataLt_all_yes al0 eq0).trans (dataLt_all_no al ne)).symm⟩)
    rw [Bool.and_eq_true] at hb
    exact absurd hb.2 (by decide)
end
/-- sorted(xs) of such tuples: sorted by what they are, stable -/
def rSortedB (K : PySem.W.Frag) : List V → Hp → VK → Prop := fun vs H Q => ∃ (a : Addr) (xs : List V) (k : V → PyData) (T : Value), vs = [.ref a] ∧ SqL K H a xs ∧ (∀ x ∈ xs, ∃ t y r, x = .ref t ∧ Dp K H x (k x) ∧ k x = .tuple (y :: r) ∧ dataType y = T) ∧
  (∀ x ∈ xs, ∀ y ∈ xs, Akin3 (k x) (k y)) ∧ (∀ x ∈ xs, (k x).depth ≤ 50) ∧
  ∀ ys p, Srtd (fun x y => dataLt (k x) (k y)) ys → Stb (fun x y => dataLt (k x) (k y)) ys xs → H p = none → Q (.ref p) (upd H p (.lst ys))
section
variable {X : Cx}
theorem cr_sortedB (hu : X.A.units + 64 < cLine) : CallR X (.builtin "sorted") (rSortedB X.K) := by
  intro pins s σ H vs us Q I r h
  obtain ⟨a, xs, k, T, rfl, hs, hx, hk, dep, q⟩ := h
  obtain ⟨its, rv, hl, hz⟩ := I.list hs
  obtain rfl := Vals.ref1 r
  obtain ⟨e1, e2⟩ := refs_back rv fun x m => by
    obtain ⟨t, _, _, e, _⟩ := hx x m
    exact ⟨t, e⟩
  have mem : ∀ v ∈ its, backV v ∈ xs := fun v hv => by
    rw [e1]
    exact List.mem_map.mpr ⟨_, hv, rfl⟩
  have read : ∀ v ∈ its, ∃ as y r, Reads s.heap v (k (backV v)) as ∧ k (backV v) = .tuple (y :: r) ∧ dataType y = T := fun v hv => by
    obtain ⟨t, y, r, et, dp, ek, ty⟩ := hx _ (mem v hv)
    obtain ⟨b, rfl⟩ := e2 v hv
    obtain ⟨as, rd⟩ := Dp.reads I _ _ (.ref b) dp rfl
    exact ⟨as, y, r, rd, ek, ty⟩
  refine sorted_ord (ltv := fun v u => dataLt (k (backV v)) (k (backV u))) (swo_data fun v => k (backV v)) hl.isList (by rw [← rv.length]; exact hz) (fun h2 h₁ a' ha kk h' keep => ?_) fun out h1 h2 => ?_
  · have up : ∀ b o, s.heap.get? b = some o → h'.get? b = some o := fun b o e => keep b o (kk b o e).1 (kk b o e).2
    have read' : ∀ v ∈ its, ∃ as y r, Reads h' v (k (backV v)) as ∧ k (backV v) = .tuple (y :: r) ∧ dataType y = T := fun v hv => by
      obtain ⟨as, y, r, rd, ek, ty⟩ := read v hv
      exact ⟨as, y, r, PyProof.Rows.Reads.keeps up rd, ek, ty⟩
    refine ⟨tuples' (T != Value.type "tuple"), fun Q' E hq => ?_, akin_cmp T read' (fun v hv u hu' => hk _ (mem v hv) _ (mem u hu')) fun v hv => ?_⟩
    · obtain ⟨fs, t1, t2, t3⟩ : ∃ fs, KatTups h' its fs ∧ fs.length = its.length ∧ ∀ f ∈ fs, ∃ y as, Reads h' f y as ∧ dataType y = T := by
        clear hq h2 ha hl rv e1 mem read hz
        revert read' e2
        generalize its = vs
        intro e2 read'
        induction vs with
        | nil => exact ⟨[], KatTups.nil, rfl, fun f hf => absurd hf List.not_mem_nil⟩
        | cons v vs ih =>
          obtain ⟨fs, t1, t2, t3⟩ := ih (fun u hu => e2 u (List.mem_cons_of_mem _ hu)) fun u hu => read' u (List.mem_cons_of_mem _ hu)
          obtain ⟨as, y, r, rd, ek, ty⟩ := read' v (List.mem_cons_self ..)
          rw [ek] at rd
          cases rd with
          | @tuple a o xs n _ _ ho hc hd hr =>
            cases qq : xs.toList with
            | nil =>
              rw [qq] at hr
              cases hr
            | cons f fr =>
              rw [qq] at hr
              cases hr with
              | cons r1 r2 =>
                have hf : xs[0]? = some f := by rw [← Array.getElem?_toList, qq]; rfl
                refine ⟨f :: fs, KatTups.cons ho hc hd hf t1, by rw [List.length_cons, List.length_cons, t2], fun g hg => ?_⟩
                rcases List.mem_cons.mp hg with rfl | hg
                · exact ⟨y, _, r1, ty⟩
                · exact t3 g hg
      refine kat_kind (T := T) t1 (by omega) (fun f hf => ?_) (by obtain ⟨y, as, _, ty⟩ := t3 (fs[0]'(by omega)) (List.getElem_mem _); rw [← ty]; exact beq_self_eq_true _) hq
      obtain ⟨y, as, rd, ty⟩ := t3 f hf
      rw [← ty]
      exact looks_reads rd
    · have := dep _ (mem v hv)
      show X.A.units + 1 + 1 + _ < cLine
      omega
  · have h3 : ∀ u ∈ out, ∃ a, u = Value.ref a := fun u hu => e2 u (h2.perm.mem_iff.mp hu)
    obtain ⟨ep, he'⟩ := PyProof.Rows.sortedAll_at s.heap its out.toArray
    have hb : Stb (fun x y => dataLt (k x) (k y)) (out.map backV) xs := by
      rw [e1]
      exact Stb.map (swo_data k) backV h2
    exact ⟨.ref _, upd H (s.heap.objs.size + 1) (.lst (out.map backV)), I.laid (t' := s.toks) (fun _ _ => PyProof.Rows.sortedAll_old) (Nat.le_succ _) ⟨by rw [hb.len]; exact hz, out, ep, vals_back h3, he'⟩, rfl, q _ _ (srtd_map h1) hb (I.hok.fresh (Nat.le_succ _))⟩
/-- sorted(xs) of such tuples: sorted by what they are, stable -/
def rSortedA (K : PySem.W.Frag) : List V → Hp → VK → Prop := fun vs H Q => ∃ (a : Addr) (xs : List V) (k : V → PyData) (T : Value), vs = [.ref a] ∧ SqL K H a xs ∧ (∀ x ∈ xs, ∃ t y r, x = .ref t ∧ Dp K H x (k x) ∧ k x = .tuple (y :: r) ∧ dataType y = T) ∧
  (∀ x ∈ xs, ∀ y ∈ xs, Akin (k x) (k y)) ∧ (∀ x ∈ xs, (k x).depth ≤ 50) ∧
  ∀ ys p, Srtd (fun x y => dataLt (k x) (k y)) ys → Stb (fun x y => dataLt (k x) (k y)) ys xs → H p = none → Q (.ref p) (upd H p (.lst ys))
theorem cr_sortedA (hu : X.A.units + 64 < cLine) : CallR X (.builtin "sorted") (rSortedA X.K) := fun pins s σ H vs us Q I r ⟨a, xs, k, T, e, hs, hx, hk, q⟩ => cr_sortedB hu pins s σ H vs us Q I r ⟨a, xs, k, T, e, hs, hx, fun x m y n => .inl (hk x m y n), q⟩
end
end Sa
/-! A layer without heap: values are data or places of a store of one's own objects. -/
namespace Zl
open PySem PySem.Spec PyProof.Rows L2
/-! ### data that nobody changes any more -/
mutual
inductive Dz (Z : Hp) : V → PyData → Prop
  | non : Dz Z .non .none
  | bl (b : Bool) : Dz Z (.bl b) (.bool b)
  | int (i : Int) : Dz Z (.int i) (.int i)
  | str (x : Str) : Dz Z (.str x) (.str x)
  | lst {a : Addr} {xs : List V} {ds : List PyData} : Z a = some (.lst xs) → DzAll Z xs ds → Dz Z (.ref a) (.list ds)
  | tup {a : Addr} {xs : List V} {ds : List PyData} : Z a = some (.tup xs) → DzAll Z xs ds → Dz Z (.ref a) (.tuple ds)
inductive DzAll (Z : Hp) : List V → List PyData → Prop
  | nil : DzAll Z [] []
  | cons {v : V} {vs : List V} {d : PyData} {ds : List PyData} : Dz Z v d → DzAll Z vs ds → DzAll Z (v :: vs) (d :: ds)
end
mutual
theorem Dz.mono {Z Z' : Hp} (g : ∀ x o, Z x = some o → Z' x = some o) : ∀ (d : PyData) (v : V), Dz Z v d → Dz Z' v d
  | .none, _, h => by cases h; exact .non
  | .bool b, _, h => by cases h; exact .bl b
  | .int i, _, h => by cases h; exact .int i
  | .str x, _, h => by cases h; exact .str x
  | .list ds, _, h => by
    cases h with
    | lst h1 h2 => exact .lst (g _ _ h1) (DzAll.mono g ds _ h2)
  | .tuple ds, _, h => by
    cases h with
    | tup h1 h2 => exact .tup (g _ _ h1) (DzAll.mono g ds _ h2)
  | .dict _, _, h => by cases h
theorem DzAll.mono {Z Z' : Hp} (g : ∀ x o, Z x = some o → Z' x = some o) : ∀ (ds : List PyData) (vs : List V), DzAll Z vs ds → DzAll Z' vs ds
  | [], _, h => by cases h; exact .nil
  | d :: ds, _, h => by
    cases h with
    | cons h1 h2 => exact .cons (Dz.mono g d _ h1) (DzAll.mono g ds _ h2)
end
mutual
theorem Dz.dp {K : PySem.W.Frag} {Z : Hp} : ∀ (d : PyData) (v : V), Dz Z v d → Dp K Z v d
  | .none, _, h => by cases h; exact .non
  | .bool b, _, h => by cases h; exact .bl b
  | .int i, _, h => by cases h; exact .int i
  | .str x, _, h => by cases h; exact .str x
  | .list ds, _, h => by
    cases h with
    | lst h1 h2 => exact .lst (SqL.of h1) (DzAll.dp ds _ h2)
  | .tuple ds, _, h => by
    cases h with
    | tup h1 h2 => exact .tup (SqT.of h1) (DzAll.dp ds _ h2)
  | .dict _, _, h => by cases h
theorem DzAll.dp {K : PySem.W.Frag} {Z : Hp} : ∀ (ds : List PyData) (vs : List V), DzAll Z vs ds → DpAll K Z vs ds
  | [], _, h => by cases h; exact .nil
  | d :: ds, _, h => by
    cases h with
    | cons h1 h2 => exact .cons (Dz.dp d _ h1) (DzAll.dp ds _ h2)
end
/-! ### values, objects of one's own -/
inductive Val where
  | dat (d : PyData) | ptr (a : Addr) | scr (ns : List Int) | prt (k : PyData) (a : Addr)
inductive Node where
  | lst (xs : List Val)
  | dv (kvs : List (NestedKey × Val))
  | dvl (ob : Obj) (ks : List Vd.KVR) (kvs : List (NestedKey × Val))
  | ins (C dx : Addr) (fs : List (Str × Val))
  | tab (q : Str)
abbrev Store := List (Addr × Node)
def Fz (μ : Store) (H : Hp) : Hp := fun x => if x ∈ μ.map (·.1) then none else H x
theorem Fz.sub {μ : Store} {H : Hp} {x : Addr} {o : HO} (h : Fz μ H x = some o) : x ∉ μ.map (·.1) ∧ H x = some o := by
  unfold Fz at h
  split at h
  · cases h
  · rename_i c
    exact ⟨c, h⟩
theorem Fz.of {μ : Store} {H : Hp} {x : Addr} {o : HO} (h : x ∉ μ.map (·.1)) (e : H x = some o) : Fz μ H x = some o := by
  unfold Fz
  rw [if_neg h]
  exact e
def RV (K : PySem.W.Frag) (Z : Hp) (v : V) : Val → Prop
  | .dat d => Dz Z v d
  | .ptr a => v = .ref a
  | .scr ns => ∃ a, v = .ref a ∧ SqL K Z a (ns.map V.int)
  | .prt k a => ∃ t u, v = .ref t ∧ Z t = some (.tup [u, .ref a]) ∧ Dz Z u k
theorem sqL_mono {K : PySem.W.Frag} {Z Z' : Hp} {a : Addr} {xs : List V} (g : ∀ x o, Z x = some o → Z' x = some o) (h : SqL K Z a xs) : SqL K Z' a xs := by
  rcases h with (h | ⟨o, h⟩) | h
  · exact .inl (.inl (g _ _ h))
  · exact .inl (.inr ⟨o, g _ _ h⟩)
  · exact .inr h
theorem RV.mono {K : PySem.W.Frag} {Z Z' : Hp} (g : ∀ x o, Z x = some o → Z' x = some o) {v : V} {x : Val} (h : RV K Z v x) : RV K Z' v x := by
  cases x with
  | dat d => exact Dz.mono g d v h
  | ptr a => exact h
  | scr ns => exact h.imp fun a z => ⟨z.1, sqL_mono g z.2⟩
  | prt k a => exact h.imp fun t z => z.imp fun u z => ⟨z.1, g _ _ z.2.1, Dz.mono g k _ z.2.2⟩
def RVo (K : PySem.W.Frag) (Z : Hp) : Option V → Option Val → Prop
  | some v, some x => RV K Z v x
  | none, some _ => False
  | _, none => True
theorem RVo.mono {K : PySem.W.Frag} {Z Z' : Hp} (g : ∀ x o, Z x = some o → Z' x = some o) {v : Option V} {x : Option Val} (h : RVo K Z v x) : RVo K Z' v x := by
  cases x with
  | none => cases v <;> trivial
  | some x =>
    cases v with
    | none => exact h
    | some v => exact RV.mono g h
abbrev RVs (K : PySem.W.Frag) (Z : Hp) : List V → List Val → Prop := Paired (RV K Z)
def RF (K : PySem.W.Frag) (Z : Hp) (p : Str × V) (q : Str × Val) : Prop := p.1 = q.1 ∧ RV K Z p.2 q.2
def RK (K : PySem.W.Frag) (Z : Hp) (p : Vd.KVR) (q : NestedKey × Val) : Prop := p.1 = q.1 ∧ Vd.KeyOk p.1 ∧ Vd.KeyAt Z p.1 p.2.1 ∧ RV K Z p.2.2 q.2
def RN (w : World) (K : PySem.W.Frag) (Z H : Hp) (a : Addr) : Node → Prop
  | .lst xs => ∃ vs, H a = some (.lst vs) ∧ RVs K Z vs xs
  | .dv kvs => ∃ ks : List Vd.KVR, H a = some (Vd.dV w a ks) ∧ (ks.map (·.1)).Nodup ∧ Paired (RK K Z) ks kvs
  | .dvl ob ks kvs => H a = some (.frz ob (Vd.dV w a ks)) ∧ (ks.map (·.1)).Nodup ∧ Paired (RK K Z) ks kvs
  | .ins C dx fs => ∃ gs, H a = some (.ins C dx gs) ∧ Paired (RF K Z) gs fs
  | .tab q => ∃ ps : Array Value, H a = some (.tbl ps) ∧ TriplesOk ps.toList ∧ ∀ pos cv, codeAmong pos ps.toList = some cv → ∃ c, cv = .ref c ∧ Z c = some (LamX.CodeO c q)
theorem RN.mono {w : World} {K : PySem.W.Frag} {Z Z' H H' : Hp} (g : ∀ x o, Z x = some o → Z' x = some o) {a : Addr} {n : Node} (h : RN w K Z H a n) (e : H' a = H a) : RN w K Z' H' a n := by
  cases n with
  | lst xs => exact h.imp fun vs z => ⟨e.trans z.1, L2.Paired.mapP z.2 fun _ _ => RV.mono g⟩
  | dv kvs => exact h.imp fun ks z => ⟨e.trans z.1, z.2.1, L2.Paired.mapP z.2.2 fun _ _ k => ⟨k.1, k.2.1, k.2.2.1.keep fun a xs h => g _ _ h, RV.mono g k.2.2.2⟩⟩
  | dvl ob ks kvs => exact ⟨e.trans h.1, h.2.1, L2.Paired.mapP h.2.2 fun _ _ k => ⟨k.1, k.2.1, k.2.2.1.keep fun a xs h => g _ _ h, RV.mono g k.2.2.2⟩⟩
  | ins C dx fs => exact h.imp fun gs z => ⟨e.trans z.1, L2.Paired.mapP z.2 fun _ _ k => ⟨k.1, RV.mono g k.2⟩⟩
  | tab q => exact h.imp fun ps z => ⟨e.trans z.1, z.2.1, fun pos cv h => (z.2.2 pos cv h).imp fun c k => ⟨k.1, g _ _ k.2⟩⟩
theorem RN.live {w : World} {K : PySem.W.Frag} {Z H : Hp} {a : Addr} {n : Node} (h : RN w K Z H a n) : H a ≠ none := by
  cases n with
  | lst xs =>
    obtain ⟨_, e, _⟩ := h
    rw [e]
    intro z
    cases z
  | dv kvs =>
    obtain ⟨_, e, _⟩ := h
    rw [e]
    intro z
    cases z
  | dvl ob ks kvs =>
    obtain ⟨e, _⟩ := h
    rw [e]
    intro z
    cases z
  | ins C dx fs =>
    obtain ⟨_, e, _⟩ := h
    rw [e]
    intro z
    cases z
  | tab q =>
    obtain ⟨_, e, _⟩ := h
    rw [e]
    intro z
    cases z
/-! ### the relation -/
abbrev DR := List (Option Val)
abbrev DK := Val → Store → Prop
/-- what stands behind: what nobody changes, what one's own hide for a while -/
structure Base where
  hp : Hp
  fr : Store
structure RL (w : World) (K : PySem.W.Frag) (B : Base) (H : Hp) (σ : List (Option V)) (ρ : DR) (μ : Store) : Prop where
  nd : ((B.fr ++ μ).map (·.1)).Nodup
  base : ∀ x o, B.hp x = some o → Fz (B.fr ++ μ) H x = some o
  sl : Paired (RVo K (Fz (B.fr ++ μ) H)) σ ρ
  st : ∀ p, p ∈ B.fr ++ μ → RN w K (Fz (B.fr ++ μ) H) H p.1 p.2
section
variable {w : World} {K : PySem.W.Frag} {B : Base} {H H' : Hp} {σ σ' : List (Option V)} {ρ ρ' : DR} {μ μ' : Store} {p a : Addr} {o : HO} {n n' : Node}
theorem RL.step (R : RL w K B H σ ρ μ) (nd : ((B.fr ++ μ').map (·.1)).Nodup) (g : ∀ x o, Fz (B.fr ++ μ) H x = some o → Fz (B.fr ++ μ') H' x = some o) (st : ∀ p, p ∈ B.fr ++ μ' → RN w K (Fz (B.fr ++ μ') H') H' p.1 p.2) : RL w K B H' σ ρ μ' :=
  ⟨nd, fun x o h => g _ _ (R.base x o h), L2.Paired.mapP R.sl fun _ _ => RVo.mono g, st⟩
theorem RL.live (R : RL w K B H σ ρ μ) (h : H p = none) : p ∉ (B.fr ++ μ).map (·.1) := fun z => by
  obtain ⟨q, hq, rfl⟩ := List.mem_map.mp z
  exact (R.st q hq).live h
/-- a new object of one's own -/
theorem RL.new (R : RL w K B H σ ρ μ) (hp : H p = none) (hn : RN w K (Fz (B.fr ++ μ) H) (upd H p o) p n) : RL w K B (upd H p o) σ ρ (μ ++ [(p, n)]) := by
  have lv := R.live hp
  have g : ∀ x u, Fz (B.fr ++ μ) H x = some u → Fz (B.fr ++ (μ ++ [(p, n)])) (upd H p o) x = some u := fun x u h => by
    obtain ⟨h1, h2⟩ := Fz.sub h
    have ne : x ≠ p := ne_of_none h2 hp
    refine Fz.of ?_ (by rw [upd_ne ne]; exact h2)
    rw [← List.append_assoc, List.map_append, List.mem_append]
    rintro (z | z)
    · exact h1 z
    · exact ne (List.mem_singleton.mp z)
  refine R.step ?_ g fun q hq => ?_
  · rw [← List.append_assoc, List.map_append, List.nodup_append]
    refine ⟨R.nd, by simp, fun x hx y hy => ?_⟩
    rw [List.map_singleton, List.mem_singleton] at hy
    rintro rfl
    rw [hy] at hx
    exact lv hx
  · rw [← List.append_assoc] at hq
    rcases List.mem_append.mp hq with hq | hq
    · refine (R.st q hq).mono g (upd_ne fun z => lv ?_)
      rw [← z]
      exact List.mem_map_of_mem hq
    · rw [List.mem_singleton.mp hq]
      exact hn.mono g rfl
/-- a new object that nobody changes -/
theorem RL.newZ (R : RL w K B H σ ρ μ) (hp : H p = none) : RL w K B (upd H p o) σ ρ μ ∧ (∀ x u, Fz (B.fr ++ μ) H x = some u → Fz (B.fr ++ μ) (upd H p o) x = some u) ∧ Fz (B.fr ++ μ) (upd H p o) p = some o := by
  have lv := R.live hp
  have g : ∀ x u, Fz (B.fr ++ μ) H x = some u → Fz (B.fr ++ μ) (upd H p o) x = some u := fun x u h => by
    obtain ⟨h1, h2⟩ := Fz.sub h
    exact Fz.of h1 (by rw [upd_ne (ne_of_none h2 hp)]; exact h2)
  refine ⟨R.step R.nd g fun q hq => (R.st q hq).mono g (upd_ne fun z => lv ?_), g, Fz.of lv upd_same⟩
  rw [← z]
  exact List.mem_map_of_mem hq
/-- an object of one's own is changed -/
theorem map_set_fst {j : Nat} (h : μ[j]? = some (a, n)) : (μ.set j (a, n')).map (·.1) = μ.map (·.1) := by
  rw [List.map_set]
  refine List.ext_getElem? fun i => ?_
  rw [List.getElem?_set]
  split
  · rename_i e
    subst e
    rw [List.getElem?_map, h, List.length_map, if_pos (List.getElem?_eq_some_iff.mp h).1]
    rfl
  · rfl
theorem RL.put (R : RL w K B H σ ρ μ) {j : Nat} (hj : μ[j]? = some (a, n)) (hn : RN w K (Fz (B.fr ++ μ) H) (upd H a o) a n') : RL w K B (upd H a o) σ ρ (μ.set j (a, n')) := by
  have em : (B.fr ++ μ.set j (a, n')).map (·.1) = (B.fr ++ μ).map (·.1) := by rw [List.map_append, List.map_append, map_set_fst hj]
  have ha : a ∈ (B.fr ++ μ).map (·.1) := List.mem_map.mpr ⟨_, List.mem_append_right _ (List.mem_of_getElem? hj), rfl⟩
  have g : ∀ x u, Fz (B.fr ++ μ) H x = some u → Fz (B.fr ++ μ.set j (a, n')) (upd H a o) x = some u := fun x u h => by
    obtain ⟨h1, h2⟩ := Fz.sub h
    exact Fz.of (by rw [em]; exact h1) (by rw [upd_ne (show x ≠ a from fun z => h1 (by rw [z]; exact ha))]; exact h2)
  have nd := R.nd
  rw [List.map_append, List.nodup_append] at nd
  refine R.step (by rw [em]; exact R.nd) g fun q hq => ?_
  rcases List.mem_append.mp hq with hq | hq
  · refine (R.st _ (List.mem_append_left _ hq)).mono g (upd_ne fun z => ?_)
    exact nd.2.2 _ (List.mem_map_of_mem hq) _ (List.mem_map_of_mem (List.mem_of_getElem? hj)) z
  · obtain ⟨i, hi, rfl⟩ := List.mem_iff_getElem.mp hq
    rw [List.length_set] at hi
    by_cases e : j = i
    · subst e
      rw [List.getElem_set_self]
      exact hn.mono g rfl
    · rw [List.getElem_set_ne e]
      refine (R.st _ (List.mem_append_right _ (List.getElem_mem hi))).mono g (upd_ne fun z => e ?_)
      have h1 : (μ.map (·.1))[j]? = some a := by rw [List.getElem?_map, hj]; rfl
      have h2 : (μ.map (·.1))[i]? = some a := by rw [List.getElem?_map, List.getElem?_eq_getElem hi, ← z]; rfl
      exact (List.getElem?_inj (by rw [List.length_map]; exact (List.getElem?_eq_some_iff.mp hj).1) nd.2.1).mp (h1.trans h2.symm)
/-- what is known of an object -/
theorem RL.at (R : RL w K B H σ ρ μ) {j : Nat} (hj : μ[j]? = some (a, n)) : RN w K (Fz (B.fr ++ μ) H) H a n := R.st _ (List.mem_append_right _ (List.mem_of_getElem? hj))
/-- the same under another base: objects in another order, fewer of them, hidden -/
theorem RL.as {B' : Base} (R : RL w K B H σ ρ μ) (nd : ((B'.fr ++ μ').map (·.1)).Nodup) (s : ∀ p, p ∈ B'.fr ++ μ' → p ∈ B.fr ++ μ) (hb : ∀ x o, B'.hp x = some o → Fz (B'.fr ++ μ') H x = some o) :
    RL w K B' H σ ρ μ' ∧ ∀ x u, Fz (B.fr ++ μ) H x = some u → Fz (B'.fr ++ μ') H x = some u := by
  have g : ∀ x u, Fz (B.fr ++ μ) H x = some u → Fz (B'.fr ++ μ') H x = some u := fun x u h => by
    obtain ⟨h1, h2⟩ := Fz.sub h
    refine Fz.of (fun z => h1 ?_) h2
    obtain ⟨q, hq, rfl⟩ := List.mem_map.mp z
    exact List.mem_map_of_mem (s _ hq)
  exact ⟨⟨nd, hb, L2.Paired.mapP R.sl fun _ _ => RVo.mono g, fun q hq => (R.st q (s _ hq)).mono g rfl⟩, g⟩
theorem RL.sub (R : RL w K B H σ ρ μ) (nd : (μ'.map (·.1)).Nodup) (s : ∀ p, p ∈ μ' → p ∈ μ) : RL w K B H σ ρ μ' ∧ ∀ x u, Fz (B.fr ++ μ) H x = some u → Fz (B.fr ++ μ') H x = some u := by
  have s' : ∀ p, p ∈ B.fr ++ μ' → p ∈ B.fr ++ μ := fun p hp => by
    rcases List.mem_append.mp hp with h | h
    · exact List.mem_append_left _ h
    · exact List.mem_append_right _ (s _ h)
  have nd0 := R.nd
  rw [List.map_append, List.nodup_append] at nd0
  have g : ∀ x u, Fz (B.fr ++ μ) H x = some u → Fz (B.fr ++ μ') H x = some u := fun x u h => by
    obtain ⟨h1, h2⟩ := Fz.sub h
    refine Fz.of (fun z => h1 ?_) h2
    obtain ⟨q, hq, rfl⟩ := List.mem_map.mp z
    exact List.mem_map_of_mem (s' _ hq)
  refine R.as ?_ s' fun x o h => g _ _ (R.base _ _ h)
  rw [List.map_append, List.nodup_append]
  refine ⟨nd0.1, nd, fun x hx y hy => ?_⟩
  obtain ⟨q, hq, rfl⟩ := List.mem_map.mp hy
  exact nd0.2.2 _ hx _ (List.mem_map_of_mem (s _ hq))
theorem RL.perm (R : RL w K B H σ ρ μ) (h : μ'.Perm μ) : RL w K B H σ ρ μ' := by
  have nd0 := R.nd
  rw [List.map_append, List.nodup_append] at nd0
  exact (R.sub ((h.map _).nodup_iff.mpr nd0.2.1) fun p hp => h.mem_iff.mp hp).1
theorem RL.cons (R : RL w K B H σ ρ μ) {v : V} {x : Val} (h : RV K (Fz (B.fr ++ μ) H) v x) : RL w K B H (some v :: σ) (some x :: ρ) μ := ⟨R.nd, R.base, .cons h R.sl, R.st⟩
theorem RL.head {v : V} {x : Val} (R : RL w K B H (some v :: σ) (some x :: ρ) μ) : RV K (Fz (B.fr ++ μ) H) v x := by
  obtain ⟨_, _, h, _⟩ := R
  cases h with
  | cons h1 h2 => exact h1
theorem RL.tail {v : Option V} {x : Option Val} (R : RL w K B H (v :: σ) (x :: ρ) μ) : RL w K B H σ ρ μ := by
  obtain ⟨h1, h2, h, h3⟩ := R
  cases h with
  | cons _ h => exact ⟨h1, h2, h, h3⟩
theorem paired_get {α β : Type} {F : α → β → Prop} : ∀ {l₁ : List α} {l₂ : List β} {i : Nat} {y : β}, Paired F l₁ l₂ → l₂[i]? = some y → ∃ x, l₁[i]? = some x ∧ F x y
  | _, _, _, _, .nil, e => by simp at e
  | _, _, 0, _, .cons r _, e => by simp at e; subst e; exact ⟨_, rfl, r⟩
  | _, _, i + 1, _, .cons _ t, e => by simpa using paired_get (i := i) t (by simpa using e)
theorem paired_app {α β : Type} {F : α → β → Prop} : ∀ {a : List α} {b : List β} {c : List α} {d : List β}, Paired F a b → Paired F c d → Paired F (a ++ c) (b ++ d)
  | _, _, _, _, .nil, h => h
  | _, _, _, _, .cons r t, h => .cons r (paired_app t h)
theorem paired_split {α β : Type} {F : α → β → Prop} : ∀ {a : List α} {b : List β} {c : List α} {d : List β}, a.length = b.length → Paired F (a ++ c) (b ++ d) → Paired F a b ∧ Paired F c d
  | [], [], _, _, _, h => ⟨.nil, h⟩
  | _ :: _, _ :: _, _, _, l, .cons r t => by
    obtain ⟨h1, h2⟩ := paired_split (by simpa using l) t
    exact ⟨.cons r h1, h2⟩
theorem paired_set {α β : Type} {F : α → β → Prop} {x : α} {y : β} : ∀ {l₁ : List α} {l₂ : List β} (i : Nat), Paired F l₁ l₂ → F x y → Paired F (l₁.set i x) (l₂.set i y)
  | _, _, _, .nil, _ => .nil
  | _, _, 0, .cons _ t, h => .cons h t
  | _, _, i + 1, .cons r t, h => .cons r (paired_set i t h)
theorem RL.rest {a : List (Option V)} {b : DR} (R : RL w K B H (a ++ σ) (b ++ ρ) μ) (l : a.length = b.length) : RL w K B H σ ρ μ := ⟨R.nd, R.base, (paired_split l R.sl).2, R.st⟩
theorem RL.get (R : RL w K B H σ ρ μ) {i : Nat} {x : Val} (h : ρ[i]? = some (some x)) : ∃ v, σ[i]? = some (some v) ∧ RV K (Fz (B.fr ++ μ) H) v x := by
  obtain ⟨v, e, r⟩ := paired_get R.sl h
  cases v with
  | none => exact absurd r (by intro z; exact z)
  | some v => exact ⟨v, e, r⟩
/-- slots otherwise -/
theorem RL.slots (R : RL w K B H σ ρ μ) (s : Paired (RVo K (Fz (B.fr ++ μ) H)) σ' ρ') : RL w K B H σ' ρ' μ := ⟨R.nd, R.base, s, R.st⟩
end
end Zl
namespace Zl
open PySem PySem.Spec PyProof.Rows L2
abbrev DTE := DR → Store → DK → Prop
abbrev DTA := DR → Store → (List Val → Store → Prop) → Prop
abbrev DTT := DR → Store → (Bool → Store → Prop) → Prop
structure DEnds where
  nx : DR → Store → Prop
  rt : DK
  bk : DR → Store → Prop := fun _ _ => False
  ct : DR → Store → Prop := fun _ _ => False
abbrev DTS := DEnds → DR → Store → Prop
/-- what follows, above and below -/
abbrev Low (X : Cx) (B : Base) (σ : List (Option V)) (ρ : DR) (Q0 : DK) (Q : VK) : Prop := ∀ x μ, Q0 x μ → ∀ v H, RL X.w X.K B H (some v :: σ) (some x :: ρ) μ → Q v H
def up (X : Cx) (B : Base) (f : DTE) : TE := fun σ H Q => ∃ (hv : List (Option V)) (hx ρ : DR) (μ : Store) (Q0 : DK), hv.length = hx.length ∧ RL X.w X.K B H (hv ++ σ) (hx ++ ρ) μ ∧ f ρ μ Q0 ∧ Low X B (hv ++ σ) (hx ++ ρ) Q0 Q
def upA (X : Cx) (B : Base) (f : DTA) : TA := fun σ H Q => ∃ (hv : List (Option V)) (hx ρ : DR) (μ : Store) (Q0 : List Val → Store → Prop), hv.length = hx.length ∧ RL X.w X.K B H (hv ++ σ) (hx ++ ρ) μ ∧ f ρ μ Q0 ∧
  ∀ xs μ', Q0 xs μ' → ∀ vs H', vs.length = xs.length → RL X.w X.K B H' (vs.map some ++ (hv ++ σ)) (xs.map some ++ (hx ++ ρ)) μ' → Q vs H'
def upT (X : Cx) (B : Base) (f : DTT) : TT := fun σ H Q => ∃ (hv : List (Option V)) (hx ρ : DR) (μ : Store) (Q0 : Bool → Store → Prop), hv.length = hx.length ∧ RL X.w X.K B H (hv ++ σ) (hx ++ ρ) μ ∧ f ρ μ Q0 ∧
  ∀ b μ', Q0 b μ' → ∀ H', RL X.w X.K B H' (hv ++ σ) (hx ++ ρ) μ' → Q b H'
structure Below (X : Cx) (B : Base) (E : DEnds) (D : Ends) : Prop where
  nx : ∀ ρ μ, E.nx ρ μ → ∀ σ H, RL X.w X.K B H σ ρ μ → D.nx σ H
  rt : ∀ x μ, E.rt x μ → ∀ v H, RL X.w X.K B H [some v] [some x] μ → D.rt v H
  bk : ∀ ρ μ, E.bk ρ μ → ∀ σ H, RL X.w X.K B H σ ρ μ → D.bk σ H
  ct : ∀ ρ μ, E.ct ρ μ → ∀ σ H, RL X.w X.K B H σ ρ μ → D.ct σ H
def upS (X : Cx) (B : Base) (t : DTS) : TS := fun D σ H => ∃ (ρ : DR) (μ : Store) (E : DEnds), RL X.w X.K B H σ ρ μ ∧ t E ρ μ ∧ Below X B E D
structure DE (X : Cx) (e : Expr) (f : DTE) : Prop where
  run : ∀ B : Base, PE X e (up X B f)
structure DA (X : Cx) (es : List Expr) (f : DTA) : Prop where
  run : ∀ B : Base, PA X es (upA X B f)
structure DT (X : Cx) (e : Expr) (f : DTT) : Prop where
  run : ∀ B : Base, PT X e (upT X B f)
structure DW (X : Cx) (e : Expr) (f : DTT) : Prop where
  run : ∀ B : Base, PW X e (upT X B f)
structure DS (X : Cx) (s : Stmt) (f : DTS) : Prop where
  run : ∀ B : Base, PS X s (upS X B f)
structure DSs (X : Cx) (s : List Stmt) (f : DTS) : Prop where
  run : ∀ B : Base, PSs X s (upS X B f)
section
variable {X : Cx} {B : Base}
theorem PE.weak {e : Expr} {t t' : TE} (h : PE X e t) (w : ∀ σ H Q, t' σ H Q → t σ H Q) : PE X e t' := ⟨fun pins s σ H Q I q => h.run pins s σ H Q I (w _ _ _ q)⟩
theorem PT.weak {e : Expr} {t t' : TT} (h : PT X e t) (w : ∀ σ H Q, t' σ H Q → t σ H Q) : PT X e t' := ⟨fun pins s σ H Q I q => h.run pins s σ H Q I (w _ _ _ q)⟩
theorem PW.weak {e : Expr} {t t' : TT} (h : PW X e t) (w : ∀ σ H Q, t' σ H Q → t σ H Q) : PW X e t' := ⟨fun wh pins s σ H Q I q => h.run wh pins s σ H Q I (w _ _ _ q)⟩
theorem PA.weak {e : List Expr} {t t' : TA} (h : PA X e t) (w : ∀ σ H Q, t' σ H Q → t σ H Q) : PA X e t' := ⟨fun pos pins s σ H Q I q => h.run pos pins s σ H Q I (w _ _ _ q)⟩
theorem PS.weak {e : Stmt} {t t' : TS} (h : PS X e t) (w : ∀ D σ H, t' D σ H → t D σ H) : PS X e t' := ⟨fun pins s σ H D I q => h.run pins s σ H D I (w _ _ _ q)⟩
theorem PSs.weak {e : List Stmt} {t t' : TS} (h : PSs X e t) (w : ∀ D σ H, t' D σ H → t D σ H) : PSs X e t' := ⟨fun pins s σ H D I q => h.run pins s σ H D I (w _ _ _ q)⟩
theorem OpR.weak {f : Value → Value → Sem Value} {r r' : R2} (h : OpR X f r) (w : ∀ x y H Q, r' x y H Q → r x y H Q) : OpR X f r' := fun pins s σ H x y v u Q I rx ry q => h pins s σ H x y v u Q I rx ry (w _ _ _ _ q)
/-! ### operators -/
abbrev DR2 := Val → Val → Store → DK → Prop
/-- r asks no more than R -/
def Op2 (X : Cx) (B : Base) (r : R2) (R : DR2) : Prop := ∀ (σ : List (Option V)) (ρ : DR) (H : Hp) (μ : Store) (u v : V) (x y : Val) (Q0 : DK) (Q : VK), RL X.w X.K B H (some v :: some u :: σ) (some y :: some x :: ρ) μ → R x y μ Q0 → Low X B σ ρ Q0 Q → r u v H Q
structure OpZ (X : Cx) (f : Value → Value → Sem Value) (R : DR2) : Prop where
  ex : ∃ r : R2, OpR X f r ∧ ∀ B : Base, Op2 X B r R
abbrev dOp (R : DR2) (fa fb : DTE) : DTE := fun ρ μ Q => fa ρ μ fun x μ1 => fb ρ μ1 fun y μ2 => R x y μ2 Q
theorem up_op {r : R2} {R : DR2} {fa fb : DTE} (S : Op2 X B r R) {σ : L2.St} {H : Hp} {Q : VK} (h : up X B (dOp R fa fb) σ H Q) : tOp r (up X B fa) (up X B fb) σ H Q := by
  obtain ⟨hv, hx, ρ, μ, Q0, hl, R0, h, low⟩ := h
  refine ⟨hv, hx, ρ, μ, _, hl, R0, h, fun x μ1 h1 u H1 R1 => ?_⟩
  refine ⟨some u :: hv, some x :: hx, ρ, μ1, _, by simp [hl], R1, h1, fun y μ2 h2 v H2 R2 => ?_⟩
  exact S _ _ _ _ _ _ _ _ _ _ R2 h2 low
theorem d_bin {a b : Expr} {op : Operator} {R : DR2} {fa fb : DTE} {pos : Pos} (o : OpZ X (binaryOp op) R) (ha : DE X a fa) (hb : DE X b fb) : DE X (.BinOp a op b pos) (dOp R fa fb) := by
  obtain ⟨r, h1, h2⟩ := o.ex
  exact ⟨fun B => PE.weak (pe_op h1 (ha.run B) (hb.run B)) fun _ _ _ h => up_op (h2 B) h⟩
theorem d_cmp {a b : Expr} {op : CmpOp} {R : DR2} {fa fb : DTE} {pos : Pos} (o : OpZ X (compareOp op) R) (ha : DE X a fa) (hb : DE X b fb) (hm : behindInMarks op b = false) : DE X (.Compare a [op] [b] pos) (dOp R fa fb) := by
  obtain ⟨r, h1, h2⟩ := o.ex
  exact ⟨fun B => PE.weak (pe_cmpR h1 (ha.run B) (hb.run B) hm) fun _ _ _ h => up_op (h2 B) h⟩
/-- a value as a test -/
abbrev dB (f : DTE) : DTT := fun ρ μ Q => f ρ μ fun x μ1 => match x with | .dat (.bool b) => Q b μ1 | _ => False
theorem up_B {f : DTE} {σ : L2.St} {H : Hp} {Q : Bool → Hp → Prop} (h : upT X B (dB f) σ H Q) : tTest (up X B f) σ H Q := by
  obtain ⟨hv, hx, ρ, μ, Q0, hl, R0, h, low⟩ := h
  refine ⟨hv, hx, ρ, μ, _, hl, R0, h, fun x μ1 h1 u H1 R1 => ?_⟩
  have hd := R1.head
  match x, h1, hd with
  | .dat (.bool b), h1, hd =>
    cases (hd : Dz _ u (.bool b))
    exact ⟨b, rfl, low _ _ h1 _ R1.tail⟩
theorem dt_cmp {a b : Expr} {op : CmpOp} {R : DR2} {fa fb : DTE} {pos : Pos} (o : OpZ X (compareOp op) R) (ha : DE X a fa) (hb : DE X b fb) (hm : behindInMarks op b = false) : DT X (.Compare a [op] [b] pos) (dB (dOp R fa fb)) := by
  obtain ⟨r, h1, h2⟩ := o.ex
  refine ⟨fun B => PT.weak (pt_cmpR h1 (ha.run B) (hb.run B) hm) fun _ _ _ h => ?_⟩
  obtain ⟨hv, hx, ρ, μ, Q0, hl, R0, h, low⟩ := h
  refine up_op (h2 B) ⟨hv, hx, ρ, μ, _, hl, R0, h, fun x μ1 h1 u H1 R1 => ?_⟩
  have hd := R1.head
  match x, h1, hd with
  | .dat (.bool b), h1, hd =>
    cases (hd : Dz _ u (.bool b))
    exact ⟨b, rfl, low _ _ h1 _ R1.tail⟩
theorem dt_val {e : Expr} {f : DTE} (h : DE X e f) (he : ∀ whole, isTrue e X.env whole = (do let v ← whole; standAt e.pos; holding [v] (truthy v)) := by intro _; rfl) : DT X e (dB f) :=
  ⟨fun B => PT.weak (pt_val (h.run B) he) fun _ _ _ h => up_B h⟩
abbrev dNot (f : DTT) : DTT := fun ρ μ Q => f ρ μ fun b μ1 => Q (!b) μ1
theorem dt_not {e : Expr} {f : DTT} {pos : Pos} (h : DT X e f) : DT X (.UnaryOp .Not e pos) (dNot f) :=
  ⟨fun B => PT.weak (pt_not (h.run B)) fun _ _ _ h => by
    obtain ⟨hv, hx, ρ, μ, Q0, hl, R0, h, low⟩ := h
    exact ⟨hv, hx, ρ, μ, _, hl, R0, h, fun b μ1 h1 H1 R1 => low _ _ h1 _ R1⟩⟩
abbrev dAnd (f g : DTT) : DTT := fun ρ μ Q => f ρ μ fun b μ1 => if b = true then g ρ μ1 Q else Q false μ1
abbrev dOr (f g : DTT) : DTT := fun ρ μ Q => f ρ μ fun b μ1 => if b = true then Q true μ1 else g ρ μ1 Q
theorem dw_and {a b : Expr} {rest : List Expr} {f g : DTT} {pos : Pos} (ha : DT X a f) (hb : DW X (.BoolOp .And (b :: rest) pos) g) : DW X (.BoolOp .And (a :: b :: rest) pos) (dAnd f g) :=
  ⟨fun B => PW.weak (pw_and (ha.run B) (hb.run B)) fun _ _ _ h => by
    obtain ⟨hv, hx, ρ, μ, Q0, hl, R0, h, low⟩ := h
    refine ⟨hv, hx, ρ, μ, _, hl, R0, h, fun c μ1 h1 H1 R1 => ?_⟩
    cases c with
    | true => exact ⟨hv, hx, ρ, μ1, _, hl, R1, h1, low⟩
    | false => exact low _ _ h1 _ R1⟩
theorem dw_and1 {a : Expr} {f : DTT} {pos : Pos} (ha : DT X a f) : DW X (.BoolOp .And [a] pos) f := ⟨fun B => pw_and1 (ha.run B)⟩
theorem dw_or {a b : Expr} {rest : List Expr} {f g : DTT} {pos : Pos} (ha : DT X a f) (hb : DW X (.BoolOp .Or (b :: rest) pos) g) : DW X (.BoolOp .Or (a :: b :: rest) pos) (dOr f g) :=
  ⟨fun B => PW.weak (pw_or (ha.run B) (hb.run B)) fun _ _ _ h => by
    obtain ⟨hv, hx, ρ, μ, Q0, hl, R0, h, low⟩ := h
    refine ⟨hv, hx, ρ, μ, _, hl, R0, h, fun c μ1 h1 H1 R1 => ?_⟩
    cases c with
    | true => exact low _ _ h1 _ R1
    | false => exact ⟨hv, hx, ρ, μ1, _, hl, R1, h1, low⟩⟩
theorem dw_or1 {a : Expr} {f : DTT} {pos : Pos} (ha : DT X a f) : DW X (.BoolOp .Or [a] pos) f := ⟨fun B => pw_or1 (ha.run B)⟩
theorem DW.dt {e : Expr} {f : DTT} (h : DW X e f) : DT X e f := ⟨fun B => (h.run B).pt⟩
abbrev dIf (c : DTT) (f g : DTE) : DTE := fun ρ μ Q => c ρ μ fun b μ1 => if b = true then f ρ μ1 Q else g ρ μ1 Q
theorem d_ifExp {c a b : Expr} {fc : DTT} {fa fb : DTE} {pos : Pos} (hc : DT X c fc) (ha : DE X a fa) (hb : DE X b fb) : DE X (.IfExp c a b pos) (dIf fc fa fb) :=
  ⟨fun B => PE.weak (pe_ifExp (hc.run B) (ha.run B) (hb.run B)) fun _ _ _ h => by
    obtain ⟨hv, hx, ρ, μ, Q0, hl, R0, h, low⟩ := h
    refine ⟨hv, hx, ρ, μ, _, hl, R0, h, fun c μ1 h1 H1 R1 => ?_⟩
    cases c with
    | true => exact ⟨hv, hx, ρ, μ1, _, hl, R1, h1, low⟩
    | false => exact ⟨hv, hx, ρ, μ1, _, hl, R1, h1, low⟩⟩
/-! ### names, constants -/
abbrev dVar (i : Nat) : DTE := fun ρ μ Q => match ρ[i]? with | some (some x) => Q x μ | _ => False
theorem d_of_var {e : Expr} {i : Nat} (h : PE X e (tVar i)) : DE X e (dVar i) :=
  ⟨fun B => PE.weak h fun σ H Q q => by
    obtain ⟨hv, hx, ρ, μ, Q0, hl, R0, h, low⟩ := q
    unfold dVar at h
    split at h
    · rename_i x e
      obtain ⟨v, ev, r⟩ := (R0.rest hl).get e
      exact ⟨v, ev, low _ _ h _ _ (R0.cons r)⟩
    · exact h.elim⟩
theorem dv (i : Nat) {x : Str} {pos : Pos} (hN : X.N[i]? = some x := by rfl) (hv : Vis X.env.scope x := by first | exact Or.inl rfl | exact Or.inr (Or.inl rfl) | exact Or.inr (Or.inr rfl)) (hd : (x == ("__debug__" : Str)) = false := by decide)
    (hcd : (x == ("__classdict__" : Str)) = false := by decide) : DE X (.Name x pos) (dVar i) := d_of_var (pv i hN hv hd hcd)
abbrev dC (d : PyData) : DTE := fun _ μ Q => Q (.dat d) μ
theorem d_of_c {e : Expr} {v : V} {d : PyData} (h : PE X e (tC v)) (z : ∀ Z, Dz Z v d) : DE X e (dC d) :=
  ⟨fun B => PE.weak h fun σ H Q q => by
    obtain ⟨hv, hx, ρ, μ, Q0, hl, R0, h, low⟩ := q
    exact low _ _ h _ _ (R0.cons (z _))⟩
theorem d_int {i : Int} {j pos} : DE X (.Constant (.int i) j pos) (dC (.int i)) := d_of_c pe_int fun _ => .int i
theorem d_bl {b : Bool} {j pos} : DE X (.Constant (.bool b) j pos) (dC (.bool b)) := d_of_c pe_bl fun _ => .bl b
theorem d_non {j pos} : DE X (.Constant .none j pos) (dC .none) := d_of_c pe_non fun _ => .non
theorem d_str {x : Str} {j pos} : DE X (.Constant (.str x) j pos) (dC (.str x)) := d_of_c pe_str fun _ => .str x
/-! ### argument lists, displays -/
abbrev dNil : DTA := fun _ μ Q => Q [] μ
abbrev dCons (f : DTE) (g : DTA) : DTA := fun ρ μ Q => f ρ μ fun x μ1 => g ρ μ1 fun xs μ2 => Q (x :: xs) μ2
theorem da_nil : DA X [] dNil := ⟨fun B => PA.weak pa_nil fun _ _ _ h => by
  obtain ⟨hv, hx, ρ, μ, Q0, hl, R0, h, low⟩ := h
  exact low _ _ h [] _ rfl R0⟩
theorem RL.turn {w : World} {K : PySem.W.Frag} {H : Hp} {σ : List (Option V)} {ρ : DR} {μ : Store} {a : List (Option V)} {b : DR} {v : Option V} {x : Option Val} (l : a.length = b.length) (R : RL w K B H (a ++ (v :: σ)) (b ++ (x :: ρ)) μ) : RL w K B H (v :: (a ++ σ)) (x :: (b ++ ρ)) μ := by
  obtain ⟨h1, h2⟩ := paired_split l R.sl
  cases h2 with
  | cons h3 h4 => exact R.slots (.cons h3 (paired_app h1 h4))
theorem da_cons {e : Expr} {es : List Expr} {f : DTE} {g : DTA} (ha : DE X e f) (hr : DA X es g) (hs : starEach (e :: es) X.env = (false, eval e X.env) :: starEach es X.env := by rfl) : DA X (e :: es) (dCons f g) :=
  ⟨fun B => PA.weak (pa_cons (ha.run B) (hr.run B) hs) fun _ _ _ h => by
    obtain ⟨hv, hx, ρ, μ, Q0, hl, R0, h, low⟩ := h
    refine ⟨hv, hx, ρ, μ, _, hl, R0, h, fun x μ1 h1 u H1 R1 => ?_⟩
    refine ⟨some u :: hv, some x :: hx, ρ, μ1, _, by simp [hl], R1, h1, fun xs μ2 h2 vs H2 l R2 => ?_⟩
    exact low _ _ h2 (u :: vs) H2 (by simp [l]) (RL.turn (by simp [l]) R2)⟩
/-- data of values -/
def datOf : List Val → Option (List PyData)
  | [] => some []
  | .dat d :: r => (datOf r).map (d :: ·)
  | _ :: _ => none
theorem datOf_all {K : PySem.W.Frag} {Z : Hp} : ∀ {vs : List V} {xs : List Val} {ds : List PyData}, Paired (RV K Z) vs xs → datOf xs = some ds → DzAll Z vs ds
  | _, _, _, .nil, e => by cases e; exact .nil
  | _, .dat d :: r, ds, .cons h t, e => by
    rw [show datOf (.dat d :: r) = (datOf r).map (d :: ·) from rfl] at e
    cases er : datOf r with
    | none => rw [er] at e; cases e
    | some ds' =>
      rw [er] at e
      cases e
      exact .cons h (datOf_all t er)
  | _, .ptr _ :: _, _, .cons h t, e => by cases e
  | _, .scr _ :: _, _, .cons h t, e => by cases e
theorem heads {K : PySem.W.Frag} {Z : Hp} : ∀ {vs : List V} {xs : List Val}, Paired (RVo K Z) (vs.map some) (xs.map some) → Paired (RV K Z) vs xs
  | [], [], _ => .nil
  | _ :: _, _ :: _, .cons h t => .cons h (heads t)
  | [], _ :: _, h => by cases h
  | _ :: _, [], h => by cases h
abbrev dTup (g : DTA) : DTE := fun ρ μ Q => g ρ μ fun xs μ1 => match datOf xs with | some ds => ds.length ≤ sizeLine ∧ Q (.dat (.tuple ds)) μ1 | none => False
theorem datOf_len : ∀ {xs : List Val} {ds : List PyData}, datOf xs = some ds → ds.length = xs.length
  | [], _, e => by cases e; rfl
  | .dat d :: r, ds, e => by
    rw [show datOf (.dat d :: r) = (datOf r).map (d :: ·) from rfl] at e
    cases er : datOf r with
    | none => rw [er] at e; cases e
    | some ds' =>
      rw [er] at e
      cases e
      simp [datOf_len er]
  | .ptr _ :: _, _, e => by cases e
  | .scr _ :: _, _, e => by cases e
  | .prt _ _ :: _, _, e => by cases e
theorem d_tup {es : List Expr} {g : DTA} {x1} {pos : Pos} (h : DA X es g) : DE X (.Tuple es x1 pos) (dTup g) :=
  ⟨fun B => PE.weak (pe_tup (h.run B)) fun _ _ _ h => by
    obtain ⟨hv, hx, ρ, μ, Q0, hl, R0, h, low⟩ := h
    refine ⟨hv, hx, ρ, μ, _, hl, R0, h, fun xs μ1 h1 vs H1 l R1 => ?_⟩
    split at h1
    · rename_i ds e
      refine ⟨by rw [l, ← datOf_len e]; exact h1.1, fun p hp => ?_⟩
      obtain ⟨h2, h3⟩ := paired_split (by simp [l]) R1.sl
      obtain ⟨R2, g, ep⟩ := R1.newZ (o := .tup vs) hp
      exact low _ _ h1.2 _ _ ((R2.rest (by simp [l])).cons (.tup ep (DzAll.mono g _ _ (datOf_all (heads h2) e))))
    · exact h1.elim⟩
abbrev dLst (g : DTA) : DTE := fun ρ μ Q => g ρ μ fun xs μ1 => xs.length ≤ sizeLine ∧ ∀ p, Q (.ptr p) (μ1 ++ [(p, .lst xs)])
theorem d_lst {es : List Expr} {g : DTA} {pos : Pos} (h : DA X es g) : DE X (.List es pos) (dLst g) :=
  ⟨fun B => PE.weak (pe_lst (h.run B)) fun _ _ _ h => by
    obtain ⟨hv, hx, ρ, μ, Q0, hl, R0, h, low⟩ := h
    refine ⟨hv, hx, ρ, μ, _, hl, R0, h, fun xs μ1 h1 vs H1 l R1 => ?_⟩
    refine ⟨by rw [l]; exact h1.1, fun p hp => ?_⟩
    obtain ⟨h2, h3⟩ := paired_split (by simp [l]) R1.sl
    exact low _ _ (h1.2 p) _ _ (((R1.rest (by simp [l])).new (n := .lst xs) (o := .lst vs) hp ⟨vs, upd_same, heads h2⟩).cons rfl)⟩
end
end Zl
namespace Zl
open PySem PySem.Spec PyProof.Rows L2
section
variable {w : World} {K : PySem.W.Frag} {B : Base} {H : Hp} {σ : List (Option V)} {ρ : DR} {μ : Store}
theorem fz_le : ∀ x o, Fz μ H x = some o → H x = some o := fun _ _ h => (Fz.sub h).2
/-! ### a list or a tuple that is read -/
inductive Its (μ : Store) : Val → Bool → List Val → Prop
  | d (ds : List PyData) : Its μ (.dat (.list ds)) false (ds.map .dat)
  | t (ds : List PyData) : Its μ (.dat (.tuple ds)) true (ds.map .dat)
  | p (j : Nat) {a : Addr} {xs : List Val} : μ[j]? = some (a, .lst xs) → Its μ (.ptr a) false xs
  | s (ns : List Int) : Its μ (.scr ns) false (ns.map fun n => .dat (.int n))
theorem dz_all {Z : Hp} : ∀ {vs : List V} {ds : List PyData}, DzAll Z vs ds → Paired (RV K Z) vs (ds.map Val.dat)
  | _, [], h => by cases h; exact .nil
  | _, d :: ds, h => by
    cases h with
    | cons h1 h2 => exact .cons h1 (dz_all h2)
theorem ints_all {Z : Hp} : ∀ ns : List Int, Paired (RV K Z) (ns.map V.int) (ns.map fun n => Val.dat (.int n))
  | [] => .nil
  | n :: ns => .cons (.int n) (ints_all ns)
theorem Its.at (R : RL w K B H σ ρ μ) {v : V} {x : Val} {b : Bool} {xs : List Val} (h : Its μ x b xs) (r : RV K (Fz (B.fr ++ μ) H) v x) : ∃ a vs, v = .ref a ∧ (if b = true then SqT K H a vs else SqL K H a vs) ∧ Paired (RV K (Fz (B.fr ++ μ) H)) vs xs := by
  cases h with
  | d ds =>
    cases (r : Dz _ _ (.list ds)) with
    | lst h1 h2 => exact ⟨_, _, rfl, SqL.of (fz_le _ _ h1), dz_all h2⟩
  | t ds =>
    cases (r : Dz _ _ (.tuple ds)) with
    | tup h1 h2 => exact ⟨_, _, rfl, SqT.of (fz_le _ _ h1), dz_all h2⟩
  | p j hj =>
    obtain ⟨vs, e, h⟩ := R.at hj
    exact ⟨_, vs, r, SqL.of e, h⟩
  | s ns =>
    obtain ⟨a, e, h⟩ := r
    exact ⟨a, _, e, sqL_mono fz_le h, ints_all ns⟩
/-- a list that is tracked -/
inductive ItL (μ : Store) : Val → List Val → Prop
  | d (ds : List PyData) : ItL μ (.dat (.list ds)) (ds.map .dat)
  | p (j : Nat) {a : Addr} {xs : List Val} : μ[j]? = some (a, .lst xs) → ItL μ (.ptr a) xs
theorem ItL.at (R : RL w K B H σ ρ μ) {v : V} {x : Val} {xs : List Val} (h : ItL μ x xs) (r : RV K (Fz (B.fr ++ μ) H) v x) : ∃ a vs, v = .ref a ∧ H a = some (.lst vs) ∧ Paired (RV K (Fz (B.fr ++ μ) H)) vs xs := by
  cases h with
  | d ds =>
    cases (r : Dz _ _ (.list ds)) with
    | lst h1 h2 => exact ⟨_, _, rfl, fz_le _ _ h1, dz_all h2⟩
  | p j hj =>
    obtain ⟨vs, e, h⟩ := R.at hj
    exact ⟨_, vs, r, e, h⟩
/-- data as they are seen -/
inductive View (μ : Store) : Val → PyData → Prop
  | d (d : PyData) : View μ (.dat d) d
  | p (j : Nat) {a : Addr} {xs : List Val} {ds : List PyData} : μ[j]? = some (a, .lst xs) → datOf xs = some ds → View μ (.ptr a) (.list ds)
theorem View.at (R : RL w K B H σ ρ μ) {v : V} {x : Val} {d : PyData} (h : View μ x d) (r : RV K (Fz (B.fr ++ μ) H) v x) : Dp K H v d := by
  cases h with
  | d d => exact Dz.dp _ _ (Dz.mono fz_le _ _ r)
  | p j hj hd =>
    obtain ⟨vs, e, h⟩ := R.at hj
    rw [show v = .ref _ from r]
    exact .lst (SqL.of e) (DzAll.dp _ _ (DzAll.mono fz_le _ _ (datOf_all h hd)))
end
section
variable {X : Cx} {B : Base}
/-! ### arithmetic -/
theorem oz_ints {f : Value → Value → Sem Value} {C : Int → Int → Prop} {g : Int → Int → Int} (h : OpR X f (rI C fun i j => .int (g i j))) :
    OpZ X f fun x y μ Q => match x, y with | .dat (.int i), .dat (.int j) => C i j ∧ Q (.dat (.int (g i j))) μ | _, _ => False :=
  ⟨_, h, fun B σ ρ H μ u v x y Q0 Q R q low => by
    have hy := R.head
    have hx := R.tail.head
    match x, y, q, hx, hy with
    | .dat (.int i), .dat (.int j), q, hx, hy =>
      cases (hx : Dz _ u (.int i))
      cases (hy : Dz _ v (.int j))
      exact ⟨i, j, rfl, rfl, q.1, low _ _ q.2 _ _ (R.tail.tail.cons (.int _))⟩⟩
theorem oz_ints0 {f : Value → Value → Sem Value} {g : Int → Int → Int} (h : OpR X f (rI0 fun i j => .int (g i j))) :
    OpZ X f fun x y μ Q => match x, y with | .dat (.int i), .dat (.int j) => Q (.dat (.int (g i j))) μ | _, _ => False :=
  ⟨_, h, fun B σ ρ H μ u v x y Q0 Q R q low => by
    have hy := R.head
    have hx := R.tail.head
    match x, y, q, hx, hy with
    | .dat (.int i), .dat (.int j), q, hx, hy =>
      cases (hx : Dz _ u (.int i))
      cases (hy : Dz _ v (.int j))
      exact ⟨i, j, rfl, rfl, low _ _ q _ _ (R.tail.tail.cons (.int _))⟩⟩
def zSub : DR2 := fun x y μ Q => match x, y with | .dat (.int i), .dat (.int j) => Q (.dat (.int (i - j))) μ | _, _ => False
theorem oz_sub : OpZ X (binaryOp .Sub) zSub := oz_ints0 op_sub
def zMod : DR2 := fun x y μ Q => match x, y with | .dat (.int i), .dat (.int j) => 0 < j ∧ Q (.dat (.int (i % j))) μ | _, _ => False
theorem oz_mod : OpZ X (binaryOp .Mod) zMod := oz_ints op_mod
def zDiv : DR2 := fun x y μ Q => match x, y with | .dat (.int i), .dat (.int j) => CDivW i j ∧ Q (.dat (.int (i / j))) μ | _, _ => False
theorem oz_div : OpZ X (binaryOp .FloorDiv) zDiv := oz_ints op_fdivW
def zPow : DR2 := fun x y μ Q => match x, y with | .dat (.int i), .dat (.int j) => CPow i j ∧ Q (.dat (.int (i ^ j.toNat))) μ | _, _ => False
theorem oz_pow : OpZ X (binaryOp .Pow) zPow := oz_ints op_pow
/-- ints, texts, lists, tuples -/
def zAdd : DR2 := fun x y μ Q => match x, y with
  | .dat (.int i), .dat (.int j) => Q (.dat (.int (i + j))) μ
  | .dat (.str a), .dat (.str b) => a.length + b.length ≤ sizeLine ∧ Q (.dat (.str (a ++ b))) μ
  | x, y => ∃ xs ys, ItL μ x xs ∧ ItL μ y ys ∧ xs.length + ys.length ≤ sizeLine ∧ ∀ p, Q (.ptr p) (μ ++ [(p, .lst (xs ++ ys))])
theorem add_lists {σ : List (Option V)} {ρ : DR} {H : Hp} {μ : Store} {u v : V} {x y : Val} {Q0 : DK} {Q : VK} (R : RL X.w X.K B H (some v :: some u :: σ) (some y :: some x :: ρ) μ)
    (q : ∃ xs ys, ItL μ x xs ∧ ItL μ y ys ∧ xs.length + ys.length ≤ sizeLine ∧ ∀ p, Q0 (.ptr p) (μ ++ [(p, .lst (xs ++ ys))])) (low : Low X B σ ρ Q0 Q) : rCat u v H Q := by
  obtain ⟨xs, ys, h1, h2, hl, q⟩ := q
  obtain ⟨a, vs, rfl, e1, r1⟩ := h1.at R.tail R.tail.head
  obtain ⟨b, us, rfl, e2, r2⟩ := h2.at R R.head
  refine ⟨a, b, vs, us, rfl, rfl, e1, e2, by rw [r1.length, r2.length]; exact hl, fun p hp => low _ _ (q p) _ _ ?_⟩
  exact (R.tail.tail.new (n := .lst (xs ++ ys)) hp ⟨_, upd_same, paired_app r1 r2⟩).cons rfl
theorem oz_add : OpZ X (binaryOp .Add) zAdd :=
  ⟨_, OpR.or op_add (OpR.or op_add_str op_cat), fun B σ ρ H μ u v x y Q0 Q R q low => by
    have hy := R.head
    have hx := R.tail.head
    unfold zAdd at q
    split at q
    · rename_i i j
      cases (hx : Dz _ u (.int i))
      cases (hy : Dz _ v (.int j))
      exact .inl ⟨i, j, rfl, rfl, low _ _ q _ _ (R.tail.tail.cons (.int _))⟩
    · rename_i a b
      cases (hx : Dz _ u (.str a))
      cases (hy : Dz _ v (.str b))
      exact .inr (.inl ⟨a, b, rfl, rfl, q.1, low _ _ q.2 _ _ (R.tail.tail.cons (.str _))⟩)
    · exact .inr (.inr (add_lists R q low))⟩
/-- ints; a list times an int; a text of one sign -/
def zMul : DR2 := fun x y μ Q => match x, y with
  | .dat (.int i), .dat (.int j) => CMulW i j ∧ Q (.dat (.int (i * j))) μ
  | x, .dat (.int k) => ∃ xs, ItL μ x xs ∧ -(2 ^ 63) ≤ k ∧ k < 2 ^ 63 ∧ xs.length * k.toNat ≤ sizeLine ∧ ∀ p, Q (.ptr p) (μ ++ [(p, .lst (List.replicate k.toNat xs).flatten)])
  | _, _ => False
theorem paired_rep {α β : Type} {F : α → β → Prop} {a : List α} {b : List β} (h : Paired F a b) : ∀ n : Nat, Paired F (List.replicate n a).flatten (List.replicate n b).flatten
  | 0 => .nil
  | n + 1 => by
    rw [List.replicate_succ, List.replicate_succ, List.flatten_cons, List.flatten_cons]
    exact paired_app h (paired_rep h n)
theorem oz_mul : OpZ X (binaryOp .Mult) zMul :=
  ⟨_, OpR.or op_mulW op_rep, fun B σ ρ H μ u v x y Q0 Q R q low => by
    have hy := R.head
    have hx := R.tail.head
    unfold zMul at q
    split at q
    · rename_i i j
      cases (hx : Dz _ u (.int i))
      cases (hy : Dz _ v (.int j))
      exact .inl ⟨i, j, rfl, rfl, q.1, low _ _ q.2 _ _ (R.tail.tail.cons (.int _))⟩
    · rename_i k _
      cases (hy : Dz _ v (.int k))
      obtain ⟨xs, h1, k1, k2, hl, q⟩ := q
      obtain ⟨a, vs, rfl, e1, r1⟩ := h1.at R.tail R.tail.head
      refine .inr ⟨a, k, vs, rfl, rfl, e1, k1, k2, by rw [r1.length]; exact hl, fun p hp => low _ _ (q p) _ _ ?_⟩
      exact (R.tail.tail.new (n := .lst (List.replicate k.toNat xs).flatten) hp ⟨_, upd_same, paired_rep r1 _⟩).cons rfl
    · exact q.elim⟩
/-! ### comparisons -/
def eqS : PyData → PyData → Option Bool
  | .none, .none => some true
  | .none, .int _ => some false
  | .none, .str _ => some false
  | .none, .bool _ => some false
  | .int _, .none => some false
  | .str _, .none => some false
  | .bool _, .none => some false
  | .int i, .int j => some (decide (i = j))
  | .str a, .str b => some (decide (a = b))
  | .bool a, .bool b => some (decide (a = b))
  | .int _, .str _ => some false
  | .str _, .int _ => some false
  | .bool _, .str _ => some false
  | .str _, .bool _ => some false
  | _, _ => none
theorem eqS_ok {Z : Hp} {u v : V} {d e : PyData} {b : Bool} (h1 : Dz Z u d) (h2 : Dz Z v e) (h : eqS d e = some b) : scal u v = true ∧ decide (u = v) = b := by
  unfold eqS at h
  split at h <;> cases h1 <;> cases h2 <;> cases h <;> refine ⟨rfl, ?_⟩ <;> simp
def zEqq (g : Bool → Bool) : DR2 := fun x y μ Q => match x, y with
  | .dat d, .dat e => (match eqS d e with | some b => Q (.dat (.bool (g b))) μ | none => SeqAt.shaped d = true ∧ SeqAt.shaped e = true ∧ Q (.dat (.bool (g (PyData.eqv d e)))) μ)
  | x, y => ∃ d e, View μ x d ∧ View μ y e ∧ SeqAt.shaped d = true ∧ SeqAt.shaped e = true ∧ Q (.dat (.bool (g (PyData.eqv d e)))) μ
abbrev zEq : DR2 := zEqq id
abbrev zNe : DR2 := zEqq not
theorem eq_any {g : Bool → Bool} {σ : List (Option V)} {ρ : DR} {H : Hp} {μ : Store} {u v : V} {x y : Val} {Q0 : DK} {Q : VK} (R : RL X.w X.K B H (some v :: some u :: σ) (some y :: some x :: ρ) μ) (q : zEqq g x y μ Q0) (low : Low X B σ ρ Q0 Q) :
    (scal u v = true ∧ Q (.bl (g (decide (u = v)))) H) ∨ ∃ d e, Dp X.K H u d ∧ Dp X.K H v e ∧ SeqAt.shaped d = true ∧ SeqAt.shaped e = true ∧ Q (.bl (g (PyData.eqv d e))) H := by
  have hy := R.head
  have hx := R.tail.head
  have fin : ∀ b, Q0 (.dat (.bool b)) μ → Q (.bl b) H := fun b q => low _ _ q _ _ (R.tail.tail.cons (.bl b))
  unfold zEqq at q
  split at q
  · rename_i d e
    split at q
    · rename_i b eb
      obtain ⟨h1, h2⟩ := eqS_ok hx hy eb
      exact .inl ⟨h1, by rw [h2]; exact fin _ q⟩
    · exact .inr ⟨d, e, (View.d d).at R.tail hx, (View.d e).at R hy, q.1, q.2.1, fin _ q.2.2⟩
  · obtain ⟨d, e, h1, h2, h3, h4, q⟩ := q
    exact .inr ⟨d, e, h1.at R.tail hx, h2.at R hy, h3, h4, fin _ q⟩
theorem oz_eq (hu : X.A.units + 64 < cLine) : OpZ X (compareOp .Eq) zEq := ⟨_, OpR.or op_eq (op_eqD hu), fun B σ ρ H μ u v x y Q0 Q R q low => eq_any R q low⟩
theorem oz_ne (hu : X.A.units + 64 < cLine) : OpZ X (compareOp .NotEq) zNe := ⟨_, OpR.or op_ne (op_neD hu), fun B σ ρ H μ u v x y Q0 Q R q low => eq_any R q low⟩
/-- ints, texts, data -/
def zCmp (gi : Int → Int → Bool) (gs : Str → Str → Bool) (gd : PyData → PyData → Bool) : DR2 := fun x y μ Q => match x, y with
  | .dat (.int i), .dat (.int j) => Q (.dat (.bool (gi i j))) μ
  | .dat (.str a), .dat (.str b) => Q (.dat (.bool (gs a b))) μ
  | .dat d, .dat e => PySem.W.alike d e = true ∧ d ≠ .none ∧ d.depth ≤ 50 ∧ Q (.dat (.bool (gd d e))) μ
  | _, _ => False
theorem oz_cmp {f : Value → Value → Sem Value} {gi : Int → Int → Bool} {gs : Str → Str → Bool} {gd : PyData → PyData → Bool} (h1 : OpR X f (rI0 fun i j => .bl (gi i j))) (h2 : OpR X f fun x y H Q => ∃ i j, x = .str i ∧ y = .str j ∧ Q (.bl (gs i j)) H)
    (h3 : OpR X f (Dt.rCmpD X.K gd)) : OpZ X f (zCmp gi gs gd) :=
  ⟨_, OpR.or h1 (OpR.or h2 h3), fun B σ ρ H μ u v x y Q0 Q R q low => by
    have hy := R.head
    have hx := R.tail.head
    have fin : ∀ b, Q0 (.dat (.bool b)) μ → Q (.bl b) H := fun b q => low _ _ q _ _ (R.tail.tail.cons (.bl b))
    unfold zCmp at q
    split at q
    · rename_i i j
      cases (hx : Dz _ u (.int i))
      cases (hy : Dz _ v (.int j))
      exact .inl ⟨i, j, rfl, rfl, fin _ q⟩
    · rename_i a b
      cases (hx : Dz _ u (.str a))
      cases (hy : Dz _ v (.str b))
      exact .inr (.inl ⟨a, b, rfl, rfl, fin _ q⟩)
    · rename_i d e _ _
      exact .inr (.inr ⟨d, e, (View.d d).at R.tail hx, (View.d e).at R hy, q.1, q.2.1, q.2.2.1, fin _ q.2.2.2⟩)
    · exact q.elim⟩
abbrev sLt (a b : Str) : Bool := decide (a.cps.toList < b.cps.toList)
abbrev zLt : DR2 := zCmp (fun i j => decide (i < j)) sLt fun d e => PySem.W.dataLt d e
abbrev zLe : DR2 := zCmp (fun i j => decide (i ≤ j)) (fun a b => !sLt b a) fun d e => !PySem.W.dataLt e d
abbrev zGt : DR2 := zCmp (fun i j => decide (j < i)) (fun a b => sLt b a) fun d e => PySem.W.dataLt e d
abbrev zGe : DR2 := zCmp (fun i j => decide (j ≤ i)) (fun a b => !sLt a b) fun d e => !PySem.W.dataLt d e
theorem oz_lt (hu : X.A.units + 64 < cLine) : OpZ X (compareOp .Lt) zLt := oz_cmp op_lt op_lt_str (Dt.op_ltD hu)
theorem oz_le (hu : X.A.units + 64 < cLine) : OpZ X (compareOp .LtE) zLe := oz_cmp op_le op_le_str (Dt.op_leD hu)
theorem oz_gt (hu : X.A.units + 64 < cLine) : OpZ X (compareOp .Gt) zGt := oz_cmp op_gt op_gt_str (Dt.op_gtD hu)
theorem oz_ge (hu : X.A.units + 64 < cLine) : OpZ X (compareOp .GtE) zGe := oz_cmp op_ge op_ge_str (Dt.op_geD hu)
def isN : Val → Bool
  | .dat .none => true
  | _ => false
def zIs (g : Bool → Bool) : DR2 := fun x y μ Q => match y with | .dat .none => Q (.dat (.bool (g (isN x)))) μ | _ => False
theorem isN_ok {Z : Hp} {u : V} {x : Val} {K : PySem.W.Frag} (h : RV K Z u x) : decide (u = .non) = isN x := by
  cases x with
  | dat d =>
    cases (h : Dz _ u d) <;> simp [isN]
  | ptr a =>
    cases (h : u = .ref a)
    rfl
  | scr ns =>
    obtain ⟨a, rfl, _⟩ := h
    rfl
  | prt k a =>
    obtain ⟨t, u, rfl, _⟩ := h
    rfl
theorem oz_isN : OpZ X (compareOp .Is) (zIs id) := ⟨_, op_isN, fun B σ ρ H μ u v x y Q0 Q R q low => by
  unfold zIs at q
  split at q
  · have hy := R.head
    cases (hy : Dz _ v .none)
    exact ⟨rfl, by rw [isN_ok R.tail.head]; exact low _ _ q _ _ (R.tail.tail.cons (.bl _))⟩
  · exact q.elim⟩
theorem oz_notN : OpZ X (compareOp .IsNot) (zIs not) := ⟨_, op_notN, fun B σ ρ H μ u v x y Q0 Q R q low => by
  unfold zIs at q
  split at q
  · have hy := R.head
    cases (hy : Dz _ v .none)
    exact ⟨rfl, by rw [isN_ok R.tail.head]; exact low _ _ q _ _ (R.tail.tail.cons (.bl _))⟩
  · exact q.elim⟩
/-! ### x[i] -/
structure IxZ (X : Cx) (R : DR2) : Prop where
  ex : ∃ r : R2, IxR X r ∧ ∀ B : Base, Op2 X B r R
theorem d_ixR {a b : Expr} {R : DR2} {fa fb : DTE} {pos : Pos} (o : IxZ X R) (ha : DE X a fa) (hb : DE X b fb) (hs : PlainIx b) : DE X (.Subscript a b pos) (dOp R fa fb) := by
  obtain ⟨r, h1, h2⟩ := o.ex
  exact ⟨fun B => PE.weak (pe_ix h1 (ha.run B) (hb.run B) hs) fun _ _ _ h => up_op (h2 B) h⟩
def zIx : DR2 := fun x y μ Q => match x, y with
  | .dat (.tuple ds), .dat (.int i) => ∃ d, atI ds i = some d ∧ Q (.dat d) μ
  | .dat (.list ds), .dat (.int i) => ∃ d, atI ds i = some d ∧ Q (.dat d) μ
  | .dat (.str z), .dat (.int i) => z.length ≤ sizeLine ∧ ∃ c, atI z.cps.toList i = some c ∧ Q (.dat (.str ⟨#[c]⟩)) μ
  | .scr ns, .dat (.int i) => ∃ n, atI ns i = some n ∧ Q (.dat (.int n)) μ
  | .ptr a, .dat (.int i) => ∃ (j : Nat) (xs : List Val) (x : Val), μ[j]? = some (a, Node.lst xs) ∧ atI xs i = some x ∧ Q x μ
  | _, _ => False
theorem paired_at {α β : Type} {F : α → β → Prop} {l₁ : List α} {l₂ : List β} {i : Int} {y : β} (h : Paired F l₁ l₂) (e : atI l₂ i = some y) : ∃ x, atI l₁ i = some x ∧ F x y := by
  unfold atI at e ⊢
  rw [h.length]
  cases ej : ixN l₂.length i with
  | none => rw [ej] at e; cases e
  | some j =>
    rw [ej] at e
    exact paired_get h e
theorem atI_map {α β : Type} {f : α → β} {xs : List α} {i : Int} {x : α} (e : atI xs i = some x) : atI (xs.map f) i = some (f x) := by
  unfold atI at e ⊢
  rw [List.length_map]
  cases ej : ixN xs.length i with
  | none => rw [ej] at e; cases e
  | some j =>
    rw [ej] at e
    show (xs.map f)[j]? = _
    rw [List.getElem?_map, show xs[j]? = some x from e]
    rfl
theorem ix_its {σ : List (Option V)} {ρ : DR} {H : Hp} {μ : Store} {u : V} {x : Val} {b : Bool} {xs : List Val} {i : Int} {z : Val} {Q0 : DK} {Q : VK} (R : RL X.w X.K B H (some u :: σ) (some x :: ρ) μ) (h : Its μ x b xs) (e : atI xs i = some z) (q : Q0 z μ) (low : Low X B σ ρ Q0 Q) :
    rIxL X.K u (.int i) H Q ∨ rIxT X.K u (.int i) H Q := by
  obtain ⟨a, vs, rfl, hs, r⟩ := h.at R R.head
  obtain ⟨v, ev, rv⟩ := paired_at r e
  have fin := low _ _ q _ _ (R.tail.cons rv)
  cases b with
  | true => exact .inr ⟨a, vs, i, v, rfl, rfl, hs, ev, fin⟩
  | false => exact .inl ⟨a, vs, i, v, rfl, rfl, hs, ev, fin⟩
theorem iz_seq : IxZ X zIx := ⟨_, ix_seq, fun B σ ρ H μ u v x y Q0 Q R q low => by
  have hy := R.head
  have hx := R.tail.head
  have fin : ∀ {b : Bool} {xs : List Val} {i : Int} {z : Val}, Its μ x b xs → atI xs i = some z → Q0 z μ → v = .int i → rIx X.K u v H Q := fun h e q ev => by
    rw [ev]
    rcases ix_its R.tail h e q low with z | z
    · exact .inl z
    · exact .inr (.inl z)
  unfold zIx at q
  split at q
  · cases (hy : Dz _ v (.int _))
    obtain ⟨d, e, q⟩ := q
    exact fin (.t _) (atI_map e) q rfl
  · cases (hy : Dz _ v (.int _))
    obtain ⟨d, e, q⟩ := q
    exact fin (.d _) (atI_map e) q rfl
  · rename_i z i
    cases (hy : Dz _ v (.int i))
    cases (hx : Dz _ u (.str z))
    obtain ⟨hz, c, e, q⟩ := q
    exact .inr (.inr ⟨z, i, c, rfl, rfl, hz, e, low _ _ q _ _ (R.tail.tail.cons (.str _))⟩)
  · cases (hy : Dz _ v (.int _))
    obtain ⟨n, e, q⟩ := q
    exact fin (.s _) (atI_map e) q rfl
  · cases (hy : Dz _ v (.int _))
    obtain ⟨j, xs, z, hj, e, q⟩ := q
    exact fin (.p j hj) e q rfl
  · exact q.elim⟩
theorem d_ix {a b : Expr} {fa fb : DTE} {pos : Pos} (ha : DE X a fa) (hb : DE X b fb) (hs : PlainIx b) : DE X (.Subscript a b pos) (dOp zIx fa fb) := d_ixR iz_seq ha hb hs
/-! ### -x -/
abbrev dNeg (f : DTE) : DTE := fun ρ μ Q => f ρ μ fun x μ1 => match x with | .dat (.int i) => Q (.dat (.int (-i))) μ1 | _ => False
theorem d_neg {a : Expr} {fa : DTE} {pos : Pos} (ha : DE X a fa) : DE X (.UnaryOp .USub a pos) (dNeg fa) :=
  ⟨fun B => PE.weak (pe_un un_neg (ha.run B)) fun _ _ _ h => by
    obtain ⟨hv, hx, ρ, μ, Q0, hl, R0, h, low⟩ := h
    refine ⟨hv, hx, ρ, μ, _, hl, R0, h, fun x μ1 h1 u H1 R1 => ?_⟩
    have hd := R1.head
    match x, h1, hd with
    | .dat (.int i), h1, hd =>
      cases (hd : Dz _ u (.int i))
      exact ⟨i, rfl, low _ _ h1 _ _ (R1.tail.cons (.int _))⟩⟩
/-! ### calls of builtins by values -/
structure CaZ (X : Cx) (f : Value) (R : List Val → Store → DK → Prop) : Prop where
  ex : ∃ r : List V → Hp → VK → Prop, CallR X f r ∧ ∀ (B : Base) (σ : List (Option V)) (ρ : DR) (H : Hp) (μ : Store) (vs : List V) (xs : List Val) (Q0 : DK) (Q : VK), vs.length = xs.length → RL X.w X.K B H (vs.map some ++ σ) (xs.map some ++ ρ) μ → R xs μ Q0 → Low X B σ ρ Q0 Q → r vs H Q
abbrev dCB (R : List Val → Store → DK → Prop) (g : DTA) : DTE := fun ρ μ Q => g ρ μ fun xs μ1 => R xs μ1 Q
theorem up_CB {r : List V → Hp → VK → Prop} {R : List Val → Store → DK → Prop} {g : DTA}
    (S : ∀ (σ : List (Option V)) (ρ : DR) (H : Hp) (μ : Store) (vs : List V) (xs : List Val) (Q0 : DK) (Q : VK), vs.length = xs.length → RL X.w X.K B H (vs.map some ++ σ) (xs.map some ++ ρ) μ → R xs μ Q0 → Low X B σ ρ Q0 Q → r vs H Q)
    {σ : L2.St} {H : Hp} {Q : VK} (h : up X B (dCB R g) σ H Q) : tCB r (upA X B g) σ H Q := by
  obtain ⟨hv, hx, ρ, μ, Q0, hl, R0, h, low⟩ := h
  exact ⟨hv, hx, ρ, μ, _, hl, R0, h, fun xs μ1 h1 vs H1 l R1 => S _ _ _ _ _ _ _ _ l R1 h1 low⟩
theorem d_callB {x : Str} {id : String} {R : List Val → Store → DK → Prop} {e : Expr} {es : List Expr} {g : DTA} {p pos : Pos} (c : CaZ X (.builtin id) R) (hg : Gl X x) (hm : X.mg x = none) (hv : bootBuiltins x = some (.builtin id)) (ha : DA X (e :: es) g)
    (hn : x ≠ "__name__" := by decide) (hdb : (x == ("__debug__" : Str)) = false := by decide) (he : starEach (e :: es) X.env = (false, eval e X.env) :: starEach es X.env := by rfl) (hpl : (backTo pos (starEach es X.env)).any (·.1) = false := by rfl) :
    DE X (.Call (.Name x p) (e :: es) [] pos) (dCB R g) := by
  obtain ⟨r, h1, h2⟩ := c.ex
  exact ⟨fun B => PE.weak (pe_callB h1 hg hm hv (ha.run B) hn hdb he hpl) fun _ _ _ h => up_CB (h2 B) h⟩
def lenOf (μ : Store) (x : Val) (Q : Nat → Prop) : Prop := match x with
  | .dat (.list ds) => Q ds.length
  | .dat (.tuple ds) => Q ds.length
  | .dat (.str z) => z.length ≤ sizeLine ∧ Q z.length
  | .scr ns => Q ns.length
  | .ptr a => ∃ (j : Nat) (xs : List Val), μ[j]? = some (a, Node.lst xs) ∧ Q xs.length
  | _ => False
def zLen : List Val → Store → DK → Prop := fun xs μ Q => match xs with | [x] => lenOf μ x fun n => Q (.dat (.int (n : Nat))) μ | _ => False
theorem one_arg {σ : List (Option V)} {ρ : DR} {H : Hp} {μ : Store} {vs : List V} {x : Val} (l : vs.length = [x].length) (R : RL X.w X.K B H (vs.map some ++ σ) ([x].map some ++ ρ) μ) : ∃ v, vs = [v] ∧ RL X.w X.K B H (some v :: σ) (some x :: ρ) μ := by
  match vs, l, R with
  | [v], _, R => exact ⟨v, rfl, R⟩
theorem two_args {σ : List (Option V)} {ρ : DR} {H : Hp} {μ : Store} {vs : List V} {x y : Val} (l : vs.length = [x, y].length) (R : RL X.w X.K B H (vs.map some ++ σ) ([x, y].map some ++ ρ) μ) : ∃ v u, vs = [v, u] ∧ RL X.w X.K B H (some v :: some u :: σ) (some x :: some y :: ρ) μ := by
  match vs, l, R with
  | [v, u], _, R => exact ⟨v, u, rfl, R⟩
theorem ca_len : CaZ X (.builtin "len") zLen := by
  refine ⟨fun vs H Q => (∃ p ys, vs = [.ref p] ∧ (SqL X.K H p ys ∨ SqT X.K H p ys) ∧ Q (.int (ys.length : Nat)) H) ∨ ∃ z, vs = [.str z] ∧ z.length ≤ sizeLine ∧ Q (.int (z.length : Nat)) H, ?_, ?_⟩
  · intro pins s σ H xs us Q I r h
    rcases h with h | h
    · exact call_len_seq pins s σ H xs us Q I r h
    · exact call_len_str pins s σ H xs us Q I r h
  · intro B σ ρ H μ vs xs Q0 Q l R q low
    match xs, l, R, q with
    | [x], l, R, q =>
      obtain ⟨v, rfl, R⟩ := one_arg l R
      have hx := R.head
      have fin : ∀ {b : Bool} {ys : List Val}, Its μ x b ys → Q0 (.dat (.int (ys.length : Nat))) μ → ∃ p us, [v] = [V.ref p] ∧ (SqL X.K H p us ∨ SqT X.K H p us) ∧ Q (.int (us.length : Nat)) H := fun {b ys} h q => by
        obtain ⟨a, us, rfl, hs, r⟩ := h.at R hx
        refine ⟨a, us, rfl, ?_, by rw [r.length]; exact low _ _ q _ _ (R.tail.cons (.int _))⟩
        cases b with
        | true => exact .inr hs
        | false => exact .inl hs
      have q : lenOf μ x (fun n => Q0 (.dat (.int (n : Nat))) μ) := q
      unfold lenOf at q
      split at q
      · exact .inl (fin (.d _) (by rw [List.length_map]; exact q))
      · exact .inl (fin (.t _) (by rw [List.length_map]; exact q))
      · cases (hx : Dz _ v (.str _))
        exact .inr ⟨_, rfl, q.1, low _ _ q.2 _ _ (R.tail.cons (.int _))⟩
      · exact .inl (fin (.s _) (by rw [List.length_map]; exact q))
      · obtain ⟨j, ys, hj, q⟩ := q
        exact .inl (fin (.p j hj) q)
      · exact q.elim
end
end Zl
namespace Zl
open PySem PySem.Spec PyProof.Rows L2 Lf
/-! ### what a def promises -/
abbrev DSp := List Val → Store → DK → Prop
def spZ (w : World) (K : PySem.W.Frag) (F : DSp) : Sp := fun vs H Q _ => ∃ (B : Base) (xs : List Val) (μ : Store) (Q0 : DK), vs.length = xs.length ∧ RL w K B H (vs.map some) (xs.map some) μ ∧ F xs μ Q0 ∧
  ∀ x μ', Q0 x μ' → ∀ v H', RL w K B H' [some v] [some x] μ' → Q v H'
/-- what follows is all that is wanted -/
abbrev CalZ (P : Program) (w : World) (K : PySem.W.Frag) (mg : Str → Option Value) (base : Heap) (k : Nat) (x : Str) (ps : List Str) (F : DSp) : Prop := Callee P w K mg base k x ps (spZ w K F)
def startZ (N : List Str) (xs : List Val) : DR := xs.map some ++ List.replicate (N.length - xs.length) none
/-- what nobody wants any more is forgotten -/
abbrev dEnd (Q : DK) : DEnds := { nx := fun _ μ => ∃ μ', List.Sublist μ' μ ∧ Q (.dat .none) μ', rt := fun x μ => ∃ μ', List.Sublist μ' μ ∧ Q x μ' }
theorem RL.less {w : World} {K : PySem.W.Frag} {B : Base} {H : Hp} {σ : List (Option V)} {ρ : DR} {μ μ' : Store} (R : RL w K B H σ ρ μ) (h : List.Sublist μ' μ) : RL w K B H σ ρ μ' := by
  have nd := R.nd
  rw [List.map_append, List.nodup_append] at nd
  exact (R.sub ((h.map _).nodup nd.2.1) fun p hp => h.subset hp).1
theorem paired_none {K : PySem.W.Frag} {Z : Hp} : ∀ n : Nat, Paired (RVo K Z) (List.replicate n none) (List.replicate n none)
  | 0 => .nil
  | n + 1 => .cons trivial (paired_none n)
theorem Fun.okZ {P : Program} {w : World} {K : PySem.W.Frag} {mg : Str → Option Value} {base : Heap} {x qual : Str} {st : Stmt} {f : Addr} {fd : FuncData} {N ps : List Str} {k : Nat} {F : DSp} (FF : Fun K x qual st f fd) (S : FnScope N ps (defScope st))
    (len : ∀ xs μ Q, F xs μ Q → xs.length = ps.length)
    (body : ∀ (cdv : Value) (A : Around) (outer : List Env) (s : Shared) (H : Hp) (E : XK), Room k (A.deeper (envOfC qual (defScope st) s.heap.objs.size f cdv)) →
      ∃ t : DTS, DSs (cxOf CX0 P w K mg base N qual (defScope st) f cdv A outer s H E).nox (defBody st) t ∧ ∀ xs μ Q, F xs μ Q → t (dEnd Q) (startZ N xs) μ) : FnOk P w K mg base CX0 (k + 1) f fd ps (spZ w K F) := by
  refine FF.ok S (fun vs H Q E h => ?_) fun cdv A outer s H vs Q E hr h => ?_
  · obtain ⟨B, xs, μ, Q0, l, _, h, _⟩ := h
    rw [l]
    exact len _ _ _ h
  · obtain ⟨B, xs, μ, Q0, l, R, h, low⟩ := h
    obtain ⟨t, d, q⟩ := body cdv A outer s H E hr
    refine ⟨_, (d.run B), startZ N xs, μ, dEnd Q0, ?_, q xs μ Q0 h, ?_⟩
    · refine R.slots ?_
      unfold L2.start startZ
      rw [l]
      exact paired_app R.sl (paired_none _)
    · exact ⟨fun ρ μ ⟨μ', h, q⟩ σ H R => low _ _ q _ _ ((R.less h).slots (.cons .non .nil)), fun x μ ⟨μ', h, q⟩ v H R => low _ _ q _ _ (R.less h), fun _ _ q => q.elim, fun _ _ q => q.elim⟩
section
variable {X : Cx} {B : Base} {k : Nat} {x : Str} {ps : List Str} {F : DSp} {e : Expr} {es : List Expr} {g : DTA} {p pos : Pos}
theorem nodup_perm {μ μ' : Store} (h : μ.Perm μ') (n : (μ.map (·.1)).Nodup) : (μ'.map (·.1)).Nodup := ((h.map _).nodup_iff).mp n
/-- the callee gets some of the objects, the others are hidden from it -/
theorem call_z {H : Hp} {σ : List (Option V)} {ρ : DR} {μ1 μ0 μr : Store} {vs : List V} {xs : List Val} {Q0 : DK} {Q : VK} (l : vs.length = xs.length) (R : RL X.w X.K B H (vs.map some ++ σ) (xs.map some ++ ρ) μ1) (pm : μ1.Perm (μ0 ++ μr))
    (f : F xs μ0 fun x ν => ∃ μ2, μ2.Perm (ν ++ μr) ∧ Q0 x μ2) (low : Low X B σ ρ Q0 Q) : spZ X.w X.K F vs H Q E0 := by
  have p1 : (B.fr ++ μ1).Perm ((B.fr ++ μr) ++ μ0) := by
    rw [List.append_assoc]
    exact (pm.trans List.perm_append_comm).append_left _
  obtain ⟨R1, g1⟩ := R.as (B' := ⟨Fz (B.fr ++ μ1) H, B.fr ++ μr⟩) (μ' := μ0) (nodup_perm p1 R.nd) (fun p hp => p1.mem_iff.mpr hp) fun x o h => by
    obtain ⟨h1, h2⟩ := Fz.sub h
    refine Fz.of (fun z => h1 ?_) h2
    exact ((p1.map (·.1)).mem_iff).mpr z
  refine ⟨⟨Fz (B.fr ++ μ1) H, B.fr ++ μr⟩, xs, μ0, _, l, R1.slots (paired_split (by simp [l]) R1.sl).1, f, fun x ν ⟨μ2, p2, q⟩ v H' R2 => low x μ2 q v H' ?_⟩
  have p3 : ((B.fr ++ μr) ++ ν).Perm (B.fr ++ μ2) := by
    rw [List.append_assoc]
    exact (List.perm_append_comm.trans p2.symm).append_left _
  have g2 : ∀ x u, Fz ((B.fr ++ μr) ++ ν) H' x = some u → Fz (B.fr ++ μ2) H' x = some u := fun x u h => by
    obtain ⟨h1, h2⟩ := Fz.sub h
    exact Fz.of (fun z => h1 (((p3.map (·.1)).mem_iff).mpr z)) h2
  have g3 : ∀ x u, Fz (B.fr ++ μ1) H x = some u → Fz (B.fr ++ μ2) H' x = some u := fun x u h => g2 _ _ (R2.base _ _ h)
  refine ⟨nodup_perm p3 R2.nd, fun x o h => g3 _ _ (R.base _ _ h), .cons (RVo.mono g2 (v := some v) (x := some x) R2.head) ?_, fun q hq => (R2.st q (p3.mem_iff.mpr hq)).mono g2 rfl⟩
  exact L2.Paired.mapP (R.rest (by simp [l])).sl fun _ _ => RVo.mono g3
/-- no object is handed over -/
abbrev dOwn0 (F : DSp) (g : DTA) : DTE := fun ρ μ Q => g ρ μ fun xs μ1 => F xs [] fun x ν => Q x (μ1 ++ ν)
/-- one object, the j-th, is handed over, and comes back in its place -/
abbrev dOwn1 (F : DSp) (g : DTA) : DTE := fun ρ μ Q => g ρ μ fun xs μ1 => ∃ (j : Nat) (a : Addr) (n : Node), μ1[j]? = some (a, n) ∧ F xs [(a, n)] fun x ν => ∃ n' ext, ν = (a, n') :: ext ∧ Q x (μ1.set j (a, n') ++ ext)
/-- any objects -/
abbrev dOwnG (F : DSp) (g : DTA) : DTE := fun ρ μ Q => g ρ μ fun xs μ1 => ∃ μ0 μr, μ1.Perm (μ0 ++ μr) ∧ F xs μ0 fun x ν => ∃ μ2, μ2.Perm (ν ++ μr) ∧ Q x μ2
theorem d_ownG (C : CalZ X.prog X.w X.K X.mg X.base k x ps F) (hr : Room k X.A) (hg : Gl X x) (ha : DA X (e :: es) g)
    (hdb : (x == ("__debug__" : Str)) = false := by decide) (he : starEach (e :: es) X.env = (false, eval e X.env) :: starEach es X.env := by rfl) (hpl : (backTo pos (starEach es X.env)).any (·.1) = false := by rfl) :
    DE X (.Call (.Name x p) (e :: es) [] pos) (dOwnG F g) :=
  ⟨fun B => PE.weak (pe_own C hr hg (ha.run B) hdb he hpl) fun σ H Q h => by
    obtain ⟨hv, hx, ρ, μ, Q0, hl, R0, h, low⟩ := h
    refine ⟨hv, hx, ρ, μ, _, hl, R0, h, fun xs μ1 h1 vs H1 l R1 => ?_⟩
    obtain ⟨μ0, μr, pm, f⟩ := h1
    show spZ _ _ _ (vs ++ []) _ _ _
    rw [List.append_nil]
    exact call_z l R1 pm f low⟩
theorem d_weak {e : Expr} {f f' : DTE} (h : DE X e f) (w : ∀ ρ μ Q, f' ρ μ Q → f ρ μ Q) : DE X e f' :=
  ⟨fun B => PE.weak (h.run B) fun σ H Q q => by
    obtain ⟨hv, hx, ρ, μ, Q0, hl, R0, h, low⟩ := q
    exact ⟨hv, hx, ρ, μ, Q0, hl, R0, w _ _ _ h, low⟩⟩
theorem perm_at {α : Type} : ∀ {l : List α} {j : Nat} {x : α}, l[j]? = some x → l.Perm (x :: l.eraseIdx j)
  | [], _, _, h => by simp at h
  | y :: r, 0, x, h => by
    cases (Option.some.inj h : y = x)
    exact .refl _
  | y :: r, j + 1, x, h => by
    have := perm_at (l := r) (j := j) (x := x) (by simpa using h)
    exact (this.cons y).trans (.swap x y _)
theorem erase_set {α : Type} : ∀ {l : List α} {j : Nat} {x : α}, (l.set j x).eraseIdx j = l.eraseIdx j
  | [], _, _ => rfl
  | _ :: _, 0, _ => rfl
  | y :: r, j + 1, x => congrArg (y :: ·) (erase_set (l := r) (j := j) (x := x))
theorem perm_get {μ : Store} {j : Nat} {a : Addr} {n : Node} (h : μ[j]? = some (a, n)) : μ.Perm ((a, n) :: μ.eraseIdx j) := perm_at h
theorem perm_set {μ : Store} {j : Nat} {a : Addr} {n : Node} (h : μ[j]? = some (a, n)) (n' : Node) : (μ.set j (a, n')).Perm ((a, n') :: μ.eraseIdx j) := by
  have := perm_at (l := μ.set j (a, n')) (j := j) (x := (a, n')) (by rw [List.getElem?_set_self]; exact (List.getElem?_eq_some_iff.mp h).1)
  rw [erase_set] at this
  exact this
/-- a promise may be used with fewer wishes -/
def MonoF (F : DSp) : Prop := ∀ xs μ (Q Q' : DK), (∀ x ν, Q x ν → Q' x ν) → F xs μ Q → F xs μ Q'
theorem call_mono {σ : List (Option V)} {H : Hp} {vs : List V} {Q : VK} {E : XK} {F F' : DSp} (w : ∀ xs μ (Q : DK), F' xs μ Q → ∃ Q', F xs μ Q' ∧ ∀ x ν, Q' x ν → Q x ν) (h : spZ X.w X.K F' vs H Q E) : spZ X.w X.K F vs H Q E := by
  obtain ⟨B, xs, μ, Q0, l, R, f, low⟩ := h
  obtain ⟨Q', f', m⟩ := w _ _ _ f
  exact ⟨B, xs, μ, Q', l, R, f', fun x ν q => low x ν (m _ _ q)⟩
/-- the wishes closed above -/
def Cl (F : DSp) : DSp := fun xs μ Q => ∃ Q', F xs μ Q' ∧ ∀ x ν, Q' x ν → Q x ν
theorem cal_cl {P : Program} {w : World} {K : PySem.W.Frag} {mg : Str → Option Value} {base : Heap} (C : CalZ P w K mg base k x ps F) : CalZ P w K mg base k x ps (Cl F) := by
  obtain ⟨f, fd, h1, h2⟩ := C
  refine ⟨f, fd, h1.imp fun vs H Q E h => ?_, h2⟩
  obtain ⟨B, xs, μ, Q0, l, R, ⟨Q', f', m⟩, low⟩ := h
  exact ⟨B, xs, μ, Q', l, R, f', fun x ν q => low x ν (m _ _ q)⟩
theorem d_own0 (C : CalZ X.prog X.w X.K X.mg X.base k x ps F) (hr : Room k X.A) (hg : Gl X x) (ha : DA X (e :: es) g)
    (hdb : (x == ("__debug__" : Str)) = false := by decide) (he : starEach (e :: es) X.env = (false, eval e X.env) :: starEach es X.env := by rfl) (hpl : (backTo pos (starEach es X.env)).any (·.1) = false := by rfl) :
    DE X (.Call (.Name x p) (e :: es) [] pos) (dOwn0 F g) :=
  ⟨fun B => PE.weak (pe_own (cal_cl C) hr hg (ha.run B) hdb he hpl) fun σ H Q h => by
    obtain ⟨hv, hx, ρ, μ, Q0, hl, R0, h, low⟩ := h
    refine ⟨hv, hx, ρ, μ, _, hl, R0, h, fun xs μ1 h1 vs H1 l R1 => ?_⟩
    show spZ _ _ _ (vs ++ []) _ _ _
    rw [List.append_nil]
    exact call_z (F := Cl F) l R1 (μ0 := []) (μr := μ1) (.refl _) ⟨_, h1, fun x ν q => ⟨_, List.perm_append_comm, q⟩⟩ low⟩
theorem d_own1 (C : CalZ X.prog X.w X.K X.mg X.base k x ps F) (hr : Room k X.A) (hg : Gl X x) (ha : DA X (e :: es) g)
    (hdb : (x == ("__debug__" : Str)) = false := by decide) (he : starEach (e :: es) X.env = (false, eval e X.env) :: starEach es X.env := by rfl) (hpl : (backTo pos (starEach es X.env)).any (·.1) = false := by rfl) :
    DE X (.Call (.Name x p) (e :: es) [] pos) (dOwn1 F g) :=
  ⟨fun B => PE.weak (pe_own (cal_cl C) hr hg (ha.run B) hdb he hpl) fun σ H Q h => by
    obtain ⟨hv, hx, ρ, μ, Q0, hl, R0, h, low⟩ := h
    refine ⟨hv, hx, ρ, μ, _, hl, R0, h, fun xs μ1 h1 vs H1 l R1 => ?_⟩
    obtain ⟨j, a, n, hj, f⟩ := h1
    show spZ _ _ _ (vs ++ []) _ _ _
    rw [List.append_nil]
    refine call_z (F := Cl F) l R1 (perm_get hj : μ1.Perm ([(a, n)] ++ _)) ⟨_, f, fun x ν ⟨n', ext, e, q⟩ => ⟨_, ?_, q⟩⟩ low
    subst e
    refine ((perm_set hj n').append_right ext).trans ?_
    exact List.Perm.cons _ List.perm_append_comm⟩
end
/-! ### statements -/
section
variable {X : Cx} {B : Base}
abbrev dSeq (t u : DTS) : DTS := fun E ρ μ => t { E with nx := u E } ρ μ
abbrev dNext : DTS := fun E ρ μ => E.nx ρ μ
theorem upS_iff {t : DTS} {D : Ends} {σ : L2.St} {H : Hp} {ρ : DR} {μ : Store} {E : DEnds} (R : RL X.w X.K B H σ ρ μ) (q : t E ρ μ) (b : Below X B E D) : upS X B t D σ H := ⟨ρ, μ, E, R, q, b⟩
theorem dss_nil : DSs X [] dNext := ⟨fun B => PSs.weak pss_nil fun D σ H ⟨ρ, μ, E, R, q, b⟩ => b.nx _ _ q _ _ R⟩
theorem dss_one {s : Stmt} {t : DTS} (h : DS X s t) : DSs X [s] t := ⟨fun B => PSs.weak (pss_one (h.run B)) fun D σ H q => q⟩
theorem dss_cons {s : Stmt} {r : List Stmt} {t u : DTS} (h1 : DS X s t) (h2 : DSs X r u) : DSs X (s :: r) (dSeq t u) :=
  ⟨fun B => PSs.weak (pss_cons (h1.run B) (h2.run B)) fun D σ H ⟨ρ, μ, E, R, q, b⟩ => ⟨ρ, μ, _, R, q, ⟨fun ρ' μ' q' σ' H' R' => ⟨ρ', μ', E, R', q', b⟩, b.rt, b.bk, b.ct⟩⟩⟩
/-- what follows is shown once -/
abbrev dCut (t u : DTS) : DTS := fun E ρ μ => ∃ M : DR → Store → Prop, t { E with nx := M } ρ μ ∧ ∀ ρ' μ', M ρ' μ' → u E ρ' μ'
theorem dss_cut {s : Stmt} {r : List Stmt} {t u : DTS} (h1 : DS X s t) (h2 : DSs X r u) : DSs X (s :: r) (dCut t u) :=
  ⟨fun B => PSs.weak (pss_cons (h1.run B) (h2.run B)) fun D σ H ⟨ρ, μ, E, R, ⟨M, q, m⟩, b⟩ => ⟨ρ, μ, { E with nx := M }, R, q, ⟨fun ρ' μ' hM σ' H' R' => ⟨ρ', μ', E, R', m _ _ hM, b⟩, b.rt, b.bk, b.ct⟩⟩⟩
/-- the objects seen otherwise: some forgotten, some whom nobody changes any more -/
def Weak (X : Cx) (ρ : DR) (μ : Store) (ρ' : DR) (μ' : Store) : Prop := ∀ (B : Base) (H : Hp) (σ : List (Option V)), RL X.w X.K B H σ ρ μ → RL X.w X.K B H σ ρ' μ'
abbrev dWeak (X : Cx) (t : DTS) : DTS := fun E ρ μ => ∃ ρ' μ', Weak X ρ μ ρ' μ' ∧ t E ρ' μ'
theorem weak_sub {ρ : DR} {μ μ' : Store} (h : List.Sublist μ' μ) : Weak X ρ μ ρ μ' := fun _ _ _ R => R.less h
theorem dss_weak {r : List Stmt} {t : DTS} (h : DSs X r t) : DSs X r (dWeak X t) :=
  ⟨fun B => PSs.weak (h.run B) fun D σ H ⟨ρ, μ, E, R, ⟨ρ', μ', w, q⟩, b⟩ => ⟨ρ', μ', E, w _ _ _ R, q, b⟩⟩
theorem ds_weak {r : Stmt} {t : DTS} (h : DS X r t) : DS X r (dWeak X t) :=
  ⟨fun B => PS.weak (h.run B) fun D σ H ⟨ρ, μ, E, R, ⟨ρ', μ', w, q⟩, b⟩ => ⟨ρ', μ', E, w _ _ _ R, q, b⟩⟩
abbrev dDrop (f : DTE) : DTS := fun E ρ μ => f ρ μ fun _ μ1 => E.nx ρ μ1
theorem ds_expr {e : Expr} {f : DTE} {pos : Pos} (h : DE X e f) (hs : swapsWith e none pos.line X.env = pure false := by rfl) : DS X (.Expr e pos) (dDrop f) :=
  ⟨fun B => PS.weak (ps_expr (h.run B) hs) fun D σ H ⟨ρ, μ, E, R, q, b⟩ => ⟨[], [], ρ, μ, _, rfl, R, q, fun x μ1 q1 v H1 R1 => b.nx _ _ q1 _ _ R1.tail⟩⟩
theorem ds_doc {x j pos pos'} : DS X (.Expr (.Constant (.str x) j pos) pos') dNext := ⟨fun B => PS.weak ps_doc fun D σ H ⟨ρ, μ, E, R, q, b⟩ => b.nx _ _ q _ _ R⟩
theorem ds_pass {pos} : DS X (.Pass pos) dNext := ⟨fun B => PS.weak ps_pass fun D σ H ⟨ρ, μ, E, R, q, b⟩ => b.nx _ _ q _ _ R⟩
abbrev dBreak : DTS := fun E ρ μ => E.bk ρ μ
abbrev dCont : DTS := fun E ρ μ => E.ct ρ μ
theorem ds_break {pos} : DS X (.Break pos) dBreak := ⟨fun B => PS.weak ps_break fun D σ H ⟨ρ, μ, E, R, q, b⟩ => b.bk _ _ q _ _ R⟩
theorem ds_continue {pos} : DS X (.Continue pos) dCont := ⟨fun B => PS.weak ps_continue fun D σ H ⟨ρ, μ, E, R, q, b⟩ => b.ct _ _ q _ _ R⟩
abbrev dRet (f : DTE) : DTS := fun E ρ μ => f ρ μ E.rt
theorem ds_ret {e : Expr} {f : DTE} {pos : Pos} (h : DE X e f) : DS X (.Return (some e) pos) (dRet f) :=
  ⟨fun B => PS.weak (ps_ret (h.run B)) fun D σ H ⟨ρ, μ, E, R, q, b⟩ => ⟨[], [], ρ, μ, _, rfl, R, q, fun x μ1 q1 v H1 R1 => b.rt _ _ q1 _ _ (R1.slots (.cons R1.head .nil))⟩⟩
abbrev dRetN : DTS := fun E _ μ => E.rt (.dat .none) μ
theorem ds_retN {pos : Pos} : DS X (.Return none pos) dRetN :=
  ⟨fun B => PS.weak ps_retN fun D σ H ⟨ρ, μ, E, R, q, b⟩ => b.rt _ _ q _ _ (R.slots (.cons .non .nil))⟩
abbrev dIfS (c : DTT) (t u : DTS) : DTS := fun E ρ μ => c ρ μ fun b μ1 => if b = true then t E ρ μ1 else u E ρ μ1
theorem ds_if {c : Expr} {a b : List Stmt} {fc : DTT} {t u : DTS} {pos : Pos} (hc : DT X c fc) (ha : DSs X a t) (hb : DSs X b u) : DS X (.If c a b pos) (dIfS fc t u) :=
  ⟨fun B => PS.weak (ps_if (hc.run B) (ha.run B) (hb.run B)) fun D σ H ⟨ρ, μ, E, R, q, b⟩ => ⟨[], [], ρ, μ, _, rfl, R, q, fun c μ1 q1 H1 R1 => by
    cases c with
    | true => exact ⟨ρ, μ1, E, R1, q1, b⟩
    | false => exact ⟨ρ, μ1, E, R1, q1, b⟩⟩⟩
/-! ### targets -/
abbrev DTG := Val → DR → Store → (DR → Store → Prop) → Prop
abbrev DTGs := List PyData → DR → Store → (DR → Store → Prop) → Prop
def upG (X : Cx) (B : Base) (g : DTG) : TG := fun v σ H Q => ∃ (hv : List (Option V)) (hx : DR) (x : Val) (ρ : DR) (μ : Store) (Q0 : DR → Store → Prop), hv.length = hx.length ∧ RL X.w X.K B H (some v :: (hv ++ σ)) (some x :: (hx ++ ρ)) μ ∧ g x ρ μ Q0 ∧
  ∀ ρ' μ', Q0 ρ' μ' → ∀ σ' H', RL X.w X.K B H' (hv ++ σ') (hx ++ ρ') μ' → Q σ' H'
def upGs (X : Cx) (B : Base) (g : DTGs) : TGs := fun vs σ H Q => ∃ (hv : List (Option V)) (hx : DR) (ds : List PyData) (ρ : DR) (μ : Store) (Q0 : DR → Store → Prop), hv.length = hx.length ∧ vs.length = ds.length ∧
  RL X.w X.K B H (vs.map some ++ (hv ++ σ)) (ds.map (fun d => some (Val.dat d)) ++ (hx ++ ρ)) μ ∧ g ds ρ μ Q0 ∧ ∀ ρ' μ', Q0 ρ' μ' → ∀ σ' H', RL X.w X.K B H' (hv ++ σ') (hx ++ ρ') μ' → Q σ' H'
structure DG (X : Cx) (e : Expr) (g : DTG) : Prop where
  run : ∀ B : Base, PG X e (upG X B g)
structure DGs (X : Cx) (es : List Expr) (g : DTGs) : Prop where
  run : ∀ B : Base, PGs X es (upGs X B g)
theorem PG.weak {e : Expr} {t t' : TG} (h : PG X e t) (w : ∀ v σ H Q, t' v σ H Q → t v σ H Q) : PG X e t' := ⟨fun pins s σ H v u Q I r q => h.run pins s σ H v u Q I r (w _ _ _ _ q)⟩
theorem PGs.weak {e : List Expr} {t t' : TGs} (h : PGs X e t) (w : ∀ v σ H Q, t' v σ H Q → t v σ H Q) : PGs X e t' := ⟨fun pins s σ H v u Q I r q => h.run pins s σ H v u Q I r (w _ _ _ _ q)⟩
def zName (i : Nat) : DTG := fun x ρ μ Q => Q (ρ.set i (some x)) μ
theorem RL.into {w : World} {K : PySem.W.Frag} {H : Hp} {σ : List (Option V)} {ρ : DR} {μ : Store} {hv : List (Option V)} {hx : DR} {v : V} {x : Val} (l : hv.length = hx.length) (R : RL w K B H (some v :: (hv ++ σ)) (some x :: (hx ++ ρ)) μ) (i : Nat) : RL w K B H (hv ++ σ.set i (some v)) (hx ++ ρ.set i (some x)) μ := by
  obtain ⟨h1, h2⟩ := paired_split l R.tail.sl
  exact R.slots (paired_app h1 (paired_set i h2 R.head))
theorem dg_of_name {e : Expr} {i : Nat} (h : PG X e (gName i)) : DG X e (zName i) :=
  ⟨fun B => PG.weak h fun v σ H Q ⟨hv, hx, x, ρ, μ, Q0, l, R, q, low⟩ => low _ _ q _ _ (R.into l i)⟩
def zgNil : DTGs := fun ds ρ μ Q => match ds with | [] => Q ρ μ | _ => False
def zgCons (g : DTG) (u : DTGs) : DTGs := fun ds ρ μ Q => match ds with | d :: r => g (.dat d) ρ μ fun ρ' μ' => u r ρ' μ' Q | [] => False
theorem dgs_nil : DGs X [] zgNil := ⟨fun B => PGs.weak pgs_nil fun vs σ H Q ⟨hv, hx, ds, ρ, μ, Q0, l, l2, R, q, low⟩ => by
  match ds, vs, l2, R, q with
  | [], [], _, R, q => exact ⟨rfl, low _ _ q _ _ R⟩⟩
theorem dgs_cons {e : Expr} {es : List Expr} {g : DTG} {u : DTGs} (h1 : DG X e g) (h2 : DGs X es u) (hs : (assignEach (e :: es) X.env).map (·.2) = assign e X.env :: (assignEach es X.env).map (·.2) := by rfl) : DGs X (e :: es) (zgCons g u) :=
  ⟨fun B => PGs.weak (pgs_cons (h1.run B) (h2.run B) hs) fun vs σ H Q ⟨hv, hx, ds, ρ, μ, Q0, l, l2, R, q, low⟩ => by
    match ds, vs, l2, R, q with
    | d :: r, v :: vr, l2, R, q =>
      have l3 : vr.length = r.length := by simpa using l2
      refine ⟨v, vr, rfl, vr.map some ++ hv, r.map (fun d => some (Val.dat d)) ++ hx, .dat d, ρ, μ, _, by simp [l, l3], by rw [List.append_assoc, List.append_assoc]; exact R, q, fun ρ' μ' q' σ' H' R' => ?_⟩
      exact ⟨hv, hx, r, ρ', μ', Q0, l, l3, by rw [List.append_assoc, List.append_assoc] at R'; exact R', q', low⟩⟩
def zgTup (n : Nat) (u : DTGs) : DTG := fun x ρ μ Q => match x with | .dat (.tuple ds) => ds.length = n ∧ u ds ρ μ Q | _ => False
theorem dz_some {K : PySem.W.Frag} {Z : Hp} : ∀ {vs : List V} {ds : List PyData}, DzAll Z vs ds → Paired (RVo K Z) (vs.map some) (ds.map fun d => some (Val.dat d))
  | _, [], h => by cases h; exact .nil
  | _, d :: ds, h => by
    cases h with
    | cons h1 h2 => exact .cons h1 (dz_some h2)
theorem dzAll_len {Z : Hp} : ∀ {vs : List V} {ds : List PyData}, DzAll Z vs ds → vs.length = ds.length
  | _, [], h => by cases h; rfl
  | _, d :: ds, h => by
    cases h with
    | cons h1 h2 => simp [dzAll_len h2]
theorem dg_tup {es : List Expr} {k n : Nat} {u : DTGs} {pos : Pos} (hc : X.calm = true) (h : DGs X es u) (hn : (assignEach es X.env).length = n := by rfl) (hst : (assignEach es X.env).findIdx? (·.1) = none := by rfl) : DG X (.Tuple es k pos) (zgTup n u) :=
  ⟨fun B => PG.weak (pg_tup hc (h.run B) hn hst) fun v σ H Q ⟨hv, hx, x, ρ, μ, Q0, l, R, q, low⟩ => by
    have hd := R.head
    match x, q, hd with
    | .dat (.tuple ds), q, hd =>
      cases (hd : Dz _ v (.tuple ds)) with
      | tup h1 h2 =>
        refine ⟨_, _, rfl, SqT.of (fz_le _ _ h1), by rw [dzAll_len h2]; exact q.1, hv, hx, ds, ρ, μ, Q0, l, dzAll_len h2, R.slots (paired_app (dz_some h2) R.tail.sl), q.2, low⟩⟩
/-- xs[i] = v, xs an own list -/
def zSetL (fo fi : DTE) : DTG := fun x ρ μ Q => fo ρ μ fun o μ1 => fi ρ μ1 fun i μ2 => match o, i with
  | .ptr a, .dat (.int k) => ∃ (j : Nat) (xs : List Val) (m : Nat), μ2[j]? = some (a, Node.lst xs) ∧ ixN xs.length k = some m ∧ Q ρ (μ2.set j (a, .lst (xs.set m x)))
  | _, _ => False
theorem dg_setL {a b : Expr} {fo fi : DTE} {pos : Pos} (h1 : ∀ B : Base, PG X (.Subscript a b pos) (gSub (up X B fo) (up X B fi) rSetL)) : DG X (.Subscript a b pos) (zSetL fo fi) :=
  ⟨fun B => PG.weak (h1 B) fun v σ H Q ⟨hv, hx, x, ρ, μ, Q0, l, R, q, low⟩ => by
    refine ⟨some v :: hv, some x :: hx, ρ, μ, _, by simp [l], R, q, fun o μ1 q1 vo H1 R1 => ?_⟩
    refine ⟨some vo :: some v :: hv, some o :: some x :: hx, ρ, μ1, _, by simp [l], R1, q1, fun i μ2 q2 vi H2 R2 => ?_⟩
    have hi := R2.head
    have ho := R2.tail.head
    match o, i, q2, hi, ho with
    | .ptr a, .dat (.int k), q2, hi, ho =>
      cases (hi : Dz _ vi (.int k))
      cases (ho : vo = .ref a)
      obtain ⟨j, xs, m, hj, hm, q3⟩ := q2
      obtain ⟨vs, e, r⟩ := R2.at hj
      refine ⟨a, vs, k, m, rfl, rfl, e, by rw [r.length]; exact hm, low _ _ q3 _ _ ?_⟩
      have R3 := R2.tail.tail
      exact (R3.put (n' := .lst (xs.set m x)) hj ⟨_, upd_same, paired_set m r R3.head⟩).tail⟩
abbrev dAsg (f : DTE) (g : DTG) : DTS := fun E ρ μ => f ρ μ fun x μ1 => g x ρ μ1 E.nx
theorem ds_asg {tg e : Expr} {f : DTE} {g : DTG} {pos : Pos} (he : DE X e f) (hg : DG X tg g) (hs : swapsWithSole [tg] e pos.line X.env = pure false := by rfl) (hw : swappedStores [tg] e X.env = pure none := by rfl)
    (h1 : (assignEach [tg] X.env).map (·.2) = [assign tg X.env] := by rfl) : DS X (.Assign [tg] e pos) (dAsg f g) :=
  ⟨fun B => PS.weak (ps_asg (he.run B) (hg.run B) hs hw h1) fun D σ H ⟨ρ, μ, E, R, q, b⟩ => ⟨[], [], ρ, μ, _, rfl, R, q, fun x μ1 q1 v H1 R1 => ⟨[], [], x, ρ, μ1, _, rfl, R1, q1, fun ρ' μ' q' σ' H' R' => b.nx _ _ q' _ _ R'⟩⟩⟩
abbrev dSet (i : Nat) (f : DTE) : DTS := fun E ρ μ => f ρ μ fun x μ1 => E.nx (ρ.set i (some x)) μ1
theorem ds_of_set {i : Nat} {s : Stmt} {f : DTE} (h : ∀ B : Base, PS X s (tAsg (up X B f) (gName i))) : DS X s (dSet i f) :=
  ⟨fun B => PS.weak (h B) fun D σ H ⟨ρ, μ, E, R, q, b⟩ => ⟨[], [], ρ, μ, _, rfl, R, q, fun x μ1 q1 v H1 R1 => b.nx _ _ q1 _ _ (RL.into (hv := []) (hx := []) rfl R1 i)⟩⟩
end
end Zl
namespace Zl
open PySem PySem.Spec PyProof.Rows L2 Lf
section
variable {X : Cx}
theorem PG.ex {α : Type} {e : Expr} {t : α → TG} (h : ∀ a, PG X e (t a)) : PG X e (fun v σ H Q => ∃ a, t a v σ H Q) := ⟨fun pins s σ H v u Q I r ⟨a, q⟩ => (h a).run pins s σ H v u Q I r q⟩
theorem PSs.ex {α : Type} {e : List Stmt} {t : α → TS} (h : ∀ a, PSs X e (t a)) : PSs X e (fun D σ H => ∃ a, t a D σ H) := ⟨fun pins s σ H D I ⟨a, q⟩ => (h a).run pins s σ H D I q⟩
theorem PE.ex {α : Type} {e : Expr} {t : α → TE} (h : ∀ a, PE X e (t a)) : PE X e (fun σ H Q => ∃ a, t a σ H Q) := ⟨fun pins s σ H Q I ⟨a, q⟩ => (h a).run pins s σ H Q I q⟩
theorem PT.ex {α : Type} {e : Expr} {t : α → TT} (h : ∀ a, PT X e (t a)) : PT X e (fun σ H Q => ∃ a, t a σ H Q) := ⟨fun pins s σ H Q I ⟨a, q⟩ => (h a).run pins s σ H Q I q⟩
theorem PTs.ex {α : Type} {e : List Expr} {t : α → TT} (h : ∀ a, PTs X e (t a)) : PTs X e (fun σ H Q => ∃ a, t a σ H Q) := ⟨fun pins s σ H Q I ⟨a, q⟩ => (h a).run pins s σ H Q I q⟩
theorem PI.weak {tg e : Expr} {t t' : TI} (h : PI X tg e t) (w : ∀ σ H Q, t' σ H Q → t σ H Q) : PI X tg e t' := ⟨fun pins s σ H R I q => h.run pins s σ H R I (w _ _ _ q)⟩
theorem PI.or {tg e : Expr} {t t' : TI} (h : PI X tg e t) (h' : PI X tg e t') : PI X tg e (fun σ H R => t σ H R ∨ t' σ H R) := ⟨fun pins s σ H R I q => by
  rcases q with q | q
  · exact h.run pins s σ H R I q
  · exact h'.run pins s σ H R I q⟩
/-! ### what is walked -/
structure SeqZ (X : Cx) (B : Base) (J : It) (ys : List Val) (ok : Store → Prop) : Prop where
  go : ∀ σ ρ H μ i, RL X.w X.K B H σ ρ μ → ok μ → i < ys.length → J.go i H ∧ ∀ x H', J.yld i H x H' → ∃ y, ys[i]? = some y ∧ RL X.w X.K B H' (some x :: σ) (some y :: ρ) μ
  stop : ∀ σ ρ H μ, RL X.w X.K B H σ ρ μ → ok μ → J.stop ys.length H
  more : ∀ μ q, ok μ → ok (μ ++ [q])
abbrev DTI := DR → Store → (List Val → (Store → Prop) → Store → Prop) → Prop
/-- all that nobody changes at this moment stays -/
abbrev firm (B : Base) (μ : Store) (H : Hp) : Base := ⟨Fz (B.fr ++ μ) H, B.fr⟩
def upI (X : Cx) (B : Base) (f : DTI) : TI := fun σ H R => ∃ (hv : List (Option V)) (hx ρ : DR) (μ : Store) (Q0 : List Val → (Store → Prop) → Store → Prop), hv.length = hx.length ∧ RL X.w X.K B H (hv ++ σ) (hx ++ ρ) μ ∧ f ρ μ Q0 ∧
  ∀ ys ok μ', Q0 ys ok μ' → ∀ J H', RL X.w X.K B H' (hv ++ σ) (hx ++ ρ) μ' → SeqZ X (firm B μ' H') J ys ok → R J H'
structure DI (X : Cx) (tg e : Expr) (f : DTI) : Prop where
  run : ∀ B : Base, PI X tg e (upI X B f)
theorem RL.firm {w : World} {K : PySem.W.Frag} {B : Base} {H : Hp} {σ : List (Option V)} {ρ : DR} {μ : Store} (R : RL w K B H σ ρ μ) : RL w K (firm B μ H) H σ ρ μ := ⟨R.nd, fun _ _ h => h, R.sl, R.st⟩
theorem RL.back {w : World} {K : PySem.W.Frag} {B : Base} {H H' : Hp} {σ σ' : List (Option V)} {ρ ρ' : DR} {μ μ' : Store} (R : RL w K B H σ ρ μ) (R' : RL w K (Zl.firm B μ H) H' σ' ρ' μ') : RL w K B H' σ' ρ' μ' := ⟨R'.nd, fun _ _ h => R'.base _ _ (R.base _ _ h), R'.sl, R'.st⟩
theorem Below.firm {B : Base} {H : Hp} {σ : List (Option V)} {ρ : DR} {μ : Store} {E : DEnds} {D : Ends} (R : RL X.w X.K B H σ ρ μ) (b : Below X B E D) : Below X (Zl.firm B μ H) E D :=
  ⟨fun _ _ q _ _ R' => b.nx _ _ q _ _ (R.back R'), fun _ _ q _ _ R' => b.rt _ _ q _ _ (R.back R'), fun _ _ q _ _ R' => b.bk _ _ q _ _ (R.back R'), fun _ _ q _ _ R' => b.ct _ _ q _ _ (R.back R')⟩
def rangeZ (lo : Int) (n : Nat) : List Val := (List.range n).map fun i : Nat => .dat (.int (lo + (i : Int)))
theorem rangeZ_len {lo : Int} {n : Nat} : (rangeZ lo n).length = n := by unfold rangeZ; rw [List.length_map, List.length_range]
theorem rangeZ_get {lo : Int} {n i : Nat} (h : i < n) : (rangeZ lo n)[i]? = some (.dat (.int (lo + (i : Int)))) := by
  unfold rangeZ
  rw [List.getElem?_map, List.getElem?_range h]
  rfl
theorem seq_range {B : Base} {lo : Int} {n : Nat} : SeqZ X B (Itr lo n) (rangeZ lo n) fun _ => True :=
  ⟨fun σ ρ H μ i R _ hi => by
    rw [rangeZ_len] at hi
    refine ⟨hi, fun x H' y => ?_⟩
    obtain ⟨rfl, rfl⟩ := y
    exact ⟨_, rangeZ_get hi, R.cons (.int _)⟩, fun σ ρ H μ R _ => by
    rw [rangeZ_len]
    exact Nat.le_refl n, fun _ _ _ => trivial⟩
/-- a list or tuple that is walked stays -/
def keeps (x : Val) (xs : List Val) : Store → Prop := match x with
  | .ptr a => fun μ => ∃ j : Nat, μ[j]? = some (a, Node.lst xs)
  | _ => fun _ => True
theorem its_firm {B : Base} {H : Hp} {σ : List (Option V)} {ρ : DR} {μ : Store} {v : V} {x : Val} {b : Bool} {xs : List Val} (R : RL X.w X.K B H σ ρ μ) (h : Its μ x b xs) (r : RV X.K (Fz (B.fr ++ μ) H) v x) :
    ∃ a, v = .ref a ∧ (∃ vs, if b = true then SqT X.K H a vs else SqL X.K H a vs) ∧ ∀ σ' ρ' H' μ', RL X.w X.K (firm B μ H) H' σ' ρ' μ' → keeps x xs μ' → ∃ vs, (if b = true then SqT X.K H' a vs else SqL X.K H' a vs) ∧ Paired (RV X.K (Fz (B.fr ++ μ') H')) vs xs := by
  cases h with
  | d ds =>
    cases (r : Dz _ _ (.list ds)) with
    | lst h1 h2 => exact ⟨_, rfl, ⟨_, SqL.of (fz_le _ _ h1)⟩, fun σ' ρ' H' μ' R' _ => ⟨_, SqL.of (fz_le _ _ (R'.base _ _ h1)), dz_all (DzAll.mono R'.base _ _ h2)⟩⟩
  | t ds =>
    cases (r : Dz _ _ (.tuple ds)) with
    | tup h1 h2 => exact ⟨_, rfl, ⟨_, SqT.of (fz_le _ _ h1)⟩, fun σ' ρ' H' μ' R' _ => ⟨_, SqT.of (fz_le _ _ (R'.base _ _ h1)), dz_all (DzAll.mono R'.base _ _ h2)⟩⟩
  | p j hj =>
    obtain ⟨vs, e, _⟩ := R.at hj
    refine ⟨_, r, ⟨vs, SqL.of e⟩, fun σ' ρ' H' μ' R' k => ?_⟩
    obtain ⟨j', hj'⟩ := k
    obtain ⟨vs', e', h'⟩ := R'.at hj'
    exact ⟨vs', SqL.of e', h'⟩
  | s ns =>
    obtain ⟨a, e, h⟩ := r
    exact ⟨a, e, ⟨_, sqL_mono fz_le h⟩, fun σ' ρ' H' μ' R' _ => ⟨_, sqL_mono fz_le (sqL_mono R'.base h), ints_all ns⟩⟩
theorem seq_its {B : Base} {a : Addr} {x : Val} {b : Bool} {xs : List Val} (h : ∀ σ' ρ' H' μ', RL X.w X.K B H' σ' ρ' μ' → keeps x xs μ' → ∃ vs, (if b = true then SqT X.K H' a vs else SqL X.K H' a vs) ∧ Paired (RV X.K (Fz (B.fr ++ μ') H')) vs xs) :
    SeqZ X B (if b = true then Itt X.K a else Itl X.K a) xs (keeps x xs) := by
  refine ⟨fun σ ρ H μ i R k hi => ?_, fun σ ρ H μ R k => ?_, fun μ q k => ?_⟩
  rotate_left 2
  · unfold keeps at k ⊢
    split at k
    · obtain ⟨j, hj⟩ := k
      exact ⟨j, by rw [List.getElem?_append_left (List.getElem?_eq_some_iff.mp hj).1]; exact hj⟩
    · trivial
  · obtain ⟨vs, h1, h2⟩ := h σ ρ H μ R k
    have hi' : i < vs.length := by rw [h2.length]; exact hi
    have e := List.getElem?_eq_getElem hi'
    have ey := List.getElem?_eq_getElem hi
    obtain ⟨v, ev, rv⟩ := paired_get h2 ey
    cases b with
    | true =>
      refine ⟨⟨vs, _, h1, e⟩, fun z H' y => ?_⟩
      obtain ⟨rfl, y⟩ := y
      have := y vs h1
      rw [ev] at this
      cases this
      exact ⟨_, ey, R.cons rv⟩
    | false =>
      refine ⟨⟨vs, _, h1, e⟩, fun z H' y => ?_⟩
      obtain ⟨rfl, y⟩ := y
      have := y vs h1
      rw [ev] at this
      cases this
      exact ⟨_, ey, R.cons rv⟩
  · obtain ⟨vs, h1, h2⟩ := h σ ρ H μ R k
    cases b with
    | true => exact ⟨vs, h1, Nat.le_of_eq h2.length⟩
    | false => exact ⟨vs, h1, Nat.le_of_eq h2.length⟩
/-- a list, a tuple or a text, as it comes -/
def iAny (K : PySem.W.Frag) (te : TE) : TI := fun σ H R => te σ H fun x G => (∃ a xs, x = .ref a ∧ SqL K G a xs ∧ R (Itl K a) G) ∨ (∃ a xs, x = .ref a ∧ SqT K G a xs ∧ R (Itt K a) G) ∨ ∃ z, x = .str z ∧ R (L2.Its z) G
theorem pi_any {tg e : Expr} {te : TE} (pe : PE X e te) : PI X tg e (iAny X.K te) :=
  ⟨fun pins s σ H R J h => thn (pe.run pins s σ H _ J h) fun u z ⟨x, G, JG, rx, q⟩ => by
    have here : ∀ c : Addr, c ∈ [z.heap.objs.size] → FpOk X pins G c := fun c hc => by
      rw [List.mem_singleton.mp hc]
      exact JG.fpOk (Nat.le_refl _) (JG.hok.fresh (Nat.le_refl _))
    rcases q with ⟨a, xs, rfl, sq, q⟩ | ⟨a, xs, rfl, sq, q⟩ | ⟨w, rfl, q⟩
    · obtain rfl : u = .ref a := rx
      obtain ⟨its, _, lay, _⟩ := JG.list sq
      exact wpAny_pyIter_list lay.isList ⟨_, [z.heap.objs.size], _, _, G, rfl, JG.kept (t' := z.toks) (fun _ _ m => Heap.get?_push_of_some _ m), turn_list a _, ⟨_, Heap.get?_push_size _ rfl, rfl, rfl⟩, here, q⟩
    · obtain rfl : u = .ref a := rx
      obtain ⟨its, _, lay, _⟩ := JG.tuple sq
      exact wpAny_pyIter_tuple (items := its.toArray) lay ⟨_, [z.heap.objs.size], _, _, G, rfl, JG.kept (t' := z.toks) (fun _ _ m => Heap.get?_push_of_some _ m), turn_tuple a _, ⟨_, Heap.get?_push_size _ rfl, rfl, rfl⟩, here, q⟩
    · obtain ⟨t, rfl⟩ := rx
      cases asc : w.cps.all (· < 128)
      · exact wpAny_pyIter_wide asc (pi_one (tk := z.toks) JG _ (turn_str _ w t "str_iterator" (.inr rfl)) ⟨_, Heap.get?_push_size _ rfl, rfl, rfl⟩ q)
      · exact wpAny_pyIter_ascii asc (pi_one (tk := z.toks) JG _ (turn_str _ w t "str_ascii_iterator" (.inl rfl)) ⟨_, Heap.get?_push_size _ rfl, rfl, rfl⟩ q)⟩
def signsZ (z : Str) : List Val := z.cps.toList.map fun c => .dat (.str ⟨#[c]⟩)
theorem seq_str {B : Base} {z : Str} : SeqZ X B (L2.Its z) (signsZ z) fun _ => True :=
  ⟨fun σ ρ H μ i R _ hi => by
    unfold signsZ at hi ⊢
    rw [List.length_map] at hi
    refine ⟨(show i < z.cps.size by simpa using hi), fun x H' y => ?_⟩
    obtain ⟨rfl, c, ec, rfl⟩ := y
    refine ⟨.dat (.str ⟨#[c]⟩), ?_, R.cons (x := .dat (.str ⟨#[c]⟩)) (Dz.str _)⟩
    rw [List.getElem?_map, Array.getElem?_toList, ec]
    rfl, fun σ ρ H μ R _ => by
    unfold signsZ
    rw [List.length_map]
    show z.cps.size ≤ z.cps.toList.length
    simp, fun _ _ _ => trivial⟩
/-- over data, over the script, over a list of one's own that stays -/
abbrev dSeqI (f : DTE) : DTI := fun ρ μ Q => f ρ μ fun x μ1 => match x with
  | .dat (.list ds) => Q (ds.map .dat) (fun _ => True) μ1
  | .dat (.tuple ds) => Q (ds.map .dat) (fun _ => True) μ1
  | .dat (.str z) => Q (signsZ z) (fun _ => True) μ1
  | .scr ns => Q (ns.map fun n => .dat (.int n)) (fun _ => True) μ1
  | .ptr a => ∃ (j : Nat) (xs : List Val), μ1[j]? = some (a, Node.lst xs) ∧ Q xs (fun μ => ∃ j : Nat, μ[j]? = some (a, Node.lst xs)) μ1
  | _ => False
theorem di_seq {tg e : Expr} {f : DTE} (h : DE X e f) : DI X tg e (dSeqI f) :=
  ⟨fun B => PI.weak (pi_any (h.run B)) fun σ H R q => by
    obtain ⟨hv, hx, ρ, μ, Q0, hl, R0, q, low⟩ := q
    refine ⟨hv, hx, ρ, μ, _, hl, R0, q, fun x μ1 q v H1 R1 => ?_⟩
    have key : ∀ (b : Bool) (xs : List Val), Its μ1 x b xs → Q0 xs (keeps x xs) μ1 → (∃ a vs, v = .ref a ∧ SqL X.K H1 a vs ∧ R (Itl X.K a) H1) ∨ (∃ a vs, v = .ref a ∧ SqT X.K H1 a vs ∧ R (Itt X.K a) H1) ∨ ∃ z, v = .str z ∧ R (L2.Its z) H1 := fun b xs h q => by
      obtain ⟨a, e, ⟨vs, ex⟩, st⟩ := its_firm R1 h R1.head
      have sq := seq_its st
      cases b with
      | true => exact .inr (.inl ⟨a, vs, e, ex, low _ _ _ q _ _ R1.tail sq⟩)
      | false => exact .inl ⟨a, vs, e, ex, low _ _ _ q _ _ R1.tail sq⟩
    split at q
    · exact key _ _ (.d _) q
    · exact key _ _ (.t _) q
    · have hd := R1.head
      cases (hd : Dz _ v (.str _))
      exact .inr (.inr ⟨_, rfl, low _ _ _ q _ _ R1.tail seq_str⟩)
    · exact key _ _ (.s _) q
    · obtain ⟨j, xs, hj, q⟩ := q
      exact key _ _ (.p j hj) q
    · exact q.elim⟩
/-- range(n), range(a, b) -/
abbrev dRange1 (g : DTA) : DTI := fun ρ μ Q => g ρ μ fun xs μ1 => match xs with
  | [.dat (.int j)] => -(2 ^ 62) ≤ j ∧ j < 2 ^ 62 ∧ Q (rangeZ 0 j.toNat) (fun _ => True) μ1
  | _ => False
abbrev dRange2 (g : DTA) : DTI := fun ρ μ Q => g ρ μ fun xs μ1 => match xs with
  | [.dat (.int i), .dat (.int j)] => (-(2 ^ 62) ≤ i ∧ i < 2 ^ 62 ∧ -(2 ^ 62) ≤ j ∧ j < 2 ^ 62) ∧ Q (rangeZ i (j - i).toNat) (fun _ => True) μ1
  | _ => False
theorem di_range1 {tg a : Expr} {g : DTA} {p pos : Pos} (hg : Gl X "range") (hm : X.mg "range" = none) (h : DA X [a] g) (hs : starEach [a] X.env = [(false, eval a X.env)] := by rfl) : DI X tg (.Call (.Name "range" p) [a] [] pos) (dRange1 g) :=
  ⟨fun B => PI.weak (pi_range1 hg hm (h.run B) hs) fun σ H R q => by
    obtain ⟨hv, hx, ρ, μ, Q0, hl, R0, q, low⟩ := q
    refine ⟨hv, hx, ρ, μ, _, hl, R0, q, fun xs μ1 q vs H1 l R1 => ?_⟩
    match xs, vs, l, R1, q with
    | [.dat (.int j)], [v], l, R1, q =>
      have hd := R1.head
      cases (hd : Dz _ v (.int j))
      exact ⟨j, rfl, q.1, q.2.1, low _ _ _ q.2.2 _ _ R1.tail seq_range⟩⟩
theorem di_range2 {tg a b : Expr} {g : DTA} {p pos : Pos} (hg : Gl X "range") (hm : X.mg "range" = none) (h : DA X [a, b] g) (hs : starEach [a, b] X.env = [(false, eval a X.env), (false, eval b X.env)] := by rfl)
    (hs2 : starEach [b] X.env = [(false, eval b X.env)] := by rfl) : DI X tg (.Call (.Name "range" p) [a, b] [] pos) (dRange2 g) :=
  ⟨fun B => PI.weak (pi_range2 hg hm (h.run B) hs hs2) fun σ H R q => by
    obtain ⟨hv, hx, ρ, μ, Q0, hl, R0, q, low⟩ := q
    refine ⟨hv, hx, ρ, μ, _, hl, R0, q, fun xs μ1 q vs H1 l R1 => ?_⟩
    match xs, vs, l, R1, q with
    | [.dat (.int i), .dat (.int j)], [v, u], l, R1, q =>
      have hd := R1.head
      have he := R1.tail.head
      cases (hd : Dz _ v (.int i))
      cases (he : Dz _ u (.int j))
      exact ⟨i, j, rfl, q.1, low _ _ _ q.2 _ _ R1.tail.tail seq_range⟩⟩
/-! ### for -/
/-- what nobody wants any more is forgotten -/
def less (P : DR → Store → Prop) : DR → Store → Prop := fun ρ μ => ∃ μ', List.Sublist μ' μ ∧ P ρ μ'
abbrev dFor (fi : DTI) (g : DTG) (tb : DTS) : DTS := fun E ρ μ => fi ρ μ fun ys ok μ1 => ∃ I : Nat → DR → Store → Prop, I 0 ρ μ1 ∧ (∀ i ρ μ, i ≤ ys.length → I i ρ μ → ok μ) ∧
  (∀ i y ρ μ, ys[i]? = some y → I i ρ μ → g y ρ μ fun ρ' μ' => tb { nx := less (I (i + 1)), rt := E.rt, bk := E.nx, ct := less (I (i + 1)) } ρ' μ') ∧ ∀ ρ μ, I ys.length ρ μ → E.nx ρ μ
theorem ds_for {tg e : Expr} {body : List Stmt} {fi : DTI} {g : DTG} {tb : DTS} {pos : Pos} (hp : PassesOwn (model X.prog X.w) X.A X.env X.xe) (hc : X.calm = true) (hi : DI X tg e fi) (hg : DG X tg g) (hb : DSs X body tb)
    (hs : ∀ x, foldedSetIterable e X.env x = pure x := by intro _; rfl) : DS X (.For tg e body [] pos) (dFor fi g tb) :=
  ⟨fun B => PS.weak (ps_for hp hc (hi.run B) (PG.ex fun B' => hg.run B') (PSs.ex fun B' => hb.run B') hs) fun D σ H q => by
    obtain ⟨ρ, μ, E, R0, q, b⟩ := q
    refine ⟨[], [], ρ, μ, _, rfl, R0, q, fun ys ok μ1 q J H1 R1 sz => ?_⟩
    obtain ⟨I, i0, iok, turn, fin⟩ := q
    have R1 : RL X.w X.K B H1 σ ρ μ1 := R1
    have bf := b.firm R1
    refine ⟨fun i m σ' H' => m = ys.length - i ∧ i ≤ ys.length ∧ ∃ ρ' μ', RL X.w X.K (firm B μ1 H1) H' σ' ρ' μ' ∧ I i ρ' μ', ⟨ys.length, by simp, Nat.zero_le _, ρ, μ1, R1.firm, i0⟩, ?_⟩
    rintro i m σ' H' ⟨rfl, hi, ρ', μ', R', i'⟩
    have k := iok i ρ' μ' hi i'
    by_cases c : i < ys.length
    · obtain ⟨go, step⟩ := sz.go _ _ _ _ _ R' k c
      refine .inr ⟨go, fun σ2 H2 => ∃ ρ2 μ2, RL X.w X.K (firm B μ1 H1) H2 σ2 ρ2 μ2 ∧ I (i + 1) ρ2 μ2, fun σ2 H2 h => ⟨ys.length - (i + 1), by omega, rfl, c, h⟩, fun x H2 y => ?_⟩
      obtain ⟨z, ez, R2⟩ := step x H2 y
      refine ⟨firm B μ1 H1, [], [], z, ρ', μ', _, rfl, R2, turn i z ρ' μ' ez i', fun ρ3 μ3 q3 σ3 H3 R3 => ?_⟩
      exact ⟨firm B μ1 H1, ρ3, μ3, _, R3, q3, ⟨fun ρ4 μ4 ⟨μ5, s5, q4⟩ σ4 H4 R4 => ⟨ρ4, μ5, R4.less s5, q4⟩, bf.rt, fun ρ4 μ4 q4 σ4 H4 R4 => bf.nx _ _ q4 _ _ R4, fun ρ4 μ4 ⟨μ5, s5, q4⟩ σ4 H4 R4 => ⟨ρ4, μ5, R4.less s5, q4⟩⟩⟩
    · have e : i = ys.length := by omega
      subst e
      exact .inl ⟨sz.stop _ _ _ _ R' k, bf.nx _ _ (fin _ _ i') _ _ R'⟩⟩
/-! ### while -/
abbrev dWhile (c : DTT) (tb : DTS) : DTS := fun E ρ μ => ∃ (I : DR → Store → Prop) (m : DR → Store → Nat), I ρ μ ∧ ∀ ρ μ, I ρ μ → c ρ μ fun b μ1 => if b = true then
  tb { nx := less fun ρ' μ' => I ρ' μ' ∧ m ρ' μ' < m ρ μ, rt := E.rt, bk := E.nx, ct := less fun ρ' μ' => I ρ' μ' ∧ m ρ' μ' < m ρ μ } ρ μ1 else E.nx ρ μ1
theorem ds_while {c : Expr} {body : List Stmt} {fc : DTT} {tb : DTS} {pos : Pos} (hp : PassesOwn (model X.prog X.w) X.A X.env X.xe) (hc : DT X c fc) (hb : DSs X body tb) : DS X (.While c body [] pos) (dWhile fc tb) :=
  ⟨fun B => PS.weak (ps_while hp (hc.run B) (hb.run B)) fun D σ H q => by
    obtain ⟨ρ, μ, E, R0, ⟨I, ms, i0, turn⟩, b⟩ := q
    refine ⟨fun m σ' H' => ∃ ρ' μ', m = ms ρ' μ' ∧ RL X.w X.K B H' σ' ρ' μ' ∧ I ρ' μ', ⟨_, ρ, μ, rfl, R0, i0⟩, ?_⟩
    rintro m σ' H' ⟨ρ', μ', rfl, R', i'⟩
    refine ⟨[], [], ρ', μ', _, rfl, R', turn ρ' μ' i', fun c μ1 q H1 R1 => ?_⟩
    cases c with
    | true =>
      refine ⟨fun σ2 H2 => ∃ ρ2 μ2, RL X.w X.K B H2 σ2 ρ2 μ2 ∧ I ρ2 μ2 ∧ ms ρ2 μ2 < ms ρ' μ', fun σ2 H2 ⟨ρ2, μ2, r, i, l⟩ => ⟨_, l, ρ2, μ2, rfl, r, i⟩, ρ', μ1, _, R1, q, ⟨fun ρ4 μ4 ⟨μ5, s5, q4⟩ σ4 H4 R4 => ⟨ρ4, μ5, R4.less s5, q4⟩, b.rt, fun ρ4 μ4 q4 σ4 H4 R4 => b.nx _ _ q4 _ _ R4, fun ρ4 μ4 ⟨μ5, s5, q4⟩ σ4 H4 R4 => ⟨ρ4, μ5, R4.less s5, q4⟩⟩⟩
    | false => exact b.nx _ _ q _ _ R1⟩
end
end Zl
namespace Zl
open PySem PySem.Spec PyProof.Rows L2 Lf
section
variable {X : Cx}
/-! ### list comprehensions -/
def wipeZ (ρ : DR) : List Nat → DR
  | [] => ρ
  | v :: vs => (wipeZ ρ vs).set v none
theorem wipe_pair {K : PySem.W.Frag} {Z : Hp} {σ : L2.St} {ρ : DR} (h : Paired (RVo K Z) σ ρ) : ∀ vs : List Nat, Paired (RVo K Z) (wipe σ vs) (wipeZ ρ vs)
  | [] => h
  | v :: vs => paired_set v (wipe_pair h vs) trivial
/-- tests of a comprehension -/
structure DTs (X : Cx) (es : List Expr) (f : DTT) : Prop where
  run : ∀ B : Base, PTs X es (upT X B f)
abbrev dYes : DTT := fun _ μ Q => Q true μ
theorem PTs.weak {e : List Expr} {t t' : TT} (h : PTs X e t) (w : ∀ σ H Q, t' σ H Q → t σ H Q) : PTs X e t' := ⟨fun pins s σ H Q I q => h.run pins s σ H Q I (w _ _ _ q)⟩
theorem dts_nil : DTs X [] dYes := ⟨fun B => PTs.weak pts_nil fun σ H Q ⟨hv, hx, ρ, μ, Q0, hl, R0, q, low⟩ => low _ _ q _ R0⟩
theorem dts_one {c : Expr} {f : DTT} (h : DT X c f) : DTs X [c] f := ⟨fun B => pts_one (h.run B)⟩
/-- the target of a comprehension: a name, or a tuple of names -/
def PutOk (X : Cx) (g : TG) (vs : List Nat) (put : Val → DR → Option DR) : Prop :=
  ∀ (B : Base) (σ : L2.St) (ρ ρ2 : DR) (H : Hp) (μ : Store) (v : V) (x : Val) (hv : List (Option V)) (hx : DR) (Q : L2.St → Hp → Prop), hv.length = hx.length → RL X.w X.K B H (some v :: (hv ++ wipe σ vs)) (some x :: (hx ++ wipeZ ρ vs)) μ → put x (wipeZ ρ vs) = some ρ2 →
    (∀ σ2, wipe σ2 vs = wipe σ vs → RL X.w X.K B H (hv ++ σ2) (hx ++ ρ2) μ → Q σ2 H) → g v (wipe σ vs) H Q
theorem wipe_set {σ : L2.St} {i : Nat} {x : Option V} : ∀ {vs : List Nat}, i ∈ vs → wipe (σ.set i x) vs = wipe σ vs
  | v :: vs, h => by
    unfold wipe
    by_cases e : i ∈ vs
    · rw [wipe_set e]
    · have e2 : i = v := by
        rcases List.mem_cons.mp h with z | z
        · exact z
        · exact absurd z e
      subst e2
      have : ∀ vs : List Nat, (wipe (σ.set i x) vs).set i none = (wipe σ vs).set i none := fun vs => by
        induction vs with
        | nil =>
          unfold wipe
          rw [List.set_set]
        | cons w ws ih =>
          unfold wipe
          by_cases ew : w = i
          · subst ew
            rw [List.set_set, List.set_set, ih]
          · rw [List.set_comm _ _ ew, List.set_comm _ _ ew, ih]
      exact this vs
theorem wipe_idem {σ : L2.St} {vs : List Nat} : wipe (wipe σ vs) vs = wipe σ vs := by
  have : ∀ us : List Nat, (∀ u ∈ us, u ∈ vs) → wipe (wipe σ us) vs = wipe σ vs := fun us => by
    induction us with
    | nil => intro _; rfl
    | cons u us ih =>
      intro h
      show wipe ((wipe σ us).set u none) vs = _
      rw [wipe_set (h u (List.mem_cons_self ..)), ih fun w hw => h w (List.mem_cons_of_mem _ hw)]
  exact this vs fun _ h => h
def putN (i : Nat) : Val → DR → Option DR := fun x ρ => some (ρ.set i (some x))
theorem put_name {i : Nat} {vs : List Nat} (hi : i ∈ vs) : PutOk X (gName i) vs (putN i) :=
  fun B σ ρ ρ2 H μ v x hv hx Q l R e q => by
    cases e
    exact q _ (by rw [wipe_set hi, wipe_idem]) (R.into l i)
def setsZ : List Nat → List PyData → DR → DR
  | i :: is, d :: ds, ρ => setsZ is ds (ρ.set i (some (.dat d)))
  | _, _, ρ => ρ
def gNames : List Nat → TGs
  | [] => gNil
  | i :: is => gCons (gName i) (gNames is)
def putT (is : List Nat) : Val → DR → Option DR := fun x ρ => match x with | .dat (.tuple ds) => if ds.length = is.length then some (setsZ is ds ρ) else none | _ => none
theorem put_tup {is vs : List Nat} {n : Nat} (hn : is.length = n) (hi : ∀ i ∈ is, i ∈ vs) : PutOk X (gTup X.K n (gNames is)) vs (putT is) :=
  fun B σ ρ ρ2 H μ v x hv hx Q l R e q => by
    have hd := R.head
    match x, e, hd with
    | .dat (.tuple ds), e, hd =>
      unfold putT at e
      dsimp only at e
      split at e
      · rename_i el
        cases e
        cases (hd : Dz _ v (.tuple ds)) with
        | tup h1 h2 =>
          refine ⟨_, _, rfl, SqT.of (fz_le _ _ h1), ((dzAll_len h2).trans el).trans hn, ?_⟩
          have : ∀ (is : List Nat) (ds : List PyData) (us : List V) (σ' : L2.St) (ρ' : DR), is.length = ds.length → (∀ i ∈ is, i ∈ vs) → DzAll (Fz (B.fr ++ μ) H) us ds → wipe σ' vs = wipe σ vs → RL X.w X.K B H (hv ++ σ') (hx ++ ρ') μ →
              (∀ σ2, wipe σ2 vs = wipe σ vs → RL X.w X.K B H (hv ++ σ2) (hx ++ setsZ is ds ρ') μ → Q σ2 H) → gNames is us σ' H Q := by
            intro is
            induction is with
            | nil =>
              intro ds us σ' ρ' l1 _ h2 hw R' q
              have e1 : ds = [] := List.eq_nil_of_length_eq_zero (by simpa using l1.symm)
              subst e1
              cases h2
              exact ⟨rfl, q _ hw R'⟩
            | cons i is ih =>
              intro ds us σ' ρ' l1 hm h2 hw R' q
              match ds, l1, h2, q with
              | d :: ds, l1, h2, q =>
                cases h2 with
                | cons h3 h4 =>
                  refine ⟨_, _, rfl, ih ds _ _ _ (by simpa using l1) (fun j hj => hm j (List.mem_cons_of_mem _ hj)) h4 ?_ ?_ q⟩
                  · rw [wipe_set (hm i (List.mem_cons_self ..)), hw]
                  · obtain ⟨p1, p2⟩ := paired_split l R'.sl
                    exact R'.slots (paired_app p1 (paired_set i p2 h3))
          exact this is ds _ _ _ el.symm hi h2 wipe_idem R.tail q
      · cases e
abbrev dLc (fi : DTI) (put : Val → DR → Option DR) (ft : DTT) (fe : DTE) (vs : List Nat) : DTE := fun ρ μ Q => fi ρ μ fun ys ok μ1 => ∃ I : Nat → List Val → Store → Prop, I 0 [] μ1 ∧ (∀ k acc μ, k ≤ ys.length → I k acc μ → ok μ) ∧
  (∀ k y acc μ, ys[k]? = some y → I k acc μ → ∃ ρ2, put y (wipeZ ρ vs) = some ρ2 ∧ ft ρ2 μ fun b μ2 => if b = true then fe ρ2 μ2 fun x μ3 => acc.length < sizeLine ∧ ∃ μ4, List.Sublist μ4 μ3 ∧ I (k + 1) (acc ++ [x]) μ4 else ∃ μ4, List.Sublist μ4 μ2 ∧ I (k + 1) acc μ4) ∧
  ∀ acc μ, I ys.length acc μ → ∀ p, Q (.ptr p) (μ ++ [(p, .lst acc)])
/-- the list that is made is hidden from what is within -/
theorem RL.hide {w : World} {K : PySem.W.Frag} {B : Base} {H : Hp} {σ : List (Option V)} {ρ : DR} {μ : Store} {D : Addr} {n : Node} (R : RL w K B H σ ρ (μ ++ [(D, n)])) :
    RL w K ⟨B.hp, B.fr ++ [(D, n)]⟩ H σ ρ μ := by
  have pm : ((B.fr ++ [(D, n)]) ++ μ).Perm (B.fr ++ (μ ++ [(D, n)])) := by
    rw [List.append_assoc]
    exact List.perm_append_comm.append_left _
  refine (R.as (B' := ⟨B.hp, B.fr ++ [(D, n)]⟩) (nodup_perm pm.symm R.nd) (fun p hp => pm.mem_iff.mp hp) fun x o h => ?_).1
  obtain ⟨h1, h2⟩ := Fz.sub (R.base _ _ h)
  exact Fz.of (fun z => h1 (((pm.map (·.1)).mem_iff).mp z)) h2
theorem RL.show {w : World} {K : PySem.W.Frag} {B : Base} {H : Hp} {σ : List (Option V)} {ρ : DR} {μ : Store} {D : Addr} {n : Node} (R : RL w K ⟨B.hp, B.fr ++ [(D, n)]⟩ H σ ρ μ) : RL w K B H σ ρ (μ ++ [(D, n)]) := by
  have pm : ((B.fr ++ [(D, n)]) ++ μ).Perm (B.fr ++ (μ ++ [(D, n)])) := by
    rw [List.append_assoc]
    exact List.perm_append_comm.append_left _
  refine (R.as (B' := B) (nodup_perm pm R.nd) (fun p hp => pm.mem_iff.mpr hp) fun x o h => ?_).1
  obtain ⟨h1, h2⟩ := Fz.sub (R.base _ _ h)
  exact Fz.of (fun z => h1 (((pm.map (·.1)).mem_iff).mpr z)) h2
theorem set_last {μ : Store} {q q' : Addr × Node} : (μ ++ [q]).set μ.length q' = μ ++ [q'] := by
  rw [List.set_append_right _ _ (Nat.le_refl _), Nat.sub_self]
  rfl
theorem lc_up {B : Base} {fi : DTI} {put : Val → DR → Option DR} {ft : DTT} {fe : DTE} {vs : List Nat} {g : TG}
    (hg : PutOk X g vs put)
    {σ : L2.St} {H : Hp} {Q : VK} (q : up X B (dLc fi put ft fe vs) σ H Q) : tLc (upI X B fi) g (fun σ H Q => ∃ B', upT X B' ft σ H Q) (fun σ H Q => ∃ B', up X B' fe σ H Q) vs σ H Q := by
  obtain ⟨hv, hx, ρ, μ, Q0, hl, R0, q, low⟩ := q
  refine ⟨hv, hx, ρ, μ, _, hl, R0, q, fun ys ok μ1 q J H1 R1 sz D hD => ?_⟩
  obtain ⟨I, i0, iok, turn, fin⟩ := q
  have Rf := R1.firm
  refine ⟨fun k m H' => m = ys.length - k ∧ k ≤ ys.length ∧ ∃ acc μ', RL X.w X.K (firm B μ1 H1) H' (hv ++ σ) (hx ++ ρ) (μ' ++ [(D, .lst acc)]) ∧ I k acc μ', ⟨ys.length, by simp, Nat.zero_le _, [], μ1, Rf.new (n := .lst []) hD ⟨[], upd_same, .nil⟩, i0⟩, ?_⟩
  rintro k m H' ⟨rfl, hk, acc, μ', R', i'⟩
  have kk := iok k acc μ' hk i'
  by_cases c : k < ys.length
  · obtain ⟨go, step⟩ := sz.go _ _ _ _ _ R' (sz.more _ _ kk) c
    refine .inr ⟨go, fun H2 => ∃ acc μ2, RL X.w X.K (firm B μ1 H1) H2 (hv ++ σ) (hx ++ ρ) (μ2 ++ [(D, .lst acc)]) ∧ I (k + 1) acc μ2, fun H2 ⟨acc, μ2, h⟩ => ⟨ys.length - (k + 1), by omega, rfl, c, acc, μ2, h⟩, fun x H2 y => ?_⟩
    obtain ⟨z, ez, R2⟩ := step x H2 y
    obtain ⟨ρ2, e2, q2⟩ := turn k z acc μ' ez i'
    have Rh := R2.hide
    have pw : Paired (RVo X.K (Fz (((firm B μ1 H1).fr ++ [(D, Node.lst acc)]) ++ μ') H2)) (wipe σ vs) (wipeZ ρ vs) := wipe_pair (paired_split hl Rh.tail.sl).2 vs
    have Rw : RL X.w X.K ⟨(firm B μ1 H1).hp, (firm B μ1 H1).fr ++ [(D, .lst acc)]⟩ H2 (some x :: ((hv ++ σ) ++ wipe σ vs)) (some z :: ((hx ++ ρ) ++ wipeZ ρ vs)) μ' := Rh.slots (.cons Rh.head (paired_app Rh.tail.sl pw))
    have ll : (hv ++ σ).length = (hx ++ ρ).length := Rh.tail.sl.length
    refine hg _ σ ρ ρ2 H2 μ' x z (hv ++ σ) (hx ++ ρ) _ ll Rw e2 fun σ2 ew R3 => ⟨ew, _, hv ++ σ, hx ++ ρ, ρ2, μ', _, ll, R3, q2, fun b μ2 q3 H3 R4 => ?_⟩
    cases b with
    | false =>
      obtain ⟨μ5, s5, q3⟩ := q3
      exact ⟨acc, μ5, RL.show (B := firm B μ1 H1) ((R4.less s5).slots (paired_split ll (R4.less s5).sl).1), q3⟩
    | true =>
      refine ⟨_, hv ++ σ, hx ++ ρ, ρ2, μ2, _, ll, R4, q3, fun u μ3 q4 v H4 R5 => ?_⟩
      have R6 : RL X.w X.K (firm B μ1 H1) H4 (some v :: (hv ++ σ)) (some u :: (hx ++ ρ)) (μ3 ++ [(D, .lst acc)]) := RL.show (R5.slots (.cons R5.head (paired_split ll R5.tail.sl).1))
      have hj : (μ3 ++ [(D, Node.lst acc)])[μ3.length]? = some (D, .lst acc) := by simp
      obtain ⟨us, eD, pr⟩ := R6.at hj
      obtain ⟨q4, μ5, s5, q6⟩ := q4
      refine ⟨us, eD, by rw [pr.length]; exact q4, acc ++ [u], μ5, ?_, q6⟩
      have := R6.put (n' := .lst (acc ++ [u])) hj ⟨us ++ [v], upd_same, paired_app pr (.cons R6.head .nil)⟩
      rw [set_last] at this
      exact this.tail.less (s5.append (.refl _))
  · have e : k = ys.length := by omega
    subst e
    exact .inl ⟨sz.stop _ _ _ _ R' (sz.more _ _ kk), low _ _ (fin acc μ' i' D) _ _ ((R1.back R').cons rfl)⟩
theorem d_lc {elt tg iter : Expr} {ifs : List Expr} {scope : Scope} {own : List (Str × Nat)} {pos : Pos} {fi : DTI} {put : Val → DR → Option DR} {ft : DTT} {fe : DTE} (hc : X.calm = true) (hN : X.N.Nodup) (hi : DI X tg iter fi) (ok : BlkOk X.N X.env.scope scope own)
    {g : TG} (hp : PutOk X g (own.map (·.2)) put)
    (hg : ∀ (s : Shared) (H : Hp) (C : Addr) (cl : List (Str × Addr)) (fp : List Addr), PG (X.blk s H scope (compEnvC scope cl C X.env) fp) tg g) (ht : ∀ (s : Shared) (H : Hp) (C : Addr) (cl : List (Str × Addr)) (fp : List Addr), DTs (X.blk s H scope (compEnvC scope cl C X.env) fp) ifs ft)
    (he : ∀ (s : Shared) (H : Hp) (C : Addr) (cl : List (Str × Addr)) (fp : List Addr), DE (X.blk s H scope (compEnvC scope cl C X.env) fp) elt fe) (hs : ∀ x, foldedSetIterable iter X.env x = pure x := by intro _; rfl) :
    DE X (.ListComp elt [⟨tg, iter, ifs, 0⟩] scope pos) (dLc fi put ft fe (own.map (·.2))) :=
  ⟨fun B => PE.weak (pe_lc (tt := fun σ H Q => ∃ B', upT X B' ft σ H Q) (te := fun σ H Q => ∃ B', up X B' fe σ H Q) hc hN (hi.run B) ok hg (fun s H C cl fp => PTs.ex fun B' => (ht s H C cl fp).run B') (fun s H C cl fp => PE.ex fun B' => (he s H C cl fp).run B') hs) fun σ H Q q => lc_up hp q⟩
theorem ds_setLc {i : Nat} {y : Str} {py : Pos} {elt tg iter : Expr} {ifs : List Expr} {scope : Scope} {own : List (Str × Nat)} {pos spos : Pos} {fi : DTI} {put : Val → DR → Option DR} {ft : DTT} {fe : DTE} (hc : X.calm = true) (hN : X.N.Nodup) (hy : X.N[i]? = some y) (hyl : X.env.scope.names.lookup y = some .local)
    (hsw : swapsWith (.ListComp elt [⟨tg, iter, ifs, 0⟩] scope pos) (some (.Name y py)) spos.line X.env = pure true) (hi : DI X tg iter fi) (ok : BlkOk X.N X.env.scope scope own)
    {g : TG} (hp : PutOk X g (own.map (·.2)) put)
    (hg : ∀ (s : Shared) (H : Hp) (C : Addr) (cl : List (Str × Addr)) (fp : List Addr), PG (X.blk s H scope (compEnvC scope cl C X.env) fp) tg g) (ht : ∀ (s : Shared) (H : Hp) (C : Addr) (cl : List (Str × Addr)) (fp : List Addr), DTs (X.blk s H scope (compEnvC scope cl C X.env) fp) ifs ft)
    (he : ∀ (s : Shared) (H : Hp) (C : Addr) (cl : List (Str × Addr)) (fp : List Addr), DE (X.blk s H scope (compEnvC scope cl C X.env) fp) elt fe) (hs : ∀ x, foldedSetIterable iter X.env x = pure x := by intro _; rfl) :
    DS X (.Assign [.Name y py] (.ListComp elt [⟨tg, iter, ifs, 0⟩] scope pos) spos) (dSet i (dLc fi put ft fe (own.map (·.2)))) :=
  ⟨fun B => PS.weak (ps_setLc (tt := fun σ H Q => ∃ B', upT X B' ft σ H Q) (te := fun σ H Q => ∃ B', up X B' fe σ H Q) hc hN hy hyl hsw (hi.run B) ok hg (fun s H C cl fp => PTs.ex fun B' => (ht s H C cl fp).run B') (fun s H C cl fp => PE.ex fun B' => (he s H C cl fp).run B') hs) fun D σ H ⟨ρ, μ, E, R, q, b⟩ =>
    lc_up hp ⟨[], [], ρ, μ, _, rfl, R, q, fun x μ1 q1 v H1 R1 => b.nx _ _ q1 _ _ (RL.into (hv := []) (hx := []) rfl R1 i)⟩⟩
end
end Zl
namespace Zl
open PySem PySem.Spec PyProof.Rows L2 Lf
section
variable {X : Cx}
/-! ### methods of lists -/
structure MeZ (X : Cx) (id : String) (R : Val → List Val → Store → DK → Prop) : Prop where
  ex : ∃ r : V → List V → Hp → VK → Prop, MtR X id r ∧ ∀ (B : Base) (σ : List (Option V)) (ρ : DR) (H : Hp) (μ : Store) (v : V) (x : Val) (vs : List V) (xs : List Val) (Q0 : DK) (Q : VK), vs.length = xs.length →
    RL X.w X.K B H (vs.map some ++ (some v :: σ)) (xs.map some ++ (some x :: ρ)) μ → R x xs μ Q0 → Low X B σ ρ Q0 Q → r v vs H Q
def isL (x : Val) (μ : Store) : Prop := match x with
  | .ptr a => ∃ (j : Nat) (xs : List Val), μ[j]? = some (a, Node.lst xs)
  | .dat (.list _) => True
  | _ => False
abbrev dLM (R : Val → List Val → Store → DK → Prop) (fo : DTE) (g : DTA) : DTE := fun ρ μ Q => fo ρ μ fun x μ1 => isL x μ1 ∧ g ρ μ1 fun xs μ2 => R x xs μ2 Q
abbrev dLM0 (R : Val → List Val → Store → DK → Prop) (fo : DTE) : DTE := fun ρ μ Q => fo ρ μ fun x μ1 => isL x μ1 ∧ R x [] μ1 Q
theorem isL_ty {B : Base} {σ : List (Option V)} {ρ : DR} {H : Hp} {μ : Store} {v : V} {x : Val} (R : RL X.w X.K B H (some v :: σ) (some x :: ρ) μ) (h : isL x μ) : tyV X.K "list" v H := by
  have hd := R.head
  unfold isL at h
  split at h
  · obtain ⟨j, xs, hj⟩ := h
    obtain ⟨vs, e, _⟩ := R.at hj
    cases (hd : v = .ref _)
    exact .inl ⟨rfl, vs, SqL.of e⟩
  · cases (hd : Dz _ v (.list _)) with
    | lst h1 h2 => exact .inl ⟨rfl, _, SqL.of (fz_le _ _ h1)⟩
  · exact h.elim
theorem d_lm {o e : Expr} {es : List Expr} {fo : DTE} {g : DTA} {name : Str} {id : String} {apos cpos : Pos} {R : Val → List Val → Store → DK → Prop} (slot : Slot "list" name id) (hty : typeOf (.builtin id) = pure (.type "method_descriptor")) (m : MeZ X id R) (ho : DE X o fo) (ha : DA X (e :: es) g)
    (hbase : attributeBase o name X.env (eval o X.env) = eval o X.env := by rfl)
    (hfew : ((backTo cpos (starEach (e :: es) X.env)).all (fun x => !x.1) && (backToKw cpos (keywordEach [] X.env)).all (fun x => x.1.isSome) && decide ((e :: es).length + ([] : List Keyword).length + (if ([] : List Keyword).isEmpty then 0 else 1) < 30)) = true := by rfl)
    (hline : (apos.endLine == cpos.line) = true := by rfl) (hs : starEach (e :: es) X.env = (false, eval e X.env) :: starEach es X.env := by rfl) (hplain : (backTo cpos (starEach es X.env)).any (·.1) = false := by rfl) :
    DE X (.Call (.Attribute o name apos) (e :: es) [] cpos) (dLM R fo g) := by
  obtain ⟨r, h1, h2⟩ := m.ex
  exact ⟨fun B => PE.weak (pe_bm PySem.F.plainAttrs_list slot hty h1 (ho.run B) (ha.run B) hbase hfew hline hs hplain) fun σ H Q q => by
    obtain ⟨hv, hx, ρ, μ, Q0, hl, R0, q, low⟩ := q
    refine ⟨hv, hx, ρ, μ, _, hl, R0, q, fun x μ1 q1 v H1 R1 => ⟨isL_ty R1 q1.1, ?_⟩⟩
    refine ⟨some v :: hv, some x :: hx, ρ, μ1, _, by simp [hl], R1, q1.2, fun xs μ2 q2 vs H2 l R2 => ?_⟩
    exact h2 B _ _ _ _ _ _ _ _ _ _ l R2 q2 low⟩
theorem d_lm0 {o : Expr} {fo : DTE} {name : Str} {id : String} {apos cpos : Pos} {R : Val → List Val → Store → DK → Prop} (slot : Slot "list" name id) (hty : typeOf (.builtin id) = pure (.type "method_descriptor")) (m : MeZ X id R) (ho : DE X o fo)
    (hbase : attributeBase o name X.env (eval o X.env) = eval o X.env := by rfl) (hline : (apos.endLine == cpos.line) = true := by rfl) : DE X (.Call (.Attribute o name apos) [] [] cpos) (dLM0 R fo) := by
  obtain ⟨r, h1, h2⟩ := m.ex
  exact ⟨fun B => PE.weak (pe_bm0 PySem.F.plainAttrs_list slot hty h1 (ho.run B) hbase hline) fun σ H Q q => by
    obtain ⟨hv, hx, ρ, μ, Q0, hl, R0, q, low⟩ := q
    exact ⟨hv, hx, ρ, μ, _, hl, R0, q, fun x μ1 q1 v H1 R1 => ⟨isL_ty R1 q1.1, h2 B _ _ _ _ _ _ [] [] _ _ rfl R1 q1.2 low⟩⟩⟩
theorem one_arg' {B : Base} {σ : List (Option V)} {ρ : DR} {H : Hp} {μ : Store} {vs : List V} {x : Val} (l : vs.length = [x].length) (R : RL X.w X.K B H (vs.map some ++ σ) ([x].map some ++ ρ) μ) : ∃ v, vs = [v] ∧ RL X.w X.K B H (some v :: σ) (some x :: ρ) μ := by
  match vs, l, R with
  | [v], _, R => exact ⟨v, rfl, R⟩
def zAppend : Val → List Val → Store → DK → Prop := fun x xs μ Q => match x, xs with
  | .ptr a, [y] => ∃ (j : Nat) (ys : List Val), μ[j]? = some (a, Node.lst ys) ∧ ys.length < sizeLine ∧ Q (.dat .none) (μ.set j (a, .lst (ys ++ [y])))
  | _, _ => False
theorem me_append : MeZ X "list.append" zAppend := ⟨_, mt_append, fun B σ ρ H μ v x vs xs Q0 Q l R q low => by
  match x, xs, l, R, q with
  | .ptr a, [y], l, R, q =>
    obtain ⟨j, ys, hj, hl, q⟩ := q
    obtain ⟨u, rfl, R⟩ := one_arg' l R
    obtain ⟨us, e, pr⟩ := R.at hj
    cases (R.tail.head : v = .ref a)
    exact ⟨a, us, u, rfl, rfl, e, by rw [pr.length]; exact hl, low _ _ q _ _ ((R.put (n' := .lst (ys ++ [y])) hj ⟨_, upd_same, paired_app pr (.cons R.head .nil)⟩).tail.tail.cons .non)⟩⟩
def zExtend : Val → List Val → Store → DK → Prop := fun x xs μ Q => match x, xs with
  | .ptr a, [y] => ∃ (j : Nat) (ys zs : List Val), μ[j]? = some (a, Node.lst ys) ∧ ItL μ y zs ∧ ys.length + zs.length ≤ sizeLine ∧ Q (.dat .none) (μ.set j (a, .lst (ys ++ zs)))
  | _, _ => False
theorem me_extend : MeZ X "list.extend" zExtend := ⟨_, mt_extend, fun B σ ρ H μ v x vs xs Q0 Q l R q low => by
  match x, xs, l, R, q with
  | .ptr a, [y], l, R, q =>
    obtain ⟨j, ys, zs, hj, hi, hl, q⟩ := q
    obtain ⟨u, rfl, R⟩ := one_arg' l R
    obtain ⟨us, e, pr⟩ := R.at hj
    obtain ⟨b, ws, rfl, e2, pr2⟩ := hi.at R R.head
    cases (R.tail.head : v = .ref a)
    exact ⟨a, b, us, ws, rfl, rfl, e, e2, by rw [pr.length, pr2.length]; exact hl, low _ _ q _ _ ((R.put (n' := .lst (ys ++ zs)) hj ⟨_, upd_same, paired_app pr pr2⟩).tail.tail.cons .non)⟩⟩
def zPop : Val → List Val → Store → DK → Prop := fun x xs μ Q => match x, xs with
  | .ptr a, [] => ∃ (j : Nat) (ys : List Val) (y : Val), μ[j]? = some (a, Node.lst ys) ∧ ys[ys.length - 1]? = some y ∧ Q y (μ.set j (a, .lst ys.dropLast))
  | .ptr a, [.dat (.int i)] => ∃ (j : Nat) (ys : List Val) (k : Nat) (y : Val), μ[j]? = some (a, Node.lst ys) ∧ (-(2 ^ 63) ≤ i ∧ i < 2 ^ 63) ∧ ixN ys.length i = some k ∧ ys[k]? = some y ∧ Q y (μ.set j (a, .lst (ys.eraseIdx k)))
  | _, _ => False
theorem paired_dropLast {α β : Type} {F : α → β → Prop} : ∀ {a : List α} {b : List β}, Paired F a b → Paired F a.dropLast b.dropLast
  | _, _, .nil => .nil
  | [_], [_], .cons _ .nil => .nil
  | _ :: _ :: _, _ :: _ :: _, .cons h (.cons h2 t) => .cons h (paired_dropLast (.cons h2 t))
theorem paired_erase {α β : Type} {F : α → β → Prop} : ∀ {a : List α} {b : List β} (k : Nat), Paired F a b → Paired F (a.eraseIdx k) (b.eraseIdx k)
  | _, _, _, .nil => .nil
  | _, _, 0, .cons _ t => t
  | _, _, k + 1, .cons h t => .cons h (paired_erase k t)
theorem me_pop : MeZ X "list.pop" zPop := ⟨_, MtR.or (show MtR X "list.pop" rPop from mt_pop) (show MtR X "list.pop" rPopAt from mt_popAt), fun B σ ρ H μ v x vs xs Q0 Q l R q low => by
  match x, xs, vs, l, R, q with
  | .ptr a, [], [], l, R, q =>
    obtain ⟨j, ys, y, hj, hy, q⟩ := q
    have R : RL X.w X.K B H (some v :: σ) (some (.ptr a) :: ρ) μ := R
    obtain ⟨us, e, pr⟩ := R.at hj
    obtain ⟨u, eu, ru⟩ := paired_get pr hy
    cases (R.head : v = .ref a)
    exact .inl ⟨a, us, u, rfl, rfl, e, by rw [pr.length]; exact eu, low _ _ q _ _ (((R.tail.cons ru).put (n' := .lst ys.dropLast) hj ⟨_, upd_same, paired_dropLast pr⟩))⟩
  | .ptr a, [.dat (.int i)], vs, l, R, q =>
    obtain ⟨j, ys, k, y, hj, hi, hk, hy, q⟩ := q
    obtain ⟨w, rfl, R⟩ := one_arg' l R
    have hd := R.head
    cases (hd : Dz _ w (.int i))
    obtain ⟨us, e, pr⟩ := R.at hj
    obtain ⟨u, eu, ru⟩ := paired_get pr hy
    cases (R.tail.head : v = .ref a)
    exact .inr ⟨a, us, i, k, u, rfl, rfl, e, hi.1, hi.2, by rw [pr.length]; exact (ixN_seq hk).1, eu, low _ _ q _ _ (((R.tail.tail.cons ru).put (n' := .lst (ys.eraseIdx k)) hj ⟨_, upd_same, paired_erase k pr⟩))⟩⟩
def zReverse : Val → List Val → Store → DK → Prop := fun x xs μ Q => match x, xs with
  | .ptr a, [] => ∃ (j : Nat) (ys : List Val), μ[j]? = some (a, Node.lst ys) ∧ Q (.dat .none) (μ.set j (a, .lst ys.reverse))
  | _, _ => False
theorem paired_reverse {α β : Type} {F : α → β → Prop} : ∀ {a : List α} {b : List β}, Paired F a b → Paired F a.reverse b.reverse
  | _, _, .nil => .nil
  | _ :: _, _ :: _, .cons h t => by
    rw [List.reverse_cons, List.reverse_cons]
    exact paired_app (paired_reverse t) (.cons h .nil)
theorem me_reverse : MeZ X "list.reverse" zReverse := ⟨_, mt_reverse, fun B σ ρ H μ v x vs xs Q0 Q l R q low => by
  match x, xs, vs, l, R, q with
  | .ptr a, [], [], l, R, q =>
    obtain ⟨j, ys, hj, q⟩ := q
    have R : RL X.w X.K B H (some v :: σ) (some (.ptr a) :: ρ) μ := R
    obtain ⟨us, e, pr⟩ := R.at hj
    cases (R.head : v = .ref a)
    exact ⟨a, us, rfl, rfl, e, low _ _ q _ _ ((R.put (n' := .lst ys.reverse) hj ⟨_, upd_same, paired_reverse pr⟩).tail.cons .non)⟩⟩
theorem paired_take {α β : Type} {F : α → β → Prop} : ∀ {a : List α} {b : List β} (n : Nat), Paired F a b → Paired F (a.take n) (b.take n)
  | _, _, 0, _ => .nil
  | _, _, _ + 1, .nil => .nil
  | _, _, n + 1, .cons r t => .cons r (paired_take n t)
theorem paired_drop {α β : Type} {F : α → β → Prop} : ∀ {a : List α} {b : List β} (n : Nat), Paired F a b → Paired F (a.drop n) (b.drop n)
  | _, _, 0, r => r
  | _, _, _ + 1, .nil => .nil
  | _, _, n + 1, .cons _ t => paired_drop n t
def zInsert : Val → List Val → Store → DK → Prop := fun x xs μ Q => match x, xs with
  | .ptr a, [.dat (.int i), y] => ∃ (j : Nat) (ys : List Val), μ[j]? = some (a, Node.lst ys) ∧ ys.length < sizeLine ∧ (0 ≤ i ∧ i < 2 ^ 63) ∧ Q (.dat .none) (μ.set j (a, .lst (ys.take i.toNat ++ [y] ++ ys.drop i.toNat)))
  | _, _ => False
theorem me_insert : MeZ X "list.insert" zInsert := ⟨_, mt_insert, fun B σ ρ H μ v x vs xs Q0 Q l R q low => by
  match x, xs, vs, l, R, q with
  | .ptr a, [.dat (.int i), y], [w, u], l, R, q =>
    obtain ⟨j, ys, hj, hl, hi, q⟩ := q
    have R : RL X.w X.K B H (some w :: some u :: some v :: σ) (some (.dat (.int i)) :: some y :: some (.ptr a) :: ρ) μ := R
    have hd := R.head
    cases (hd : Dz _ w (.int i))
    obtain ⟨us, e, pr⟩ := R.at hj
    cases (R.tail.tail.head : v = .ref a)
    exact ⟨a, us, i, u, rfl, rfl, e, by rw [pr.length]; exact hl, hi.1, hi.2, low _ _ q _ _ ((R.put (n' := .lst (ys.take i.toNat ++ [y] ++ ys.drop i.toNat)) hj ⟨_, upd_same, paired_app (paired_app (paired_take _ pr) (.cons R.tail.head .nil)) (paired_drop _ pr)⟩).tail.tail.tail.cons .non)⟩⟩
/-! ### list(x), tuple(x), sorted(x), min, max -/
def itemsOf (μ : Store) (x : Val) (P : List Val → Prop) : Prop := match x with
  | .dat (.list ds) => P (ds.map .dat)
  | .dat (.tuple ds) => P (ds.map .dat)
  | .scr ns => P (ns.map fun n => .dat (.int n))
  | .ptr a => ∃ (j : Nat) (xs : List Val), μ[j]? = some (a, Node.lst xs) ∧ P xs
  | _ => False
theorem itemsOf_its {μ : Store} {x : Val} {P : List Val → Prop} (h : itemsOf μ x P) : ∃ b xs, Its μ x b xs ∧ P xs := by
  unfold itemsOf at h
  split at h
  · exact ⟨_, _, .d _, h⟩
  · exact ⟨_, _, .t _, h⟩
  · exact ⟨_, _, .s _, h⟩
  · obtain ⟨j, xs, hj, h⟩ := h
    exact ⟨_, _, .p j hj, h⟩
  · exact h.elim
theorem d_callTy {x : Str} {T : String} {R : List Val → Store → DK → Prop} {e : Expr} {es : List Expr} {g : DTA} {p pos : Pos} (c : CaZ X (.type T) R) (hg : Gl X x) (hm : X.mg x = none) (hv : bootBuiltins x = some (.type T)) (ha : DA X (e :: es) g)
    (hn : x ≠ "__name__" := by decide) (hdb : (x == ("__debug__" : Str)) = false := by decide) (he : starEach (e :: es) X.env = (false, eval e X.env) :: starEach es X.env := by rfl) (hpl : (backTo pos (starEach es X.env)).any (·.1) = false := by rfl) :
    DE X (.Call (.Name x p) (e :: es) [] pos) (dCB R g) := by
  obtain ⟨r, h1, h2⟩ := c.ex
  exact ⟨fun B => PE.weak (pe_callTy h1 hg hm hv (ha.run B) hn hdb he hpl) fun _ _ _ h => up_CB (h2 B) h⟩
def zList : List Val → Store → DK → Prop := fun xs μ Q => match xs with | [x] => itemsOf μ x fun ys => ∀ p, Q (.ptr p) (μ ++ [(p, .lst ys)]) | _ => False
theorem ca_list : CaZ X (.type "list") zList := ⟨_, call_list_of, fun B σ ρ H μ vs xs Q0 Q l R q low => by
  match xs, l, R, q with
  | [x], l, R, q =>
    obtain ⟨v, rfl, R⟩ := one_arg' l R
    obtain ⟨b, ys, hi, q⟩ := itemsOf_its (P := fun ys => ∀ p, Q0 (.ptr p) (μ ++ [(p, Node.lst ys)])) q
    obtain ⟨a, us, rfl, hs, pr⟩ := hi.at R R.head
    refine ⟨a, us, rfl, ?_, fun p hp => low _ _ (q p) _ _ ((R.tail.new (n := .lst ys) hp ⟨us, upd_same, pr⟩).cons rfl)⟩
    cases b with
    | true => exact .inr hs
    | false => exact .inl hs⟩
def zTuple : List Val → Store → DK → Prop := fun xs μ Q => match xs with | [x] => itemsOf μ x fun ys => ∃ ds, datOf ys = some ds ∧ Q (.dat (.tuple ds)) μ | _ => False
theorem datOf_map : ∀ ds : List PyData, datOf (ds.map Val.dat) = some ds
  | [] => rfl
  | d :: ds => by
    show (datOf (ds.map Val.dat)).map (d :: ·) = _
    rw [datOf_map ds]
    rfl
theorem ca_tuple : CaZ X (.type "tuple") zTuple := ⟨_, call_tuple_of, fun B σ ρ H μ vs xs Q0 Q l R q low => by
  match xs, l, R, q with
  | [x], l, R, q =>
    obtain ⟨v, rfl, R⟩ := one_arg' l R
    obtain ⟨b, ys, hi, ds, ed, q⟩ := itemsOf_its (P := fun ys => ∃ ds, datOf ys = some ds ∧ Q0 (.dat (.tuple ds)) μ) q
    have hd := R.head
    obtain ⟨a, us, rfl, hs, pr⟩ := hi.at R hd
    refine ⟨a, us, rfl, ?_⟩
    cases b with
    | true =>
      refine .inr ⟨hs, low _ _ q _ _ (R.tail.cons ?_)⟩
      cases hi with
      | t ds' =>
        rw [datOf_map] at ed
        cases ed
        exact hd
    | false =>
      refine .inl ⟨hs, fun p hp => ?_⟩
      obtain ⟨R2, g, ep⟩ := R.tail.newZ (o := .tup us) hp
      exact low _ _ q _ _ (R2.cons (.tup ep (DzAll.mono g _ _ (datOf_all pr ed))))⟩
def zSorted : List Val → Store → DK → Prop := fun xs μ Q => match xs with
  | [x] => itemsOf μ x fun ys => isL x μ ∧ ∃ ds, datOf ys = some ds ∧ PySem.W.AllAlike ds ∧ PySem.W.Sortable ds ∧ (∀ d ∈ ds, d.depth ≤ 50) ∧ ∀ p, Q (.ptr p) (μ ++ [(p, .lst ((ds.mergeSort (PySem.W.dataLe false id)).map .dat))])
  | _ => False
theorem zip_fst {K : PySem.W.Frag} {Z : Hp} : ∀ {vs : List V} {ds : List PyData}, DzAll Z vs ds → (vs.zip ds).map (·.1) = vs ∧ (vs.zip ds).map (·.2) = ds ∧ ∀ b ∈ vs.zip ds, Dz Z b.1 b.2
  | _, [], h => by cases h; exact ⟨rfl, rfl, by simp⟩
  | _, d :: ds, h => by
    cases h with
    | cons h1 h2 =>
      obtain ⟨e1, e2, e3⟩ := zip_fst (K := K) h2
      refine ⟨by simp [e1], by simp [e2], fun b hb => ?_⟩
      rcases List.mem_cons.mp hb with rfl | hb
      · exact h1
      · exact e3 b hb
theorem pair_list {K : PySem.W.Frag} {Z : Hp} : ∀ bs : List (V × PyData), (∀ b ∈ bs, Dz Z b.1 b.2) → Paired (RV K Z) (bs.map (·.1)) ((bs.map (·.2)).map Val.dat)
  | [], _ => .nil
  | b :: bs, h => .cons (h b (List.mem_cons_self ..)) (pair_list bs fun c hc => h c (List.mem_cons_of_mem _ hc))
theorem ca_sorted (hu : X.A.units + 64 < cLine) : CaZ X (.builtin "sorted") zSorted := ⟨_, Dt.cr_sortedD hu, fun B σ ρ H μ vs xs Q0 Q l R q low => by
  match xs, l, R, q with
  | [x], l, R, q =>
    obtain ⟨v, rfl, R⟩ := one_arg' l R
    obtain ⟨b, ys, hi, il, ds, ed, al, so, dep, q⟩ := itemsOf_its (P := fun ys => isL x μ ∧ ∃ ds, datOf ys = some ds ∧ PySem.W.AllAlike ds ∧ PySem.W.Sortable ds ∧ (∀ d ∈ ds, d.depth ≤ 50) ∧ ∀ p, Q0 (.ptr p) (μ ++ [(p, Node.lst ((ds.mergeSort (PySem.W.dataLe false id)).map .dat))])) q
    obtain ⟨a, us, rfl, hs, pr⟩ := hi.at R R.head
    have hb : b = false := by
      cases hi with
      | t ds => exact il.elim
      | _ => rfl
    subst hb
    obtain ⟨e1, e2, e3⟩ := zip_fst (K := X.K) (datOf_all pr ed)
    refine ⟨a, us.zip ds, rfl, by rw [e1]; exact hs, fun c hc => Dz.dp _ _ (Dz.mono fz_le _ _ (e3 c hc)), by rw [e2]; exact al, by rw [e2]; exact so, fun c hc => dep c.2 ?_, fun p hp => low _ _ (q p) _ _ ((R.tail.new (n := .lst ((ds.mergeSort (PySem.W.dataLe false id)).map .dat)) hp ⟨_, upd_same, ?_⟩).cons rfl)⟩
    · rw [← e2]
      exact List.mem_map_of_mem hc
    · have e4 : ((us.zip ds).mergeSort (PySem.W.dataLe false (·.2))).map (·.2) = ds.mergeSort (PySem.W.dataLe false id) := by
        have := List.map_mergeSort (r := PySem.W.dataLe false (fun x : V × PyData => x.2)) (s := PySem.W.dataLe false id) (f := fun x : V × PyData => x.2) (l := us.zip ds) (fun _ _ _ _ => rfl)
        rw [this, e2]
      rw [← e4]
      exact pair_list _ fun c hc => e3 c (List.mem_mergeSort.mp hc)⟩
def zMin2 : List Val → Store → DK → Prop := fun xs μ Q => match xs with | [.dat (.int i), .dat (.int j)] => Q (.dat (.int (if j < i then j else i))) μ | _ => False
def zMax2 : List Val → Store → DK → Prop := fun xs μ Q => match xs with | [.dat (.int i), .dat (.int j)] => Q (.dat (.int (if j > i then j else i))) μ | _ => False
theorem two_ints {r : List V → Hp → VK → Prop} {g : Int → Int → Int} {f : Value} (h : CallR X f (fun xs H Q => ∃ i j, xs = [.int i, .int j] ∧ Q (.int (g i j)) H)) :
    CaZ X f fun xs μ Q => match xs with | [.dat (.int i), .dat (.int j)] => Q (.dat (.int (g i j))) μ | _ => False := ⟨_, h, fun B σ ρ H μ vs xs Q0 Q l R q low => by
  match xs, vs, l, R, q with
  | [.dat (.int i), .dat (.int j)], [v, u], l, R, q =>
    have R : RL X.w X.K B H (some v :: some u :: σ) (some (.dat (.int i)) :: some (.dat (.int j)) :: ρ) μ := R
    have h1 := R.head
    have h2 := R.tail.head
    cases (h1 : Dz _ v (.int i))
    cases (h2 : Dz _ u (.int j))
    exact ⟨i, j, rfl, low _ _ q _ _ (R.tail.tail.cons (.int _))⟩⟩
theorem ca_min2 (hc : X.calm = true) : CaZ X (.builtin "min") zMin2 := two_ints (r := fun _ _ _ => True) (call_min2 hc)
theorem ca_max2 (hc : X.calm = true) : CaZ X (.builtin "max") zMax2 := two_ints (r := fun _ _ _ => True) (call_max2 hc)
def zAbs : List Val → Store → DK → Prop := fun xs μ Q => match xs with | [.dat (.int i)] => Q (.dat (.int (if i < 0 then -i else i))) μ | _ => False
theorem ca_abs : CaZ X (.builtin "abs") zAbs := ⟨_, call_abs, fun B σ ρ H μ vs xs Q0 Q l R q low => by
  match xs, l, R, q with
  | [.dat (.int i)], l, R, q =>
    obtain ⟨v, rfl, R⟩ := one_arg' l R
    have h1 := R.head
    cases (h1 : Dz _ v (.int i))
    exact ⟨i, rfl, low _ _ q _ _ (R.tail.cons (.int _))⟩⟩
def zInt : List Val → Store → DK → Prop := fun xs μ Q => match xs with | [.dat (.int i)] => Q (.dat (.int i)) μ | [.dat (.bool k)] => Q (.dat (.int (if k then 1 else 0))) μ | _ => False
theorem ca_int : CaZ X (.type "int") zInt := ⟨_, call_int1, fun B σ ρ H μ vs xs Q0 Q l R q low => by
  match xs, l, R, q with
  | [.dat (.int i)], l, R, q =>
    obtain ⟨v, rfl, R⟩ := one_arg' l R
    have h1 := R.head
    cases (h1 : Dz _ v (.int i))
    exact .inl ⟨i, rfl, low _ _ q _ _ (R.tail.cons (.int _))⟩
  | [.dat (.bool k)], l, R, q =>
    obtain ⟨v, rfl, R⟩ := one_arg' l R
    have h1 := R.head
    cases (h1 : Dz _ v (.bool k))
    exact .inr ⟨k, rfl, low _ _ q _ _ (R.tail.cons (.int _))⟩⟩
/-- repr of lists and tuples, where no guard stands around -/
def zRepr : List Val → Store → DK → Prop := fun xs μ Q => match xs with
  | [x] => ∃ d, View μ x d ∧ (match d with | .list _ => True | .tuple _ => True | _ => False) ∧ d.showable = true ∧ d.hasDict = false ∧ d.depth ≤ 60 ∧ d.shown.length ≤ sizeLine ∧ Q (.dat (.str d.shown)) μ
  | _ => False
theorem ca_repr (hg : X.A.guards = some []) (hu : X.A.units + 64 < cLine) : CaZ X (.builtin "repr") zRepr := ⟨_, Gd.call_repr hg hu, fun B σ ρ H μ vs xs Q0 Q l R q low => by
  match xs, l, R, q with
  | [x], l, R, q =>
    obtain ⟨v, rfl, R⟩ := one_arg' l R
    obtain ⟨d, h1, h2, h3, h4, h5, h6, q⟩ := q
    have dp := h1.at R R.head
    have fin := low _ _ q _ _ (R.tail.cons (.str _))
    match d, h2, dp, h3, h4, h5, h6, fin with
    | .list ds, _, dp, h3, h4, h5, h6, fin =>
      cases dp with
      | lst e1 e2 => exact ⟨_, .list ds, rfl, .lst e1 e2, h3, h4, h5, h6, fin⟩
    | .tuple ds, _, dp, h3, h4, h5, h6, fin =>
      cases dp with
      | tup e1 e2 => exact ⟨_, .tuple ds, rfl, .tup e1 e2, h3, h4, h5, h6, fin⟩⟩
/-! ### x[a:b] -/
def cutG {α : Type} (xs : List α) (lo hi : Option Int) : List α := (xs.drop (HT.sIx xs.length 0 lo)).take (HT.sIx xs.length xs.length hi - HT.sIx xs.length 0 lo)
abbrev DTO := DR → Store → (Option Int → Store → Prop) → Prop
structure DO (X : Cx) (e : Option Expr) (f : DTO) : Prop where
  run : ∀ B : Base, PO X e fun σ H Q => ∃ (hv : List (Option V)) (hx ρ : DR) (μ : Store) (Q0 : Option Int → Store → Prop), hv.length = hx.length ∧ RL X.w X.K B H (hv ++ σ) (hx ++ ρ) μ ∧ f ρ μ Q0 ∧ ∀ o μ', Q0 o μ' → ∀ H', RL X.w X.K B H' (hv ++ σ) (hx ++ ρ) μ' → Q o H'
theorem PO.weak {e : Option Expr} {t t' : TO} (h : PO X e t) (w : ∀ σ H Q, t' σ H Q → t σ H Q) : PO X e t' := ⟨fun pins s σ H Q I q => h.run pins s σ H Q I (w _ _ _ q)⟩
abbrev dNoPart : DTO := fun _ μ Q => Q none μ
abbrev dPart (f : DTE) : DTO := fun ρ μ Q => f ρ μ fun x μ1 => match x with | .dat (.int i) => Q (some i) μ1 | _ => False
theorem do_none : DO X none dNoPart := ⟨fun B => PO.weak po_none fun σ H Q ⟨hv, hx, ρ, μ, Q0, hl, R, q, low⟩ => low _ _ q _ R⟩
theorem do_some {e : Expr} {f : DTE} (h : DE X e f) : DO X (some e) (dPart f) := ⟨fun B => PO.weak (po_some (h.run B)) fun σ H Q ⟨hv, hx, ρ, μ, Q0, hl, R, q, low⟩ => by
  refine ⟨hv, hx, ρ, μ, _, hl, R, q, fun x μ1 q1 v H1 R1 => ?_⟩
  have hd := R1.head
  match x, q1, hd with
  | .dat (.int i), q1, hd =>
    cases (hd : Dz _ v (.int i))
    exact ⟨i, rfl, low _ _ q1 _ R1.tail⟩⟩
def zCut (x : Val) (lo hi : Option Int) (μ : Store) (Q : DK) : Prop := match x with
  | .dat (.tuple ds) => Q (.dat (.tuple (cutG ds lo hi))) μ
  | .dat (.list ds) => ∀ p, Q (.ptr p) (μ ++ [(p, .lst ((cutG ds lo hi).map .dat))])
  | .scr ns => ∀ p, Q (.ptr p) (μ ++ [(p, .lst ((cutG ns lo hi).map fun n => .dat (.int n)))])
  | .ptr a => ∃ (j : Nat) (xs : List Val), μ[j]? = some (a, Node.lst xs) ∧ ∀ p, Q (.ptr p) (μ ++ [(p, .lst (cutG xs lo hi))])
  | .dat (.str z) => z.length ≤ sizeLine ∧ Q (.dat (.str (cutS z lo hi))) μ
  | _ => False
abbrev dSlice (f : DTE) (fl fh : DTO) : DTE := fun ρ μ Q => f ρ μ fun x μ1 => fl ρ μ1 fun lo μ2 => fh ρ μ2 fun hi μ3 => zCut x lo hi μ3 Q
theorem cutG_map {α β : Type} {f : α → β} {xs : List α} {lo hi : Option Int} : cutG (xs.map f) lo hi = (cutG xs lo hi).map f := by
  unfold cutG
  rw [List.length_map, List.map_take, List.map_drop]
theorem paired_cut {α β : Type} {F : α → β → Prop} {a : List α} {b : List β} (h : Paired F a b) (lo hi : Option Int) : Paired F (cutG a lo hi) (cutG b lo hi) := by
  unfold cutG
  rw [h.length]
  exact paired_take _ (paired_drop _ h)
theorem all_dz {K : PySem.W.Frag} {Z : Hp} : ∀ {vs : List V} {ds : List PyData}, Paired (RV K Z) vs (ds.map Val.dat) → DzAll Z vs ds
  | [], [], _ => .nil
  | _ :: _, _ :: _, .cons h t => .cons h (all_dz t)
  | [], _ :: _, h => by cases h
  | _ :: _, [], h => by cases h
theorem cutG_whole {α : Type} {xs : List α} {lo hi : Option Int} (h1 : HT.sIx xs.length 0 lo = 0) (h2 : HT.sIx xs.length xs.length hi = xs.length) : cutG xs lo hi = xs := by
  unfold cutG
  rw [h1, h2, List.drop_zero, Nat.sub_zero, List.take_length]
theorem d_slice {e : Expr} {lo hi : Option Expr} {f : DTE} {fl fh : DTO} {p2 pos : Pos} (he : DE X e f) (hl : DO X lo fl) (hh : DO X hi fh) : DE X (.Subscript e (.Slice lo hi none p2) pos) (dSlice f fl fh) :=
  ⟨fun B => PE.weak (pe_slice (SlR.or sl_tupA (SlR.or sl_list sl_str)) (he.run B) (hl.run B) (hh.run B)) fun σ H Q ⟨hv, hx, ρ, μ, Q0, l0, R, q, low⟩ => by
    refine ⟨hv, hx, ρ, μ, _, l0, R, q, fun x μ1 q1 v H1 R1 => ⟨some v :: hv, some x :: hx, ρ, μ1, _, by simp [l0], R1, q1, fun o μ2 q2 H2 R2 => ⟨some v :: hv, some x :: hx, ρ, μ2, _, by simp [l0], R2, q2, fun o2 μ3 q3 H3 R3 => ?_⟩⟩⟩
    have hd := R3.head
    have lst : ∀ (xs : List Val) (P : Its μ3 x false xs), (∀ p, Q0 (.ptr p) (μ3 ++ [(p, .lst (cutG xs o o2))])) → rSlL X.K v o o2 H3 Q := fun xs P q => by
      obtain ⟨a, us, rfl, hs, pr⟩ := P.at R3 hd
      exact ⟨a, us, rfl, hs, fun p hp => low _ _ (q p) _ _ ((R3.tail.new (n := .lst (cutG xs o o2)) hp ⟨_, upd_same, paired_cut pr o o2⟩).cons rfl)⟩
    unfold zCut at q3
    split at q3
    · rename_i ds
      cases (hd : Dz _ v (.tuple ds)) with
      | tup e1 e2 =>
        have len := dzAll_len e2
        refine .inl ⟨_, _, rfl, SqT.of (fz_le _ _ e1), fun ⟨w1, w2⟩ => ?_, fun _ p hp => ?_⟩
        · rw [len] at w1 w2
          rw [cutG_whole w1 w2] at q3
          exact low _ _ q3 _ _ R3
        · obtain ⟨R4, g, ep⟩ := R3.tail.newZ (o := .tup (cutV _ o o2)) hp
          refine low _ _ q3 _ _ (R4.cons (.tup ep (DzAll.mono g _ _ (all_dz (K := X.K) ?_))))
          rw [← cutG_map]
          exact paired_cut (dz_all e2) o o2
    · refine .inr (.inl (lst _ (.d _) fun p => ?_))
      rw [cutG_map]
      exact q3 p
    · refine .inr (.inl (lst _ (.s _) fun p => ?_))
      rw [cutG_map]
      exact q3 p
    · obtain ⟨j, xs, hj, q3⟩ := q3
      exact .inr (.inl (lst _ (.p j hj) q3))
    · cases (hd : Dz _ v (.str _))
      exact .inr (.inr ⟨_, rfl, q3.1, low _ _ q3.2 _ _ (R3.tail.cons (.str _))⟩)
    · exact q3.elim⟩
end
end Zl
namespace Zl
open PySem PySem.Spec PyProof.Rows L2 Lf
section
variable {X : Cx}
theorem ds_set {i : Nat} {x : Str} {e : Expr} {f : DTE} {pos' pos : Pos} (hN : X.N.Nodup) (hi : X.N[i]? = some x) (hx : Loc X.env.scope x) (he : DE X e f) (hs : swapsWith e (some (.Name x pos')) pos.line X.env = pure false := by rfl)
    (hf : X.fn x = true ∨ X.env.scope.names.lookup x = some .local := by first | exact .inl rfl | exact .inr rfl | assumption) : DS X (.Assign [.Name x pos'] e pos) (dSet i f) := ds_of_set fun B => ps_set hN hi hx (he.run B) hs hf
theorem dg_sub {a b : Expr} {fo fi : DTE} {pos : Pos} (ho : DE X a fo) (hi : DE X b fi) (st : ∀ u, assign (.Subscript a b pos) X.env u = (do
      let x ← holding [u] (eval a X.env)
      let y ← holding [u, x] (eval b X.env)
      standAt pos
      holding [u, x, y] (setItem x y u)
      release [u, x, y] []) := by intro _; rfl) : DG X (.Subscript a b pos) (zSetL fo fi) := dg_setL fun B => pg_sub (ho.run B) (hi.run B) set_list st
theorem dg_name {i : Nat} {x : Str} {pos : Pos} (hN : X.N.Nodup) (hi : X.N[i]? = some x) (hx : Loc X.env.scope x) (hf : X.fn x = true ∨ X.env.scope.names.lookup x = some .local := by first | exact .inl rfl | exact .inr rfl | assumption) : DG X (.Name x pos) (zName i) := dg_of_name (pg_name hN hi hx hf)
/-! ### truth -/
def truOf (μ : Store) (x : Val) (P : Bool → Prop) : Prop := match x with
  | .dat .none => P false
  | .dat (.bool b) => P b
  | .dat (.int i) => P (i != 0)
  | .dat (.str z) => z.length ≤ sizeLine ∧ P ((z.length : Int) != 0)
  | .dat (.list ds) => P !ds.isEmpty
  | .dat (.tuple ds) => P !ds.isEmpty
  | .ptr a => ∃ (j : Nat) (xs : List Val), μ[j]? = some (a, Node.lst xs) ∧ P !xs.isEmpty
  | _ => False
abbrev dTru (f : DTE) : DTT := fun ρ μ Q => f ρ μ fun x μ1 => truOf μ1 x fun k => Q k μ1
theorem paired_empty {α β : Type} {F : α → β → Prop} {a : List α} {b : List β} (h : Paired F a b) : a.isEmpty = b.isEmpty := by cases h <;> rfl
theorem dzAll_empty {Z : Hp} {vs : List V} {ds : List PyData} (h : DzAll Z vs ds) : vs.isEmpty = ds.isEmpty := by cases h <;> rfl
theorem dt_truth {e : Expr} {f : DTE} (h : DE X e f) (he : ∀ whole, isTrue e X.env whole = (do let v ← whole; standAt e.pos; holding [v] (truthy v)) := by intro _; rfl) : DT X e (dTru f) :=
  ⟨fun B => PT.weak (pt_truth (h.run B) he) fun σ H Q ⟨hv, hx, ρ, μ, Q0, hl, R, q, low⟩ => by
    refine ⟨hv, hx, ρ, μ, _, hl, R, q, fun x μ1 q1 v H1 R1 => ?_⟩
    have hd := R1.head
    have fin : ∀ k, Q0 k μ1 → TruV X.K v H1 k → ∃ k, TruV X.K v H1 k ∧ Q k H1 := fun k q t => ⟨k, t, low _ _ q _ R1.tail⟩
    unfold truOf at q1
    split at q1
    · cases (hd : Dz _ v .none)
      exact fin _ q1 rfl
    · cases (hd : Dz _ v (.bool _))
      exact fin _ q1 rfl
    · cases (hd : Dz _ v (.int _))
      exact fin _ q1 rfl
    · cases (hd : Dz _ v (.str _))
      exact fin _ q1.2 ⟨q1.1, rfl⟩
    · cases (hd : Dz _ v (.list _)) with
      | lst e1 e2 => exact fin _ q1 (.inl ⟨_, SqL.of (fz_le _ _ e1), by rw [dzAll_empty e2]⟩)
    · cases (hd : Dz _ v (.tuple _)) with
      | tup e1 e2 => exact fin _ q1 (.inr (.inl ⟨_, SqT.of (fz_le _ _ e1), by rw [dzAll_empty e2]⟩))
    · obtain ⟨j, xs, hj, q1⟩ := q1
      obtain ⟨us, e, pr⟩ := R1.at hj
      cases (hd : v = .ref _)
      exact fin _ q1 (.inl ⟨us, SqL.of e, by rw [paired_empty pr]⟩)
    · exact q1.elim⟩
/-- not x as a value -/
abbrev dNotV (f : DTE) : DTE := fun ρ μ Q => f ρ μ fun x μ1 => match x with | .dat (.bool b) => Q (.dat (.bool !b)) μ1 | _ => False
/-! ### i, j = a, b; x += e -/
abbrev dPar (i j : Nat) (g : DTA) : DTS := fun E ρ μ => g ρ μ fun xs μ1 => match xs with | [x, y] => E.nx ((ρ.set i (some x)).set j (some y)) μ1 | _ => False
theorem ds_of_par {i j : Nat} {s : Stmt} {g : DTA} (h : ∀ B : Base, PS X s (tPar i j (upA X B g))) : DS X s (dPar i j g) :=
  ⟨fun B => PS.weak (h B) fun D σ H ⟨ρ, μ, E, R, q, b⟩ => ⟨[], [], ρ, μ, _, rfl, R, q, fun xs μ1 q1 vs H1 l R1 => by
    match xs, vs, l, R1, q1 with
    | [x, y], [v, u], l, R1, q1 =>
      have R1 : RL X.w X.K B H1 (some v :: some u :: σ) (some x :: some y :: ρ) μ1 := R1
      exact ⟨v, u, rfl, b.nx _ _ q1 _ _ (R1.slots (paired_set j (paired_set i R1.tail.tail.sl R1.head) R1.tail.head))⟩⟩⟩
abbrev dAug (i : Nat) (g : Int → Int → Int) (f : DTE) : DTS := fun E ρ μ => match ρ[i]? with
  | some (some x) => f ρ μ fun y μ1 => match x, y with | .dat (.int a), .dat (.int b) => E.nx (ρ.set i (some (.dat (.int (g a b))))) μ1 | _, _ => False
  | _ => False
theorem ds_of_aug {i : Nat} {s : Stmt} {f : DTE} {g : Int → Int → Int} (h : ∀ B : Base, PS X s (tAug i (up X B f) (ipI g))) : DS X s (dAug i g f) :=
  ⟨fun B => PS.weak (h B) fun D σ H ⟨ρ, μ, E, R, q, b⟩ => by
    unfold dAug at q
    split at q
    · rename_i x ex
      obtain ⟨v, ev, rv⟩ := R.get ex
      refine ⟨v, ev, [some v], [some x], ρ, μ, _, rfl, R.cons rv, q, fun y μ1 q1 u H1 R1 => ?_⟩
      have h1 := R1.head
      have h2 := R1.tail.head
      match x, y, q1, h1, h2 with
      | .dat (.int a), .dat (.int c), q1, h1, h2 =>
        cases (h1 : Dz _ u (.int c))
        cases (h2 : Dz _ v (.int a))
        exact ⟨a, c, rfl, rfl, b.nx _ _ q1 _ _ (R1.tail.tail.slots (paired_set (x := some (V.int (g a c))) i R1.tail.tail.sl (Dz.int _)))⟩
    · exact q.elim⟩
end
end Zl
/-! Dicts whose keys are None, numbers and tuples. -/
namespace Zl
open PySem PySem.Spec PyProof.Rows L2 Lf
mutual
def keyD : PyData → Option NestedKey
  | .none => some .none
  | .int i => some (.num i)
  | .str x => some (.text x)
  | .tuple ds => (keyDs ds).map .tup
  | _ => none
def keyDs : List PyData → Option (List NestedKey)
  | [] => some []
  | d :: ds => match keyD d, keyDs ds with | some k, some ks => some (k :: ks) | _, _ => none
end
mutual
def datK : NestedKey → PyData
  | .none => .none
  | .num i => .int i
  | .text x => .str x
  | .tup ks => .tuple (datKs ks)
def datKs : List NestedKey → List PyData
  | [] => []
  | k :: ks => datK k :: datKs ks
end
mutual
theorem keyD_datK : ∀ k : NestedKey, keyD (datK k) = some k
  | .none => rfl
  | .num _ => rfl
  | .text _ => rfl
  | .tup ks => by
    show (keyDs (datKs ks)).map NestedKey.tup = _
    rw [keyDs_datKs ks]
    rfl
theorem keyDs_datKs : ∀ ks : List NestedKey, keyDs (datKs ks) = some ks
  | [] => rfl
  | k :: ks => by
    show (match keyD (datK k), keyDs (datKs ks) with | some k, some ks => some (k :: ks) | _, _ => none) = _
    rw [keyD_datK k, keyDs_datKs ks]
end
mutual
theorem keyAt_of {Z : Hp} : ∀ (d : PyData) (v : V) (k : NestedKey), Dz Z v d → keyD d = some k → Vd.KeyAt Z k v
  | .none, _, _, h, e => by cases h; cases e; exact rfl
  | .int i, _, _, h, e => by cases h; cases e; exact rfl
  | .str x, _, _, h, e => by cases h; cases e; exact rfl
  | .tuple ds, _, k, h, e => by
    cases h with
    | tup h1 h2 =>
      rw [show keyD (.tuple ds) = (keyDs ds).map .tup from rfl] at e
      cases ek : keyDs ds with
      | none => rw [ek] at e; cases e
      | some ks =>
        rw [ek] at e
        cases e
        exact ⟨_, _, rfl, h1, keysAt_of ds _ ks h2 ek⟩
  | .bool _, _, _, _, e => by cases e
  | .list _, _, _, _, e => by cases e
  | .dict _, _, _, _, e => by cases e
theorem keysAt_of {Z : Hp} : ∀ (ds : List PyData) (vs : List V) (ks : List NestedKey), DzAll Z vs ds → keyDs ds = some ks → Vd.KeysAt Z ks vs
  | [], _, _, h, e => by cases h; cases e; exact rfl
  | d :: ds, _, ks, h, e => by
    cases h with
    | cons h1 h2 =>
      rw [show keyDs (d :: ds) = (match keyD d, keyDs ds with | some k, some ks => some (k :: ks) | _, _ => none) from rfl] at e
      cases e1 : keyD d with
      | none => rw [e1] at e; cases e
      | some k =>
        cases e2 : keyDs ds with
        | none => rw [e1, e2] at e; cases e
        | some ks' =>
          rw [e1, e2] at e
          cases e
          exact ⟨_, _, rfl, keyAt_of d _ k h1 e1, keysAt_of ds _ ks' h2 e2⟩
end
mutual
theorem dz_key {Z : Hp} : ∀ (k : NestedKey) (v : V), Vd.KeyAt Z k v → Dz Z v (datK k)
  | .none, _, h => by cases (h : _ = V.non); exact .non
  | .num i, _, h => by cases (h : _ = V.int i); exact .int i
  | .text x, _, h => by cases (h : _ = V.str x); exact .str x
  | .tup ks, _, h => by
    obtain ⟨a, ys, rfl, e, h⟩ := h
    exact .tup e (dz_keys ks ys h)
theorem dz_keys {Z : Hp} : ∀ (ks : List NestedKey) (vs : List V), Vd.KeysAt Z ks vs → DzAll Z vs (datKs ks)
  | [], _, h => by cases (h : _ = []); exact .nil
  | k :: ks, _, h => by
    obtain ⟨y, r, rfl, h1, h2⟩ := h
    exact .cons (dz_key k y h1) (dz_keys ks r h2)
end
def lookZ : List (NestedKey × Val) → NestedKey → Option Val
  | [], _ => none
  | x :: r, k => if x.1 = k then some x.2 else lookZ r k
def putZ : List (NestedKey × Val) → NestedKey → Val → List (NestedKey × Val)
  | [], k, v => [(k, v)]
  | x :: r, k, v => if x.1 = k then (x.1, v) :: r else x :: putZ r k v
theorem putZ_len : ∀ (kvs : List (NestedKey × Val)) (k : NestedKey) (v : Val), (putZ kvs k v).length ≤ kvs.length + 1
  | [], _, _ => Nat.le_refl _
  | x :: r, k, v => by
    unfold putZ
    split
    · exact Nat.le_succ _
    · exact Nat.succ_le_succ (putZ_len r k v)
theorem lookZ_put : ∀ (kvs : List (NestedKey × Val)) (k j : NestedKey) (v : Val), lookZ (putZ kvs k v) j = if k = j then some v else lookZ kvs j
  | [], k, j, v => rfl
  | x :: r, k, j, v => by
    unfold putZ
    by_cases e : x.1 = k
    · rw [if_pos e]
      unfold lookZ
      rw [e]
      by_cases e2 : k = j
      · rw [if_pos e2, if_pos e2]
      · rw [if_neg e2, if_neg e2, if_neg e2]
    · rw [if_neg e]
      unfold lookZ
      rw [lookZ_put r k j v]
      by_cases e2 : x.1 = j
      · rw [if_pos e2, if_pos e2, if_neg (fun z => e (e2.trans z.symm))]
      · rw [if_neg e2, if_neg e2]
section
variable {X : Cx} {B : Base} {σ : List (Option V)} {ρ : DR} {H : Hp} {μ : Store}
/-- a dict that is read -/
inductive DvAt (μ : Store) (a : Addr) (kvs : List (NestedKey × Val)) : Prop
  | own (j : Nat) : μ[j]? = some (a, .dv kvs) → DvAt μ a kvs
  | lck (j : Nat) {ob : Obj} {ks : List Vd.KVR} : μ[j]? = some (a, .dvl ob ks kvs) → DvAt μ a kvs
theorem look_rel {K : PySem.W.Frag} {Z : Hp} {ks : List Vd.KVR} {kvs : List (NestedKey × Val)} (h : Paired (RK K Z) ks kvs) (k : NestedKey) : (Vd.lookV ks k = none ∧ lookZ kvs k = none) ∨ ∃ v x, Vd.lookV ks k = some v ∧ lookZ kvs k = some x ∧ RV K Z v x := by
  induction h with
  | nil => exact .inl ⟨rfl, rfl⟩
  | cons r _ ih =>
    unfold Vd.lookV lookZ
    rw [← r.1]
    split
    · exact .inr ⟨_, _, rfl, rfl, r.2.2.2⟩
    · exact ih
theorem put_rel {K : PySem.W.Frag} {Z : Hp} {ks : List Vd.KVR} {kvs : List (NestedKey × Val)} (h : Paired (RK K Z) ks kvs) {k : NestedKey} {y v : V} {x : Val} (ok : Vd.KeyOk k) (hk : Vd.KeyAt Z k y) (r : RV K Z v x) : Paired (RK K Z) (Vd.putV ks k y v) (putZ kvs k x) := by
  induction h with
  | nil => exact .cons ⟨rfl, ok, hk, r⟩ .nil
  | cons q t ih =>
    unfold Vd.putV putZ
    rw [← q.1]
    split
    · exact .cons ⟨rfl, q.2.1, q.2.2.1, r⟩ t
    · exact .cons q ih
theorem DvAt.at {a : Addr} {kvs : List (NestedKey × Val)} (R : RL X.w X.K B H σ ρ μ) (h : DvAt μ a kvs) : ∃ ks : List Vd.KVR, Vd.DAt X.w H a ks ∧ Paired (RK X.K (Fz (B.fr ++ μ) H)) ks kvs := by
  have mk : ∀ ks : List Vd.KVR, Rd H a (Vd.dV X.w a ks) → (ks.map (·.1)).Nodup → Paired (RK X.K (Fz (B.fr ++ μ) H)) ks kvs → Vd.DAt X.w H a ks := fun ks e nd pr =>
    ⟨e, fun p hp => by
      obtain ⟨i, hi, rfl⟩ := List.mem_iff_getElem.mp hp
      have hi2 : i < kvs.length := by rw [← pr.length]; exact hi
      obtain ⟨q, eq, r⟩ := paired_get pr (List.getElem?_eq_getElem hi2)
      rw [List.getElem?_eq_getElem hi] at eq
      cases eq
      exact ⟨r.2.1, r.2.2.1.keep fun a xs e => fz_le _ _ e⟩, nd⟩
  cases h with
  | own j hj =>
    obtain ⟨ks, e, nd, pr⟩ := R.at hj
    exact ⟨ks, mk ks (.inl e) nd pr, pr⟩
  | lck j hj =>
    obtain ⟨e, nd, pr⟩ := R.at hj
    exact ⟨_, mk _ (.inr ⟨_, e⟩) nd pr, pr⟩
end
section
variable {X : Cx} {o i e f value : Expr} {pos pos' apos cpos : Pos} {fd fk fx : DTE}
/-- {} -/
abbrev dDNew : DTE := fun _ μ Q => ∀ p, Q (.ptr p) (μ ++ [(p, .dv [])])
theorem d_dnew : DE X (.Dict [] [] pos) dDNew := ⟨fun B => PE.weak Vd.pe_new fun σ H Q ⟨hv, hx, ρ, μ, Q0, hl, R, q, low⟩ p hp => low _ _ (q p) _ _ ((R.new (n := .dv []) hp ⟨[], upd_same, .nil, .nil⟩).cons rfl)⟩
abbrev dGet (fd fk fx : DTE) : DTE := fun ρ μ Q => fd ρ μ fun d μ1 => match d with
  | .ptr a => (∃ kvs, DvAt μ1 a kvs) ∧ fk ρ μ1 fun y μ2 => fx ρ μ2 fun z μ3 => match y with
    | .dat dk => ∃ kvs k, DvAt μ3 a kvs ∧ keyD dk = some k ∧ Vd.KeyOk k ∧ Q ((lookZ kvs k).getD z) μ3
    | _ => False
  | _ => False
theorem d_dget (hu : X.A.units + 64 < cLine) (ho : DE X o fd) (he : DE X e fk) (hf : DE X f fx) (m : M2 X o "get" apos e f cpos) : DE X (.Call (.Attribute o "get" apos) [e, f] [] cpos) (dGet fd fk fx) :=
  ⟨fun B => PE.weak (Vd.pe_get2 hu (ho.run B) (he.run B) (hf.run B) m) fun σ H Q ⟨hv, hx, ρ, μ, Q0, hl, R, q, low⟩ => by
    refine ⟨hv, hx, ρ, μ, _, hl, R, q, fun d μ1 q1 v H1 R1 => ?_⟩
    match d, q1, R1 with
    | .ptr a, q1, R1 =>
      obtain ⟨⟨kvs, h1⟩, q1⟩ := q1
      obtain ⟨ks, D, _⟩ := h1.at R1
      cases (R1.head : v = .ref a)
      refine ⟨a, rfl, ⟨ks, D.at⟩, _ :: hv, _ :: hx, ρ, μ1, _, by simp [hl], R1, q1, fun y μ2 q2 u H2 R2 => ⟨_ :: _ :: hv, _ :: _ :: hx, ρ, μ2, _, by simp [hl], R2, q2, fun z μ3 q3 t H3 R3 => ?_⟩⟩
      match y, q3, R3 with
      | .dat dk, q3, R3 =>
        obtain ⟨kvs, k, h3, ek, ok, q3⟩ := q3
        obtain ⟨ks3, D3, pr⟩ := h3.at R3
        refine ⟨ks3, k, D3, ok, (keyAt_of dk u k R3.tail.head ek).keep fun a xs e => fz_le _ _ e, ?_⟩
        rcases look_rel pr k with ⟨e1, e2⟩ | ⟨v, x, e1, e2, rv⟩
        · rw [e2] at q3
          rw [e1]
          exact low _ _ q3 _ _ (R3.tail.tail.tail.cons R3.head)
        · rw [e2] at q3
          rw [e1]
          exact low _ _ q3 _ _ (R3.tail.tail.tail.cons rv)⟩
abbrev dSetd (fd fk fx : DTE) : DTE := fun ρ μ Q => fd ρ μ fun d μ1 => match d with
  | .ptr a => (∃ kvs, DvAt μ1 a kvs) ∧ fk ρ μ1 fun y μ2 => fx ρ μ2 fun z μ3 => match y with
    | .dat dk => ∃ (j : Nat) (kvs : List (NestedKey × Val)) (k : NestedKey), μ3[j]? = some (a, Node.dv kvs) ∧ keyD dk = some k ∧ Vd.KeyOk k ∧ kvs.length < sizeLine ∧ (∀ x, lookZ kvs k = some x → Q x μ3) ∧ (lookZ kvs k = none → Q z (μ3.set j (a, .dv (putZ kvs k z))))
    | _ => False
  | _ => False
theorem putV_nd {ks : List Vd.KVR} {k : NestedKey} {y v : V} (nd : (ks.map (·.1)).Nodup) : ((Vd.putV ks k y v).map (·.1)).Nodup := by
  rw [Vd.putV_keys]
  split
  · exact nd
  · rename_i m
    exact List.nodup_append.mpr ⟨nd, by simp, fun x hx z hz => by
      rw [List.mem_singleton.mp hz]
      exact fun e => m (by rw [← e]; exact hx)⟩
theorem RL.putD {B : Base} {H : Hp} {σ : List (Option V)} {ρ : DR} {μ : Store} {a : Addr} {j : Nat} {kvs : List (NestedKey × Val)} {ks : List Vd.KVR} {k : NestedKey} {y v : V} {x : Val} (R : RL X.w X.K B H σ ρ μ) (hj : μ[j]? = some (a, .dv kvs)) (nd : (ks.map (·.1)).Nodup) (pr : Paired (RK X.K (Fz (B.fr ++ μ) H)) ks kvs)
    (ok : Vd.KeyOk k) (hk : Vd.KeyAt (Fz (B.fr ++ μ) H) k y) (r : RV X.K (Fz (B.fr ++ μ) H) v x) : RL X.w X.K B (upd H a (Vd.dV X.w a (Vd.putV ks k y v))) σ ρ (μ.set j (a, .dv (putZ kvs k x))) :=
  R.put (n' := .dv (putZ kvs k x)) hj ⟨_, upd_same, putV_nd nd, put_rel pr ok hk r⟩
theorem d_dsetd (hu : X.A.units + 64 < cLine) (ho : DE X o fd) (he : DE X e fk) (hf : DE X f fx) (m : M2 X o "setdefault" apos e f cpos) : DE X (.Call (.Attribute o "setdefault" apos) [e, f] [] cpos) (dSetd fd fk fx) :=
  ⟨fun B => PE.weak (Vd.pe_setd hu (ho.run B) (he.run B) (hf.run B) m) fun σ H Q ⟨hv, hx, ρ, μ, Q0, hl, R, q, low⟩ => by
    refine ⟨hv, hx, ρ, μ, _, hl, R, q, fun d μ1 q1 v H1 R1 => ?_⟩
    match d, q1, R1 with
    | .ptr a, q1, R1 =>
      obtain ⟨⟨kvs, h1⟩, q1⟩ := q1
      obtain ⟨ks, D, _⟩ := h1.at R1
      cases (R1.head : v = .ref a)
      refine ⟨a, rfl, ⟨ks, D.at⟩, _ :: hv, _ :: hx, ρ, μ1, _, by simp [hl], R1, q1, fun y μ2 q2 u H2 R2 => ⟨_ :: _ :: hv, _ :: _ :: hx, ρ, μ2, _, by simp [hl], R2, q2, fun z μ3 q3 t H3 R3 => ?_⟩⟩
      match y, q3, R3 with
      | .dat dk, q3, R3 =>
        obtain ⟨j, kvs, k, hj, ek, ok, hlen, q3, q4⟩ := q3
        obtain ⟨ks3, e3, nd, pr⟩ := R3.at hj
        obtain ⟨_, D3, _⟩ := (DvAt.own j hj).at R3
        have hk := keyAt_of dk u k R3.tail.head ek
        have D3 : Vd.DAt X.w H3 a ks3 := ⟨.inl e3, fun p hp => by
          obtain ⟨i, hi, rfl⟩ := List.mem_iff_getElem.mp hp
          have hi2 : i < kvs.length := by rw [← pr.length]; exact hi
          obtain ⟨q, eq, r⟩ := paired_get pr (List.getElem?_eq_getElem hi2)
          rw [List.getElem?_eq_getElem hi] at eq
          cases eq
          exact ⟨r.2.1, r.2.2.1.keep fun a xs e => fz_le _ _ e⟩, nd⟩
        refine ⟨ks3, k, e3, D3, ok, hk.keep fun a xs e => fz_le _ _ e, by rw [pr.length]; exact hlen, fun v hv => ?_, fun hn => ?_⟩
        · rcases look_rel pr k with ⟨e1, _⟩ | ⟨v', x, e1, e2, rv⟩
          · rw [e1] at hv; cases hv
          · rw [e1] at hv
            cases hv
            exact low _ _ (q3 x e2) _ _ (R3.tail.tail.tail.cons rv)
        · rcases look_rel pr k with ⟨_, e2⟩ | ⟨v', x, e1, _, _⟩
          · have R4 := (R3.tail.tail.tail.cons R3.head).putD hj nd pr ok hk R3.head
            exact low _ _ (q4 e2) _ _ R4
          · rw [e1] at hn; cases hn⟩
abbrev dDix (fd fk : DTE) : DTE := fun ρ μ Q => fd ρ μ fun d μ1 => fk ρ μ1 fun y μ2 => match d, y with
  | .ptr a, .dat dk => ∃ kvs k x, DvAt μ2 a kvs ∧ keyD dk = some k ∧ Vd.KeyOk k ∧ lookZ kvs k = some x ∧ Q x μ2
  | _, _ => False
theorem d_dix (hu : X.A.units + 64 < cLine) (ho : DE X o fd) (hi : DE X i fk) (hs : NoSl i) : DE X (.Subscript o i pos) (dDix fd fk) :=
  ⟨fun B => PE.weak (Vd.pe_ix hu (ho.run B) (hi.run B) hs) fun σ H Q ⟨hv, hx, ρ, μ, Q0, hl, R, q, low⟩ => by
    refine ⟨hv, hx, ρ, μ, _, hl, R, q, fun d μ1 q1 v H1 R1 => ⟨_ :: hv, _ :: hx, ρ, μ1, _, by simp [hl], R1, q1, fun y μ2 q2 u H2 R2 => ?_⟩⟩
    match d, y, q2, R2 with
    | .ptr a, .dat dk, q2, R2 =>
      obtain ⟨kvs, k, x, h, ek, ok, hx, q2⟩ := q2
      obtain ⟨ks, D, pr⟩ := h.at R2
      cases (R2.tail.head : v = .ref a)
      rcases look_rel pr k with ⟨_, e2⟩ | ⟨w, x', e1, e2, rv⟩
      · rw [e2] at hx; cases hx
      · rw [e2] at hx
        cases hx
        exact ⟨a, ks, k, w, rfl, D, ok, (keyAt_of dk u k R2.head ek).keep fun a xs e => fz_le _ _ e, e1, low _ _ q2 _ _ (R2.tail.tail.cons rv)⟩⟩
abbrev dDin (g : Bool → Bool) (fk fd : DTE) : DTE := fun ρ μ Q => fk ρ μ fun y μ1 => fd ρ μ1 fun d μ2 => match d, y with
  | .ptr a, .dat dk => ∃ kvs k, DvAt μ2 a kvs ∧ keyD dk = some k ∧ Vd.KeyOk k ∧ Q (.dat (.bool (g (lookZ kvs k).isSome))) μ2
  | _, _ => False
theorem look_some {K : PySem.W.Frag} {Z : Hp} {ks : List Vd.KVR} {kvs : List (NestedKey × Val)} (h : Paired (RK K Z) ks kvs) (k : NestedKey) : (Vd.lookV ks k).isSome = (lookZ kvs k).isSome := by
  rcases look_rel h k with ⟨e1, e2⟩ | ⟨v, x, e1, e2, _⟩ <;> rw [e1, e2] <;> rfl
theorem dt_din (hu : X.A.units + 64 < cLine) (hi : DE X i fk) (ho : DE X o fd) (hm : behindInMarks .In o = false := by rfl) : DT X (.Compare i [.In] [o] pos) (dB (dDin id fk fd)) :=
  ⟨fun B => PT.weak (pt_cmp (Vd.pc_in hu (hi.run B) (ho.run B)) hm) fun σ H Q ⟨hv, hx, ρ, μ, Q0, hl, R, q, low⟩ => by
    refine ⟨hv, hx, ρ, μ, _, hl, R, q, fun y μ1 q1 v H1 R1 => ⟨_ :: hv, _ :: hx, ρ, μ1, _, by simp [hl], R1, q1, fun d μ2 q2 u H2 R2 => ?_⟩⟩
    match d, y, q2, R2 with
    | .ptr a, .dat dk, q2, R2 =>
      obtain ⟨kvs, k, h, ek, ok, q2⟩ := q2
      obtain ⟨ks, D, pr⟩ := h.at R2
      cases (R2.head : u = .ref a)
      exact ⟨a, ks, k, rfl, D, ok, (keyAt_of dk v k R2.tail.head ek).keep fun a xs e => fz_le _ _ e, _, rfl, by rw [look_some pr]; exact low _ _ q2 _ R2.tail.tail⟩⟩
theorem dt_dnotin (hu : X.A.units + 64 < cLine) (hi : DE X i fk) (ho : DE X o fd) (hm : behindInMarks .NotIn o = false := by rfl) : DT X (.Compare i [.NotIn] [o] pos) (dB (dDin not fk fd)) :=
  ⟨fun B => PT.weak (pt_cmp (Vd.pc_notin hu (hi.run B) (ho.run B)) hm) fun σ H Q ⟨hv, hx, ρ, μ, Q0, hl, R, q, low⟩ => by
    refine ⟨hv, hx, ρ, μ, _, hl, R, q, fun y μ1 q1 v H1 R1 => ⟨_ :: hv, _ :: hx, ρ, μ1, _, by simp [hl], R1, q1, fun d μ2 q2 u H2 R2 => ?_⟩⟩
    match d, y, q2, R2 with
    | .ptr a, .dat dk, q2, R2 =>
      obtain ⟨kvs, k, h, ek, ok, q2⟩ := q2
      obtain ⟨ks, D, pr⟩ := h.at R2
      cases (R2.head : u = .ref a)
      exact ⟨a, ks, k, rfl, D, ok, (keyAt_of dk v k R2.tail.head ek).keep fun a xs e => fz_le _ _ e, _, rfl, by rw [look_some pr]; exact low _ _ q2 _ R2.tail.tail⟩⟩
abbrev dDput (fd fk fv : DTE) : DTS := fun E ρ μ => fv ρ μ fun x μ1 => fd ρ μ1 fun d μ2 => fk ρ μ2 fun y μ3 => match d, y with
  | .ptr a, .dat dk => ∃ (j : Nat) (kvs : List (NestedKey × Val)) (k : NestedKey), μ3[j]? = some (a, Node.dv kvs) ∧ keyD dk = some k ∧ Vd.KeyOk k ∧ kvs.length < sizeLine ∧ E.nx ρ (μ3.set j (a, .dv (putZ kvs k x)))
  | _, _ => False
theorem ds_dput (hu : X.A.units + 64 < cLine) (ho : DE X o fd) (hi : DE X i fk) (hv : DE X value fx) (hs : swapsWith value (some (.Subscript o i pos')) pos.line X.env = pure false) : DS X (.Assign [.Subscript o i pos'] value pos) (dDput fd fk fx) :=
  ⟨fun B => PS.weak (Vd.ps_put hu (ho.run B) (hi.run B) (hv.run B) hs) fun D σ H ⟨ρ, μ, E, R, q, b⟩ => by
    refine ⟨[], [], ρ, μ, _, rfl, R, q, fun x μ1 q1 t H1 R1 => ⟨[_], [_], ρ, μ1, _, rfl, R1, q1, fun d μ2 q2 v H2 R2 => ⟨[_, _], [_, _], ρ, μ2, _, rfl, R2, q2, fun y μ3 q3 u H3 R3 => ?_⟩⟩⟩
    match d, y, q3, R3 with
    | .ptr a, .dat dk, q3, R3 =>
      obtain ⟨j, kvs, k, hj, ek, ok, hlen, q3⟩ := q3
      have R3 : RL X.w X.K B H3 (some u :: some v :: some t :: σ) (some (.dat dk) :: some (.ptr a) :: some x :: ρ) μ3 := R3
      cases (R3.tail.head : v = .ref a)
      obtain ⟨ks3, e3, nd, pr⟩ := R3.at hj
      have hk := keyAt_of dk u k R3.head ek
      have D3 : Vd.DAt X.w H3 a ks3 := ⟨.inl e3, fun p hp => by
        obtain ⟨i, hi, rfl⟩ := List.mem_iff_getElem.mp hp
        have hi2 : i < kvs.length := by rw [← pr.length]; exact hi
        obtain ⟨q, eq, r⟩ := paired_get pr (List.getElem?_eq_getElem hi2)
        rw [List.getElem?_eq_getElem hi] at eq
        cases eq
        exact ⟨r.2.1, r.2.2.1.keep fun a xs e => fz_le _ _ e⟩, nd⟩
      exact ⟨a, ks3, k, rfl, e3, D3, ok, hk.keep fun a xs e => fz_le _ _ e, by rw [pr.length]; exact hlen, b.nx _ _ q3 _ _ (R3.putD hj nd pr ok hk R3.tail.tail.head).tail.tail.tail⟩⟩
/-- a list that nobody changes any more -/
abbrev dFz (f : DTE) : DTE := fun ρ μ Q => f ρ μ fun x μ1 => match x with
  | .ptr a => ∃ (j : Nat) (xs : List Val) (ds : List PyData), μ1[j]? = some (a, Node.lst xs) ∧ datOf xs = some ds ∧ Q (.dat (.list ds)) (μ1.eraseIdx j)
  | _ => False
theorem RL.fz {B : Base} {H : Hp} {σ : List (Option V)} {ρ : DR} {μ : Store} {a : Addr} {v : V} {j : Nat} {xs : List Val} {ds : List PyData} (R : RL X.w X.K B H (some v :: σ) (some (.ptr a) :: ρ) μ) (hj : μ[j]? = some (a, .lst xs)) (hd : datOf xs = some ds) :
    RL X.w X.K B H (some v :: σ) (some (.dat (.list ds)) :: ρ) (μ.eraseIdx j) := by
  have nd := R.nd
  rw [List.map_append, List.nodup_append] at nd
  have pm := perm_get hj
  have nd2 : (((a, Node.lst xs) :: μ.eraseIdx j).map (·.1)).Nodup := nodup_perm pm nd.2.1
  rw [List.map_cons, List.nodup_cons] at nd2
  obtain ⟨R1, g⟩ := R.sub (μ' := μ.eraseIdx j) nd2.2 fun p hp => pm.mem_iff.mpr (List.mem_cons_of_mem _ hp)
  obtain ⟨vs, e, pr⟩ := R.at hj
  cases (R.head : v = .ref a)
  refine R1.tail.cons (.lst (Fz.of (fun z => ?_) e) (DzAll.mono g _ _ (datOf_all pr hd)))
  rw [List.map_append] at z
  rcases List.mem_append.mp z with z | z
  · exact nd.2.2 _ z _ (List.mem_map_of_mem (List.mem_of_getElem? hj)) rfl
  · exact nd2.1 z
theorem d_fz {e : Expr} {f : DTE} (h : DE X e f) : DE X e (dFz f) :=
  ⟨fun B => PE.weak (h.run B) fun σ H Q ⟨hv, hx, ρ, μ, Q0, hl, R, q, low⟩ => by
    refine ⟨hv, hx, ρ, μ, _, hl, R, q, fun x μ1 q1 v H1 R1 => ?_⟩
    match x, q1, R1 with
    | .ptr a, q1, R1 =>
      obtain ⟨j, xs, ds, hj, hd, q1⟩ := q1
      exact low _ _ q1 _ _ (R1.fz hj hd)⟩
end
end Zl
namespace Zl
open PySem PySem.Spec PyProof.Rows L2 Lf
section
variable {X : Cx}
/-! ### a dict is locked while its keys are walked -/
theorem dv_lock {B : Base} {H : Hp} {σ : List (Option V)} {ρ : DR} {μ : Store} {a : Addr} {j : Nat} {kvs : List (NestedKey × Val)} (R : RL X.w X.K B H σ ρ μ) (hj : μ[j]? = some (a, .dv kvs)) :
    ∃ ks : List Vd.KVR, H a = some (Vd.dV X.w a ks) ∧ ∀ od, RL X.w X.K B (upd H a (.frz od (Vd.dV X.w a ks))) σ ρ (μ.set j (a, .dvl od ks kvs)) := by
  obtain ⟨ks, e, nd, pr⟩ := R.at hj
  exact ⟨ks, e, fun od => R.put (n' := .dvl od ks kvs) hj ⟨upd_same, nd, pr⟩⟩
theorem dv_unlock {B : Base} {H : Hp} {σ : List (Option V)} {ρ : DR} {μ : Store} {a : Addr} {j : Nat} {od : Obj} {ks : List Vd.KVR} {kvs : List (NestedKey × Val)} (R : RL X.w X.K B H σ ρ μ) (hj : μ[j]? = some (a, .dvl od ks kvs)) :
    H a = some (.frz od (Vd.dV X.w a ks)) ∧ RL X.w X.K B (upd H a (Vd.dV X.w a ks)) σ ρ (μ.set j (a, .dv kvs)) := by
  obtain ⟨e, nd, pr⟩ := R.at hj
  exact ⟨e, R.put (n' := .dv kvs) hj ⟨ks, upd_same, nd, pr⟩⟩
/-- what is wanted behind the lock -/
def unlk (a : Addr) (od : Obj) (ks : List Vd.KVR) (kvs : List (NestedKey × Val)) (μ : Store) (P : Store → Prop) : Prop := ∃ j : Nat, μ[j]? = some (a, Node.dvl od ks kvs) ∧ P (μ.set j (a, .dv kvs))
abbrev dLock (t : DTS) : DTS := fun E ρ μ => ∃ (a : Addr) (j : Nat) (kvs : List (NestedKey × Val)), μ[j]? = some (a, Node.dv kvs) ∧ ∀ od ks, t { nx := fun ρ' μ' => unlk a od ks kvs μ' (E.nx ρ'), rt := fun x μ' => unlk a od ks kvs μ' (E.rt x), bk := fun ρ' μ' => unlk a od ks kvs μ' (E.bk ρ'), ct := fun ρ' μ' => unlk a od ks kvs μ' (E.ct ρ') } ρ (μ.set j (a, .dvl od ks kvs))
theorem ds_lock {s : Stmt} {t : DTS} (h : DS X s t) : DS X s (dLock t) :=
  ⟨fun B => PS.weak (ps_lock (h.run B)) fun D σ H ⟨ρ, μ, E, R, ⟨a, j, kvs, hj, q⟩, b⟩ => by
    obtain ⟨ks, e, lk⟩ := dv_lock R hj
    refine ⟨a, _, e, trivial, fun od => ⟨ρ, _, _, lk od, q od ks, ⟨fun ρ' μ' ⟨j', h', q'⟩ σ' H' R' => ?_, fun x μ' ⟨j', h', q'⟩ v H' R' => ?_, fun ρ' μ' ⟨j', h', q'⟩ σ' H' R' => ?_, fun ρ' μ' ⟨j', h', q'⟩ σ' H' R' => ?_⟩⟩⟩
    · obtain ⟨e', R2⟩ := dv_unlock R' h'
      exact ⟨e', b.nx _ _ q' _ _ R2⟩
    · obtain ⟨e', R2⟩ := dv_unlock R' h'
      exact ⟨e', b.rt _ _ q' _ _ R2⟩
    · obtain ⟨e', R2⟩ := dv_unlock R' h'
      exact ⟨e', b.bk _ _ q' _ _ R2⟩
    · obtain ⟨e', R2⟩ := dv_unlock R' h'
      exact ⟨e', b.ct _ _ q' _ _ R2⟩⟩
abbrev dLockE (f : DTE) : DTE := fun ρ μ Q => ∃ (a : Addr) (j : Nat) (kvs : List (NestedKey × Val)), μ[j]? = some (a, Node.dv kvs) ∧ ∀ od ks, f ρ (μ.set j (a, .dvl od ks kvs)) fun x μ' => unlk a od ks kvs μ' (Q x)
theorem d_lock {e : Expr} {f : DTE} (h : DE X e f) : DE X e (dLockE f) :=
  ⟨fun B => PE.weak (pe_lock (h.run B)) fun σ H Q ⟨hv, hx, ρ, μ, Q0, hl, R, ⟨a, j, kvs, hj, q⟩, low⟩ => by
    obtain ⟨ks, e, lk⟩ := dv_lock R hj
    refine ⟨a, _, e, trivial, fun od => ⟨hv, hx, ρ, _, _, hl, lk od, q od ks, fun x μ' ⟨j', h', q'⟩ v H' R' => ?_⟩⟩
    obtain ⟨e', R2⟩ := dv_unlock R' h'
    exact ⟨e', low _ _ q' _ _ R2⟩⟩
def keysZ (kvs : List (NestedKey × Val)) : List Val := kvs.map fun p => .dat (datK p.1)
theorem seq_keys {B : Base} {a : Addr} {od : Obj} {ks : List Vd.KVR} {kvs : List (NestedKey × Val)} (len : ks.length = kvs.length) : SeqZ X B (Vd.Itk X.w a od ks) (keysZ kvs) fun μ => ∃ j : Nat, μ[j]? = some (a, Node.dvl od ks kvs) :=
  ⟨fun σ ρ H μ i R ⟨j, hj⟩ hi => by
    unfold keysZ at hi ⊢
    rw [List.length_map] at hi
    obtain ⟨e, nd, pr⟩ := R.at hj
    refine ⟨⟨e, by rw [len]; exact hi⟩, fun x H' y => ?_⟩
    obtain ⟨rfl, p, ep, rfl⟩ := y
    obtain ⟨q, eq, r⟩ := paired_get pr (List.getElem?_eq_getElem hi)
    rw [ep] at eq
    cases eq
    refine ⟨.dat (datK kvs[i].1), by rw [List.getElem?_map, List.getElem?_eq_getElem hi]; rfl, R.cons (x := .dat (datK kvs[i].1)) ?_⟩
    have := dz_key _ _ r.2.2.1
    rw [r.1] at this
    exact this, fun σ ρ H μ R ⟨j, hj⟩ => by
    unfold keysZ
    rw [List.length_map]
    obtain ⟨e, nd, pr⟩ := R.at hj
    exact ⟨e, Nat.le_of_eq len⟩, fun μ q ⟨j, hj⟩ => ⟨j, by rw [List.getElem?_append_left (List.getElem?_eq_some_iff.mp hj).1]; exact hj⟩⟩
/-- over the keys of a locked dict -/
abbrev dKeys (f : DTE) : DTI := fun ρ μ Q => f ρ μ fun x μ1 => match x with
  | .ptr a => ∃ (j : Nat) (od : Obj) (ks : List Vd.KVR) (kvs : List (NestedKey × Val)), μ1[j]? = some (a, Node.dvl od ks kvs) ∧ Q (keysZ kvs) (fun μ => ∃ j : Nat, μ[j]? = some (a, Node.dvl od ks kvs)) μ1
  | _ => False
theorem di_keys {tg e : Expr} {f : DTE} (h : DE X e f) : DI X tg e (dKeys f) :=
  ⟨fun B => PI.weak (Vd.pi_keys (h.run B)) fun σ H R ⟨hv, hx, ρ, μ, Q0, hl, R0, q, low⟩ => by
    refine ⟨hv, hx, ρ, μ, _, hl, R0, q, fun x μ1 q1 v H1 R1 => ?_⟩
    match x, q1, R1 with
    | .ptr a, q1, R1 =>
      obtain ⟨j, od, ks, kvs, hj, q1⟩ := q1
      obtain ⟨e, nd, pr⟩ := R1.at hj
      cases (R1.head : v = .ref a)
      exact ⟨a, od, ks, rfl, e, low _ _ _ q1 _ _ R1.tail (seq_keys pr.length)⟩⟩
/-! ### {k: v for .. in ..} -/
abbrev dDc (fi : DTI) (put : Val → DR → Option DR) (ft : DTT) (fk fe : DTE) (vs : List Nat) : DTE := fun ρ μ Q => fi ρ μ fun ys ok μ1 => ∃ I : Nat → List (NestedKey × Val) → Store → Prop, I 0 [] μ1 ∧ (∀ n acc μ, n ≤ ys.length → I n acc μ → ok μ) ∧
  (∀ n y acc μ, ys[n]? = some y → I n acc μ → ∃ ρ2, put y (wipeZ ρ vs) = some ρ2 ∧ ft ρ2 μ fun b μ2 => if b = true then fk ρ2 μ2 fun kx μ3 => fe ρ2 μ3 fun x μ4 => match kx with
      | .dat dk => ∃ k, keyD dk = some k ∧ Vd.KeyOk k ∧ acc.length < sizeLine ∧ ∃ μ5, List.Sublist μ5 μ4 ∧ I (n + 1) (putZ acc k x) μ5
      | _ => False
    else ∃ μ5, List.Sublist μ5 μ2 ∧ I (n + 1) acc μ5) ∧
  ∀ acc μ, I ys.length acc μ → ∀ p, Q (.ptr p) (μ ++ [(p, .dv acc)])
theorem dc_up {B : Base} {fi : DTI} {put : Val → DR → Option DR} {ft : DTT} {fk fe : DTE} {vs : List Nat} {g : TG} (hg : PutOk X g vs put) {σ : L2.St} {H : Hp} {Q : VK} (q : up X B (dDc fi put ft fk fe vs) σ H Q) :
    Vd.tDc X.w (upI X B fi) g (fun σ H Q => ∃ B', upT X B' ft σ H Q) (fun σ H Q => ∃ B', up X B' fk σ H Q) (fun σ H Q => ∃ B', up X B' fe σ H Q) vs σ H Q := by
  obtain ⟨hv, hx, ρ, μ, Q0, hl, R0, q, low⟩ := q
  refine ⟨hv, hx, ρ, μ, _, hl, R0, q, fun ys ok μ1 q J H1 R1 sz D hD => ?_⟩
  obtain ⟨I, i0, iok, turn, fin⟩ := q
  have Rf := R1.firm
  refine ⟨fun k m H' => m = ys.length - k ∧ k ≤ ys.length ∧ ∃ acc μ', RL X.w X.K (firm B μ1 H1) H' (hv ++ σ) (hx ++ ρ) (μ' ++ [(D, .dv acc)]) ∧ I k acc μ', ⟨ys.length, by simp, Nat.zero_le _, [], μ1, Rf.new (n := .dv []) hD ⟨[], upd_same, .nil, .nil⟩, i0⟩, ?_⟩
  rintro k m H' ⟨rfl, hk, acc, μ', R', i'⟩
  have kk := iok k acc μ' hk i'
  by_cases c : k < ys.length
  · obtain ⟨go, step⟩ := sz.go _ _ _ _ _ R' (sz.more _ _ kk) c
    refine .inr ⟨go, fun H2 => ∃ acc μ2, RL X.w X.K (firm B μ1 H1) H2 (hv ++ σ) (hx ++ ρ) (μ2 ++ [(D, .dv acc)]) ∧ I (k + 1) acc μ2, fun H2 ⟨acc, μ2, h⟩ => ⟨ys.length - (k + 1), by omega, rfl, c, acc, μ2, h⟩, fun x H2 y => ?_⟩
    obtain ⟨z, ez, R2⟩ := step x H2 y
    obtain ⟨ρ2, e2, q2⟩ := turn k z acc μ' ez i'
    have Rh := R2.hide
    have pw : Paired (RVo X.K (Fz (((firm B μ1 H1).fr ++ [(D, Node.dv acc)]) ++ μ') H2)) (wipe σ vs) (wipeZ ρ vs) := wipe_pair (paired_split hl Rh.tail.sl).2 vs
    have Rw : RL X.w X.K ⟨(firm B μ1 H1).hp, (firm B μ1 H1).fr ++ [(D, .dv acc)]⟩ H2 (some x :: ((hv ++ σ) ++ wipe σ vs)) (some z :: ((hx ++ ρ) ++ wipeZ ρ vs)) μ' := Rh.slots (.cons Rh.head (paired_app Rh.tail.sl pw))
    have ll : (hv ++ σ).length = (hx ++ ρ).length := Rh.tail.sl.length
    refine hg _ σ ρ ρ2 H2 μ' x z (hv ++ σ) (hx ++ ρ) _ ll Rw e2 fun σ2 ew R3 => ⟨ew, _, hv ++ σ, hx ++ ρ, ρ2, μ', _, ll, R3, q2, fun b μ2 q3 H3 R4 => ?_⟩
    cases b with
    | false =>
      obtain ⟨μ5, s5, q3⟩ := q3
      exact ⟨acc, μ5, RL.show (B := firm B μ1 H1) ((R4.less s5).slots (paired_split ll (R4.less s5).sl).1), q3⟩
    | true =>
      refine ⟨_, hv ++ σ, hx ++ ρ, ρ2, μ2, _, ll, R4, q3, fun kx μ3 q4 vk H4 R5 => ⟨_, some vk :: (hv ++ σ), some kx :: (hx ++ ρ), ρ2, μ3, _, by rw [List.length_cons, List.length_cons, ll], R5, q4, fun u μ4 q5 v H5 R6 => ?_⟩⟩
      match kx, q5, R6 with
      | .dat dk, q5, R6 =>
        obtain ⟨kk, ek, okk, hlen, μ6, s6, q5⟩ := q5
        have R7 : RL X.w X.K (firm B μ1 H1) H5 (some v :: some vk :: (hv ++ σ)) (some u :: some (.dat dk) :: (hx ++ ρ)) (μ4 ++ [(D, .dv acc)]) := RL.show (R6.slots (.cons R6.head (.cons R6.tail.head (paired_split ll R6.tail.tail.sl).1)))
        have hj : (μ4 ++ [(D, Node.dv acc)])[μ4.length]? = some (D, .dv acc) := by simp
        obtain ⟨ks, eD, nd, pr⟩ := R7.at hj
        obtain ⟨_, D3, _⟩ := (DvAt.own _ hj).at R7
        have hkey := keyAt_of dk vk kk R7.tail.head ek
        have D3 : Vd.DAt X.w H5 D ks := ⟨.inl eD, fun p hp => by
          obtain ⟨i, hi, rfl⟩ := List.mem_iff_getElem.mp hp
          have hi2 : i < acc.length := by rw [← pr.length]; exact hi
          obtain ⟨q, eq, r⟩ := paired_get pr (List.getElem?_eq_getElem hi2)
          rw [List.getElem?_eq_getElem hi] at eq
          cases eq
          exact ⟨r.2.1, r.2.2.1.keep fun a xs e => fz_le _ _ e⟩, nd⟩
        refine ⟨ks, kk, eD, D3, okk, hkey.keep fun a xs e => fz_le _ _ e, by rw [pr.length]; exact hlen, putZ acc kk u, μ6, ?_, q5⟩
        have := R7.putD hj nd pr okk hkey R7.head
        rw [set_last] at this
        exact this.tail.tail.less (s6.append (.refl _))
  · have e : k = ys.length := by omega
    subst e
    exact .inl ⟨sz.stop _ _ _ _ R' (sz.more _ _ kk), low _ _ (fin acc μ' i' D) _ _ ((R1.back R').cons rfl)⟩
theorem d_dc {kx vx tg iter : Expr} {ifs : List Expr} {scope : Scope} {own : List (Str × Nat)} {pos : Pos} {fi : DTI} {put : Val → DR → Option DR} {ft : DTT} {fk fe : DTE} (hu : X.A.units + 64 < cLine) (hc : X.calm = true) (hN : X.N.Nodup) (hi : DI X tg iter fi) (ok : BlkOk X.N X.env.scope scope own)
    {g : TG} (hp : PutOk X g (own.map (·.2)) put)
    (hg : ∀ (s : Shared) (H : Hp) (C : Addr) (cl : List (Str × Addr)) (fp : List Addr), PG (X.blk s H scope (compEnvC scope cl C X.env) fp) tg g) (ht : ∀ (s : Shared) (H : Hp) (C : Addr) (cl : List (Str × Addr)) (fp : List Addr), DTs (X.blk s H scope (compEnvC scope cl C X.env) fp) ifs ft)
    (hk : ∀ (s : Shared) (H : Hp) (C : Addr) (cl : List (Str × Addr)) (fp : List Addr), DE (X.blk s H scope (compEnvC scope cl C X.env) fp) kx fk)
    (he : ∀ (s : Shared) (H : Hp) (C : Addr) (cl : List (Str × Addr)) (fp : List Addr), DE (X.blk s H scope (compEnvC scope cl C X.env) fp) vx fe) (hs : ∀ x, foldedSetIterable iter X.env x = pure x := by intro _; rfl) :
    DE X (.DictComp kx vx [⟨tg, iter, ifs, 0⟩] scope pos) (dDc fi put ft fk fe (own.map (·.2))) :=
  ⟨fun B => PE.weak (Vd.pe_dc (tt := fun σ H Q => ∃ B', upT X B' ft σ H Q) (tk := fun σ H Q => ∃ B', up X B' fk σ H Q) (tv := fun σ H Q => ∃ B', up X B' fe σ H Q) hu hc hN (hi.run B) ok hg (fun s H C cl fp => PTs.ex fun B' => (ht s H C cl fp).run B') (fun s H C cl fp => PE.ex fun B' => (hk s H C cl fp).run B') (fun s H C cl fp => PE.ex fun B' => (he s H C cl fp).run B') hs) fun σ H Q q => dc_up hp q⟩
end
end Zl
/-! list.extend of a tuple. -/
namespace Zl
open PySem PySem.Spec PyProof.Rows L2 Lf
set_option maxRecDepth 100000 in
theorem ext_tup (p q : Addr) (xs ys : Array Value) (c c2 : Nat) (dd : Option Addr) (sl : Array (Option Value)) (h0 : ¬(!xs.isEmpty && Builtin.List.listTooLong (xs.size + ys.size)) = true) (h1 : xs.size ≤ sizeLine) (h2 : xs.size + ys.size ≤ sizeLine + 1) :
    Meets (Builtin.«list.extend» ⟨[.ref p, .ref q], []⟩) fun _ T z => z.heap.get? p = some { cls := .type "list", dict := none, data := .seq xs c, slots := #[] } ∧ z.heap.get? q = some { cls := .type "tuple", dict := dd, data := .seq ys c2, slots := sl } ∧
      T (.ok (.ret Value.none)) { z with heap := z.heap.update p (Obj.mapSeq fun m => m ++ ys), toks := z.toks } :=
  .of_wp fun pr wo Ar T z h => by
    obtain ⟨h3, h4, h5, h6, h7⟩ := z
    obtain ⟨e1, e2, fin⟩ := h
    have i1 := PySem.AutoSeq1.idx_int
    have i2 := PySem.AutoSeq1.sub_tuple_tuple
    have i3 := PySem.AutoSeq1.sub_list_list
    have i4 := PySem.AutoSeq1.sub_tuple_list
    have i5 := PySem.AutoSeq1.sub_list_tuple
    have big : (xs ++ ys).size ≤ sizeLine + 1 := by rw [Array.size_append]; exact h2
    wp_walk using (wpAny_updateSeq e1 rfl (hz := h1) (_hz' := big)), wpAny_loadPart' e1, wpAny_loadPart' e2
    exact ⟨_, rfl, fin⟩
section
variable {X : Cx}
def rExtT (K : PySem.W.Frag) : V → List V → Hp → VK → Prop := fun x vs H Q => ∃ l b xs ys, x = .ref l ∧ vs = [.ref b] ∧ H l = some (.lst xs) ∧ SqT K H b ys ∧ xs.length + ys.length ≤ sizeLine ∧ Q .non (upd H l (.lst (xs ++ ys)))
theorem mt_extT : MtR X "list.extend" (rExtT X.K) := by
  intro pins z σ H x vs v us Q J rx rv h
  obtain ⟨l, b, xs, ys, rfl, rfl, hl, hb, big, q⟩ := h
  obtain rfl : v = .ref l := rx
  obtain ⟨u, rfl, ru⟩ := rv.one
  obtain rfl : u = .ref b := ru
  obtain ⟨_, its, n, r1, len, e1⟩ := J.lstM hl
  obtain ⟨jts, r2, ⟨⟨cl, dd, da, sl⟩, e2, ec, m, ed⟩, _⟩ := J.tuple hb
  simp only at ec ed
  subst ec ed
  have l2 := r2.length
  have small : its.toArray.size + jts.toArray.size ≤ sizeLine := by
    rw [List.size_toArray, List.size_toArray, ← len, ← l2]
    exact big
  have no : ¬ (!its.toArray.isEmpty && Builtin.List.listTooLong (its.toArray.size + jts.toArray.size)) = true := by
    rw [notLongL small, Bool.and_false]
    exact Bool.false_ne_true
  refine call_meets F.slot_list_extend ⟨_, e1, rfl⟩ F.entry_list_extend (F.args_list_extend_2 _ _) (ext_tup l b its.toArray jts.toArray n m dd sl no (by omega) (by omega)) ⟨e1, e2, ?_⟩
  refine ⟨.non, _, J.lset (its' := its ++ jts) hl e1 (by simp) (r1.append r2) ?_, rfl, q⟩
  rw [List.length_append]
  omega
/-- a list is extended by a list or a tuple -/
def zExtend2 : Val → List Val → Store → DK → Prop := fun x xs μ Q => match x, xs with
  | .ptr a, [.dat (.tuple ds)] => ∃ (j : Nat) (ys : List Val), μ[j]? = some (a, Node.lst ys) ∧ ys.length + ds.length ≤ sizeLine ∧ Q (.dat .none) (μ.set j (a, .lst (ys ++ ds.map .dat)))
  | x, xs => zExtend x xs μ Q
theorem me_extend2 : MeZ X "list.extend" zExtend2 := ⟨_, MtR.or (show MtR X "list.extend" rExtend from mt_extend) mt_extT, fun B σ ρ H μ v x vs xs Q0 Q l R q low => by
  unfold zExtend2 at q
  split at q
  · obtain ⟨j, ys, hj, hl, q⟩ := q
    obtain ⟨u, rfl, R⟩ := one_arg' l R
    obtain ⟨us, e, pr⟩ := R.at hj
    cases (R.tail.head : v = .ref _)
    have hd := R.head
    cases (hd : Dz _ u (.tuple _)) with
    | tup e1 e2 =>
      exact .inr ⟨_, _, us, _, rfl, rfl, e, SqT.of (fz_le _ _ e1), by rw [pr.length, dzAll_len e2]; exact hl, low _ _ q _ _ ((R.put (n' := .lst (ys ++ _)) hj ⟨_, upd_same, paired_app pr (dz_all e2)⟩).tail.tail.cons .non)⟩
  · refine .inl ?_
    match x, xs, l, R, q with
    | .ptr a, [y], l, R, q =>
      obtain ⟨j, ys, zs, hj, hi, hl, q⟩ := q
      obtain ⟨u, rfl, R⟩ := one_arg' l R
      obtain ⟨us, e, pr⟩ := R.at hj
      obtain ⟨b, ws, rfl, e2, pr2⟩ := hi.at R R.head
      cases (R.tail.head : v = .ref a)
      exact ⟨a, b, us, ws, rfl, rfl, e, e2, by rw [pr.length, pr2.length]; exact hl, low _ _ q _ _ ((R.put (n' := .lst (ys ++ zs)) hj ⟨_, upd_same, paired_app pr pr2⟩).tail.tail.cons .non)⟩⟩
end
end Zl
/-! sorted of tuples told apart by their first items. -/
namespace Zl
open PySem PySem.Spec PyProof.Rows L2 Lf SrtO
mutual
theorem dz_one {Z : Hp} : ∀ (d e : PyData) (v : V), Dz Z v d → Dz Z v e → d = e
  | .none, _, _, h, h' => by cases h; cases h'; rfl
  | .bool b, _, _, h, h' => by cases h; cases h'; rfl
  | .int i, _, _, h, h' => by cases h; cases h'; rfl
  | .str x, _, _, h, h' => by cases h; cases h'; rfl
  | .list ds, e, _, h, h' => by
    cases h with
    | lst h1 h2 =>
      cases h' with
      | lst h3 h4 =>
        rw [h1] at h3
        cases h3
        rw [dzs_one ds _ _ h2 h4]
      | tup h3 h4 =>
        rw [h1] at h3
        cases h3
  | .tuple ds, e, _, h, h' => by
    cases h with
    | tup h1 h2 =>
      cases h' with
      | lst h3 h4 =>
        rw [h1] at h3
        cases h3
      | tup h3 h4 =>
        rw [h1] at h3
        cases h3
        rw [dzs_one ds _ _ h2 h4]
  | .dict _, _, _, h, _ => by cases h
theorem dzs_one {Z : Hp} : ∀ (ds es : List PyData) (vs : List V), DzAll Z vs ds → DzAll Z vs es → ds = es
  | [], _, _, h, h' => by cases h; cases h'; rfl
  | d :: ds, _, _, h, h' => by
    cases h with
    | cons h1 h2 =>
      cases h' with
      | cons h3 h4 => rw [dz_one d _ _ h1 h3, dzs_one ds _ _ h2 h4]
end
section
open Classical
variable {X : Cx}
noncomputable def kOf (Z : Hp) (v : V) : PyData := if h : ∃ d, Dz Z v d then choose h else .none
theorem kOf_eq {Z : Hp} {v : V} {d : PyData} (h : Dz Z v d) : kOf Z v = d := by
  have e : ∃ d, Dz Z v d := ⟨d, h⟩
  unfold kOf
  rw [dif_pos e]
  exact dz_one _ _ _ (choose_spec e) h
theorem map_kOf {Z : Hp} : ∀ {vs : List V} {ds : List PyData}, DzAll Z vs ds → vs.map (kOf Z) = ds
  | _, [], h => by cases h; rfl
  | _, d :: ds, h => by
    cases h with
    | cons h1 h2 => rw [List.map_cons, kOf_eq h1, map_kOf h2]
theorem dzs_mem {Z : Hp} : ∀ {vs : List V} {ds : List PyData}, DzAll Z vs ds → ∀ v ∈ vs, Dz Z v (kOf Z v) ∧ kOf Z v ∈ ds
  | _, [], h, v, hv => by cases h; cases hv
  | _, d :: ds, h, v, hv => by
    cases h with
    | cons h1 h2 =>
      rcases List.mem_cons.mp hv with rfl | hv
      · rw [kOf_eq h1]
        exact ⟨h1, List.mem_cons_self ..⟩
      · exact (dzs_mem h2 v hv).imp id (List.mem_cons_of_mem _)
theorem dzs_of {Z : Hp} : ∀ {vs : List V}, (∀ v ∈ vs, Dz Z v (kOf Z v)) → DzAll Z vs (vs.map (kOf Z))
  | [], _ => .nil
  | v :: vs, h => .cons (h v (List.mem_cons_self ..)) (dzs_of fun u hu => h u (List.mem_cons_of_mem _ hu))
/-- sorted(xs): tuples of an item at least; first items of one kind; what differs is told -/
def zSortedA : List Val → Store → DK → Prop := fun xs μ Q => match xs with
  | [x] => itemsOf μ x fun ys => isL x μ ∧ ∃ (ds : List PyData) (T : Value), datOf ys = some ds ∧ (∀ d ∈ ds, ∃ y r, d = .tuple (y :: r) ∧ PySem.W.dataType y = T) ∧ (∀ d ∈ ds, ∀ e ∈ ds, Sa.Akin d e) ∧ (∀ d ∈ ds, d.depth ≤ 50) ∧
      ∀ p (es : List PyData), es.Perm ds → es.Pairwise (fun x y => PySem.W.dataLt y x = false) → Q (.ptr p) (μ ++ [(p, .lst (es.map .dat))])
  | _ => False
theorem ca_sortedA (hu : X.A.units + 64 < cLine) : CaZ X (.builtin "sorted") zSortedA := ⟨_, Sa.cr_sortedA hu, fun B σ ρ H μ vs xs Q0 Q l R q low => by
  match xs, l, R, q with
  | [x], l, R, q =>
    obtain ⟨v, rfl, R⟩ := one_arg' l R
    obtain ⟨b, ys, hi, il, ds, T, ed, ty, ak, dep, q⟩ := itemsOf_its (P := fun ys => isL x μ ∧ ∃ (ds : List PyData) (T : Value), datOf ys = some ds ∧ (∀ d ∈ ds, ∃ y r, d = .tuple (y :: r) ∧ PySem.W.dataType y = T) ∧ (∀ d ∈ ds, ∀ e ∈ ds, Sa.Akin d e) ∧ (∀ d ∈ ds, d.depth ≤ 50) ∧
      ∀ p (es : List PyData), es.Perm ds → es.Pairwise (fun x y => PySem.W.dataLt y x = false) → Q0 (.ptr p) (μ ++ [(p, Node.lst (es.map .dat))])) q
    obtain ⟨a, us, rfl, hs, pr⟩ := hi.at R R.head
    have hb : b = false := by
      cases hi with
      | t ds => exact il.elim
      | _ => rfl
    subst hb
    have dz := datOf_all pr ed
    have mem := dzs_mem dz
    refine ⟨a, us, kOf (Fz (B.fr ++ μ) H), T, rfl, hs, fun u hu => ?_, fun u hu w hw => ak _ (mem u hu).2 _ (mem w hw).2, fun u hu => dep _ (mem u hu).2, fun ys2 p sr st hp => ?_⟩
    · obtain ⟨m1, m2⟩ := mem u hu
      obtain ⟨y, r, e, t⟩ := ty _ m2
      rw [e] at m1
      cases m1 with
      | tup e1 e2 => exact ⟨_, y, r, rfl, (by rw [e]; exact Dz.dp _ _ (Dz.mono fz_le _ _ (.tup e1 e2))), e, t⟩
    · have dz2 := dzs_of (vs := ys2) fun u hu => (mem u (st.perm.mem_iff.mp hu)).1
      refine low _ _ (q p (ys2.map (kOf (Fz (B.fr ++ μ) H))) ?_ ?_) _ _ ((R.tail.new (n := .lst ((ys2.map (kOf (Fz (B.fr ++ μ) H))).map .dat)) hp ⟨_, upd_same, dz_all dz2⟩).cons rfl)
      · rw [← map_kOf dz]
        exact st.perm.map _
      · rw [List.pairwise_map]
        exact sr⟩
/-- sorted(xs): tuples of an item at least; first items of one kind; what differs is told -/
def zSortedB : List Val → Store → DK → Prop := fun xs μ Q => match xs with
  | [x] => itemsOf μ x fun ys => isL x μ ∧ ∃ (ds : List PyData) (T : Value), datOf ys = some ds ∧ (∀ d ∈ ds, ∃ y r, d = .tuple (y :: r) ∧ PySem.W.dataType y = T) ∧ (∀ d ∈ ds, ∀ e ∈ ds, Sa.Akin3 d e) ∧ (∀ d ∈ ds, d.depth ≤ 50) ∧
      ∀ p (es : List PyData), es.Perm ds → es.Pairwise (fun x y => PySem.W.dataLt y x = false) → Q (.ptr p) (μ ++ [(p, .lst (es.map .dat))])
  | _ => False
theorem ca_sortedB (hu : X.A.units + 64 < cLine) : CaZ X (.builtin "sorted") zSortedB := ⟨_, Sa.cr_sortedB hu, fun B σ ρ H μ vs xs Q0 Q l R q low => by
  match xs, l, R, q with
  | [x], l, R, q =>
    obtain ⟨v, rfl, R⟩ := one_arg' l R
    obtain ⟨b, ys, hi, il, ds, T, ed, ty, ak, dep, q⟩ := itemsOf_its (P := fun ys => isL x μ ∧ ∃ (ds : List PyData) (T : Value), datOf ys = some ds ∧ (∀ d ∈ ds, ∃ y r, d = .tuple (y :: r) ∧ PySem.W.dataType y = T) ∧ (∀ d ∈ ds, ∀ e ∈ ds, Sa.Akin3 d e) ∧ (∀ d ∈ ds, d.depth ≤ 50) ∧
      ∀ p (es : List PyData), es.Perm ds → es.Pairwise (fun x y => PySem.W.dataLt y x = false) → Q0 (.ptr p) (μ ++ [(p, Node.lst (es.map .dat))])) q
    obtain ⟨a, us, rfl, hs, pr⟩ := hi.at R R.head
    have hb : b = false := by
      cases hi with
      | t ds => exact il.elim
      | _ => rfl
    subst hb
    have dz := datOf_all pr ed
    have mem := dzs_mem dz
    refine ⟨a, us, kOf (Fz (B.fr ++ μ) H), T, rfl, hs, fun u hu => ?_, fun u hu w hw => ak _ (mem u hu).2 _ (mem w hw).2, fun u hu => dep _ (mem u hu).2, fun ys2 p sr st hp => ?_⟩
    · obtain ⟨m1, m2⟩ := mem u hu
      obtain ⟨y, r, e, t⟩ := ty _ m2
      rw [e] at m1
      cases m1 with
      | tup e1 e2 => exact ⟨_, y, r, rfl, (by rw [e]; exact Dz.dp _ _ (Dz.mono fz_le _ _ (.tup e1 e2))), e, t⟩
    · have dz2 := dzs_of (vs := ys2) fun u hu => (mem u (st.perm.mem_iff.mp hu)).1
      refine low _ _ (q p (ys2.map (kOf (Fz (B.fr ++ μ) H))) ?_ ?_) _ _ ((R.tail.new (n := .lst ((ys2.map (kOf (Fz (B.fr ++ μ) H))).map .dat)) hp ⟨_, upd_same, dz_all dz2⟩).cons rfl)
      · rw [← map_kOf dz]
        exact st.perm.map _
      · rw [List.pairwise_map]
        exact sr⟩
end
end Zl
/-! x[::-1]; a law's own def where it is entered. -/
namespace Zl
open PySem PySem.Spec PyProof.Rows L2 Lf
section
variable {X : Cx}
abbrev dRev (f : DTE) : DTE := fun ρ μ Q => f ρ μ fun x μ1 => isL x μ1 ∧ itemsOf μ1 x fun ys => ∀ p, Q (.ptr p) (μ1 ++ [(p, .lst ys.reverse)])
theorem itemsOf_and {μ : Store} {x : Val} {P : List Val → Prop} (h1 : isL x μ) (h : itemsOf μ x P) : ∃ xs, Its μ x false xs ∧ P xs := by
  obtain ⟨b, xs, hi, p⟩ := itemsOf_its h
  cases b with
  | false => exact ⟨xs, hi, p⟩
  | true =>
    cases hi with
    | t ds => exact h1.elim
theorem d_rev {e : Expr} {f : DTE} {k : Nat} {p1 p2 p3 pos : Pos} (h : DE X e f) : DE X (.Subscript e (.Slice none none (some (.UnaryOp .USub (.Constant (.int 1) k p1) p2)) p3) pos) (dRev f) :=
  ⟨fun B => PE.weak (pe_revL (h.run B)) fun σ H Q ⟨hv, hx, ρ, μ, Q0, l0, R, q, low⟩ => by
    refine ⟨hv, hx, ρ, μ, _, l0, R, q, fun x μ1 q1 v H1 R1 => ?_⟩
    obtain ⟨xs, hi, q2⟩ := itemsOf_and q1.1 q1.2
    obtain ⟨a, us, rfl, hs, pr⟩ := hi.at R1 R1.head
    exact ⟨a, us, rfl, hs, fun p hp => low _ _ (q2 p) _ _ ((R1.tail.new (n := .lst xs.reverse) hp ⟨_, upd_same, paired_reverse pr⟩).cons rfl)⟩⟩
end
theorem str_same {g : Bool → Bool} {a : Str} {μ : Store} {Q : DK} (h : Q (.dat (.bool (g true))) μ) : zEqq g (.dat (.str a)) (.dat (.str a)) μ Q := by
  have e : decide (a = a) = true := decide_eq_true rfl
  show Q (.dat (.bool (g (decide (a = a))))) μ
  rw [e]
  exact h
theorem runZ {A : Around} {P : Program} {w : World} {K : PySem.W.Frag} {mg : Str → Option Value} {base : Heap} {x qual : Str} {st : Stmt} {f : Addr} {fd : FuncData} {N ps : List Str} {k : Nat} {F : DSp} (FF : Fun K x qual st f fd) (S : FnScope N ps (defScope st))
    (rm : Room (k + 1) A) (len : ∀ xs μ Q, F xs μ Q → xs.length = ps.length)
    (body : ∀ (cdv : Value) (outer : List Env) (s : Shared) (H : Hp) (E : XK), Room k (A.deeper (envOfC qual (defScope st) s.heap.objs.size f cdv)) →
      ∃ t : DTS, DSs (cxOf CX0 P w K mg base N qual (defScope st) f cdv A outer s H E).nox (defBody st) t ∧ ∀ xs μ Q, F xs μ Q → t (dEnd Q) (startZ N xs) μ) : Gd.RunAt A P w K mg base f fd ps (spZ w K F) := by
  refine Gd.runAt FF S rm (fun vs H Q E h => ?_) fun cdv outer s H vs Q E h => ?_
  · obtain ⟨B, xs, μ, Q0, l, _, h, _⟩ := h
    rw [l]
    exact len _ _ _ h
  · obtain ⟨B, xs, μ, Q0, l, R, h, low⟩ := h
    obtain ⟨t, d, q⟩ := body cdv outer s H E (rm.deeper _)
    refine ⟨_, (d.run B), startZ N xs, μ, dEnd Q0, ?_, q xs μ Q0 h, ?_⟩
    · refine R.slots ?_
      unfold L2.start startZ
      rw [l]
      exact paired_app R.sl (paired_none _)
    · exact ⟨fun ρ μ ⟨μ', h, q⟩ σ H R => low _ _ q _ _ ((R.less h).slots (.cons .non .nil)), fun x μ ⟨μ', h, q⟩ v H R => low _ _ q _ _ (R.less h), fun _ _ q => q.elim, fun _ _ q => q.elim⟩
theorem law_sp {w : World} {K : PySem.W.Frag} {F : DSp} {H : Hp} {a : Addr} {ns : List Int} {E : XK} (h : F [.scr ns] [] fun x _ => x = .dat (.bool true)) (hS : SqL K H a (ns.map V.int)) : spZ w K F [.ref a] H (fun v _ => v = .bl true) E := by
  have g : ∀ x o, H x = some o → Fz ([] ++ []) H x = some o := fun x o e => Fz.of (by simp) e
  refine ⟨⟨fun _ => none, []⟩, _, _, _, rfl, ⟨by simp, fun x o e => (by cases e), .cons ⟨a, rfl, sqL_mono g hS⟩ .nil, fun p hp => (by cases hp)⟩, h, fun x μ' e v H' R => ?_⟩
  subst e
  cases (R.head : Dz _ v (.bool true))
  rfl
end Zl
/-! repr(None); x = {..} on one line. -/
namespace Zl
open PySem PySem.Spec PyProof.Rows L2 Lf
section
variable {X : Cx}
theorem call_repr_none : CallR X (.builtin "repr") (fun xs H Q => xs = [.non] ∧ Q (.str "None") H) := by
  intro pins s σ H xs us Q I r h
  obtain ⟨rfl, q⟩ := h
  obtain ⟨u, rfl, t⟩ := vals1 r
  cases (t : u = .none)
  exact PySem.P.repr_of_none ⟨.str _, H, I.tok _, ⟨_, rfl⟩, q⟩
/-- repr of lists, tuples and None -/
def zRepr2 : List Val → Store → DK → Prop := fun xs μ Q => match xs with
  | [.dat .none] => Q (.dat (.str "None")) μ
  | xs => zRepr xs μ Q
theorem ca_repr2 (hg : X.A.guards = some []) (hu : X.A.units + 64 < cLine) : CaZ X (.builtin "repr") zRepr2 := by
  obtain ⟨r, h1, h2⟩ := (ca_repr hg hu).ex
  refine ⟨_, CallR.or call_repr_none h1, fun B σ ρ H μ vs xs Q0 Q l R q low => ?_⟩
  unfold zRepr2 at q
  split at q
  · obtain ⟨v, rfl, R⟩ := one_arg' l R
    have hd := R.head
    cases (hd : Dz _ v .none)
    exact .inl ⟨rfl, low _ _ q _ _ (R.tail.cons (.str _))⟩
  · exact .inr (h2 B _ _ _ _ _ _ _ _ l R q low)
theorem ds_setDc {i : Nat} {y : Str} {py : Pos} {kx vx tg iter : Expr} {ifs : List Expr} {scope : Scope} {own : List (Str × Nat)} {pos spos : Pos} {fi : DTI} {put : Val → DR → Option DR} {ft : DTT} {fk fe : DTE} (hu : X.A.units + 64 < cLine) (hc : X.calm = true) (hN : X.N.Nodup) (hy : X.N[i]? = some y) (hyl : X.env.scope.names.lookup y = some .local)
    (hsw : swapsWith (.DictComp kx vx [⟨tg, iter, ifs, 0⟩] scope pos) (some (.Name y py)) spos.line X.env = pure true) (hi : DI X tg iter fi) (ok : BlkOk X.N X.env.scope scope own)
    {g : TG} (hp : PutOk X g (own.map (·.2)) put)
    (hg : ∀ (s : Shared) (H : Hp) (C : Addr) (cl : List (Str × Addr)) (fp : List Addr), PG (X.blk s H scope (compEnvC scope cl C X.env) fp) tg g) (ht : ∀ (s : Shared) (H : Hp) (C : Addr) (cl : List (Str × Addr)) (fp : List Addr), DTs (X.blk s H scope (compEnvC scope cl C X.env) fp) ifs ft)
    (hk : ∀ (s : Shared) (H : Hp) (C : Addr) (cl : List (Str × Addr)) (fp : List Addr), DE (X.blk s H scope (compEnvC scope cl C X.env) fp) kx fk)
    (he : ∀ (s : Shared) (H : Hp) (C : Addr) (cl : List (Str × Addr)) (fp : List Addr), DE (X.blk s H scope (compEnvC scope cl C X.env) fp) vx fe) (hs : ∀ x, foldedSetIterable iter X.env x = pure x := by intro _; rfl) :
    DS X (.Assign [.Name y py] (.DictComp kx vx [⟨tg, iter, ifs, 0⟩] scope pos) spos) (dSet i (dDc fi put ft fk fe (own.map (·.2)))) :=
  ⟨fun B => PS.weak (Vd.ps_setDc (tt := fun σ H Q => ∃ B', upT X B' ft σ H Q) (tk := fun σ H Q => ∃ B', up X B' fk σ H Q) (tv := fun σ H Q => ∃ B', up X B' fe σ H Q) hu hc hN hy hyl hsw (hi.run B) ok hg (fun s H C cl fp => PTs.ex fun B' => (ht s H C cl fp).run B') (fun s H C cl fp => PE.ex fun B' => (hk s H C cl fp).run B') (fun s H C cl fp => PE.ex fun B' => (he s H C cl fp).run B') hs) fun D σ H ⟨ρ, μ, E, R, q, b⟩ =>
    dc_up hp ⟨[], [], ρ, μ, _, rfl, R, q, fun x μ1 q1 v H1 R1 => b.nx _ _ q1 _ _ (RL.into (hv := []) (hx := []) rfl R1 i)⟩⟩
end
end Zl
/-! {k: v, ..}; len(d). -/
namespace Vd
open PySem PySem.Spec PyProof.Rows L2
section
variable {X : Cx}
/-- the pairs put one by one -/
def SPuts (w : World) (p : Addr) : List (V × V) → Hp → VK → Prop
  | [], H, Q => Q (.ref p) H
  | (y, z) :: r, H, Q => ∃ kvs k, H p = some (dV w p kvs) ∧ DAt w H p kvs ∧ KeyOk k ∧ KeyAt H k y ∧ kvs.length < sizeLine ∧ SPuts w p r (upd H p (dV w p (putV kvs k y z))) Q
theorem storeAll_ok {pins : List (Addr × Obj)} {σ : L2.St} {p : Addr} {Q : VK} (hu : X.A.units + 64 < cLine) : ∀ (ps : List (V × V)) (vs : List (Value × Value)) (H : Hp) (s : Shared), Inv X pins σ H s → VV ps vs → SPuts X.w p ps H Q →
    wpAny (model X.prog X.w) X.A (storeAll p vs) (fun _ s' => EP X pins σ Q (.ref p) s') X.xe s
  | [], vs, H, s, I, rel, q => by
    cases rel
    unfold storeAll
    rw [List.forIn_nil]
    exact wpAny_pure ⟨.ref p, H, I, rfl, q⟩
  | yz :: ps, vs, H, s, I, rel, q => by
    obtain ⟨y, z⟩ := yz
    cases rel with
    | @cons _ b _ bs rel t =>
      obtain ⟨kvs, k, hD, D, ok, ky, hl, q⟩ := q
      unfold storeAll
      rw [List.forIn_cons]
      refine wpAny_bind (wpAny_bind (c_put hu I hD D ok ky rel.1 rel.2 hl fun s1 I1 => wpAny_pure ?_))
      exact storeAll_ok hu ps bs _ s1 I1 t q
/-- {k: v, ..}; the new dict stands empty while the pairs are made -/
def tDispV (w : World) (trs : List (TE × TE)) : TE := fun σ H Q => ∀ p, H p = none → tPairs trs σ (upd H p (dV w p [])) fun ps H2 => SPuts w p ps H2 Q
theorem pe_dispV {pos : Pos} {keys : List (Option Expr)} {values : List Expr} {trs : List (TE × TE)} (hu : X.A.units + 64 < cLine) (h : PPs X pos keys values trs) (hall : keys.all (·.isSome) = true) (hl : keys.length = values.length) (h0 : keys ≠ [])
    (h15 : keys.length ≤ 15) : PE X (.Dict keys values pos) (tDispV X.w trs) := by
  refine ⟨fun pins s σ H Q I q => ?_⟩
  have hn := I.hok.fresh (Nat.le_refl s.heap.objs.size)
  have I1 := I.laid (a := s.heap.objs.size) (o := dV X.w s.heap.objs.size []) (h' := s.heap.push { cls := .type "dict", data := .dict #[] }) (t' := s.toks) (fun _ _ q => Heap.get?_push_of_some _ q) (Nat.le_refl _)
    (dV_ok (beq_eq_false_iff_ne.mpr (Ne.symm (Nat.ne_of_lt I.big))) (Nat.zero_le _) .nil (Holds.new s.heap))
  exact wpAny_Dict_any hall hl h0 h15 (thn (h.run pins _ σ _ _ I1 (q _ hn)) fun ws s2 ⟨ps, H2, I2, rel, q2⟩ => storeAll_ok hu ps ws H2 s2 I2 rel q2)
end
end Vd
/-! len(d). -/
namespace Vd
open PySem PySem.Spec PyProof.Rows L2
section
variable {prog : Program} {w : World} {A : Around} {E : Value → Shared → Prop} {s : Shared}
theorem meets_len (d : Addr) (hd : (d == sysModules) = false) :
    MeetsIn prog w (Builtin.«dict.__len__» ⟨[.ref d], []⟩) (fun _ R s => ∃ xs, Holds w s.heap d xs ∧ R (.ok (.ret (.int xs.length s.toks))) { s with toks := s.toks + 1 }) :=
  .of_wp fun A R s ⟨xs, hm, h⟩ => by
    obtain ⟨o, es, ep, ho, hc, hdat, he⟩ := hm
    show wpAny _ _ (dictSize d >>= _) _ _ s
    unfold dictSize
    refine wpAny_bind (wpAny_bind (wpAny_dictEntries ho hdat (wpAny_pure ?_)))
    show wpAny _ _ (Builtin.Dict.pendingCount d >>= _) _ _ s
    refine wpAny_bind (wpAny_pendingCount_other hd ?_)
    refine wpAny_ret_mkInt ?_
    rw [Nat.add_zero, ent_size he]; exact h
theorem len_body {d : Addr} {xs : List Row} {Q : Value → Shared → Prop} (hd : (d == sysModules) = false) (hm : Holds w s.heap d xs) (hfit : (xs.length : Int) < 2 ^ 63)
    (h : Q (.int xs.length (s.toks + 1)) { s with toks := s.toks + 1 + 1 }) : wpAny (model prog w) A (Builtin.«len» ⟨[.ref d], []⟩) (fun fin s' => ∃ r, fin = .done (.ret r) ∧ Q r s') E s := by
  unfold Builtin.«len»
  refine wpAny_bind (m := oneArg "len" _) (wpAny_pure ?_)
  refine wpAny_bind (m := callSpecial? (.ref d) (Str.ofString "__len__")) (wpAny_callSpecial?_slot (name := Str.ofString "__len__") hm.ty F.slot_dict_len
    (call_meetsIn F.slot_dict_len hm.ty F.entry_dict_len (F.args_dict_len_1 _) (meets_len d hd) ⟨xs, hm, ?_⟩))
  show wpAny _ _ _ _ _ { s with toks := s.toks + 1 }
  refine wpAny_bind (wpAny_holding (wpAny_pure ?_))
  refine wpAny_bind (wpAny_letGo ?_)
  show wpAny _ _ (if ((xs.length : Nat) : Int) < 0 then _ else _) _ _ _
  rw [if_neg (by omega)]
  show wpAny _ _ (if ((xs.length : Nat) : Int) ≥ 2 ^ 63 then _ else _) _ _ _
  rw [if_neg (by omega)]
  exact wpAny_bind (wpAny_mkInt (wpAny_pure ⟨_, rfl, h⟩))
end
def rLenV (w : World) : List V → Hp → VK → Prop := fun xs H Q => ∃ (p : Addr) (kvs : List KVR), xs = [.ref p] ∧ DAt w H p kvs ∧ Q (.int ((kvs.length : Nat) : Int)) H
theorem call_lenV {X : Cx} : CallR X (.builtin "len") (rLenV X.w) := by
  intro pins s σ H xs us Q I r h
  obtain ⟨p, kvs, rfl, D, q⟩ := h
  obtain ⟨u, rfl, rx⟩ := vals1 r
  obtain rfl : u = .ref p := rx
  obtain ⟨hd, hz, ys, rel, m, R⟩ := D.out I.hok
  have hl : kvs.length = ys.length := Paired.length rel
  have ez : sizeLine = 16777216 := by decide +kernel
  refine Calls.call_function_entry kind_len plain_len entry_len (args_len1 _) (len_body hd m (by rw [← hl]; omega) ?_)
  exact ⟨.int _, H, I.tok _, ⟨_, by rw [hl]⟩, q⟩
end Vd
/-! Classes: fields, methods, new instances; a stretch of one's own objects is handed over. -/
namespace Zl
open PySem PySem.Spec PyProof.Rows L2 Lf
/-- an own method: its promise, where it stands, how it is called -/
def MCal (P : Program) (w : World) (K : PySem.W.Frag) (mg : Str → Option Value) (base : Heap) (k : Nat) (C : Addr) (m : Str) (ps : List Str) (sp : Sp) : Prop :=
  ∃ (f : Addr) (fd : FuncData), FnOk P w K mg base CX0 k f fd ps sp ∧ Meth K C m f ∧ Binds K fd ps []
/-- an own class: its __init__ -/
def KCal (P : Program) (w : World) (K : PySem.W.Frag) (mg : Str → Option Value) (base : Heap) (k : Nat) (C : Addr) (ps : List Str) (sp : Sp) : Prop :=
  ∃ (f : Addr) (fd : FuncData), FnOk P w K mg base CX0 k f fd ps sp ∧ Mk K C f ∧ Binds K fd ps []
abbrev MCalZ (P : Program) (w : World) (K : PySem.W.Frag) (mg : Str → Option Value) (base : Heap) (k : Nat) (C : Addr) (m : Str) (ps : List Str) (F : DSp) : Prop := MCal P w K mg base k C m ps (spZ w K F)
abbrev KCalZ (P : Program) (w : World) (K : PySem.W.Frag) (mg : Str → Option Value) (base : Heap) (k : Nat) (C : Addr) (ps : List Str) (F : DSp) : Prop := KCal P w K mg base k C ps (spZ w K F)
/-- a stretch of the objects is handed over, and comes back in its place; new ones stand at the end -/
def own (F : DSp) (xs : List Val) (μ : Store) (Q : DK) : Prop := ∃ pre mid post, μ = pre ++ mid ++ post ∧ F xs mid fun x ν => ∃ mid' ext, ν = mid' ++ ext ∧ Q x (pre ++ mid' ++ post ++ ext)
theorem perm_own {pre mid post : Store} : (pre ++ mid ++ post).Perm (mid ++ (pre ++ post)) := by
  rw [← List.append_assoc]
  exact List.perm_append_comm.append_right _
theorem perm_own2 {pre mid post ext : Store} : (pre ++ mid ++ post ++ ext).Perm ((mid ++ ext) ++ (pre ++ post)) := by
  refine (perm_own.append_right ext).trans ?_
  rw [List.append_assoc mid, List.append_assoc mid]
  exact List.perm_append_comm.append_left _
section
variable {X : Cx} {B : Base}
theorem own_call {H : Hp} {σ : List (Option V)} {ρ : DR} {μ1 : Store} {vs : List V} {xs : List Val} {F : DSp} {Q0 : DK} {Q : VK} (l : vs.length = xs.length) (R : RL X.w X.K B H (vs.map some ++ σ) (xs.map some ++ ρ) μ1) (h : own F xs μ1 Q0) (low : Low X B σ ρ Q0 Q) : spZ X.w X.K (Cl F) vs H Q E0 := by
  obtain ⟨pre, mid, post, rfl, f⟩ := h
  refine call_z (F := Cl F) l R (μ0 := mid) (μr := pre ++ post) perm_own ⟨_, f, fun x ν ⟨mid', ext, e, q⟩ => ⟨_, ?_, q⟩⟩ low
  subst e
  exact perm_own2
theorem fld_rel {K : PySem.W.Frag} {Z : Hp} {gs : List (Str × V)} {fs : List (Str × Val)} (h : Paired (RF K Z) gs fs) {f : Str} : (gs.lookup f = none ∧ fs.lookup f = none) ∨ ∃ v y, gs.lookup f = some v ∧ fs.lookup f = some y ∧ RV K Z v y := by
  induction h with
  | nil => exact .inl ⟨rfl, rfl⟩
  | @cons p q _ _ r _ ih =>
    obtain ⟨a, b⟩ := p
    obtain ⟨c, d⟩ := q
    obtain ⟨e1, e2⟩ := r
    dsimp only at e1 e2
    subst e1
    show (List.lookup f ((a, b) :: _) = none ∧ List.lookup f ((a, d) :: _) = none) ∨ _
    by_cases e : f = a
    · subst e
      refine .inr ⟨b, d, ?_, ?_, e2⟩ <;> simp
    · have hb : (f == a) = false := beq_eq_false_iff_ne.mpr e
      simp only [List.lookup, hb]
      exact ih
def putFZ (f : Str) (v : Val) : List (Str × Val) → List (Str × Val)
  | [] => [(f, v)]
  | (g, x) :: r => if g = f then (g, v) :: r else (g, x) :: putFZ f v r
theorem putF_rel {K : PySem.W.Frag} {Z : Hp} {gs : List (Str × V)} {fs : List (Str × Val)} {f : Str} {v : V} {y : Val} (h : Paired (RF K Z) gs fs) (r : RV K Z v y) : Paired (RF K Z) (putF f v gs) (putFZ f y fs) := by
  induction h with
  | nil => exact .cons ⟨rfl, r⟩ .nil
  | @cons p q _ _ r1 t ih =>
    obtain ⟨a, b⟩ := p
    obtain ⟨c, d⟩ := q
    obtain ⟨e1, e2⟩ := r1
    dsimp only at e1 e2
    subst e1
    show Paired _ (if a = f then _ else _) (if a = f then _ else _)
    by_cases e : a = f
    · rw [if_pos e, if_pos e]
      exact .cons ⟨rfl, r⟩ t
    · rw [if_neg e, if_neg e]
      exact .cons ⟨rfl, e2⟩ ih
/-- o.f -/
abbrev dFld (C : Addr) (f : Str) (fo : DTE) : DTE := fun ρ μ Q => fo ρ μ fun x μ1 => match x with
  | .ptr a => ∃ (j : Nat) (dx : Addr) (fs : List (Str × Val)) (y : Val), μ1[j]? = some (a, Node.ins C dx fs) ∧ fs.lookup f = some y ∧ Q y μ1
  | _ => False
variable {C : Addr} {f m x : Str} {o e : Expr} {es : List Expr} {fo fx : DTE} {g : DTA} {p pos apos : Pos} {k : Nat} {ps : List Str} {F : DSp}
theorem d_fld (c : Cls X.K C) (n : NoAttr X.K C f) (ho : DE X o fo) (hb : attributeBase o f X.env (eval o X.env) = eval o X.env := by rfl) : DE X (.Attribute o f pos) (dFld C f fo) :=
  ⟨fun B => PE.weak (pe_fld (ho.run B) hb) fun σ H Q ⟨hv, hx, ρ, μ, Q0, hl, R, q, low⟩ => by
    refine ⟨hv, hx, ρ, μ, _, hl, R, q, fun x μ1 q1 v H1 R1 => ?_⟩
    match x, q1, R1 with
    | .ptr a, q1, R1 =>
      obtain ⟨j, dx, fs, y, hj, hy, q1⟩ := q1
      obtain ⟨gs, e, pr⟩ := R1.at hj
      cases (R1.head : v = .ref a)
      rcases fld_rel pr (f := f) with ⟨_, e2⟩ | ⟨u, y', e1, e2, r⟩
      · rw [e2] at hy; cases hy
      · rw [e2] at hy
        cases hy
        exact ⟨a, C, dx, gs, u, rfl, e, c, n, e1, low _ _ q1 _ _ (R1.tail.cons r)⟩⟩
/-- o.f as a target -/
def gFld (K : PySem.W.Frag) (ta : TE) (f : Str) : TG := fun y σ H Q => ta σ H fun x H2 => ∃ a C dx fs, x = .ref a ∧ H2 a = some (.ins C dx fs) ∧ Cls K C ∧ NoAttr K C f ∧ fs.length < 1000 ∧ Q σ (upd H2 a (.ins C dx (putF f y fs)))
theorem pg_fld {ta : TE} (ho : PE X o ta) (hA : ∀ v, assign (.Attribute o f apos) X.env v = (do
      let ov ← holding [v] (eval o X.env)
      standAt apos.atName
      holding [v, ov] (setAttr ov f v)
      release [v, ov] []) := by intro _; rfl) : PG X (.Attribute o f apos) (gFld X.K ta f) := by
  refine ⟨fun pins s σ H v u Q I r h => ?_⟩
  rw [hA]
  refine wpAny_bind (wpAny_holding (thn (ho.run pins s σ H _ I h) fun ov s1 ⟨x, H1, I1, r1, a, C, dx, fs, ex, ea, c, n, l, q⟩ => ?_))
  subst ex
  obtain rfl : ov = Value.ref a := r1
  refine wpAny_bind (wpAny_standAt (wpAny_bind (wpAny_holding (setattr_ok I1 ea c n l r fun s3 I3 => ?_))))
  exact wpAny_release ⟨σ, _, I3, q⟩
def zgFld (C : Addr) (f : Str) (fo : DTE) : DTG := fun x ρ μ Q => fo ρ μ fun o μ1 => match o with
  | .ptr a => ∃ (j : Nat) (dx : Addr) (fs : List (Str × Val)), μ1[j]? = some (a, Node.ins C dx fs) ∧ fs.length < 1000 ∧ Q ρ (μ1.set j (a, .ins C dx (putFZ f x fs)))
  | _ => False
theorem dg_fld (c : Cls X.K C) (n : NoAttr X.K C f) (ho : DE X o fo) (hA : ∀ v, assign (.Attribute o f apos) X.env v = (do
      let ov ← holding [v] (eval o X.env)
      standAt apos.atName
      holding [v, ov] (setAttr ov f v)
      release [v, ov] []) := by intro _; rfl) : DG X (.Attribute o f apos) (zgFld C f fo) :=
  ⟨fun B => PG.weak (pg_fld (ho.run B) hA) fun v σ H Q ⟨hv, hx, x, ρ, μ, Q0, l, R, q, low⟩ => by
    refine ⟨some v :: hv, some x :: hx, ρ, μ, _, by simp [l], R, q, fun o μ1 q1 vo H1 R1 => ?_⟩
    match o, q1, R1 with
    | .ptr a, q1, R1 =>
      obtain ⟨j, dx, fs, hj, hl, q1⟩ := q1
      obtain ⟨gs, e, pr⟩ := R1.at hj
      cases (R1.head : vo = .ref a)
      exact ⟨a, C, dx, gs, rfl, e, c, n, by rw [pr.length]; exact hl, low _ _ q1 _ _ (R1.put (n' := .ins C dx (putFZ f x fs)) hj ⟨_, upd_same, putF_rel pr R1.tail.head⟩).tail.tail⟩⟩
/-- o.m(..) -/
abbrev dMeth (C : Addr) (m : Str) (F : DSp) (fo : DTE) (g : DTA) : DTE := fun ρ μ Q => fo ρ μ fun x μ1 => match x with
  | .ptr a => (∃ (j : Nat) (dx : Addr) (fs : List (Str × Val)), μ1[j]? = some (a, Node.ins C dx fs) ∧ fs.lookup m = none) ∧ g ρ μ1 fun xs μ2 => own F (.ptr a :: xs) μ2 Q
  | _ => False
theorem cal_clM {P : Program} {w : World} {K : PySem.W.Frag} {mg : Str → Option Value} {base : Heap} (M : MCalZ P w K mg base k C m ps F) : MCalZ P w K mg base k C m ps (Cl F) := by
  obtain ⟨f, fd, h1, h2⟩ := M
  refine ⟨f, fd, h1.imp fun vs H Q E h => ?_, h2⟩
  obtain ⟨B, xs, μ, Q0, l, R, ⟨Q', f', m⟩, low⟩ := h
  exact ⟨B, xs, μ, Q', l, R, f', fun x ν q => low x ν (m _ _ q)⟩
theorem cal_clK {P : Program} {w : World} {K : PySem.W.Frag} {mg : Str → Option Value} {base : Heap} (M : KCalZ P w K mg base k C ps F) : KCalZ P w K mg base k C ps (Cl F) := by
  obtain ⟨f, fd, h1, h2⟩ := M
  refine ⟨f, fd, h1.imp fun vs H Q E h => ?_, h2⟩
  obtain ⟨B, xs, μ, Q0, l, R, ⟨Q', f', m⟩, low⟩ := h
  exact ⟨B, xs, μ, Q', l, R, f', fun x ν q => low x ν (m _ _ q)⟩
theorem meth_up {sp : Sp} {σ : List (Option V)} {H : Hp} {Q : VK} (q : up X B (dMeth C m F fo g) σ H Q) (hsp : sp = spZ X.w X.K (Cl F)) : tMeth C m sp [] E0 (up X B fo) (upA X B g) σ H Q := by
  subst hsp
  obtain ⟨hv, hx, ρ, μ, Q0, hl, R, q, low⟩ := q
  refine ⟨hv, hx, ρ, μ, _, hl, R, q, fun x μ1 q1 v H1 R1 => ?_⟩
  match x, q1, R1 with
  | .ptr a, q1, R1 =>
    obtain ⟨⟨j, dx, fs, hj, hn⟩, q1⟩ := q1
    obtain ⟨gs, e, pr⟩ := R1.at hj
    cases (R1.head : v = .ref a)
    have hn' : gs.lookup m = none := by
      rcases fld_rel pr (f := m) with ⟨e1, _⟩ | ⟨_, _, _, e2, _⟩
      · exact e1
      · rw [e2] at hn; cases hn
    refine ⟨a, dx, gs, rfl, e, hn', some (.ref a) :: hv, some (.ptr a) :: hx, ρ, μ1, _, by simp [hl], R1, q1, fun xs μ2 q2 vs H2 l R2 => ?_⟩
    show spZ X.w X.K (Cl F) (V.ref a :: (vs ++ [])) H2 Q E0
    rw [List.append_nil]
    exact own_call (vs := .ref a :: vs) (xs := .ptr a :: xs) (by simp [l]) (RL.turn (by simp [l]) R2) q2 low
theorem d_meth {pl : Sem Bool} (M : MCalZ X.prog X.w X.K X.mg X.base k C m ps F) (c : Cls X.K C) (hr : Room k X.A) (ho : DE X o fo) (ha : DA X (e :: es) g)
    (hst : starEach (e :: es) X.env = (false, eval e X.env) :: starEach es X.env := by rfl) (hpl : (backTo pos (starEach es X.env)).any (·.1) = false := by rfl)
    (ht : eval (.Call (.Attribute o m apos) (e :: es) [] pos) X.env = (do
      let ov ← eval o X.env
      standAt apos.atName
      let (f, first) ← holding [ov] (getMethod ov m pl)
      callWith pos f first (backTo pos (starEach (e :: es) X.env)) (backToKw pos (keywordEach [] X.env))) := by rfl) :
    DE X (.Call (.Attribute o m apos) (e :: es) [] pos) (dMeth C m F fo g) := by
  obtain ⟨f, fd, Fn, hm, hb⟩ := cal_clM M
  exact ⟨fun B => PE.weak (pe_meth (ho.run B) c hm Fn hr hb .nil pass0 (ha.run B) hst hpl ht) fun _ _ _ q => meth_up q rfl⟩
theorem d_meth0 {pl : Sem Bool} (M : MCalZ X.prog X.w X.K X.mg X.base k C m ps F) (c : Cls X.K C) (hr : Room k X.A) (ho : DE X o fo)
    (ht : eval (.Call (.Attribute o m apos) [] [] pos) X.env = (do
      let ov ← eval o X.env
      standAt apos.atName
      let (f, first) ← holding [ov] (getMethod ov m pl)
      callWith pos f first (backTo pos (starEach [] X.env)) (backToKw pos (keywordEach [] X.env))) := by rfl) :
    DE X (.Call (.Attribute o m apos) [] [] pos) (dMeth C m F fo dNil) := by
  obtain ⟨f, fd, Fn, hm, hb⟩ := cal_clM M
  exact ⟨fun B => PE.weak (pe_meth0 (ho.run B) c hm Fn hr hb .nil pass0 ht) fun σ H Q q => by
    have := meth_up q rfl
    obtain ⟨hv, hx, ρ, μ, Q0, hl, R, q, low⟩ := this
    refine ⟨hv, hx, ρ, μ, Q0, hl, R, q, fun x μ1 q1 v H1 R1 => ?_⟩
    obtain ⟨a, dx, fs, e1, e2, e3, hv2, hx2, ρ2, μ2, Q2, hl2, R2, q2, low2⟩ := low x μ1 q1 v H1 R1
    exact ⟨a, dx, fs, e1, e2, e3, low2 [] _ q2 [] _ rfl R2⟩⟩
/-- C(..) -/
abbrev dMake (C : Addr) (F : DSp) (g : DTA) : DTE := fun ρ μ Q => g ρ μ fun xs μ1 => ∀ p dx, own F (.ptr p :: xs) (μ1 ++ [(p, .ins C dx [])]) fun x μ2 => x = .dat .none ∧ Q (.ptr p) μ2
theorem make_up {sp : Sp} {σ : List (Option V)} {H : Hp} {Q : VK} {xs : List Val} {vs : List V} {Q0 : DK} {hv : List (Option V)} {hx ρ : DR} {μ : Store} (hsp : sp = spZ X.w X.K (Cl F)) (l : vs.length = xs.length) (R : RL X.w X.K B H (vs.map some ++ (hv ++ σ)) (xs.map some ++ (hx ++ ρ)) μ)
    (q : ∀ p dx, own F (.ptr p :: xs) (μ ++ [(p, .ins C dx [])]) fun x μ2 => x = .dat .none ∧ Q0 (.ptr p) μ2) (low : Low X B (hv ++ σ) (hx ++ ρ) Q0 Q) :
    ∀ x dx, H x = none → H dx = none → dx ≠ x → sp (.ref x :: (vs ++ [])) (upd (upd H dx (.own x)) x (.ins C dx [])) (fun v H2 => v = .non ∧ Q (.ref x) H2) E0 := by
  subst hsp
  intro x dx hx1 hdx ne
  rw [List.append_nil]
  obtain ⟨R1, _, _⟩ := R.newZ (o := .own x) hdx
  have hx2 : (upd H dx (.own x)) x = none := by rw [upd_ne ne.symm]; exact hx1
  have R2 := R1.new (n := .ins C dx []) (o := .ins C dx []) hx2 ⟨[], upd_same, .nil⟩
  have R3 : RL X.w X.K B (upd (upd H dx (.own x)) x (.ins C dx [])) ((V.ref x :: vs).map some ++ (some (.ref x) :: (hv ++ σ))) ((Val.ptr x :: xs).map some ++ (some (.ptr x) :: (hx ++ ρ))) (μ ++ [(x, .ins C dx [])]) := by
    refine R2.slots (.cons rfl ?_)
    obtain ⟨h1, h2⟩ := paired_split (by simp [l]) R2.sl
    exact paired_app h1 (.cons rfl h2)
  refine own_call (vs := .ref x :: vs) (xs := .ptr x :: xs) (by simp [l]) R3 (q x dx) ?_
  rintro y μ2 ⟨rfl, q2⟩ v H2 R4
  cases (R4.head : Dz _ v .none)
  exact ⟨rfl, low _ _ q2 _ _ R4.tail⟩
theorem d_make (M : KCalZ X.prog X.w X.K X.mg X.base k C ps F) (hr : Room (k + 1) X.A) (hg : Gl X x) (hm : X.mg x = some (.ref C)) (ha : DA X (e :: es) g)
    (hdb : (x == ("__debug__" : Str)) = false := by decide) (he : starEach (e :: es) X.env = (false, eval e X.env) :: starEach es X.env := by rfl) (hpl : (backTo pos (starEach es X.env)).any (·.1) = false := by rfl) :
    DE X (.Call (.Name x p) (e :: es) [] pos) (dMake C F g) := by
  obtain ⟨f, fd, Fn, M, hb⟩ := cal_clK M
  exact ⟨fun B => PE.weak (pe_make M Fn hr hg hm hb .nil pass0 (ha.run B) hdb he hpl) fun σ H Q ⟨hv, hx, ρ, μ, Q0, hl, R, q, low⟩ =>
    ⟨hv, hx, ρ, μ, _, hl, R, q, fun xs μ1 q1 vs H1 l R1 => make_up rfl l R1 q1 low⟩⟩
theorem d_make0 (M : KCalZ X.prog X.w X.K X.mg X.base k C ps F) (hr : Room (k + 1) X.A) (hg : Gl X x) (hm : X.mg x = some (.ref C))
    (hdb : (x == ("__debug__" : Str)) = false := by decide) : DE X (.Call (.Name x p) [] [] pos) (dMake C F dNil) := by
  obtain ⟨f, fd, Fn, M, hb⟩ := cal_clK M
  exact ⟨fun B => PE.weak (pe_make0 M Fn hr hg hm hb .nil pass0 hdb) fun σ H Q ⟨hv, hx, ρ, μ, Q0, hl, R, q, low⟩ => make_up (vs := []) (xs := []) rfl rfl R q low⟩
/-- a def: a stretch is handed over -/
abbrev dOwnS (F : DSp) (g : DTA) : DTE := fun ρ μ Q => g ρ μ fun xs μ1 => own F xs μ1 Q
theorem d_ownS (M : CalZ X.prog X.w X.K X.mg X.base k x ps F) (hr : Room k X.A) (hg : Gl X x) (ha : DA X (e :: es) g)
    (hdb : (x == ("__debug__" : Str)) = false := by decide) (he : starEach (e :: es) X.env = (false, eval e X.env) :: starEach es X.env := by rfl) (hpl : (backTo pos (starEach es X.env)).any (·.1) = false := by rfl) :
    DE X (.Call (.Name x p) (e :: es) [] pos) (dOwnS F g) :=
  ⟨fun B => PE.weak (pe_own (cal_cl M) hr hg (ha.run B) hdb he hpl) fun σ H Q ⟨hv, hx, ρ, μ, Q0, hl, R0, h, low⟩ => by
    refine ⟨hv, hx, ρ, μ, _, hl, R0, h, fun xs μ1 h1 vs H1 l R1 => ?_⟩
    show spZ _ _ _ (vs ++ []) _ _ _
    rw [List.append_nil]
    exact own_call l R1 h1 low⟩
end
end Zl
/-! {k: v, ..}; len(d). -/
namespace Zl
open PySem PySem.Spec PyProof.Rows L2 Lf
def dPairs : List (DTE × DTE) → DR → Store → (List (Val × Val) → Store → Prop) → Prop
  | [], _, μ, Q => Q [] μ
  | (fk, fv) :: r, ρ, μ, Q => fk ρ μ fun x μ1 => fv ρ μ1 fun y μ2 => dPairs r ρ μ2 fun ps μ3 => Q ((x, y) :: ps) μ3
def flatP {α : Type} (qs : List (α × α)) : List (Option α) := qs.flatMap fun q => [some q.1, some q.2]
section
variable {X : Cx}
structure DPs (X : Cx) (pos : Pos) (keys : List (Option Expr)) (values : List Expr) (fs : List (DTE × DTE)) : Prop where
  run : ∃ trs, PPs X pos keys values trs ∧ ∀ (B : Base) (hv : List (Option V)) (hx ρ : DR) (σ : L2.St) (H : Hp) (μ : Store) (Q0 : List (Val × Val) → Store → Prop) (Q : List (V × V) → Hp → Prop), hv.length = hx.length → RL X.w X.K B H (hv ++ σ) (hx ++ ρ) μ → dPairs fs ρ μ Q0 →
    (∀ ps μ', Q0 ps μ' → ∀ (qs : List (V × V)) H', qs.length = ps.length → RL X.w X.K B H' (flatP qs ++ (hv ++ σ)) (flatP ps ++ (hx ++ ρ)) μ' → Q qs H') → tPairs trs σ H Q
theorem dps_nil {pos : Pos} : DPs X pos [] [] [] := ⟨[], pps_nil, fun B hv hx ρ σ H μ Q0 Q hl R q low => low [] μ q [] H rfl R⟩
theorem dps_cons {pos : Pos} {k v : Expr} {ks : List (Option Expr)} {vs : List Expr} {fk fv : DTE} {fs : List (DTE × DTE)} (hk : DE X k fk) (hv : DE X v fv) (hr : DPs X pos ks vs fs) : DPs X pos (some k :: ks) (v :: vs) ((fk, fv) :: fs) := by
  obtain ⟨trs, h1, h2⟩ := hr.run
  refine ⟨_, pps_cons (PE.ex fun B => hk.run B) (PE.ex fun B => hv.run B) h1, fun B hv hx ρ σ H μ Q0 Q hl R q low => ?_⟩
  refine ⟨B, hv, hx, ρ, μ, _, hl, R, q, fun x μ1 q1 u H1 R1 => ⟨B, some u :: hv, some x :: hx, ρ, μ1, _, by simp [hl], R1, q1, fun y μ2 q2 t H2 R2 => ?_⟩⟩
  refine h2 B (some t :: some u :: hv) (some y :: some x :: hx) ρ σ H2 μ2 _ _ (by simp [hl]) R2 q2 fun ps μ3 q3 qs H3 l R3 => low _ _ q3 ((u, t) :: qs) H3 (by simp [l]) ?_
  have fl : ∀ {α : Type} (l : List (α × α)), (flatP l).length = 2 * l.length := fun l => by
    induction l with
    | nil => rfl
    | cons q l ih =>
      show (some q.1 :: some q.2 :: flatP l).length = _
      rw [List.length_cons, List.length_cons, List.length_cons, ih]
      omega
  have ll : (flatP qs).length = (flatP ps).length := by rw [fl, fl, l]
  obtain ⟨p1, p2⟩ := paired_split ll R3.sl
  cases p2 with
  | cons e1 p2 =>
    cases p2 with
    | cons e2 p3 => exact R3.slots (.cons e2 (.cons e1 (paired_app p1 p3)))
def pairsKV : List (Val × Val) → Option (List (NestedKey × Val))
  | [] => some []
  | (.dat d, x) :: r => match keyD d, pairsKV r with | some k, some l => some ((k, x) :: l) | _, _ => none
  | _ :: _ => none
abbrev putAllZ (kvs : List (NestedKey × Val)) (acc : List (NestedKey × Val)) : List (NestedKey × Val) := kvs.foldl (fun a q => putZ a q.1 q.2) acc
theorem puts_up {B : Base} {p : Addr} {Q0 : DK} {Q : VK} {σ : L2.St} {ρ : DR} {μ : Store} : ∀ (ps : List (Val × Val)) (qs : List (V × V)) (kvs acc : List (NestedKey × Val)) (H : Hp), qs.length = ps.length → pairsKV ps = some kvs → (∀ q ∈ kvs, Vd.KeyOk q.1) → acc.length + kvs.length ≤ sizeLine →
    RL X.w X.K B H (flatP qs ++ σ) (flatP ps ++ ρ) (μ ++ [(p, .dv acc)]) → Q0 (.ptr p) (μ ++ [(p, .dv (putAllZ kvs acc))]) → Low X B σ ρ Q0 Q → Vd.SPuts X.w p qs H Q
  | [], [], kvs, acc, H, _, e, _, _, R, q, low => by
    cases e
    exact low _ _ q _ _ (R.cons rfl)
  | (x, y) :: ps, (u, t) :: qs, kvs, acc, H, l, e, ok, hz, R, q, low => by
    match x, e, R with
    | .dat d, e, R =>
      unfold pairsKV at e
      split at e
      · rename_i k kvs' ek er
        cases e
        have R : RL X.w X.K B H (some u :: some t :: (flatP qs ++ σ)) (some (.dat d) :: some y :: (flatP ps ++ ρ)) (μ ++ [(p, .dv acc)]) := R
        have hj : (μ ++ [(p, Node.dv acc)])[μ.length]? = some (p, .dv acc) := by simp
        obtain ⟨ks, eD, nd, pr⟩ := R.at hj
        have hkey := keyAt_of d u k R.head ek
        have okk := ok (k, y) (List.mem_cons_self ..)
        have D3 : Vd.DAt X.w H p ks := ⟨.inl eD, fun q hq => by
          obtain ⟨i, hi, rfl⟩ := List.mem_iff_getElem.mp hq
          have hi2 : i < acc.length := by rw [← pr.length]; exact hi
          obtain ⟨q, eq, r⟩ := paired_get pr (List.getElem?_eq_getElem hi2)
          rw [List.getElem?_eq_getElem hi] at eq
          cases eq
          exact ⟨r.2.1, r.2.2.1.keep fun a xs e => fz_le _ _ e⟩, nd⟩
        rw [List.length_cons] at hz
        refine ⟨ks, k, eD, D3, okk, hkey.keep fun a xs e => fz_le _ _ e, by rw [pr.length]; omega, ?_⟩
        have R2 := R.putD hj nd pr okk hkey R.tail.head
        rw [set_last] at R2
        refine puts_up ps qs kvs' (putZ acc k y) _ (by simpa using l) er (fun q hq => ok q (List.mem_cons_of_mem _ hq)) ?_ R2.tail.tail q low
        have := putZ_len acc k y
        omega
      · cases e
  | [], _ :: _, _, _, _, l, _, _, _, _, _, _ => by simp at l
  | _ :: _, [], _, _, _, l, _, _, _, _, _, _ => by simp at l
/-- {k: v, ..} -/
abbrev dDict (fs : List (DTE × DTE)) : DTE := fun ρ μ Q => dPairs fs ρ μ fun ps μ1 => ∃ kvs, pairsKV ps = some kvs ∧ (∀ q ∈ kvs, Vd.KeyOk q.1) ∧ kvs.length ≤ sizeLine ∧ ∀ p, Q (.ptr p) (μ1 ++ [(p, .dv (putAllZ kvs []))])
theorem d_dict {pos : Pos} {keys : List (Option Expr)} {values : List Expr} {fs : List (DTE × DTE)} (hu : X.A.units + 64 < cLine) (h : DPs X pos keys values fs) (hall : keys.all (·.isSome) = true := by rfl) (hl : keys.length = values.length := by rfl) (h0 : keys ≠ [] := by exact fun z => nomatch z)
    (h15 : keys.length ≤ 15 := by decide) : DE X (.Dict keys values pos) (dDict fs) := by
  obtain ⟨trs, h1, h2⟩ := h.run
  refine ⟨fun B => PE.weak (Vd.pe_dispV hu h1 hall hl h0 h15) fun σ H Q ⟨hv, hx, ρ, μ, Q0, hl, R, q, low⟩ p hp => ?_⟩
  have R1 := R.new (n := .dv []) (o := Vd.dV X.w p []) hp ⟨[], upd_same, .nil, .nil⟩
  refine h2 _ hv hx ρ σ _ μ _ _ hl R1.hide q fun ps μ' ⟨kvs, e, ok, hz, q⟩ qs H' l R2 => ?_
  exact puts_up ps qs kvs [] H' l e ok (by simpa using hz) R2.show (q p) low
def zLenD : List Val → Store → DK → Prop := fun xs μ Q => match xs with
  | [.ptr a] => ∃ kvs, DvAt μ a kvs ∧ Q (.dat (.int (kvs.length : Nat))) μ
  | _ => False
theorem ca_dlen : CaZ X (.builtin "len") zLenD := ⟨_, Vd.call_lenV, fun B σ ρ H μ vs xs Q0 Q l R q low => by
  unfold zLenD at q
  split at q
  · obtain ⟨kvs, h, q⟩ := q
    obtain ⟨v, rfl, R⟩ := one_arg' l R
    obtain ⟨ks, D, pr⟩ := h.at R
    cases (R.head : v = .ref _)
    refine ⟨_, ks, rfl, D, ?_⟩
    rw [pr.length]
    exact low _ _ q _ _ (R.tail.cons (x := .dat (.int _)) (Dz.int _))
  · exact q.elim⟩
end
end Zl
/-! x in l, l.index(x): items are data of any depth; x in a tuple of texts, ints. -/
namespace Zl
open PySem PySem.Spec PyProof.Rows L2 Lf
theorem room65 {k : Nat} {A : Around} (r : Room k A) : A.units + 65 < cLine := by have := r.un; omega
def flatD : PyData → Bool
  | .none => true
  | .bool _ => true
  | .int _ => true
  | .str _ => true
  | _ => false
theorem flat_dz {Z : Hp} {v : V} {d : PyData} (h : Dz Z v d) (f : flatD d = true) : flatV v = true := by
  cases h <;> first | exact absurd f Bool.false_ne_true | rfl
theorem eqV_dz {Z : Hp} {v u : V} {d e : PyData} (h : Dz Z v d) (h' : Dz Z u e) (f : flatD d = true) (f' : flatD e = true) : eqV v u = PyData.eqv d e := by
  cases h <;> cases h' <;> first | exact absurd f Bool.false_ne_true | exact absurd f' Bool.false_ne_true | simp [eqV, PyData.eqv]
section
variable {X : Cx}
/-- x in a list; in a tuple of flat items -/
def zIn (g : Bool → Bool) : DR2 := fun x y μ Q => match y with
  | .dat (.tuple ds) => ∃ d, View μ x d ∧ flatD d = true ∧ ds.all flatD = true ∧ Q (.dat (.bool (g (ds.any fun z => PyData.eqv z d)))) μ
  | y => ∃ d ds, View μ x d ∧ View μ y (.list ds) ∧ SeqAt.shaped d = true ∧ SeqAt.shaped (.list ds) = true ∧ Q (.dat (.bool (g (ds.any fun z => PyData.eqv z d)))) μ
theorem dzs_flat {Z : Hp} : ∀ {vs : List V} {ds : List PyData}, DzAll Z vs ds → ds.all flatD = true → vs.all flatV = true
  | _, [], h, _ => by cases h; rfl
  | _, d :: ds, h, f => by
    cases h with
    | cons h1 h2 =>
      rw [List.all_cons, Bool.and_eq_true] at f ⊢
      exact ⟨flat_dz h1 f.1, dzs_flat h2 f.2⟩
theorem inV_dz {Z : Hp} {u : V} {e : PyData} (h' : Dz Z u e) (f' : flatD e = true) : ∀ {vs : List V} {ds : List PyData}, DzAll Z vs ds → ds.all flatD = true → inV u vs = ds.any fun z => PyData.eqv z e
  | _, [], h, _ => by cases h; rfl
  | _, d :: ds, h, f => by
    cases h with
    | cons h1 h2 =>
      rw [List.all_cons, Bool.and_eq_true] at f
      show (eqV _ _ || inV u _) = _
      rw [List.any_cons, eqV_dz h1 h' f.1 f', inV_dz h' f' h2 f.2]
theorem in_up {neg : Bool} {g : Bool → Bool} (hg : ∀ b, g b = if neg then !b else b) {f : Value → Value → Sem Value} {r : R2} (h1 : OpR X f (rIn X.K neg)) (h2 : OpR X f r) (hr : ∀ x y H Q, (∃ d ds, Dp X.K H x d ∧ Dp X.K H y (.list ds) ∧ SeqAt.shaped d = true ∧ SeqAt.shaped (.list ds) = true ∧ Q (.bl (g (ds.any fun z => PyData.eqv z d))) H) → r x y H Q) : OpZ X f (zIn g) :=
  ⟨_, OpR.or h1 h2, fun B σ ρ H μ u v x y Q0 Q R q low => by
    have hy := R.head
    have hx := R.tail.head
    have fin : ∀ b, Q0 (.dat (.bool b)) μ → Q (.bl b) H := fun b q => low _ _ q _ _ (R.tail.tail.cons (.bl b))
    unfold zIn at q
    split at q
    · obtain ⟨d, h3, fd, fs, q⟩ := q
      cases (hy : Dz _ v (.tuple _)) with
      | tup e1 e2 =>
        match x, h3, hx with
        | _, .d d, hx =>
          refine .inl ⟨_, _, rfl, .inr (SqT.of (fz_le _ _ e1)), flat_dz hx fd, dzs_flat e2 fs, ?_⟩
          rw [inV_dz hx fd e2 fs]
          have := fin _ q
          rw [hg] at this
          exact this
        | _, .p j hj hd, hx => cases fd
    · obtain ⟨d, ds, h3, h4, h5, h6, q⟩ := q
      exact .inr (hr _ _ _ _ ⟨d, ds, h3.at R.tail hx, h4.at R hy, h5, h6, fin _ q⟩)⟩
theorem oz_in (hu : X.A.units + 65 < cLine) : OpZ X (compareOp .In) (zIn id) := in_up (neg := false) (fun b => rfl) op_in_seq (op_inD hu) fun _ _ _ _ h => h
theorem oz_notin (hu : X.A.units + 65 < cLine) : OpZ X (compareOp .NotIn) (zIn not) := in_up (neg := true) (fun b => rfl) op_notIn_seq (op_notInD hu) fun _ _ _ _ h => h
/-- l.index(x) -/
def zIndex : Val → List Val → Store → DK → Prop := fun x xs μ Q => match xs with
  | [y] => ∃ (d : PyData) (ds : List PyData) (j : Nat) (z : PyData), View μ x (.list ds) ∧ View μ y d ∧ SeqAt.shaped (.list ds) = true ∧ SeqAt.shaped d = true ∧ ds[j]? = some z ∧ PyData.eqv z d = true ∧ (∀ (m : Nat) (z' : PyData), m < j → ds[m]? = some z' → PyData.eqv z' d = false) ∧ Q (.dat (.int (j : Nat))) μ
  | _ => False
theorem me_index (hu : X.A.units + 65 < cLine) : MeZ X "list.index" zIndex := ⟨_, mt_indexD hu, fun B σ ρ H μ v x vs xs Q0 Q l R q low => by
  match xs, l, R, q with
  | [y], l, R, q =>
    obtain ⟨d, ds, j, z, h1, h2, h3, h4, h5, h6, h7, q⟩ := q
    obtain ⟨u, rfl, R⟩ := one_arg' l R
    have dl := h1.at R.tail R.tail.head
    cases dl with
    | lst s1 s2 => exact ⟨_, u, d, ds, j, z, rfl, rfl, .lst s1 s2, h2.at R R.head, h3, h4, h5, h6, h7, low _ _ q _ _ (R.tail.tail.cons (x := .dat (.int _)) (Dz.int _))⟩⟩
/-- while, by a number that falls -/
abbrev dWhileN (c : DTT) (tb : DTS) : DTS := fun E ρ μ => ∃ I : Nat → DR → Store → Prop, (∃ n, I n ρ μ) ∧ ∀ n ρ μ, I n ρ μ → c ρ μ fun b μ1 => if b = true then
  tb { nx := less fun ρ' μ' => ∃ m, m < n ∧ I m ρ' μ', rt := E.rt, bk := E.nx, ct := less fun ρ' μ' => ∃ m, m < n ∧ I m ρ' μ' } ρ μ1 else E.nx ρ μ1
theorem ds_whileN {c : Expr} {body : List Stmt} {fc : DTT} {tb : DTS} {pos : Pos} (hp : PassesOwn (model X.prog X.w) X.A X.env X.xe) (hc : DT X c fc) (hb : DSs X body tb) : DS X (.While c body [] pos) (dWhileN fc tb) :=
  ⟨fun B => PS.weak (ps_while hp (hc.run B) (hb.run B)) fun D σ H q => by
    obtain ⟨ρ, μ, E, R0, ⟨I, ⟨n0, i0⟩, turn⟩, b⟩ := q
    refine ⟨fun m σ' H' => ∃ ρ' μ', RL X.w X.K B H' σ' ρ' μ' ∧ I m ρ' μ', ⟨n0, ρ, μ, R0, i0⟩, ?_⟩
    rintro m σ' H' ⟨ρ', μ', R', i'⟩
    refine ⟨[], [], ρ', μ', _, rfl, R', turn m ρ' μ' i', fun c μ1 q H1 R1 => ?_⟩
    cases c with
    | true =>
      refine ⟨fun σ2 H2 => ∃ ρ2 μ2, RL X.w X.K B H2 σ2 ρ2 μ2 ∧ ∃ k, k < m ∧ I k ρ2 μ2, fun σ2 H2 ⟨ρ2, μ2, r, k, l, i⟩ => ⟨k, l, ρ2, μ2, r, i⟩, ρ', μ1, _, R1, q, ⟨fun ρ4 μ4 ⟨μ5, s5, q4⟩ σ4 H4 R4 => ⟨ρ4, μ5, R4.less s5, q4⟩, b.rt, fun ρ4 μ4 q4 σ4 H4 R4 => b.nx _ _ q4 _ _ R4, fun ρ4 μ4 ⟨μ5, s5, q4⟩ σ4 H4 R4 => ⟨ρ4, μ5, R4.less s5, q4⟩⟩⟩
    | false => exact b.nx _ _ q _ _ R1⟩
theorem isN_kv (x : NestedKey) : isN (.dat (datK x)) = decide (x = .none) := by cases x <;> rfl
theorem is_kv {g : Bool → Bool} {x : NestedKey} {μ : Store} {Q : DK} (q : Q (.dat (.bool (g (decide (x = .none))))) μ) : zIs g (.dat (datK x)) (.dat .none) μ Q := by
  show Q (.dat (.bool (g (isN (.dat (datK x)))))) μ
  rw [isN_kv]
  exact q
end
end Zl
/-! list(d); tuple + tuple. -/
namespace Vd
open PySem PySem.Spec PyProof.Rows L2
theorem rel_vals {kvs : List KVR} {xs : List Row} (r : Paired RelR kvs xs) : Vals (kvs.map (·.2.1)) (xs.map (·.2.1)) := by
  induction r with
  | nil => exact .nil
  | cons h _ ih => exact .cons h.2.1 ih
theorem call_listV {X : Cx} (hc : X.calm = true) : CallR X (.type "list") (fun xs H Q => ∃ d kvs, xs = [V.ref d] ∧ DAt X.w H d kvs ∧ ∀ p, H p = none → Q (.ref p) (upd H p (.lst (kvs.map (·.2.1))))) := by
  intro pins s σ H xs us Q I r h
  obtain ⟨d, kvs, rfl, D, q⟩ := h
  obtain ⟨u, rfl, rx⟩ := r.one
  cases rx
  obtain ⟨hs, z, ks, pr, ⟨o, es, ep, ho, hx, hdt, he⟩, R⟩ := D.out I.hok
  have l1 : es.size = ks.length := ent_size he
  have l2 : kvs.length = ks.length := Paired.length pr
  refine PySem.W.kdl_call (kdl_raw hs hx hdt) (I.ok.hd hc) ho (by omega) fun h' tk acc' c' kp e it => ?_
  have ea : acc'.toList = ks.map fun x => x.2.1 := by
    have hl : acc'.toList.length = ks.length := by rw [Array.length_toList, it.1]; exact l1
    apply List.ext_getElem?
    intro j
    rw [List.getElem?_map]
    cases hj : acc'.toList[j]? with
    | none =>
      have h1 := List.getElem?_eq_none_iff.mp hj
      rw [List.getElem?_eq_none (by omega)]
      rfl
    | some v =>
      obtain ⟨en, hen, hv⟩ := it.2 j v (by rw [← Array.getElem?_toList]; exact hj)
      have qe := ent_at he j
      rw [hen] at qe
      cases hb : ks[j]? with
      | none =>
        rw [hb] at qe
        exact nomatch (show some en = none from qe)
      | some b =>
        rw [hb] at qe
        have e2 : en = ent X.w b := Option.some.inj qe
        rw [hv, e2]
        rfl
  have rv : Vals (kvs.map (·.2.1)) acc'.toList := by rw [ea]; exact rel_vals pr
  have hz : (kvs.map (·.2.1)).length ≤ sizeLine := by rw [List.length_map]; omega
  refine ⟨.ref s.heap.objs.size, _, I.laid (t' := tk) (o := .lst (kvs.map (·.2.1))) kp (Nat.le_refl _) ?_, rfl, q _ (I.hok.fresh (Nat.le_refl _))⟩
  exact ⟨hz, acc'.toList, c', rv, by rw [Array.toArray_toList]; exact e⟩
end Vd
namespace Zl
open PySem PySem.Spec PyProof.Rows L2 Lf
section
variable {X : Cx}
def zListD : List Val → Store → DK → Prop := fun xs μ Q => match xs with
  | [.ptr a] => ∃ kvs, DvAt μ a kvs ∧ ∀ p, Q (.ptr p) (μ ++ [(p, .lst (keysZ kvs))])
  | _ => False
theorem keys_rv {w : World} {K : PySem.W.Frag} {Z : Hp} {ks : List Vd.KVR} {kvs : List (NestedKey × Val)} (h : Paired (RK K Z) ks kvs) : Paired (RV K Z) (ks.map (·.2.1)) (keysZ kvs) := by
  unfold keysZ
  induction h with
  | nil => exact .nil
  | @cons p q _ _ r _ ih =>
    refine .cons (show RV K Z p.2.1 (.dat (datK q.1)) from ?_) ih
    have := dz_key _ _ r.2.2.1
    rw [r.1] at this
    exact this
theorem ca_dlist (hc : X.calm = true) : CaZ X (.type "list") zListD := ⟨_, Vd.call_listV hc, fun B σ ρ H μ vs xs Q0 Q l R q low => by
  unfold zListD at q
  split at q
  · obtain ⟨kvs, h, q⟩ := q
    obtain ⟨v, rfl, R⟩ := one_arg' l R
    obtain ⟨ks, D, pr⟩ := h.at R
    cases (R.head : v = .ref _)
    exact ⟨_, ks, rfl, D, fun p hp => low _ _ (q p) _ _ ((R.tail.new (n := .lst (keysZ kvs)) hp ⟨_, upd_same, keys_rv (w := X.w) pr⟩).cons rfl)⟩
  · exact q.elim⟩
/-- tuples too -/
def zAdd2 : DR2 := fun x y μ Q => match x, y with
  | .dat (.tuple a), .dat (.tuple b) => a.length + b.length ≤ sizeLine ∧ Q (.dat (.tuple (a ++ b))) μ
  | x, y => zAdd x y μ Q
theorem oz_add2 : OpZ X (binaryOp .Add) zAdd2 := by
  obtain ⟨r, h1, h2⟩ := (oz_add (X := X)).ex
  refine ⟨_, OpR.or op_catA h1, fun B σ ρ H μ u v x y Q0 Q R q low => ?_⟩
  have hy := R.head
  have hx := R.tail.head
  unfold zAdd2 at q
  split at q
  · rename_i a b
    cases (hx : Dz _ u (.tuple a)) with
    | tup e1 e2 =>
      cases (hy : Dz _ v (.tuple b)) with
      | tup e3 e4 =>
        refine .inl ⟨_, _, _, _, rfl, rfl, SqT.of (fz_le _ _ e1), SqT.of (fz_le _ _ e3), by rw [dzAll_len e2, dzAll_len e4]; exact q.1, fun z => ?_, fun _ z => ?_, fun _ _ p hp => ?_⟩
        · subst z
          cases a with
          | nil => exact low _ _ q.2 _ _ (R.tail.tail.cons (x := .dat (.tuple _)) (Dz.tup e3 e4))
          | cons _ _ => cases e2
        · subst z
          cases b with
          | nil =>
            have q2 := q.2
            rw [List.append_nil] at q2
            exact low _ _ q2 _ _ (R.tail.tail.cons (x := .dat (.tuple _)) (Dz.tup e1 e2))
          | cons _ _ => cases e4
        · obtain ⟨R4, g, ep⟩ := R.tail.tail.newZ (o := .tup _) hp
          refine low _ _ q.2 _ _ (R4.cons (.tup ep (DzAll.mono g _ _ (all_dz (K := X.K) ?_))))
          rw [List.map_append]
          exact paired_app (dz_all e2) (dz_all e4)
  · exact .inr (h2 B _ _ _ _ _ _ _ _ _ _ R q low)
end
end Zl
/-! and, or, not as values; slices told. -/
namespace Zl
open PySem PySem.Spec PyProof.Rows L2 Lf
section
variable {X : Cx}
theorem tru_at {B : Base} {σ : List (Option V)} {ρ : DR} {H : Hp} {μ : Store} {v : V} {x : Val} {P : Bool → Prop} (R : RL X.w X.K B H (some v :: σ) (some x :: ρ) μ) (q : truOf μ x P) : ∃ k, TruV X.K v H k ∧ P k := by
  have hd := R.head
  unfold truOf at q
  split at q
  · cases (hd : Dz _ v .none)
    exact ⟨_, rfl, q⟩
  · cases (hd : Dz _ v (.bool _))
    exact ⟨_, rfl, q⟩
  · cases (hd : Dz _ v (.int _))
    exact ⟨_, rfl, q⟩
  · cases (hd : Dz _ v (.str _))
    exact ⟨_, ⟨q.1, rfl⟩, q.2⟩
  · cases (hd : Dz _ v (.list _)) with
    | lst e1 e2 => exact ⟨_, .inl ⟨_, SqL.of (fz_le _ _ e1), by rw [dzAll_empty e2]⟩, q⟩
  · cases (hd : Dz _ v (.tuple _)) with
    | tup e1 e2 => exact ⟨_, .inr (.inl ⟨_, SqT.of (fz_le _ _ e1), by rw [dzAll_empty e2]⟩), q⟩
  · obtain ⟨j, xs, hj, q⟩ := q
    obtain ⟨us, e, pr⟩ := R.at hj
    cases (hd : v = .ref _)
    exact ⟨_, .inl ⟨us, SqL.of e, by rw [paired_empty pr]⟩, q⟩
  · exact q.elim
/-- a and b, as a value -/
abbrev dAndV (f g : DTE) : DTE := fun ρ μ Q => f ρ μ fun x μ1 => truOf μ1 x fun k => if k = true then g ρ μ1 Q else Q x μ1
abbrev dOrV (f g : DTE) : DTE := fun ρ μ Q => f ρ μ fun x μ1 => truOf μ1 x fun k => if k = true then Q x μ1 else g ρ μ1 Q
abbrev dNotT (f : DTE) : DTE := fun ρ μ Q => f ρ μ fun x μ1 => truOf μ1 x fun k => Q (.dat (.bool !k)) μ1
variable {a b : Expr} {rest : List Expr} {f g : DTE} {pos : Pos}
theorem d_and (ha : DE X a f) (hb : DE X (.BoolOp .And (b :: rest) pos) g) : DE X (.BoolOp .And (a :: b :: rest) pos) (dAndV f g) :=
  ⟨fun B => PE.weak (pe_andT (ha.run B) (hb.run B)) fun σ H Q ⟨hv, hx, ρ, μ, Q0, hl, R, q, low⟩ => by
    refine ⟨hv, hx, ρ, μ, _, hl, R, q, fun x μ1 q1 v H1 R1 => ?_⟩
    obtain ⟨k, t, q2⟩ := tru_at R1 q1
    refine ⟨k, t, ?_⟩
    cases k with
    | true => exact ⟨hv, hx, ρ, μ1, _, hl, R1.tail, q2, low⟩
    | false => exact low _ _ q2 _ _ R1⟩
theorem d_or (ha : DE X a f) (hb : DE X (.BoolOp .Or (b :: rest) pos) g) : DE X (.BoolOp .Or (a :: b :: rest) pos) (dOrV f g) :=
  ⟨fun B => PE.weak (pe_orT (ha.run B) (hb.run B)) fun σ H Q ⟨hv, hx, ρ, μ, Q0, hl, R, q, low⟩ => by
    refine ⟨hv, hx, ρ, μ, _, hl, R, q, fun x μ1 q1 v H1 R1 => ?_⟩
    obtain ⟨k, t, q2⟩ := tru_at R1 q1
    refine ⟨k, t, ?_⟩
    cases k with
    | true => exact low _ _ q2 _ _ R1
    | false => exact ⟨hv, hx, ρ, μ1, _, hl, R1.tail, q2, low⟩⟩
theorem d_not (ha : DE X a f) : DE X (.UnaryOp .Not a pos) (dNotT f) :=
  ⟨fun B => PE.weak (pe_notT (ha.run B)) fun σ H Q ⟨hv, hx, ρ, μ, Q0, hl, R, q, low⟩ => by
    refine ⟨hv, hx, ρ, μ, _, hl, R, q, fun x μ1 q1 v H1 R1 => ?_⟩
    obtain ⟨k, t, q2⟩ := tru_at R1 q1
    exact ⟨k, t, low _ _ q2 _ _ (R1.tail.cons (x := .dat (.bool _)) (Dz.bl _))⟩⟩
theorem d_one {op : BoolOp} (ha : DE X a f) (he : eval (.BoolOp op [a] pos) X.env = eval a X.env := by rfl) : DE X (.BoolOp op [a] pos) f :=
  ⟨fun B => ⟨fun pins s σ H Q I q => by rw [he]; exact (ha.run B).run pins s σ H Q I q⟩⟩
end
theorem cutG_take {α : Type} (xs : List α) (n : Nat) : cutG xs none (some (n : Int)) = xs.take n := by
  unfold cutG
  rw [HT.sIx_none, HT.sIx_nat, List.drop_zero, Nat.sub_zero]
  rcases Nat.le_total n xs.length with h | h
  · rw [Nat.min_eq_left h]
  · rw [Nat.min_eq_right h, List.take_of_length_le h, List.take_of_length_le (Nat.le_refl _)]
theorem cutG_drop {α : Type} (xs : List α) (n : Nat) : cutG xs (some (n : Int)) none = xs.drop n := by
  unfold cutG
  rw [HT.sIx_none, HT.sIx_nat]
  rcases Nat.le_total n xs.length with h | h
  · rw [Nat.min_eq_left h, List.take_of_length_le]
    rw [List.length_drop]
    omega
  · rw [Nat.min_eq_right h, List.drop_of_length_le h, List.drop_of_length_le (Nat.le_refl _), List.take_nil]
end Zl
/-! xs.remove(x): items are data of any depth. -/
namespace Zh
open PySem PySem.Spec PyProof.Rows L2 SeqAt
theorem remove_loopAt (l : Addr) (items : Array Value) (n : Nat) (x : Value) (e : Value → Bool) (j : Nat) (hj : j < items.size) (hit : e items[j] = true) (k : Nat) (hs1 : items.size ≤ sizeLine) :
    ∀ i : Nat, j - i = k → i ≤ j → (∀ m (hm : m < items.size), i ≤ m → m < j → e items[m] = false) → Meets (Builtin.«list.remove.loop» ⟨[.ref l, x, rawInt i], []⟩)
      (fun A R s => s.heap.get? l = some { cls := .type "list", dict := none, data := .seq items n, slots := #[] } ∧ (∀ y, y ∈ items → EqAt A.in1 s y x (e y)) ∧ R (.ok (.ret .none)) { s with heap := s.heap.update l (Obj.mapSeq fun xs => xs.eraseIdxIfInBounds j) }) := by
  induction k with
  | zero =>
    intro i hk hij hno prog w A R s h
    obtain ⟨hp, g, d, tk, os⟩ := s; obtain ⟨hl, he, h⟩ := h
    have hij' : i = j := by omega
    subst hij'
    wp_walk using wpAny_loadPart' hl
    have hi : items[((i : Nat) : Int).toNat]? = some items[i] := by simp [hj]
    rw [hi]
    refine wpAny_bind (he _ (Array.getElem_mem hj) prog w _ _ ?_)
    rw [hit]
    have hz' : (items.eraseIdxIfInBounds i).size ≤ sizeLine + 1 := Nat.le_trans (MeetsSeq.size_erased items _) (Nat.le_succ_of_le hs1)
    wp_walk using (wpAny_updateSeq hl rfl (hz := hs1) (_hz' := hz')), wpAny_loadPart' hl
    simpa using h
  | succ k ih =>
    intro i hk hij hno prog w A R s h
    obtain ⟨hp, g, d, tk, os⟩ := s; obtain ⟨hl, he, h⟩ := h
    have hlt : i < items.size := by omega
    wp_walk using wpAny_loadPart' hl
    have hi : items[((i : Nat) : Int).toNat]? = some items[i] := by simp [hlt]
    have hc : ((i : Int) + 1) = ((i + 1 : Nat) : Int) := by push_cast; rfl
    rw [hi]
    refine wpAny_bind (he _ (Array.getElem_mem hlt) prog w _ _ ?_)
    rw [hno i hlt (Nat.le_refl _) (by omega)]
    wp_walk
    rw [hc]
    exact ⟨plainId_quiet MeetsSeq.plain_remove_loop _, codeAny_builtin MeetsSeq.entry_remove_loop (by
      rw [Around.under_plainId MeetsSeq.plain_remove_loop _]
      exact ih (i + 1) (by omega) (by omega) (fun m hm h1 h2 => hno m hm (by omega) h2) prog w A R _ ⟨hl, he, h⟩)⟩
theorem list_removeAt (l : Addr) (items : Array Value) (n : Nat) (x : Value) (e : Value → Bool) (j : Nat) (hj : j < items.size)
    (hit : e items[j] = true) (hno : ∀ m (hm : m < items.size), m < j → e items[m] = false) (hs1 : items.size ≤ sizeLine) :
    Meets (Builtin.«list.remove» ⟨[.ref l, x], []⟩)
      (fun A R s => s.heap.get? l = some { cls := .type "list", dict := none, data := .seq items n, slots := #[] } ∧ (∀ y, y ∈ items → EqAt A.in1 s y x (e y)) ∧ R (.ok (.ret .none)) { s with heap := s.heap.update l (Obj.mapSeq fun xs => xs.eraseIdxIfInBounds j) }) := by
  intro prog w A R s h
  obtain ⟨hp, g, d, tk, os⟩ := s; obtain ⟨hl, he, h⟩ := h
  wp_walk using wpAny_loadPart' hl
  exact ⟨plainId_quiet MeetsSeq.plain_remove_loop _, codeAny_builtin MeetsSeq.entry_remove_loop (by
    rw [Around.under_plainId MeetsSeq.plain_remove_loop _]
    exact remove_loopAt l items n x e j hj hit _ hs1 0 rfl (Nat.zero_le _) (fun m hm _ h2 => hno m hm h2) prog w A R _ ⟨hl, he, h⟩)⟩
section
variable {X : Cx}
def rRemD (K : PySem.W.Frag) : V → List V → Hp → VK → Prop := fun x xs H Q => ∃ (a : Addr) (ys : List V) (y : V) (d : PyData) (ds : List PyData) (j : Nat) (z : PyData), x = V.ref a ∧ xs = [y] ∧ H a = some (.lst ys) ∧ DpAll K H ys ds ∧ Dp K H y d ∧
  SeqAt.shaped (.list ds) = true ∧ SeqAt.shaped d = true ∧ ds[j]? = some z ∧ PyData.eqv z d = true ∧ (∀ (m : Nat) (z' : PyData), m < j → ds[m]? = some z' → PyData.eqv z' d = false) ∧ Q .non (upd H a (.lst (ys.eraseIdx j)))
theorem mt_removeD (hu : X.A.units + 65 < cLine) : MtR X "list.remove" (rRemD X.K) := by
  intro pins s σ H x xs v us Q I rx rxs h
  obtain ⟨a, ys, y, d, ds, j, z, rfl, rfl, hH, ha, hy, sl, sd, hz, hzj, hno, q⟩ := h
  cases rx
  obtain ⟨uy, rfl, ry⟩ := rxs.one
  obtain ⟨bs, r1⟩ := Dp.reads I d y uy hy ry
  have hxs : PyData.canLayAll0 ds = true := SeqAt.canLay_of_shaped sl
  have hroom : X.A.units + 1 + min (PyData.depthAll ds) d.depth < cLine := room_in_shaped sd hu
  obtain ⟨zl, its, n, r, hl, e⟩ := I.lstM hH
  obtain ⟨as, h4⟩ := Dp.readsAll I ds _ its ha r
  have hn : its.length = ds.length := SeqAt.ReadsAll.length ds its as h4
  have hmap : its.map (SeqAt.readOf s.heap) = ds := SeqAt.readsAll_map ds its as hxs h4
  obtain ⟨hjd, _⟩ := List.getElem?_eq_some_iff.mp hz
  have hjl : j < its.length := by omega
  have hj : j < its.toArray.size := by simpa using hjl
  have at_ : ∀ (m : Nat) (hm : m < its.toArray.size) (z' : PyData), ds[m]? = some z' → SeqAt.readOf s.heap its.toArray[m] = z' := by
    intro m hm z' hz'
    have hml : m < its.length := by simpa using hm
    rw [← hmap, List.getElem?_map, List.getElem?_eq_getElem hml] at hz'
    have e1 : SeqAt.readOf s.heap its[m] = z' := Option.some.inj (show some (SeqAt.readOf s.heap its[m]) = some z' from hz')
    simpa using e1
  refine call_meets PySem.F.slot_list_remove ⟨_, e, rfl⟩ PySem.F.entry_list_remove (PySem.F.args_list_remove_2 _ _)
    (list_removeAt a its.toArray n uy (fun u => PyData.eqv (SeqAt.readOf s.heap u) d) j hj ?_ ?_ (by rw [List.size_toArray]; omega)) ⟨e, SeqAt.items_eqAt (vs := its.toArray) (show ReadsAll s.heap its.toArray.toList ds as from h4) r1 hxs (SeqAt.canLay_of_shaped sd) hroom, ?_⟩
  · show PyData.eqv (SeqAt.readOf s.heap its.toArray[j]) d = true
    rw [at_ j hj z hz]
    exact hzj
  · intro m hm hmj
    have hmd : m < ds.length := by omega
    have hz' : ds[m]? = some ds[m] := List.getElem?_eq_getElem hmd
    show PyData.eqv (SeqAt.readOf s.heap its.toArray[m]) d = false
    rw [at_ m hm _ hz']
    exact hno m _ hmj hz'
  · refine ⟨.non, _, I.lset (its' := its.eraseIdx j) (t' := s.toks) hH e ?_ (r.eraseIdx j) ?_, rfl, q⟩
    · show its.toArray.eraseIdxIfInBounds j = (its.eraseIdx j).toArray
      rw [List.eraseIdxIfInBounds_toArray]
    · have z2 := len_erase ys j
      omega
end
end Zh
namespace Zl
open PySem PySem.Spec PyProof.Rows L2 Lf
section
variable {X : Cx}
/-- xs.remove(x) -/
def zRemove : Val → List Val → Store → DK → Prop := fun x xs μ Q => match x, xs with
  | .ptr a, [y] => ∃ (i : Nat) (ys : List Val) (d : PyData) (ds : List PyData) (j : Nat) (z : PyData), μ[i]? = some (a, Node.lst ys) ∧ datOf ys = some ds ∧ View μ y d ∧ SeqAt.shaped (.list ds) = true ∧ SeqAt.shaped d = true ∧ ds[j]? = some z ∧ PyData.eqv z d = true ∧
      (∀ (m : Nat) (z' : PyData), m < j → ds[m]? = some z' → PyData.eqv z' d = false) ∧ Q (.dat .none) (μ.set i (a, .lst (ys.eraseIdx j)))
  | _, _ => False
theorem me_remove (hu : X.A.units + 65 < cLine) : MeZ X "list.remove" zRemove := ⟨_, Zh.mt_removeD hu, fun B σ ρ H μ v x vs xs Q0 Q l R q low => by
  match x, xs, l, R, q with
  | .ptr a, [y], l, R, q =>
    obtain ⟨i, ys, d, ds, j, z, hj, hd, hv, h3, h4, h5, h6, h7, q⟩ := q
    obtain ⟨u, rfl, R⟩ := one_arg' l R
    obtain ⟨us, e, pr⟩ := R.at hj
    cases (R.tail.head : v = .ref a)
    exact ⟨a, us, u, d, ds, j, z, rfl, rfl, e, DzAll.dp _ _ (DzAll.mono fz_le _ _ (datOf_all pr hd)), hv.at R R.head, h3, h4, h5, h6, h7, low _ _ q _ _ ((R.put (n' := .lst (ys.eraseIdx j)) hj ⟨_, upd_same, paired_erase j pr⟩).tail.tail.cons .non)⟩⟩
end
end Zl
/-! len of an own class; a list in a slot that nobody changes any more; lists that are lent to a call; list(range(n)). -/
namespace Zl
open PySem PySem.Spec PyProof.Rows L2 Lf
section
variable {X : Cx} {C f : Addr} {k : Nat} {fd : FuncData} {ps : List Str} {sp : Sp} {F : DSp}
theorem call_lenOwn (Fn : FnOk X.prog X.w X.K X.mg X.base CX0 k f fd ps sp) (hm : Meth X.K C "__len__" f) (hb : Binds X.K fd ps []) (hr : Room (k + 1) X.A) :
    CallR X (.builtin "len") (fun vs H Q => ∃ a dx fs, vs = [.ref a] ∧ H a = some (.ins C dx fs) ∧ sp [.ref a] H (fun v H' => ∃ n : Int, v = .int n ∧ 0 ≤ n ∧ n < 2 ^ 63 ∧ Q (.int n) H') E0) := by
  intro pins s σ H xs us Q I r h
  obtain ⟨a, dx, fs, rfl, ha, hsp⟩ := h
  obtain ⟨u, rfl, rx⟩ := vals1 r
  cases rx
  obtain ⟨mA, J, _⟩ := ins_get I.hok ha
  obtain ⟨od, J, _⟩ := J.look
  obtain ⟨m, hF⟩ := I.fr
  refine Calls.call_function_entry kind_len plain_len entry_len (args_len1 _) ?_
  unfold Builtin.«len»
  refine wpAny_bind (m := oneArg "len" _) (wpAny_pure ?_)
  have sb : L2.Sub X (k + 1) X.A := ⟨hr, rfl⟩
  have sb1 := sb.in1
  have e0 : Env0 X.prog X.w X.K X.mg X.base X.A.in1 X.stack s H := by
    have e := I.env0
    exact ⟨by rw [sb1.fr]; exact e.frames, e.mod, e.bs, e.bsz, e.funs, e.frf, e.hok, e.bare⟩
  have hl := Fn.len _ _ _ _ hsp
  have r2 : Vals [V.ref a] [Value.ref a] := .cons rfl .nil
  refine wpAny_bind (m := callSpecial? (.ref a) (Str.ofString "__len__")) (PySem.W.special_fn I.kIn J hm.at_ (beq_iff_eq.mp hm.fn) ?_)
  refine wpAny_call (codeAny_mono (Fn.run X.A.in1 X.stack s H ⟨[.ref a], []⟩ [.ref a] [.ref a] _ E0 sb1.room e0 (by
    have := hb s [.ref a] I.kIn (by simpa using hl)
    simpa using this) r2 hsp) fun r s' hq => ?_)
  cases r with
  | error e => exact pass0 (X := X) pins σ H s e s' I hq
  | ok fl =>
    cases fl with
    | ret w =>
      obtain ⟨z, H', I', rz, n, ez, n0, n1, q⟩ := I.after hq
      subst ez
      obtain ⟨t, rfl⟩ := rz
      refine wpAny_bind (wpAny_holding (wpAny_pure ?_))
      refine wpAny_bind (wpAny_letGo ?_)
      show wpAny _ _ (if n < 0 then _ else _) _ _ _
      rw [if_neg (by omega)]
      show wpAny _ _ (if n ≥ 2 ^ 63 then _ else _) _ _ _
      rw [if_neg (by omega)]
      exact wpAny_bind (wpAny_mkInt (wpAny_pure ⟨_, rfl, .int n, H', I'.tok _, ⟨_, rfl⟩, q⟩))
    | next => exact False.elim hq
    | brk => exact False.elim hq
    | cont => exact False.elim hq
/-- len(o), o of a class with __len__ -/
def zLenOwn (C : Addr) (F : DSp) : List Val → Store → DK → Prop := fun xs μ Q => match xs with
  | [.ptr a] => (∃ (j : Nat) (dx : Addr) (fs : List (Str × Val)), μ[j]? = some (a, Node.ins C dx fs)) ∧ own F [.ptr a] μ fun x μ2 => ∃ n : Int, x = .dat (.int n) ∧ 0 ≤ n ∧ n < 2 ^ 63 ∧ Q (.dat (.int n)) μ2
  | _ => False
theorem ca_lenOwn (M : MCalZ X.prog X.w X.K X.mg X.base k C "__len__" ps F) (hr : Room (k + 1) X.A) : CaZ X (.builtin "len") (zLenOwn C F) := by
  obtain ⟨f, fd, Fn, hm, hb⟩ := cal_clM M
  refine ⟨_, call_lenOwn Fn hm hb hr, fun B σ ρ H μ vs xs Q0 Q l R q low => ?_⟩
  match xs, l, R, q with
  | [.ptr a], l, R, q =>
    obtain ⟨v, rfl, R⟩ := one_arg l R
    obtain ⟨⟨j, dx, fs, hj⟩, q⟩ := q
    obtain ⟨gs, e, pr⟩ := R.at hj
    cases (R.head : v = .ref a)
    refine ⟨a, dx, gs, rfl, e, own_call (vs := [.ref a]) (xs := [.ptr a]) rfl R q ?_⟩
    rintro y μ2 ⟨n, rfl, n0, n1, q2⟩ v H2 R4
    cases (R4.head : Dz _ v (.int n))
    exact ⟨n, rfl, n0, n1, low _ _ q2 _ _ (R4.tail.cons (.int n))⟩
/-! ### seen otherwise -/
theorem weak_fz {ρ : DR} {μ : Store} {a : Addr} {xs : List Val} {ds : List PyData} (i j : Nat) (hi : ρ[i]? = some (some (.ptr a))) (hj : μ[j]? = some (a, .lst xs)) (hd : datOf xs = some ds) : Weak X ρ μ (ρ.set i (some (.dat (.list ds)))) (μ.eraseIdx j) := fun B H σ R => by
  obtain ⟨v, e, r⟩ := R.get hi
  have R1 := (R.cons r).fz hj hd
  refine R1.tail.slots ?_
  have := paired_set (x := some v) (y := some (Val.dat (.list ds))) i R1.tail.sl R1.head
  have es : σ.set i (some v) = σ := by
    refine List.ext_getElem? fun n => ?_
    rw [List.getElem?_set]
    split
    · rename_i h
      subst h
      rw [e, if_pos (List.getElem?_eq_some_iff.mp e).1]
    · rfl
  rw [es] at this
  exact this
theorem weak_perm {ρ : DR} {μ μ' : Store} (h : μ'.Perm μ) : Weak X ρ μ ρ μ' := fun _ _ _ R => R.perm h
theorem Weak.trans {ρ ρ' ρ'' : DR} {μ μ' μ'' : Store} (h : Weak X ρ μ ρ' μ') (g : Weak X ρ' μ' ρ'' μ'') : Weak X ρ μ ρ'' μ'' := fun B H σ R => g B H σ (h B H σ R)
theorem pick {α : Type} {l r : List α} {x : α} (j : Nat) (h : l[j]? = some x) (p : (l.eraseIdx j).Perm r) : l.Perm (x :: r) := (perm_at h).trans (p.cons x)
/-! ### lent lists -/
mutual
def noList : PyData → Bool
  | .list _ => false
  | .dict _ => false
  | .tuple ds => noLists ds
  | _ => true
def noLists : List PyData → Bool
  | [] => true
  | d :: ds => noList d && noLists ds
end
mutual
theorem Dz.keep {Z Z' : Hp} (g : Vd.Tups Z Z') : ∀ (d : PyData) (v : V), noList d = true → Dz Z v d → Dz Z' v d
  | .none, _, _, h => by cases h; exact .non
  | .bool b, _, _, h => by cases h; exact .bl b
  | .int i, _, _, h => by cases h; exact .int i
  | .str x, _, _, h => by cases h; exact .str x
  | .list ds, _, n, _ => by rw [noList] at n; cases n
  | .tuple ds, _, n, h => by
    rw [noList] at n
    cases h with
    | tup h1 h2 => exact .tup (g _ _ h1) (DzAll.keep g ds _ n h2)
  | .dict _, _, _, h => by cases h
theorem DzAll.keep {Z Z' : Hp} (g : Vd.Tups Z Z') : ∀ (ds : List PyData) (vs : List V), noLists ds = true → DzAll Z vs ds → DzAll Z' vs ds
  | [], _, _, h => by cases h; exact .nil
  | d :: ds, _, n, h => by
    rw [noLists, Bool.and_eq_true] at n
    cases h with
    | cons h1 h2 => exact .cons (Dz.keep g d _ n.1 h1) (DzAll.keep g ds _ n.2 h2)
end
def flatV : Val → Prop
  | .dat d => noList d = true
  | .ptr _ => True
  | .scr _ => False
  | .prt k _ => noList k = true
def flatN : Node → Prop
  | .lst xs => ∀ x ∈ xs, flatV x
  | .dv kvs => ∀ p ∈ kvs, flatV p.2
  | .dvl _ _ kvs => ∀ p ∈ kvs, flatV p.2
  | .ins _ _ fs => ∀ p ∈ fs, flatV p.2
  | .tab _ => False
theorem RV.keep {K : PySem.W.Frag} {Z Z' : Hp} (g : Vd.Tups Z Z') {v : V} {x : Val} (n : flatV x) (h : RV K Z v x) : RV K Z' v x := by
  cases x with
  | dat d => exact Dz.keep g d v n h
  | ptr a => exact h
  | scr ns => exact n.elim
  | prt k a => exact h.imp fun t z => z.imp fun u z => ⟨z.1, g _ _ z.2.1, Dz.keep g k _ n z.2.2⟩
theorem mapM {α β : Type} {F G : α → β → Prop} {P : β → Prop} (f : ∀ a b, P b → F a b → G a b) : ∀ {l : List α} {r : List β}, (∀ b ∈ r, P b) → Paired F l r → Paired G l r
  | _, _, _, .nil => .nil
  | _, _, h, .cons r t => .cons (f _ _ (h _ (List.mem_cons_self ..)) r) (mapM f (fun b hb => h b (List.mem_cons_of_mem _ hb)) t)
theorem RN.keep {w : World} {K : PySem.W.Frag} {Z Z' H : Hp} (g : Vd.Tups Z Z') {a : Addr} {n : Node} (f : flatN n) (h : RN w K Z H a n) : RN w K Z' H a n := by
  cases n with
  | lst xs => exact h.imp fun vs z => ⟨z.1, mapM (P := flatV) (fun _ _ p r => RV.keep g p r) f z.2⟩
  | dv kvs => exact h.imp fun ks z => ⟨z.1, z.2.1, mapM (P := fun p : NestedKey × Val => flatV p.2) (fun _ _ p k => ⟨k.1, k.2.1, k.2.2.1.keep g, RV.keep g p k.2.2.2⟩) f z.2.2⟩
  | dvl ob ks kvs => exact ⟨h.1, h.2.1, mapM (P := fun p : NestedKey × Val => flatV p.2) (fun _ _ p k => ⟨k.1, k.2.1, k.2.2.1.keep g, RV.keep g p k.2.2.2⟩) f h.2.2⟩
  | ins C dx fs => exact h.imp fun gs z => ⟨z.1, mapM (P := fun p : Str × Val => flatV p.2) (fun _ _ p k => ⟨k.1, RV.keep g p k.2⟩) f z.2⟩
  | tab _ => exact f.elim
theorem RN.noTup {w : World} {K : PySem.W.Frag} {Z H : Hp} {a : Addr} {n : Node} {xs : List V} (h : RN w K Z H a n) (e : H a = some (.tup xs)) : False := by
  cases n with
  | lst _ =>
    obtain ⟨_, e2, _⟩ := h
    rw [e] at e2
    cases e2
  | dv _ =>
    obtain ⟨_, e2, _⟩ := h
    rw [e] at e2
    cases e2
  | dvl _ _ _ =>
    obtain ⟨e2, _⟩ := h
    rw [e] at e2
    cases e2
  | ins _ _ _ =>
    obtain ⟨_, e2, _⟩ := h
    rw [e] at e2
    cases e2
  | tab _ =>
    obtain ⟨_, e2, _⟩ := h
    rw [e] at e2
    cases e2
/-- an argument as the callee sees it -/
inductive Lent (μ : Store) : Val → Val → Prop
  | keep (x : Val) : Lent μ x x
  | p (j : Nat) {a : Addr} {xs : List Val} {ds : List PyData} : μ[j]? = some (a, .lst xs) → datOf xs = some ds → Lent μ (.ptr a) (.dat (.list ds))
def lend (F : DSp) (xs : List Val) (μ : Store) (Q : DK) : Prop := ∃ ys, Paired (Lent μ) xs ys ∧ F ys [] fun x ν => (flatV x ∧ ∀ p ∈ ν, flatN p.2) ∧ Q x (μ ++ ν)
theorem lent_at {B : Base} {H : Hp} {μ : Store} {σ : List (Option V)} {ρ : DR} (R : RL X.w X.K B H σ ρ μ) {v : V} {x y : Val} (r : RV X.K (Fz (B.fr ++ μ) H) v x) (l : Lent μ x y) : RV X.K H v y := by
  cases l with
  | keep x => exact RV.mono fz_le r
  | p j hj hd =>
    obtain ⟨vs, e, pr⟩ := R.at hj
    cases (r : v = .ref _)
    exact .lst e (DzAll.mono fz_le _ _ (datOf_all pr hd))
theorem lent_all {B : Base} {H : Hp} {μ : Store} {σ : List (Option V)} {ρ : DR} (R : RL X.w X.K B H σ ρ μ) : ∀ {vs : List V} {xs ys : List Val}, Paired (Lent μ) xs ys → Paired (RVo X.K (Fz (B.fr ++ μ) H)) (vs.map some) (xs.map some) → Paired (RVo X.K H) (vs.map some) (ys.map some)
  | [], [], _, .nil, _ => .nil
  | [], _ :: _, _, _, h => by cases h
  | _ :: _, [], _, _, h => by cases h
  | v :: vs, x :: xs, _, .cons l t, h => by
    cases h with
    | cons r h => exact .cons (lent_at R (v := v) (x := x) r l) (lent_all R t h)
theorem lend_call {B : Base} {H : Hp} {σ : List (Option V)} {ρ : DR} {μ : Store} {vs : List V} {xs : List Val} {Q0 : DK} {Q : VK} (l : vs.length = xs.length) (R : RL X.w X.K B H (vs.map some ++ σ) (xs.map some ++ ρ) μ) (h : lend F xs μ Q0) (low : Low X B σ ρ Q0 Q) : spZ X.w X.K (Cl F) vs H Q E0 := by
  obtain ⟨ys, le, f⟩ := h
  have fn : Fz [] H = H := by
    funext x
    unfold Fz
    simp
  have sl := (paired_split (by simp [l]) R.sl).1
  have sr := (paired_split (by simp [l]) R.sl).2
  have ly : xs.length = ys.length := le.length
  have rel := lent_all R le sl
  refine ⟨⟨H, []⟩, ys, [], _, by omega, ⟨by simp, fun x o h => by rw [show (([] : Store) ++ []) = [] from rfl, fn]; exact h, by rw [show (([] : Store) ++ []) = [] from rfl, fn]; exact rel, fun p hp => by simp at hp⟩, ⟨_, f, fun x ν q => q⟩, fun x ν ⟨⟨fx, fν⟩, q⟩ v H' R2 => low x _ q v H' ?_⟩
  have b2 : ∀ x o, H x = some o → x ∉ ν.map (·.1) ∧ H' x = some o := fun x o e => Fz.sub (R2.base x o e)
  have same : ∀ q ∈ B.fr ++ μ, H' q.1 = H q.1 := fun q hq => by
    cases e : H q.1 with
    | none => exact absurd e (R.st q hq).live
    | some o => exact (b2 _ _ e).2
  have out : ∀ q ∈ B.fr ++ μ, q.1 ∉ ν.map (·.1) := fun q hq => by
    cases e : H q.1 with
    | none => exact absurd e (R.st q hq).live
    | some o => exact (b2 _ _ e).1
  have g3 : ∀ x o, Fz (B.fr ++ μ) H x = some o → Fz (B.fr ++ (μ ++ ν)) H' x = some o := fun x o h => by
    obtain ⟨h1, h2⟩ := Fz.sub h
    obtain ⟨h3, h4⟩ := b2 _ _ h2
    refine Fz.of (fun z => ?_) h4
    rw [← List.append_assoc, List.map_append] at z
    rcases List.mem_append.mp z with z | z
    · exact h1 z
    · exact h3 z
  have tp : Vd.Tups (Fz ν H') (Fz (B.fr ++ (μ ++ ν)) H') := fun x us e => by
    obtain ⟨h1, h2⟩ := Fz.sub e
    refine Fz.of (fun z => ?_) h2
    rw [← List.append_assoc, List.map_append] at z
    rcases List.mem_append.mp z with z | z
    · obtain ⟨q, hq, rfl⟩ := List.mem_map.mp z
      rw [same q hq] at h2
      exact (R.st q hq).noTup h2
    · exact h1 z
  have nd2 : (ν.map (·.1)).Nodup := R2.nd
  refine ⟨?_, fun x o h => g3 _ _ (R.base x o h), .cons (RV.keep (v := v) tp fx R2.head) (L2.Paired.mapP sr fun _ _ => RVo.mono g3), fun q hq => ?_⟩
  · rw [← List.append_assoc, List.map_append, List.nodup_append]
    refine ⟨R.nd, nd2, fun x hx y hy e => ?_⟩
    obtain ⟨q, hq, rfl⟩ := List.mem_map.mp hx
    exact out q hq (by rw [e]; exact hy)
  · rw [← List.append_assoc] at hq
    rcases List.mem_append.mp hq with hq | hq
    · exact (R.st q hq).mono g3 (same q hq)
    · exact RN.keep tp (fν q hq) (R2.st q hq)
/-- a def: own lists are lent to it, what it gives is made of no list -/
abbrev dOwnL (F : DSp) (g : DTA) : DTE := fun ρ μ Q => g ρ μ fun xs μ1 => lend F xs μ1 Q
variable {x : Str} {e : Expr} {es : List Expr} {g : DTA} {p pos : Pos}
theorem d_ownL (M : CalZ X.prog X.w X.K X.mg X.base k x ps F) (hr : Room k X.A) (hg : Gl X x) (ha : DA X (e :: es) g)
    (hdb : (x == ("__debug__" : Str)) = false := by decide) (he : starEach (e :: es) X.env = (false, eval e X.env) :: starEach es X.env := by rfl) (hpl : (backTo pos (starEach es X.env)).any (·.1) = false := by rfl) :
    DE X (.Call (.Name x p) (e :: es) [] pos) (dOwnL F g) :=
  ⟨fun B => PE.weak (pe_own (cal_cl M) hr hg (ha.run B) hdb he hpl) fun σ H Q ⟨hv, hx, ρ, μ, Q0, hl, R0, h, low⟩ => by
    refine ⟨hv, hx, ρ, μ, _, hl, R0, h, fun xs μ1 h1 vs H1 l R1 => ?_⟩
    show spZ _ _ _ (vs ++ []) _ _ _
    rw [List.append_nil]
    exact lend_call l R1 h1 low⟩
end
end Zl
/-! list(range(n)) -/
namespace Zl
open PySem PySem.Spec PyProof.Rows L2 Lf
section
variable {X : Cx} {e : Expr} {f : DTE}
def intsV (n : Int) : List Val := (List.range n.toNat).map fun i => .dat (.int (i : Nat))
abbrev dListRg (f : DTE) : DTE := fun ρ μ Q => f ρ μ fun x μ1 => match x with
  | .dat (.int n) => 0 ≤ n ∧ n ≤ 16777216 ∧ ∀ p, Q (.ptr p) (μ1 ++ [(p, .lst (intsV n))])
  | _ => False
theorem d_listRg {p pos rp rpos : Pos} (hc : X.calm = true) (hl : Gl X "list") (hlm : X.mg "list" = none) (hg : Gl X "range") (hm : X.mg "range" = none) (he : DE X e f)
    (na : starEach [e] X.env = (false, eval e X.env) :: starEach [] X.env := by rfl) (nb : starEach [.Call (.Name "range" rp) [e] [] rpos] X.env = (false, eval (.Call (.Name "range" rp) [e] [] rpos) X.env) :: starEach [] X.env := by rfl) :
    DE X (.Call (.Name "list" p) [.Call (.Name "range" rp) [e] [] rpos] [] pos) (dListRg f) :=
  ⟨fun B => PE.weak (pe_listRg hc hl hlm (prg_1 (p := rp) (pos := rpos) hg hm (he.run B) na) nb) fun σ H Q ⟨hv, hx, ρ, μ, Q0, hl, R0, h, low⟩ => by
    refine ⟨hv, hx, ρ, μ, _, hl, R0, h, fun x μ1 q v H1 R1 => ?_⟩
    match x, q, R1 with
    | .dat (.int n), q, R1 =>
      obtain ⟨n0, n1, q⟩ := q
      cases (R1.head : Dz _ v (.int n))
      refine ⟨n, rfl, RgOk.of_le (Int.le_refl _) n1 (by decide) n0, fun p hp => low _ _ (q p) _ _ ?_⟩
      have R2 := R1.tail.new (n := .lst (intsV n)) (o := .lst (rgV 0 n)) hp ⟨_, upd_same, ?_⟩
      · exact R2.cons rfl
      · unfold rgV intsV
        rw [Int.sub_zero]
        generalize List.range n.toNat = l
        induction l with
        | nil => exact .nil
        | cons a l ih =>
          refine .cons ?_ ih
          show RV _ _ (V.int (0 + (a : Nat))) (Val.dat (.int (a : Nat)))
          rw [Int.zero_add]
          exact .int _⟩
end
end Zl
/-! A def that is run only where no guard stands around it (repr of lists may be told in it). -/
namespace Zl
open PySem PySem.Spec PyProof.Rows L2 Lf
def CalG (P : Program) (w : World) (K : PySem.W.Frag) (mg : Str → Option Value) (base : Heap) (k : Nat) (x : Str) (ps : List Str) (F : DSp) : Prop :=
  ∃ (f : Addr) (fd : FuncData), ((∀ vs H Q E, spZ w K F vs H Q E → vs.length = ps.length) ∧ ∀ A, Room k A → A.guards = some [] → Gd.RunAt A P w K mg base f fd ps (spZ w K F)) ∧ mg x = some (.ref f) ∧ PySem.W.keepIn K (.ref f) = true ∧ Binds K fd ps []
theorem len_z {w : World} {K : PySem.W.Frag} {F : DSp} {ps : List Str} (len : ∀ xs μ Q, F xs μ Q → xs.length = ps.length) : ∀ vs H Q E, spZ w K F vs H Q E → vs.length = ps.length := fun vs H Q E h => by
  obtain ⟨B, xs, μ, Q0, l, _, h, _⟩ := h
  rw [l]
  exact len _ _ _ h
theorem okG {P : Program} {w : World} {K : PySem.W.Frag} {mg : Str → Option Value} {base : Heap} {x qual : Str} {st : Stmt} {f : Addr} {fd : FuncData} {N ps : List Str} {k : Nat} {F : DSp} (FF : Fun K x qual st f fd) (S : FnScope N ps (defScope st))
    (len : ∀ xs μ Q, F xs μ Q → xs.length = ps.length)
    (body : ∀ (A : Around) (cdv : Value) (outer : List Env) (s : Shared) (H : Hp) (E : XK), Room k (A.deeper (envOfC qual (defScope st) s.heap.objs.size f cdv)) → (A.deeper (envOfC qual (defScope st) s.heap.objs.size f cdv)).guards = some [] →
      ∃ t : DTS, DSs (cxOf CX0 P w K mg base N qual (defScope st) f cdv A outer s H E).nox (defBody st) t ∧ ∀ xs μ Q, F xs μ Q → t (dEnd Q) (startZ N xs) μ) :
    (∀ vs H Q E, spZ w K F vs H Q E → vs.length = ps.length) ∧ ∀ A, Room (k + 1) A → A.guards = some [] → Gd.RunAt A P w K mg base f fd ps (spZ w K F) :=
  ⟨len_z len, fun A rm hG => runZ FF S rm len fun cdv outer s H E hr => body A cdv outer s H E hr hG⟩
section
variable {X : Cx} {k : Nat} {ps : List Str} {F : DSp} {x : Str} {e : Expr} {es : List Expr} {g : DTA} {t : TA} {p pos : Pos}
theorem pe_ownG (C : CalG X.prog X.w X.K X.mg X.base k x ps F) (hr : Room k X.A) (hG : X.A.guards = some []) (hg : Gl X x) (ha : PA X (e :: es) t)
    (hdb : (x == ("__debug__" : Str)) = false := by decide) (he : starEach (e :: es) X.env = (false, eval e X.env) :: starEach es X.env := by rfl) (hpl : (backTo pos (starEach es X.env)).any (·.1) = false := by rfl) :
    PE X (.Call (.Name x p) (e :: es) [] pos) (tCall (spZ X.w X.K F) [] E0 t) := by
  obtain ⟨f, fd, ⟨hlen, F⟩, hm, hk, hb⟩ := C
  refine ⟨fun pins s σ H Q I h => ?_⟩
  refine wpAny_Call_Name_kw (ld_glob I hg hm ?_ hdb)
  refine PySem.W.callWith_K (h₀ := X.base) I.ok.mod.kin hk (thn (ha.run pos pins s σ H _ I h) fun us s1 ⟨vs, H1, I1, r, q⟩ => ⟨I1.kIn, ?_⟩) he hpl
  have q : spZ X.w X.K _ (vs ++ []) H1 Q E0 := q
  rw [List.append_nil] at q
  have hl : us.length = ps.length := by rw [← r.length]; exact hlen _ _ _ _ q
  refine wpAny_call (codeAny_mono (F X.A hr hG X.stack s1 H1 ⟨us, []⟩ us vs Q E0 I1.env0 (by
    have := hb s1 us I1.kIn (by simpa using hl)
    simpa using this) r q) fun r s' hq => ?_)
  cases r with
  | error e => exact pass0 (X := X) pins σ H1 s1 e s' I1 hq
  | ok fl =>
    cases fl with
    | ret u => exact I1.after hq
    | next => exact False.elim hq
    | brk => exact False.elim hq
    | cont => exact False.elim hq
theorem spZ_cl {w : World} {K : PySem.W.Frag} {F : DSp} {vs : List V} {H : Hp} {Q : VK} {E : XK} (h : spZ w K (Cl F) vs H Q E) : spZ w K F vs H Q E := by
  obtain ⟨B, xs, μ, Q0, l, R, ⟨Q', f', m⟩, low⟩ := h
  exact ⟨B, xs, μ, Q', l, R, f', fun x ν q => low x ν (m _ _ q)⟩
theorem d_ownSG (M : CalG X.prog X.w X.K X.mg X.base k x ps F) (hr : Room k X.A) (hG : X.A.guards = some []) (hg : Gl X x) (ha : DA X (e :: es) g)
    (hdb : (x == ("__debug__" : Str)) = false := by decide) (he : starEach (e :: es) X.env = (false, eval e X.env) :: starEach es X.env := by rfl) (hpl : (backTo pos (starEach es X.env)).any (·.1) = false := by rfl) :
    DE X (.Call (.Name x p) (e :: es) [] pos) (dOwnS F g) :=
  ⟨fun B => PE.weak (pe_ownG M hr hG hg (ha.run B) hdb he hpl) fun σ H Q ⟨hv, hx, ρ, μ, Q0, hl, R0, h, low⟩ => by
    refine ⟨hv, hx, ρ, μ, _, hl, R0, h, fun xs μ1 h1 vs H1 l R1 => ?_⟩
    show spZ _ _ _ (vs ++ []) _ _ _
    rw [List.append_nil]
    exact spZ_cl (own_call l R1 h1 low)⟩
end
end Zl
/-! Dicts all of whose keys are texts: dict(pairs), dict(d), sorted(d), by the library's own kind. -/
namespace Vd
open PySem PySem.Spec PySem.Calls PyProof.Rows L2
def textOf : NestedKey → Str
  | .text x => x
  | _ => Str.empty
def rowK (r : Row) : Key × Value := (Sum.inr (textOf r.1), r.2.2)
theorem hash_text (w : World) (x : Str) : keyH w (Sum.inr x) = (NestedKey.text x).hash w := rfl
theorem text_is (P : Program) (w : World) {x : Str} {v : Value} {h : Heap} (n : NestedIs h (.text x) v) : (mixKind P w).is (Sum.inr x) v = true := by
  cases n
  exact mixKind_str P w x _
theorem pairs_rows {P : Program} {w : World} {h : Heap} : ∀ {xs : List Row}, (∀ x ∈ xs, NestedIs h x.1 x.2.1) → (∀ r ∈ xs, ∃ x, r.1 = .text x) → Pairs (mixKind P w) (xs.map (ent w)) (xs.map rowK)
  | [], _, _ => .nil
  | r :: xs, i, t => by
    refine .cons ?_ rfl (pairs_rows (fun x hx => i x (List.mem_cons_of_mem _ hx)) fun x hx => t x (List.mem_cons_of_mem _ hx))
    obtain ⟨x, e⟩ := t r (List.mem_cons_self ..)
    have n := i r (List.mem_cons_self ..)
    show (mixKind P w).is (Sum.inr (textOf r.1)) r.2.1 = true
    rw [e] at n ⊢
    exact text_is P w n
theorem keys_rows {xs : List Row} (t : ∀ r ∈ xs, ∃ x, r.1 = .text x) (nd : (xs.map (·.1)).Nodup) : ((xs.map rowK).map (·.1)).Nodup := by
  induction xs with
  | nil => exact .nil
  | cons r xs ih =>
    rw [List.map_cons, List.nodup_cons] at nd
    rw [List.map_cons, List.map_cons, List.nodup_cons]
    refine ⟨fun z => nd.1 ?_, ih (fun x hx => t x (List.mem_cons_of_mem _ hx)) nd.2⟩
    rw [List.map_map] at z
    obtain ⟨q, hq, e⟩ := List.mem_map.mp z
    obtain ⟨x, ex⟩ := t r (List.mem_cons_self ..)
    obtain ⟨y, ey⟩ := t q (List.mem_cons_of_mem _ hq)
    have e2 : Sum.inr (textOf q.1) = (Sum.inr (textOf r.1) : Key) := e
    injection e2 with e2
    rw [ex, ey] at e2
    refine List.mem_map.mpr ⟨q, hq, ?_⟩
    rw [ex, ey]
    exact congrArg _ e2
theorem dictOf_of (P : Program) {w : World} {h : Heap} {d : Addr} {xs : List Row} (m : Holds w h d xs) (R : Rows h xs) (t : ∀ r ∈ xs, ∃ x, r.1 = .text x) : h.DictOf (mixKind P w) d (xs.map rowK) := by
  obtain ⟨o, es, ep, e1, e2, e3, e4⟩ := m
  refine ⟨o, es, ep, e1, e2, e3, fun e he => ?_, by rw [e4]; exact pairs_rows R.is t, keys_rows t R.nd⟩
  have he' : e ∈ es.toList := by simpa using he
  rw [e4] at he'
  obtain ⟨r, hr, rfl⟩ := List.mem_map.mp he'
  obtain ⟨x, ex⟩ := t r hr
  have n := R.is r hr
  rw [ex] at n
  refine ⟨Sum.inr x, text_is P w n, ?_⟩
  show r.1.hash w = _
  rw [ex]
  exact (hash_text w x).symm
theorem rows_of {P : Program} {w : World} : ∀ {es : List DictEntry} {kvs : List (Str × Value)}, Pairs (mixKind P w) es (kvs.map fun kv => (Sum.inr kv.1, kv.2)) → (∀ e ∈ es, ∃ k, (mixKind P w).is k e.key = true ∧ e.hash = (mixKind P w).hash k) →
    ∃ xs : List Row, es = xs.map (ent w) ∧ Paired (fun (r : Row) (kv : Str × Value) => r.1 = .text kv.1 ∧ (∃ t, r.2.1 = .str kv.1 t) ∧ r.2.2 = kv.2) xs kvs
  | [], [], _, _ => ⟨[], rfl, .nil⟩
  | _ :: _, [], h, _ => by cases h
  | [], _ :: _, h, _ => by cases h
  | e :: es, kv :: kvs, h, k => by
    cases h with
    | cons h1 h2 h3 =>
      obtain ⟨xs, e1, pr⟩ := rows_of h3 fun e he => k e (List.mem_cons_of_mem _ he)
      obtain ⟨k', i', hh⟩ := k e (List.mem_cons_self ..)
      have ek : Sum.inr kv.1 = k' := (mixKind P w).inj e.key _ _ h1 i'
      subst ek
      refine ⟨(.text kv.1, e.key, e.val) :: xs, ?_, .cons ⟨rfl, ?_, h2⟩ pr⟩
      · rw [List.map_cons, e1]
        have : e = ent w (.text kv.1, e.key, e.val) := by
          obtain ⟨a, b, c⟩ := e
          have hh' : a = _ := hh
          rw [hh']
          rfl
        rw [← this]
      · obtain ⟨t, ev⟩ := Value.isStrOf_shape (x := kv.1) (v := e.key) h1
        exact ⟨t, ev⟩
theorem holds_of {P : Program} {w : World} {h : Heap} {d : Addr} {kvs : List (Str × Value)} (m : h.DictOf (mixKind P w) d (kvs.map fun kv => (Sum.inr kv.1, kv.2))) :
    ∃ xs : List Row, Holds w h d xs ∧ Paired (fun (r : Row) (kv : Str × Value) => r.1 = .text kv.1 ∧ (∃ t, r.2.1 = .str kv.1 t) ∧ r.2.2 = kv.2) xs kvs := by
  obtain ⟨o, es, ep, e1, e2, e3, e4, e5, e6⟩ := m
  obtain ⟨xs, ex, pr⟩ := rows_of e5 fun e he => e4 e (by simpa using he)
  exact ⟨xs, ⟨o, es, ep, e1, e2, e3, ex⟩, pr⟩
/-- the entries of a dict whose keys are texts -/
def txt (kvs : List (Str × V)) : List KVR := kvs.map fun kv => (.text kv.1, .str kv.1, kv.2)
section
variable {X : Cx}
theorem rel_txt {kvs : List (Str × V)} {prs : List (Str × Value)} {xs : List Row} (r : Paired (fun (p : Str × V) (q : Str × Value) => p.1 = q.1 ∧ RelV p.2 q.2) kvs prs) (pr : Paired (fun (r : Row) (kv : Str × Value) => r.1 = .text kv.1 ∧ (∃ t, r.2.1 = .str kv.1 t) ∧ r.2.2 = kv.2) xs prs) : Paired RelR (txt kvs) xs := by
  induction r generalizing xs with
  | nil =>
    cases pr
    exact .nil
  | cons h t ih =>
    cases pr with
    | cons h2 t2 =>
      obtain ⟨h2a, ⟨tk, h2b⟩, h2c⟩ := h2
      refine .cons ⟨?_, ?_, ?_⟩ (ih t2)
      · show NestedKey.text _ = _
        rw [h2a, h.1]
      · rw [h2b, ← h.1]
        exact ⟨tk, rfl⟩
      · rw [h2c]
        exact h.2
/-- dict(xs), xs a list of pairs whose first are unlike texts -/
theorem call_dictPV (hcalm : X.calm = true) : CallR X (.type "dict") (fun xs H Q => ∃ (a : Addr) (ps : List Addr) (kvs : List (Str × V)), xs = [.ref a] ∧ SqL X.K H a (ps.map V.ref) ∧ Paired (fun p (kv : Str × V) => SqT X.K H p [.str kv.1, kv.2]) ps kvs ∧ (kvs.map (·.1)).Nodup ∧
    ∀ p, H p = none → Q (.ref p) (upd H p (dV X.w p (txt kvs)))) := by
  intro pins s σ H xs us Q I r q
  obtain ⟨a, ps, kvs, ex, hq, hp, nd, q⟩ := q
  subst ex
  obtain ⟨u, eu, rx⟩ := vals1 r
  subst eu
  cases rx
  obtain ⟨its, rv, pl, hz⟩ := I.list hq
  have ei := refs_at rv
  subst ei
  rw [List.length_map] at hz
  let kk : List (Key × V) := kvs.map fun kv => (Sum.inr kv.1, kv.2)
  have hp2 : Paired (fun p (kv : Key × V) => SqT X.K H p [kV kv.1, kv.2]) ps kk := by
    show Paired _ ps (kvs.map _)
    clear q nd hq rv pl hz
    induction hp with
    | nil => exact .nil
    | cons h t ih => exact .cons h ih
  obtain ⟨prs, rel, hl, hpr⟩ := pairs_of I hp2
  obtain ⟨prt, ep, rel2⟩ : ∃ prt : List (Str × Value), prs = prt.map (fun kv => (Sum.inr kv.1, kv.2)) ∧ Paired (fun (p : Str × V) (q : Str × Value) => p.1 = q.1 ∧ RelV p.2 q.2) kvs prt := by
    have rel : KV (kvs.map fun kv => ((Sum.inr kv.1, kv.2) : Key × V)) prs := rel
    clear hpr hl hp2 hp q nd hq rv pl hz
    induction kvs generalizing prs with
    | nil =>
      cases rel
      exact ⟨[], rfl, .nil⟩
    | cons kv kvs ih =>
      cases rel with
      | cons h t =>
        obtain ⟨prt, e, r⟩ := ih _ t t
        rename_i b bs
        obtain ⟨b1, b2⟩ := b
        obtain ⟨h1, h2⟩ := h
        dsimp only at h1 h2
        subst h1
        exact ⟨(kv.1, b2) :: prt, by rw [e]; rfl, .cons ⟨rfl, h2⟩ r⟩
  have ndt : (prs.map (·.1)).Nodup := by
    have e1 : prs.map (·.1) = (kvs.map (·.1)).map Sum.inr := by
      rw [ep, List.map_map, List.map_map]
      clear hpr hl hp2 hp q nd hq rv pl hz rel ep
      induction rel2 with
      | nil => rfl
      | cons h t ih =>
        rw [List.map_cons, List.map_cons, ih]
        exact congrArg (· :: _) (congrArg Sum.inr h.1.symm)
    rw [e1]
    exact nd.map _ (fun a b h e => h (Sum.inr.inj e))
  obtain ⟨o, n, ho, hc, hd, hdat⟩ := pl
  refine call_dict_pairs (prs := prs) (I.ok.hd hcalm) ho hc hd hdat (by simp [hl]) (by rw [hl]; exact hz) (fun j q' e => ?_) fun h' tk hd' k => ?_
  · obtain ⟨b, u, e1, e2, e3⟩ := hpr j q' e
    exact ⟨b, u, by simp [e1], e2, e3⟩
  · have hm : (s.heap.objs.size == sysModules) = false := beq_eq_false_iff_ne.mpr (Nat.ne_of_gt I.big)
    rw [merged_nil_of_nodup _ ndt, ep] at hd'
    obtain ⟨xs, hx, pr⟩ := holds_of hd'
    have hlen : (txt kvs).length ≤ sizeLine := by
      unfold txt
      rw [List.length_map, ← hp.length]
      exact hz
    exact ⟨.ref s.heap.objs.size, upd H s.heap.objs.size (dV X.w s.heap.objs.size (txt kvs)), I.laid (t' := tk) k (Nat.le_refl _) (dV_ok hm hlen (rel_txt rel2 pr) hx), rfl, q _ (I.hok.fresh (Nat.le_refl _))⟩
theorem DAt.txts {P : Program} {w : World} {H : Hp} {h : Heap} {d : Addr} {kvs : List (Str × V)} (D : DAt w H d (txt kvs)) (ok : HOk P w H h) :
    (d == sysModules) = false ∧ kvs.length ≤ sizeLine ∧ ∃ prs : List (Str × Value), Paired (fun (p : Str × V) (q : Str × Value) => p.1 = q.1 ∧ RelV p.2 q.2) kvs prs ∧ h.DictOf (mixKind P w) d (prs.map fun kv => (Sum.inr kv.1, kv.2)) := by
  obtain ⟨hd, hz, xs, rel, m, R⟩ := D.out ok
  have t : ∀ r ∈ xs, ∃ x, r.1 = .text x := fun r hr => by
    obtain ⟨p, hp, q⟩ := paired_mem rel hr
    obtain ⟨kv, hkv, rfl⟩ := List.mem_map.mp hp
    exact ⟨kv.1, q.1.symm⟩
  have dd := dictOf_of P m R t
  have e : xs.map rowK = (xs.map fun r => (textOf r.1, r.2.2)).map fun kv => ((Sum.inr kv.1, kv.2) : Key × Value) := by
    rw [List.map_map]
    rfl
  rw [e] at dd
  refine ⟨hd, by rw [txt, List.length_map] at hz; exact hz, _, ?_, dd⟩
  clear dd e m R D t hz
  unfold Vd.txt at rel
  induction kvs generalizing xs with
  | nil =>
    cases rel
    exact .nil
  | cons kv kvs ih =>
    cases rel with
    | cons h t =>
      obtain ⟨h1, h2, h3⟩ := h
      refine .cons ⟨?_, h3⟩ (ih _ t)
      show kv.1 = textOf _
      rw [← h1]
      rfl
/-- dict(d): a copy -/
theorem call_dictCV : CallR X (.type "dict") (fun xs H Q => ∃ (a : Addr) (kvs : List (Str × V)), xs = [.ref a] ∧ DAt X.w H a (txt kvs) ∧ ∀ p, H p = none → Q (.ref p) (upd H p (dV X.w p (txt kvs)))) := by
  intro pins s σ H xs us Q I r q
  obtain ⟨a, kvs, ex, D, q⟩ := q
  subst ex
  obtain ⟨u, eu, rx⟩ := vals1 r
  subst eu
  cases rx
  obtain ⟨lo, z, prs, rel, dd⟩ := D.txts I.hok
  refine kt_call_dict lo dd (by rw [List.length_map, ← rel.length]; exact z) fun h' d' hs => ?_
  have hm : (s.heap.objs.size == sysModules) = false := beq_eq_false_iff_ne.mpr (Nat.ne_of_gt I.big)
  obtain ⟨xs, hx, pr⟩ := holds_of d'
  exact ⟨.ref s.heap.objs.size, upd H s.heap.objs.size (dV X.w s.heap.objs.size (txt kvs)), I.laid (t' := s.toks) (fun b u e => (hs.2 b (Nat.ne_of_lt (Heap.lt_size e))).trans (Heap.get?_push_of_some _ e)) (Nat.le_refl _)
    (dV_ok hm (by unfold Vd.txt; rw [List.length_map]; exact z) (rel_txt rel pr) hx), rfl, q _ (I.hok.fresh (Nat.le_refl _))⟩
/-- sorted(d), fewer than 64 keys, all texts -/
theorem call_sortedV (hcalm : X.calm = true) : CallR X (.builtin "sorted") (fun xs H Q => ∃ (a : Addr) (kvs : List (Str × V)), xs = [.ref a] ∧ DAt X.w H a (txt kvs) ∧ kvs.length < 64 ∧
    ∀ ys p, ys.Perm (kvs.map (·.1)) → sortedS ys = true → H p = none → Q (.ref p) (upd H p (.lst (ys.map V.str)))) := by
  intro pins s σ H xs us Q I r q
  obtain ⟨a, kvs, ex, D, h64, q⟩ := q
  subst ex
  obtain ⟨u, eu, rx⟩ := vals1 r
  subst eu
  cases rx
  obtain ⟨lo, z, prs, rel, dd⟩ := D.txts I.hok
  obtain ⟨ep, hat⟩ := dd.dictAt
  have hk : prs.map (·.1) = kvs.map (·.1) := by
    clear dd hat D h64 q z
    induction rel with
    | nil => rfl
    | cons h t ih => rw [List.map_cons, List.map_cons, ih, h.1]
  have hl : prs.length = kvs.length := by
    have e := congrArg List.length hk
    rw [List.length_map, List.length_map] at e
    exact e
  have h16 : (prs.map fun kv => ((Sum.inr kv.1, kv.2) : Key × Value)).length ≤ sizeLine := by rw [List.length_map, hl, sizeLine_eq]; omega
  refine Calls.call_function_entry PyProof.Rows.kind_sorted PyProof.Rows.plain_sorted PyProof.Rows.entry_sorted (PyProof.Rows.args_sorted1 _) ?_
  unfold Builtin.«sorted»
  refine wpAny_bind (m := checkCount "sorted" 1 1 _) (wpAny_pure ?_)
  refine wpAny_bind (PySem.W.kdu_collect (A := X.A.in1) (PySem.W.kdl_dict (knd := mixKind X.prog X.w) (kvs := prs.map fun kv => ((Sum.inr kv.1, kv.2) : Key × Value)) (ep := ep) lo) (I.ok.hd hcalm) hat h16 fun h' tk acc hk' hacc => ?_)
  have hal : acc.toList.length = (kvs.map (·.1)).length := by rw [Array.length_toList, hacc.1, List.length_map, List.length_map, hl]
  have hS : StrsAre acc.toList (kvs.map (·.1)) := strs_at hal fun j v e => by
    obtain ⟨k, x, e1, e2⟩ := hacc.2 j v (by rw [← Array.getElem?_toList]; exact e)
    rw [List.getElem?_map] at e1
    obtain ⟨kv, e3, e4⟩ := Option.map_eq_some_iff.mp e1
    cases e4
    obtain ⟨t, ev⟩ := Value.isStrOf_shape (x := kv.1) (v := v) e2
    refine ⟨kv.1, t, ?_, ev⟩
    rw [← hk, List.getElem?_map, e3]
    rfl
  have I1 : Inv X pins σ H { s with heap := h', toks := tk } := I.kept hk'
  refine wpAny_bind (wpAny_newList ?_ (by rw [hal, List.length_map, sizeLine_eq]; omega))
  have hoL : (h'.push (seqObj "list" acc.toList.toArray 0)).get? h'.objs.size = some (seqObj "list" acc.toList.toArray 0) := Heap.get?_push_size _ rfl
  show wpAny _ _ _ _ _ { s with heap := h'.push (seqObj "list" acc.toList.toArray 0), toks := tk }
  refine wpAny_bind (wpAny_holding (wpAny_call_entry PyProof.Rows.slot_list_sort ⟨_, hoL, rfl⟩ PyProof.Rows.entry_list_sort
    (list_sort_treeK strKind_oneLt (s := { s with heap := h'.push (seqObj "list" acc.toList.toArray 0), toks := tk }) hoL hS.keysOf (fun v₁ v₂ rest e => keyKind_strs (by rw [← e]; exact hS)) (by rw [hal, List.length_map]; exact h64) fun st' hp hs => ⟨_, rfl, ?_⟩)
    (PyProof.Rows.args_list_sort _)))
  obtain ⟨ys, g1, g2, g3⟩ := sorted_out_str hS hp hs
  obtain ⟨e', he'⟩ := PyProof.Rows.sortedHeap_at (vs := acc.toList) (out := (arrOf st').map (·.2)) hoL
  have hlen : (ys.map V.str).length ≤ sizeLine := by
    rw [List.length_map, g2.length_eq, List.length_map]
    exact Nat.le_trans (Nat.le_of_lt h64) (by decide)
  refine wpAny_pure ⟨_, rfl, .ref h'.objs.size, upd H h'.objs.size (.lst (ys.map V.str)), I1.laid (t' := tk) (fun b u e => ?_) (Nat.le_refl _)
    (show ObjOk X.prog X.w _ _ _ (.lst (ys.map V.str)) from ⟨hlen, ((arrOf st').map (·.2)).toList, e', vals_of_strs g1, by rw [Array.toArray_toList]; exact he'⟩), rfl, q ys _ g2 g3 (I1.hok.fresh (Nat.le_refl _))⟩
  have hb : b < h'.objs.size := Heap.lt_size e
  rw [PyProof.Rows.sortedHeap_old (Nat.ne_of_lt hb) (by rw [size_push']; exact Nat.lt_succ_of_lt hb)]
  exact Heap.get?_push_of_some _ e
end
end Vd
/-! A pair of data and an object of one's own; dicts of texts made of such pairs, copied, sorted. -/
namespace Zl
open PySem PySem.Spec PyProof.Rows L2 Lf
section
variable {X : Cx}
abbrev dTupP (g : DTA) : DTE := fun ρ μ Q => g ρ μ fun xs μ1 => match xs with
  | [.dat k, .ptr a] => Q (.prt k a) μ1
  | _ => False
theorem d_tupP {es : List Expr} {g : DTA} {x1} {pos : Pos} (h : DA X es g) : DE X (.Tuple es x1 pos) (dTupP g) :=
  ⟨fun B => PE.weak (pe_tup (h.run B)) fun _ _ _ h => by
    obtain ⟨hv, hx, ρ, μ, Q0, hl, R0, h, low⟩ := h
    refine ⟨hv, hx, ρ, μ, _, hl, R0, h, fun xs μ1 h1 vs H1 l R1 => ?_⟩
    match xs, h1, l, R1 with
    | [.dat k, .ptr a], h1, l, R1 =>
      have ez : sizeLine = 16777216 := by decide +kernel
      match vs, l, R1 with
      | [u, v], l, R1 =>
        refine ⟨by rw [ez]; show 2 ≤ _; decide, fun p hp => ?_⟩
        obtain ⟨R2, g, ep⟩ := R1.newZ (o := .tup [u, v]) hp
        have hu : Dz _ u k := R1.head
        cases (R1.tail.head : v = .ref a)
        exact low _ _ h1 _ _ (R2.tail.tail.cons (x := .prt k a) ⟨p, u, rfl, ep, Dz.mono g _ _ hu⟩)⟩
/-- keys that are texts -/
def txtZ (kvs : List (Str × Val)) : List (NestedKey × Val) := kvs.map fun kv => (.text kv.1, kv.2)
theorem key_text (x : Str) : Vd.KeyOk (.text x) := ⟨by show 0 ≤ 8; decide, fun _ _ => trivial⟩
theorem txt_rk {K : PySem.W.Frag} {Z : Hp} {ks : List Vd.KVR} {kvs : List (Str × Val)} (h : Paired (RK K Z) ks (txtZ kvs)) : ∃ vs : List (Str × V), ks = Vd.txt vs ∧ Paired (fun (p : Str × V) (q : Str × Val) => p.1 = q.1 ∧ RV K Z p.2 q.2) vs kvs := by
  induction kvs generalizing ks with
  | nil =>
    cases h
    exact ⟨[], rfl, .nil⟩
  | cons kv kvs ih =>
    cases h with
    | @cons p _ _ _ h t =>
      obtain ⟨vs, e, r⟩ := ih t
      obtain ⟨p1, p2, p3⟩ := p
      obtain ⟨h1, h2, h3, h4⟩ := h
      dsimp only at h1 h2 h3 h4
      subst h1
      cases (h3 : p2 = V.str kv.1)
      exact ⟨(kv.1, p3) :: vs, by rw [e]; rfl, .cons ⟨rfl, h4⟩ r⟩
theorem rk_txt {K : PySem.W.Frag} {Z : Hp} {vs : List (Str × V)} {kvs : List (Str × Val)} (h : Paired (fun (p : Str × V) (q : Str × Val) => p.1 = q.1 ∧ RV K Z p.2 q.2) vs kvs) : Paired (RK K Z) (Vd.txt vs) (txtZ kvs) := by
  induction h with
  | nil => exact .nil
  | cons h t ih => exact .cons ⟨congrArg _ h.1, key_text _, rfl, h.2⟩ ih
theorem txt_keys {vs : List (Str × V)} {K : PySem.W.Frag} {Z : Hp} {kvs : List (Str × Val)} (h : Paired (fun (p : Str × V) (q : Str × Val) => p.1 = q.1 ∧ RV K Z p.2 q.2) vs kvs) : vs.map (·.1) = kvs.map (·.1) := by
  induction h with
  | nil => rfl
  | cons h t ih => rw [List.map_cons, List.map_cons, ih, h.1]
theorem txt_nd {vs : List (Str × V)} (h : (vs.map (·.1)).Nodup) : ((Vd.txt vs).map (·.1)).Nodup := by
  unfold Vd.txt
  rw [List.map_map]
  have : (vs.map ((fun x => x.1) ∘ fun kv => ((NestedKey.text kv.1, V.str kv.1, kv.2) : Vd.KVR))) = (vs.map (·.1)).map NestedKey.text := by
    rw [List.map_map]
    rfl
  rw [this]
  exact h.map _ (fun a b h e => h (by injection e))
/-- dict(xs), xs pairs of unlike texts and own objects -/
def zDictP : List Val → Store → DK → Prop := fun xs μ Q => match xs with
  | [.ptr l] => ∃ (j : Nat) (hs : List (Str × Addr)), μ[j]? = some (l, Node.lst (hs.map fun h => Val.prt (.str h.1) h.2)) ∧ (hs.map (·.1)).Nodup ∧ ∀ p, Q (.ptr p) (μ ++ [(p, .dv (txtZ (hs.map fun h => (h.1, .ptr h.2))))])
  | _ => False
theorem prt_pairs {K : PySem.W.Frag} {Z H : Hp} (hz : ∀ x o, Z x = some o → H x = some o) : ∀ {vs : List V} {hs : List (Str × Addr)}, RVs K Z vs (hs.map fun h => Val.prt (.str h.1) h.2) →
    ∃ ps : List Addr, vs = ps.map V.ref ∧ Paired (fun p (kv : Str × V) => SqT K H p [.str kv.1, kv.2]) ps (hs.map fun h => (h.1, V.ref h.2))
  | [], [], _ => ⟨[], rfl, .nil⟩
  | _ :: _, [], h => by cases h
  | [], _ :: _, h => by cases h
  | v :: vs, h :: hs, hp => by
    cases hp with
    | cons h1 t =>
      obtain ⟨ps, e, r⟩ := prt_pairs hz t
      obtain ⟨p, u, rfl, ez, hu⟩ := h1
      cases (hu : Dz Z u (.str h.1))
      exact ⟨p :: ps, by rw [e]; rfl, .cons (SqT.of (hz _ _ ez)) r⟩
theorem ca_dictP (hc : X.calm = true) : CaZ X (.type "dict") zDictP := ⟨_, Vd.call_dictPV hc, fun B σ ρ H μ vs xs Q0 Q l R q low => by
  unfold zDictP at q
  split at q
  · obtain ⟨j, hs, hj, nd, q⟩ := q
    obtain ⟨v, rfl, R⟩ := one_arg' l R
    obtain ⟨us, e, pr⟩ := R.at hj
    cases (R.head : v = .ref _)
    obtain ⟨ps, rfl, r⟩ := prt_pairs fz_le pr
    refine ⟨_, ps, hs.map fun h => (h.1, V.ref h.2), rfl, SqL.of e, r, by rw [List.map_map]; exact nd, fun p hp => low _ _ (q p) _ _ ?_⟩
    have r2 : Paired (fun (p : Str × V) (q : Str × Val) => p.1 = q.1 ∧ RV X.K (Fz (B.fr ++ μ) H) p.2 q.2) (hs.map fun h => (h.1, V.ref h.2)) (hs.map fun h => (h.1, Val.ptr h.2)) := by
      clear q nd r hj e pr
      induction hs with
      | nil => exact .nil
      | cons h hs ih => exact .cons ⟨rfl, rfl⟩ ih
    have R9 := R.tail.new (n := .dv (txtZ (hs.map fun h => (h.1, Val.ptr h.2)))) (o := Vd.dV X.w p (Vd.txt (hs.map fun h => (h.1, V.ref h.2)))) hp ⟨Vd.txt (hs.map fun h => (h.1, V.ref h.2)), upd_same, txt_nd (by rw [List.map_map]; exact nd), rk_txt r2⟩
    exact R9.cons (x := .ptr p) rfl
  · exact q.elim⟩
/-- dict(d): a copy of an own dict of texts -/
def zDictC : List Val → Store → DK → Prop := fun xs μ Q => match xs with
  | [.ptr d] => ∃ kvs : List (Str × Val), DvAt μ d (txtZ kvs) ∧ ∀ p, Q (.ptr p) (μ ++ [(p, .dv (txtZ kvs))])
  | _ => False
theorem ca_dictC : CaZ X (.type "dict") zDictC := ⟨_, Vd.call_dictCV, fun B σ ρ H μ vs xs Q0 Q l R q low => by
  unfold zDictC at q
  split at q
  · obtain ⟨kvs, h, q⟩ := q
    obtain ⟨v, rfl, R⟩ := one_arg' l R
    obtain ⟨ks, D, pr⟩ := h.at R
    cases (R.head : v = .ref _)
    obtain ⟨us, rfl, r⟩ := txt_rk pr
    exact ⟨_, us, rfl, D, fun p hp => low _ _ (q p) _ _ ((R.tail.new (n := .dv (txtZ kvs)) hp ⟨_, upd_same, D.nd, rk_txt r⟩).cons rfl)⟩
  · exact q.elim⟩
/-- sorted(d) of an own dict of texts -/
def zSortT : List Val → Store → DK → Prop := fun xs μ Q => match xs with
  | [.ptr d] => ∃ kvs : List (Str × Val), DvAt μ d (txtZ kvs) ∧ kvs.length < 64 ∧ ∀ ys p, ys.Perm (kvs.map (·.1)) → sortedS ys = true → Q (.ptr p) (μ ++ [(p, .lst (ys.map fun y => Val.dat (.str y)))])
  | _ => False
theorem ca_sortT (hc : X.calm = true) : CaZ X (.builtin "sorted") zSortT := ⟨_, Vd.call_sortedV hc, fun B σ ρ H μ vs xs Q0 Q l R q low => by
  unfold zSortT at q
  split at q
  · obtain ⟨kvs, h, h64, q⟩ := q
    obtain ⟨v, rfl, R⟩ := one_arg' l R
    obtain ⟨ks, D, pr⟩ := h.at R
    cases (R.head : v = .ref _)
    obtain ⟨us, rfl, r⟩ := txt_rk pr
    refine ⟨_, us, rfl, D, by rw [r.length]; exact h64, fun ys p hy hs hp => low _ _ (q ys p (by rw [← txt_keys r]; exact hy) hs) _ _ ?_⟩
    refine (R.tail.new (n := .lst (ys.map fun y => Val.dat (.str y))) hp ⟨_, upd_same, ?_⟩).cons rfl
    clear hy hs
    induction ys with
    | nil => exact .nil
    | cons y ys ih => exact .cons (.str y) ih
  · exact q.elim⟩
end
end Zl
/-! One own object is handed over, other lists are lent: what comes back is made of no list. -/
namespace Zl
open PySem PySem.Spec PyProof.Rows L2 Lf
section
variable {X : Cx}
inductive LentX (μ : Store) (j0 : Nat) : Val → Val → Prop
  | keep (x : Val) : LentX μ j0 x x
  | p (j : Nat) {a : Addr} {xs : List Val} {ds : List PyData} : j ≠ j0 → μ[j]? = some (a, .lst xs) → datOf xs = some ds → LentX μ j0 (.ptr a) (.dat (.list ds))
def lend1 (F : DSp) (xs : List Val) (μ : Store) (Q : DK) : Prop := ∃ (j : Nat) (a : Addr) (n : Node) (ys : List Val), μ[j]? = some (a, n) ∧ Paired (LentX μ j) xs ys ∧ F ys [(a, n)] fun x ν => ∃ n' ext, ν = (a, n') :: ext ∧ (flatV x ∧ flatN n' ∧ ∀ p ∈ ext, flatN p.2) ∧ Q x (μ.set j (a, n') ++ ext)
theorem addr_one {μ : Store} (nd : (μ.map (·.1)).Nodup) {i j : Nat} {a : Addr} {n m : Node} (hi : μ[i]? = some (a, n)) (hj : μ[j]? = some (a, m)) : i = j := by
  have h1 : (μ.map (·.1))[i]? = some a := by rw [List.getElem?_map, hi]; rfl
  have h2 : (μ.map (·.1))[j]? = some a := by rw [List.getElem?_map, hj]; rfl
  exact (List.getElem?_inj (List.getElem?_eq_some_iff.mp h1).1 nd).mp (h1.trans h2.symm)
theorem lentX_all {B : Base} {H : Hp} {μ : Store} {σ : List (Option V)} {ρ : DR} {j0 : Nat} {a : Addr} {n : Node} (R : RL X.w X.K B H σ ρ μ) (hj0 : μ[j0]? = some (a, n)) :
    ∀ {vs : List V} {xs ys : List Val}, Paired (LentX μ j0) xs ys → Paired (RVo X.K (Fz (B.fr ++ μ) H)) (vs.map some) (xs.map some) → Paired (RVo X.K (Fz [(a, n)] H)) (vs.map some) (ys.map some)
  | [], [], _, .nil, _ => .nil
  | [], _ :: _, _, _, h => by cases h
  | _ :: _, [], _, _, h => by cases h
  | v :: vs, x :: xs, _, .cons l t, h => by
    have ha : a ∈ (B.fr ++ μ).map (·.1) := List.mem_map.mpr ⟨_, List.mem_append_right _ (List.mem_of_getElem? hj0), rfl⟩
    have g : ∀ x o, Fz (B.fr ++ μ) H x = some o → Fz [(a, n)] H x = some o := fun x o h => by
      obtain ⟨h1, h2⟩ := Fz.sub h
      refine Fz.of (fun z => h1 ?_) h2
      rw [List.map_singleton, List.mem_singleton] at z
      rw [z]
      exact ha
    have nd := R.nd
    rw [List.map_append, List.nodup_append] at nd
    cases h with
    | cons r h =>
      refine .cons ?_ (lentX_all R hj0 t h)
      have r : RV X.K (Fz (B.fr ++ μ) H) v x := r
      show RV X.K _ v _
      cases l with
      | keep x => exact RV.mono g r
      | p j ne hj hd =>
        obtain ⟨vs, e, pr⟩ := R.at hj
        cases (r : v = .ref _)
        refine .lst (Fz.of (fun z => ?_) e) (DzAll.mono g _ _ (datOf_all pr hd))
        rw [List.map_singleton, List.mem_singleton] at z
        have z : _ = a := z
        subst z
        exact ne (addr_one nd.2.1 hj hj0)
theorem lend1_call {B : Base} {H : Hp} {σ : List (Option V)} {ρ : DR} {μ : Store} {vs : List V} {xs : List Val} {F : DSp} {Q0 : DK} {Q : VK} (l : vs.length = xs.length) (R : RL X.w X.K B H (vs.map some ++ σ) (xs.map some ++ ρ) μ) (h : lend1 F xs μ Q0) (low : Low X B σ ρ Q0 Q) : spZ X.w X.K (Cl F) vs H Q E0 := by
  obtain ⟨j, a, n, ys, hj, le, f⟩ := h
  have sl := (paired_split (by simp [l]) R.sl).1
  have sr := (paired_split (by simp [l]) R.sl).2
  have ly : xs.length = ys.length := le.length
  have rel := lentX_all R hj le sl
  have ha : a ∈ (B.fr ++ μ).map (·.1) := List.mem_map.mpr ⟨_, List.mem_append_right _ (List.mem_of_getElem? hj), rfl⟩
  have g : ∀ x o, Fz (B.fr ++ μ) H x = some o → Fz [(a, n)] H x = some o := fun x o h => by
    obtain ⟨h1, h2⟩ := Fz.sub h
    refine Fz.of (fun z => h1 ?_) h2
    rw [List.map_singleton, List.mem_singleton] at z
    rw [z]
    exact ha
  refine ⟨⟨Fz [(a, n)] H, []⟩, ys, [(a, n)], _, by omega, ⟨by simp, fun x o h => h, rel, fun p hp => ?_⟩, ⟨_, f, fun x ν q => q⟩, fun x ν ⟨n', ext, eν, ⟨fx, fn', fe⟩, q⟩ v H' R2 => low x _ q v H' ?_⟩
  · rw [List.mem_singleton.mp (show p ∈ [(a, n)] from hp)]
    exact (R.at hj).mono g rfl
  subst eν
  have ndm := R.nd
  rw [List.map_append, List.nodup_append] at ndm
  have nd2 : (((a, n') :: ext).map (·.1)).Nodup := R2.nd
  rw [List.map_cons, List.nodup_cons] at nd2
  have b2 : ∀ x o, x ≠ a → H x = some o → x ∉ ((a, n') :: ext).map (·.1) ∧ H' x = some o := fun x o ne e => Fz.sub (R2.base x o (Fz.of (fun z => ne (by rw [List.map_singleton, List.mem_singleton] at z; exact z)) e))
  have same : ∀ q ∈ B.fr ++ μ, q.1 ≠ a → q.1 ∉ ((a, n') :: ext).map (·.1) ∧ H' q.1 = H q.1 := fun q hq ne => by
    cases e : H q.1 with
    | none => exact absurd e (R.st q hq).live
    | some o => exact b2 _ _ ne e
  have em : (B.fr ++ μ.set j (a, n')).map (·.1) = (B.fr ++ μ).map (·.1) := by rw [List.map_append, List.map_append, map_set_fst hj]
  have nin : ∀ x, x ∉ (B.fr ++ μ).map (·.1) → x ∉ ext.map (·.1) → x ∉ (B.fr ++ (μ.set j (a, n') ++ ext)).map (·.1) := fun x h1 h2 z => by
    rw [← List.append_assoc, List.map_append, em] at z
    exact (List.mem_append.mp z).elim h1 h2
  have g3 : ∀ x o, Fz (B.fr ++ μ) H x = some o → Fz (B.fr ++ (μ.set j (a, n') ++ ext)) H' x = some o := fun x o h => by
    obtain ⟨h1, h2⟩ := Fz.sub h
    obtain ⟨h3, h4⟩ := b2 x o (fun e => h1 (by rw [e]; exact ha)) h2
    exact Fz.of (nin x h1 fun z => h3 (List.mem_cons_of_mem _ z)) h4
  have tp : Vd.Tups (Fz ((a, n') :: ext) H') (Fz (B.fr ++ (μ.set j (a, n') ++ ext)) H') := fun x us e => by
    obtain ⟨h1, h2⟩ := Fz.sub e
    have hne : x ≠ a := fun z => h1 (by rw [z]; exact List.mem_cons_self ..)
    refine Fz.of (nin x (fun z => ?_) fun z => h1 (List.mem_cons_of_mem _ z)) h2
    obtain ⟨q, hq, rfl⟩ := List.mem_map.mp z
    rw [(same q hq hne).2] at h2
    exact (R.st q hq).noTup h2
  refine ⟨?_, fun x o h => g3 _ _ (R.base x o h), .cons (RV.keep (v := v) tp fx R2.head) (L2.Paired.mapP sr fun _ _ => RVo.mono g3), fun q hq => ?_⟩
  · rw [← List.append_assoc, List.map_append, em, List.nodup_append]
    refine ⟨R.nd, nd2.2, fun x hx y hy e => ?_⟩
    obtain ⟨q, hq, rfl⟩ := List.mem_map.mp hx
    by_cases c : q.1 = a
    · exact nd2.1 (by rw [← c, e]; exact hy)
    · exact (same q hq c).1 (by rw [e]; exact List.mem_cons_of_mem _ hy)
  · rw [← List.append_assoc] at hq
    rcases List.mem_append.mp hq with hq | hq
    · rcases List.mem_append.mp hq with hq | hq
      · have ne : q.1 ≠ a := fun e => ndm.2.2 _ (List.mem_map_of_mem hq) a (List.mem_map_of_mem (List.mem_of_getElem? hj)) e
        exact (R.st q (List.mem_append_left _ hq)).mono g3 (same q (List.mem_append_left _ hq) ne).2
      · obtain ⟨i, hi, rfl⟩ := List.mem_iff_getElem.mp hq
        rw [List.length_set] at hi
        by_cases e : j = i
        · subst e
          rw [List.getElem_set_self]
          exact RN.keep tp fn' (R2.st (a, n') (List.mem_cons_self ..))
        · rw [List.getElem_set_ne e]
          have hm : μ[i] ∈ B.fr ++ μ := List.mem_append_right _ (List.getElem_mem hi)
          have ne : μ[i].1 ≠ a := fun z => e ((addr_one ndm.2.1 (n := n) (m := μ[i].2) hj (by rw [List.getElem?_eq_getElem hi, ← z])))
          exact (R.st _ hm).mono g3 (same _ hm ne).2
    · exact RN.keep tp (fe q hq) (R2.st q (List.mem_cons_of_mem _ hq))
abbrev dOwnM (F : DSp) (g : DTA) : DTE := fun ρ μ Q => g ρ μ fun xs μ1 => lend1 F xs μ1 Q
variable {k : Nat} {ps : List Str} {F : DSp} {x : Str} {e : Expr} {es : List Expr} {g : DTA} {p pos : Pos}
theorem d_ownM (M : CalZ X.prog X.w X.K X.mg X.base k x ps F) (hr : Room k X.A) (hg : Gl X x) (ha : DA X (e :: es) g)
    (hdb : (x == ("__debug__" : Str)) = false := by decide) (he : starEach (e :: es) X.env = (false, eval e X.env) :: starEach es X.env := by rfl) (hpl : (backTo pos (starEach es X.env)).any (·.1) = false := by rfl) :
    DE X (.Call (.Name x p) (e :: es) [] pos) (dOwnM F g) :=
  ⟨fun B => PE.weak (pe_own (cal_cl M) hr hg (ha.run B) hdb he hpl) fun σ H Q ⟨hv, hx, ρ, μ, Q0, hl, R0, h, low⟩ => by
    refine ⟨hv, hx, ρ, μ, _, hl, R0, h, fun xs μ1 h1 vs H1 l R1 => ?_⟩
    show spZ _ _ _ (vs ++ []) _ _ _
    rw [List.append_nil]
    exact lend1_call l R1 h1 low⟩
end
end Zl
/-! max(x, y) of data. -/
namespace Zo
open PySem PySem.W PySem.SeqAt PyProof.Rows PySem.Calls
section
variable {prog : Program} {w : World} {A : Around} {E : Value → Shared → Prop} {s : Shared}
theorem call_max_twoH {a b : Value} {Q : Value → Shared → Prop}
    (h : wpAny (model prog w) A.in1 (pyIter (.ref s.heap.objs.size)) (fun it s₂ => ∃ I fp wr G n P St H bt, it = .ref I ∧ WalksS prog w A.in1 I fp wr G n P St ∧ St 0 s₂ ∧ (∀ b ∈ fp, b < s₂.heap.objs.size) ∧ 0 < n ∧
      (∀ b o, H.get? b = some o → b ∉ wr) ∧ (∀ b o, H.get? b = some o → s₂.heap.get? b = some o) ∧ CmpIn prog w A.in1 .Gt H P bt ∧ ∀ v s', P (argBest bt (n - 1)) v → Moved wr G s₂ s' → Q v s') E
      { s with heap := s.heap.push { cls := .type "tuple", data := .seq #[a, b] } }) :
    wpAny (model prog w) A (call (.builtin "max") [a, b]) Q E s := by
  have hname : (toString "max" ++ toString ".loop" : String) = "max.loop" := by decide
  refine call_function_tree F.kind_max F.plain_max F.entry_max (F.args_max2 _ _) ?_
  show wpAny _ A.in1 (Builtin.Builtins.bindParams "max" ["key", "default"] 0 ⟨[], []⟩ >>= _) _ _ s
  refine wpAny_bind (wpAny_of_eq (show Builtin.Builtins.bindParams "max" ["key", "default"] 0 ⟨[], []⟩ = pure [none, none] from rfl) ?_)
  show wpAny _ A.in1 (newTuple [a, b] >>= _) _ _ s
  refine wpAny_bind (wpAny_newObj_type ?_)
  refine wpAny_bind (wpAny_mono h (fun it s₂ h₂ => ?_) fun _ _ e => e)
  obtain ⟨I, fp, wr, G, n, P, St, H, bt, rfl, W, hst, hfp, hn, hw, hkeep, hcmp, hQ⟩ := h₂
  refine wpAny_bind (wpAny_newObj_type ?_)
  have hSf : s₂.heap.objs.size ∉ fp := fun hm => Nat.lt_irrefl _ (hfp _ hm)
  rw [hname]
  refine wpAny_pure ⟨plainId_quiet F.plain_max_loop _, codeAny_max_loop_firstH W H hw bt hcmp s₂.heap.objs.size hSf (fresh_in hkeep) _ hn (fun b o e => Heap.get?_push_of_some _ (hkeep b o e)) (W.frame 0 s₂ _ s₂.toks hst (Nat.le_refl _) fun b _ o e => Heap.get?_push_of_some _ e) (Heap.get?_push_size _ rfl) fun v s' hP hm => ?_⟩
  exact hQ v s' hP (Moved.drop_new (tk := s₂.toks) hm (Nat.le_refl _))
theorem max_two_data {u v : Value} {d e : PyData} {as bs : List Addr} {Q : Value → Shared → Prop} (hh : A.handled = none) (r1 : Reads s.heap u d as) (r2 : Reads s.heap v e bs) (ha : AlikeAll [d, e]) (hu : A.units + 1 + PyData.depthAll [d, e] < cLine)
    (h : ∀ h' tk, (∀ b o, s.heap.get? b = some o → h'.get? b = some o) → Q (if dataLt d e = true then v else u) { s with heap := h', toks := tk }) : wpAny (model prog w) A (call (.builtin "max") [u, v]) Q E s := by
  have k0 : ∀ b o, s.heap.get? b = some o → (s.heap.push { cls := .type "tuple", data := .seq #[u, v] }).get? b = some o := fun b o e => Heap.get?_push_of_some _ e
  have hl : (s.heap.push { cls := .type "tuple", data := .seq #[u, v] }).IsTuple s.heap.objs.size #[u, v] := ⟨_, Heap.get?_push_size _ rfl, rfl, 0, rfl⟩
  have hr : ∃ cs, ReadsAll (s.heap.push { cls := .type "tuple", data := .seq #[u, v] }) (#[u, v] : Array Value).toList [d, e] cs := ⟨_, .cons (reads_keeps k0 r1) (.cons (reads_keeps k0 r2) .nil)⟩
  obtain ⟨cs, hr⟩ := hr
  refine call_max_twoH (iter_tupleW (A := A.in1) hh hl fun s₂ es2 W st hfp hw hk => ?_)
  refine ⟨_, _, _, _, _, _, _, s.heap.push { cls := .type "tuple", data := .seq #[u, v] }, _, rfl, W, st, hfp, by show 0 < 2; decide, hw, hk, cmpIn_gt (A := A.in1) (s := { s with heap := s.heap.push { cls := .type "tuple", data := .seq #[u, v] } }) hr ha (by show A.units + 1 + _ < _; exact hu), fun z s' hP m => ?_⟩
  obtain ⟨h', tk, rfl, hk'⟩ := moved_old es2 rfl m
  have hz : z = if dataLt d e = true then v else u := by
    have hP' : (#[u, v] : Array Value)[if dataLt d e = true then 1 else 0]? = some z := hP
    by_cases c : dataLt d e = true
    · rw [if_pos c] at hP' ⊢
      exact (Option.some.inj hP').symm
    · rw [if_neg c] at hP' ⊢
      exact (Option.some.inj hP').symm
  rw [hz]
  exact h h' tk fun b o eb => hk' b o (k0 b o eb)
end
end Zo
namespace Zl
open PySem PySem.Spec PyProof.Rows L2 Lf
section
variable {X : Cx}
/-- max(x, y), x and y data of one kind -/
def rMaxD (K : PySem.W.Frag) : List V → Hp → VK → Prop := fun vs H Q => ∃ (x y : V) (d e : PyData), vs = [x, y] ∧ Dp K H x d ∧ Dp K H y e ∧ PySem.W.AlikeAll [d, e] ∧ d.depth ≤ 50 ∧ e.depth ≤ 50 ∧ Q (if PySem.W.dataLt d e = true then y else x) H
theorem call_maxD (hc : X.calm = true) (hu : X.A.units + 64 < cLine) : CallR X (.builtin "max") (rMaxD X.K) := by
  intro pins s σ H xs us Q I r h
  obtain ⟨x, y, d, e, rfl, hd, he, al, dd, de, q⟩ := h
  obtain ⟨u, v, rfl, r1, r2⟩ := vals2 r
  obtain ⟨as, rd⟩ := Dp.reads I d _ u hd r1
  obtain ⟨bs, re⟩ := Dp.reads I e _ v he r2
  refine Zo.max_two_data (I.ok.hd hc) rd re al ?_ fun h' tk k => ⟨_, H, I.kept k, ?_, q⟩
  · have : PyData.depthAll [d, e] ≤ 50 := by
      rw [PyData.depthAll.eq_2, PyData.depthAll.eq_2, PyData.depthAll.eq_1]
      omega
    omega
  · by_cases c : PySem.W.dataLt d e = true
    · rw [if_pos c, if_pos c]
      exact r2
    · rw [if_neg c, if_neg c]
      exact r1
def zMaxD : List Val → Store → DK → Prop := fun xs μ Q => match xs with
  | [.dat d, .dat e] => PySem.W.AlikeAll [d, e] ∧ d.depth ≤ 50 ∧ e.depth ≤ 50 ∧ Q (.dat (if PySem.W.dataLt d e = true then e else d)) μ
  | _ => False
theorem ca_maxD (hc : X.calm = true) (hu : X.A.units + 64 < cLine) : CaZ X (.builtin "max") zMaxD := ⟨_, call_maxD hc hu, fun B σ ρ H μ vs xs Q0 Q l R q low => by
  match xs, vs, l, R, q with
  | [.dat d, .dat e], [v, u], l, R, q =>
    obtain ⟨al, dd, de, q⟩ := q
    have R : RL X.w X.K B H (some v :: some u :: σ) (some (.dat d) :: some (.dat e) :: ρ) μ := R
    have h1 : Dz _ v d := R.head
    have h2 : Dz _ u e := R.tail.head
    refine ⟨v, u, d, e, rfl, Dz.dp _ _ (Dz.mono fz_le _ _ h1), Dz.dp _ _ (Dz.mono fz_le _ _ h2), al, dd, de, low _ _ q _ _ (R.tail.tail.cons ?_)⟩
    by_cases c : PySem.W.dataLt d e = true
    · rw [if_pos c, if_pos c]
      exact h2
    · rw [if_neg c, if_neg c]
      exact h1⟩
end
end Zl
/-! sorted(d), d a dict whose keys are data of one kind. -/
namespace Vd
open PySem PySem.Spec PyProof.Rows L2
/-- a key with its data -/
def keyB (kvs : List KVR) : List (V × PyData) := kvs.map fun p => (p.2.1, Zl.datK p.1)
theorem keys_acc {w : World} {es : Array DictEntry} {ks : List Row} (he : es.toList = ks.map (ent w)) {acc : Array Value} (it : ItemsOf (fun i v => ∃ en : DictEntry, es[i]? = some en ∧ v = en.key) acc es.size) : acc.toList = ks.map fun x => x.2.1 := by
  have l1 : es.size = ks.length := ent_size he
  have hl : acc.toList.length = ks.length := by rw [Array.length_toList, it.1]; exact l1
  apply List.ext_getElem?
  intro j
  rw [List.getElem?_map]
  cases hj : acc.toList[j]? with
  | none =>
    have h1 := List.getElem?_eq_none_iff.mp hj
    rw [List.getElem?_eq_none (by omega)]
    rfl
  | some v =>
    obtain ⟨en, hen, hv⟩ := it.2 j v (by rw [← Array.getElem?_toList]; exact hj)
    have qe := ent_at he j
    rw [hen] at qe
    cases hb : ks[j]? with
    | none =>
      rw [hb] at qe
      exact nomatch (show some en = none from qe)
    | some b =>
      rw [hb] at qe
      have e2 : en = ent w b := Option.some.inj qe
      rw [hv, e2]
      rfl
theorem call_sortedVD {X : Cx} (hc : X.calm = true) (hu : X.A.units + 64 < cLine) : CallR X (.builtin "sorted") (fun xs H Q => ∃ d kvs, xs = [V.ref d] ∧ DAt X.w H d kvs ∧ PySem.W.AllAlike (kvs.map fun p => Zl.datK p.1) ∧ PySem.W.Sortable (kvs.map fun p => Zl.datK p.1) ∧ (∀ p ∈ kvs, (Zl.datK p.1).depth ≤ 50) ∧
    ∀ p, H p = none → Q (.ref p) (upd H p (.lst (((keyB kvs).mergeSort (PySem.W.dataLe false (·.2))).map (·.1))))) := by
  intro pins s σ H xs us Q I r h
  obtain ⟨d, kvs, rfl, D, al, so, dep, q⟩ := h
  obtain ⟨u, rfl, rx⟩ := r.one
  cases rx
  obtain ⟨hs, z, ks, pr, ⟨o, es, ep, ho, hx, hdt, he⟩, R⟩ := D.out I.hok
  have l1 : es.size = ks.length := ent_size he
  have l2 : kvs.length = ks.length := Paired.length pr
  refine Calls.call_function_entry PyProof.Rows.kind_sorted PyProof.Rows.plain_sorted PyProof.Rows.entry_sorted (PyProof.Rows.args_sorted1 _) ?_
  unfold Builtin.«sorted»
  refine wpAny_bind (m := checkCount "sorted" 1 1 _) (wpAny_pure ?_)
  refine wpAny_bind (PySem.W.kdu_collect (A := X.A.in1) (kdl_raw hs hx hdt) (I.ok.hd hc) ho (by omega) fun h' tk acc hk it => ?_)
  have ea := keys_acc he it
  have rv : Vals ((keyB kvs).map (·.1)) acc.toList := by
    rw [ea]
    unfold keyB
    rw [List.map_map]
    exact rel_vals pr
  have e := Dt.each_in rv
  have kat : ∀ b ∈ keyB kvs, Dp X.K H b.1 b.2 := fun b hb => by
    obtain ⟨p, hp, rfl⟩ := List.mem_map.mp hb
    have k := (D.ok p hp).2
    exact Zl.Dz.dp _ _ (Zl.dz_key p.1 p.2.1 k)
  have hal : acc.toList.length = kvs.length := by
    rw [ea, List.length_map]
    exact l2.symm
  have zl : kvs.length ≤ sizeLine := z
  refine wpAny_bind (wpAny_newList ?_ (by rw [hal]; exact zl))
  have hoL : (h'.push (seqObj "list" acc.toList.toArray 0)).get? h'.objs.size = some (seqObj "list" acc.toList.toArray 0) := Heap.get?_push_size _ rfl
  show wpAny _ _ _ _ _ { s with heap := h'.push (seqObj "list" acc.toList.toArray 0), toks := tk }
  have keep : ∀ b o, s.heap.get? b = some o → (PySem.W.sortingHeap (h'.push (seqObj "list" acc.toList.toArray 0)) h'.objs.size acc.toList).get? b = some o := fun b o eb => by
    have h1 := hk b o eb
    have h2 : b ≠ h'.objs.size := Nat.ne_of_lt (Heap.lt_size h1)
    exact PySem.W.sortingHeap_old h2 (Heap.get?_push_of_some _ h1)
  have er' : PySem.W.EachIs (fun v (b : V × PyData) => ∃ as, Reads (PySem.W.sortingHeap (h'.push (seqObj "list" acc.toList.toArray 0)) h'.objs.size acc.toList) v b.2 as) acc.toList (keyB kvs) := Dt.each_both e fun v b m rb => by
    obtain ⟨as, r⟩ := Dp.reads I b.2 b.1 v (kat b m) rb
    exact ⟨as, PyProof.Rows.Reads.keeps keep r⟩
  have al' : PySem.W.AllAlike ((keyB kvs).map (·.2)) := by
    unfold keyB
    rw [List.map_map]
    exact al
  have so' : PySem.W.Sortable ((keyB kvs).map (·.2)) := by
    unfold keyB
    rw [List.map_map]
    exact so
  have dep' : ∀ b, b ∈ keyB kvs → X.A.in1.in1.units + b.2.depth < cLine := fun b hb => by
    obtain ⟨p, hp, rfl⟩ := List.mem_map.mp hb
    have := dep p hp
    show X.A.units + 1 + 1 + (Zl.datK p.1).depth < cLine
    omega
  refine wpAny_bind (wpAny_holding (wpAny_call_entry PyProof.Rows.slot_list_sort ⟨_, hoL, rfl⟩ PyProof.Rows.entry_list_sort (PySem.W.list_sort_vals (κ := PySem.W.dataKind (PySem.W.sortingHeap (h'.push (seqObj "list" acc.toList.toArray 0)) h'.objs.size acc.toList) ((keyB kvs).map (·.2))) hoL
    (PySem.W.SortsAt.data (s := { s with heap := PySem.W.sortingHeap (h'.push (seqObj "list" acc.toList.toArray 0)) h'.objs.size acc.toList, toks := tk }) (PySem.W.each_map (R := fun v d => ∃ as, Reads (PySem.W.sortingHeap (h'.push (seqObj "list" acc.toList.toArray 0)) h'.objs.size acc.toList) v d as) (fun b : V × PyData => b.2) er') al' so' (PySem.W.bound_map dep')) (by rw [hal]; exact zl) ⟨.none, rfl, ?_⟩) (PyProof.Rows.args_list_sort _)))
  have eo := PySem.W.sortVals_data (enc := fun b : V × PyData => b.2) false e er' al'
  have I1 : Inv X pins σ H { s with heap := h', toks := tk } := I.kept hk
  obtain ⟨e', he'⟩ := PyProof.Rows.sortedHeap_at (vs := acc.toList) (out := (PySem.W.sortVals (PySem.W.dataKind (PySem.W.sortingHeap (h'.push (seqObj "list" acc.toList.toArray 0)) h'.objs.size acc.toList) ((keyB kvs).map (·.2))) false acc.toList acc.toList).toArray) hoL
  have hlen : (((keyB kvs).mergeSort (PySem.W.dataLe false (·.2))).map (·.1)).length ≤ sizeLine := by
    rw [List.length_map, List.length_mergeSort]
    unfold keyB
    rw [List.length_map]
    exact zl
  refine wpAny_pure ⟨_, rfl, .ref h'.objs.size, upd H h'.objs.size (.lst (((keyB kvs).mergeSort (PySem.W.dataLe false (·.2))).map (·.1))), I1.laid (t' := tk) (fun b u eb => ?_) (Nat.le_refl _) ⟨hlen, _, e', Dt.each_out eo, he'⟩, rfl, q _ (I1.hok.fresh (Nat.le_refl _))⟩
  have hb : b < h'.objs.size := Heap.lt_size eb
  rw [PyProof.Rows.sortedHeap_old (Nat.ne_of_lt hb) (by rw [size_push']; exact Nat.lt_succ_of_lt hb)]
  exact Heap.get?_push_of_some _ eb
end Vd
namespace Zl
open PySem PySem.Spec PyProof.Rows L2 Lf
section
variable {X : Cx}
def zSortVD : List Val → Store → DK → Prop := fun xs μ Q => match xs with
  | [.ptr a] => ∃ kvs : List (NestedKey × Val), DvAt μ a kvs ∧ PySem.W.AllAlike (kvs.map fun p => datK p.1) ∧ PySem.W.Sortable (kvs.map fun p => datK p.1) ∧ (∀ p ∈ kvs, (datK p.1).depth ≤ 50) ∧
    ∀ p, Q (.ptr p) (μ ++ [(p, .lst (((kvs.map fun p => datK p.1).mergeSort (PySem.W.dataLe false id)).map .dat))])
  | _ => False
theorem ca_sortVD (hc : X.calm = true) (hu : X.A.units + 64 < cLine) : CaZ X (.builtin "sorted") zSortVD := ⟨_, Vd.call_sortedVD hc hu, fun B σ ρ H μ vs xs Q0 Q l R q low => by
  unfold zSortVD at q
  split at q
  · obtain ⟨kvs, h, al, so, dep, q⟩ := q
    obtain ⟨v, rfl, R⟩ := one_arg' l R
    obtain ⟨ks, D, pr⟩ := h.at R
    cases (R.head : v = .ref _)
    have ek : ks.map (fun p => datK p.1) = kvs.map fun p => datK p.1 := by
      clear D al so dep q h
      induction pr with
      | nil => rfl
      | cons h0 t ih => rw [List.map_cons, List.map_cons, ih, h0.1]
    refine ⟨_, ks, rfl, D, by rw [ek]; exact al, by rw [ek]; exact so, fun p hp => ?_, fun p hp => low _ _ (q p) _ _ ?_⟩
    · have : datK p.1 ∈ kvs.map fun p => datK p.1 := by rw [← ek]; exact List.mem_map_of_mem hp
      obtain ⟨q2, hq2, e2⟩ := List.mem_map.mp this
      rw [← e2]
      exact dep q2 hq2
    · have R9 := R.tail.new (n := .lst (((kvs.map fun p => datK p.1).mergeSort (PySem.W.dataLe false id)).map .dat)) (o := .lst (((Vd.keyB ks).mergeSort (PySem.W.dataLe false (·.2))).map (·.1))) hp ⟨_, upd_same, ?_⟩
      · exact R9.cons (x := .ptr p) rfl
      have e2 : (Vd.keyB ks).map (·.2) = kvs.map fun p => datK p.1 := by
        rw [← ek]
        unfold Vd.keyB
        rw [List.map_map]
        rfl
      have e4 : ((Vd.keyB ks).mergeSort (PySem.W.dataLe false (·.2))).map (·.2) = (kvs.map fun p => datK p.1).mergeSort (PySem.W.dataLe false id) := by
        have := List.map_mergeSort (r := PySem.W.dataLe false (fun x : V × PyData => x.2)) (s := PySem.W.dataLe false id) (f := fun x : V × PyData => x.2) (l := Vd.keyB ks) (fun _ _ _ _ => rfl)
        rw [this, e2]
      rw [← e4]
      have e3 : ∀ c ∈ Vd.keyB ks, Dz (Fz (B.fr ++ μ) H) c.1 c.2 := fun c hc => by
        obtain ⟨p, hp, rfl⟩ := List.mem_map.mp hc
        obtain ⟨n, hn, rfl⟩ := List.mem_iff_getElem.mp hp
        have hn2 : n < kvs.length := by rw [← pr.length]; exact hn
        obtain ⟨q3, eq3, r3⟩ := paired_get pr (List.getElem?_eq_getElem hn2)
        rw [List.getElem?_eq_getElem hn] at eq3
        cases eq3
        exact dz_key _ _ r3.2.2.1
      exact pair_list _ fun c hc => e3 c (List.mem_mergeSort.mp hc)
  · exact q.elim⟩
end
end Zl
/-! sorted(xs, key=f): the key's call changes nothing; keys told here by the model's own rules, without the frame of the layer. -/
namespace Zq
open PySem PySem.Spec PySem.W PySem.Calls PyProof.Rows L2
/-- what was there stays -/
def Keep (s s' : Shared) : Prop := ∃ h tk, s' = { s with heap := h, toks := tk } ∧ ∀ b o, s.heap.get? b = some o → h.get? b = some o
theorem Keep.refl (s : Shared) : Keep s s := ⟨s.heap, s.toks, rfl, fun _ _ e => e⟩
theorem Keep.trans {s1 s2 s3 : Shared} (h1 : Keep s1 s2) (h2 : Keep s2 s3) : Keep s1 s3 := by
  obtain ⟨g1, t1, rfl, k1⟩ := h1
  obtain ⟨g2, t2, rfl, k2⟩ := h2
  exact ⟨g2, t2, rfl, fun b o e => k2 b o (k1 b o e)⟩
theorem Keep.mem {s1 s2 : Shared} (h : Keep s1 s2) : ∀ b o, s1.heap.get? b = some o → s2.heap.get? b = some o := by
  obtain ⟨g, t, rfl, k⟩ := h
  exact k
theorem pure_of {d : PyData} {s s' : Shared} {v : Value} (h : Keep s s') (r : Reads s'.heap v d []) : KeyPure d s v s' := by
  obtain ⟨g, t, rfl, k⟩ := h
  exact ⟨g, t, rfl, k, r⟩
theorem of_pure {d : PyData} {s s' : Shared} {v : Value} (h : KeyPure d s v s') : Keep s s' ∧ Reads s'.heap v d [] := by
  obtain ⟨g, t, rfl, k, r⟩ := h
  exact ⟨⟨g, t, rfl, k⟩, r⟩
theorem all_nil {h : Heap} : ∀ {ds : List PyData} {vs : List Value}, ReadsAll h vs ds [] → ∀ (n : Nat) (d : PyData), ds[n]? = some d → ∃ v, vs[n]? = some v ∧ Reads h v d []
  | [], _, _, n, d, hd => by cases hd
  | d0 :: ds, vs, r, n, d, hd => by
    generalize e : ([] : List Addr) = as at r
    cases r with
    | @cons v vs _ _ as bs h1 h2 =>
      have e' := e.symm
      rw [List.append_eq_nil_iff] at e'
      obtain ⟨rfl, rfl⟩ := e'
      cases n with
      | zero =>
        cases hd
        exact ⟨v, rfl, h1⟩
      | succ n => exact all_nil h2 n d hd
/-- an expression that changes nothing and tells data -/
structure PuE (P : Program) (w : World) (A : Around) (env : Env) (s0 : Shared) (e : Expr) (d : PyData) : Prop where
  run : ∀ s, Keep s0 s → wpAny (model P w) A (eval e env) (KeyPure d s) (fun _ _ => False) s
structure PuA (P : Program) (w : World) (A : Around) (env : Env) (s0 : Shared) (es : List Expr) (ds : List PyData) : Prop where
  run : ∀ pos s, Keep s0 s → wpAny (model P w) A (spliced (backTo pos (starEach es env))) (fun vs s' => Keep s s' ∧ ReadsAll s'.heap vs ds []) (fun _ _ => False) s
section
variable {P : Program} {w : World} {A : Around} {env : Env} {s0 : Shared}
theorem pu_int {i : Int} {k : Nat} {pos : Pos} : PuE P w A env s0 (.Constant (.int i) k pos) (.int i) :=
  ⟨fun s _ => wpAny_Constant_int ⟨s.heap, s.toks + 1, rfl, fun _ _ e => e, .int i _⟩⟩
theorem pu_name {x : Str} {pos : Pos} {m : Str → Option Value} {v : Value} {d : PyData} (kind : env.scope.kind = .function) (kn : env.kindOf x = some .local) (ns : s0.heap.Ns env.locals m) (hm : m x = some v) (r : Reads s0.heap v d [])
    (nodb : (x == ("__debug__" : Str)) = false := by decide) : PuE P w A env s0 (.Name x pos) d :=
  ⟨fun s k => wpAny_Name (wpAny_loadName_local kind kn (ns.keeps k.mem) hm (pure_of (Keep.refl s) (Reads.keeps k.mem r))) nodb⟩
theorem pu_ix {a b : Expr} {pos : Pos} {ds : List PyData} {j : Int} {d : PyData} (ha : PuE P w A env s0 a (.tuple ds)) (hb : PuE P w A env s0 b (.int j)) (hd : atI ds j = some d) (hl : ds.length ≤ sizeLine)
    (ht : ∀ o i : Value, subscripted b false o i = operate [o, i] (getItem o i)) : PuE P w A env s0 (.Subscript a b pos) d :=
  ⟨fun s k => by
    refine Subscript_ (wpAny_mono (ha.run s k) (fun o s1 h1 => ?_) fun _ _ e => e)
    obtain ⟨k1, r1⟩ := of_pure h1
    refine wpAny_mono (hb.run s1 (k.trans k1)) (fun i s2 h2 => ?_) fun _ _ e => e
    obtain ⟨k2, r2⟩ := of_pure h2
    have r1 := Reads.keeps k2.mem r1
    generalize e0 : ([] : List Addr) = as at r1
    generalize e1 : PyData.int j = z at r2
    cases r2 with
    | int j t =>
      cases e1
      cases r1 with
      | @tuple a o vs n _ _ ho hc hdt hr =>
        subst e0
        obtain ⟨n', q1, q2, q3, q4, q5⟩ := atI_get hd
        obtain ⟨v, hv, rv⟩ := all_nil hr n' d q2
        have sz : vs.size = ds.length := by rw [← Array.length_toList]; exact SeqAt.ReadsAll.length _ _ _ hr
        have it : IsTup s2.heap a vs := ⟨o, ho, hc, n, hdt⟩
        have l63 := line63
        refine subscriptTail_builtinR (T := "tuple") (id := "tuple.__getitem__") (x := v) (IsTup.typeIs it) (Slot.lookup slot_tuple_getitem) (getItem_tuple it (by omega) (by omega) (by rw [sz]; exact q1) (by rw [← Array.getElem?_toList]; exact hv) ⟨rfl, pure_of (k1.trans k2) rv⟩) (ht _ _)
    | _ => cases e1⟩
theorem pu_nil : PuA P w A env s0 [] [] := ⟨fun pos s _ => spliced_nil ⟨Keep.refl s, .nil⟩⟩
theorem pu_cons {e : Expr} {es : List Expr} {d : PyData} {ds : List PyData} (he : PuE P w A env s0 e d) (hs : PuA P w A env s0 es ds) (hst : starEach (e :: es) env = (false, eval e env) :: starEach es env := by rfl) : PuA P w A env s0 (e :: es) (d :: ds) :=
  ⟨fun pos s k => by
    rw [hst]
    refine spliced_cons (wpAny_mono (he.run s k) (fun v s1 h1 => ?_) fun _ _ e => e)
    obtain ⟨k1, r1⟩ := of_pure h1
    refine wpAny_mono (hs.run pos s1 (k.trans k1)) (fun vs s2 h2 => ?_) fun _ _ e => e
    exact ⟨k1.trans h2.1, .cons (Reads.keeps h2.1.mem r1) h2.2⟩⟩
theorem pu_tup {es : List Expr} {n : Nat} {pos : Pos} {ds : List PyData} (hs : PuA P w A env s0 es ds) (hl : ds.length ≤ sizeLine) : PuE P w A env s0 (.Tuple es n pos) (.tuple ds) :=
  ⟨fun s k => wpAny_Tuple_spliced (wpAny_mono (hs.run _ s k) (fun vs s1 h1 => ⟨by rw [SeqAt.ReadsAll.length _ _ _ h1.2]; exact hl, by
    obtain ⟨k1, r1⟩ := h1
    have k2 : Keep s1 { s1 with heap := s1.heap.push { cls := .type "tuple", data := .seq vs.toArray } } := ⟨_, _, rfl, fun b o e => Heap.get?_push_of_some _ e⟩
    refine pure_of (k1.trans k2) (.tuple (Heap.get?_push_size _ rfl) rfl rfl ?_)
    rw [List.toList_toArray]
    exact ReadsAll.keeps k2.mem r1⟩) fun _ _ e => e)⟩
end
end Zq
namespace Zq
open PySem PySem.Spec PySem.W PySem.Calls PyProof.Rows L2
theorem bind_one {k : Str → Option NameKind} {p : Str} {v : Value} (h : k p = some .local) : bindL k [(p, v)] (fun _ => none) p = some v := by
  simp [bindL, h]
/-- a def of one return as a key -/
theorem key_def {P : Program} {w : World} {K : Frag} {A : Around} {x qual p : Str} {st : Stmt} {f : Addr} {fd : FuncData} {N : List Str} {e : Expr} {pos : Pos} {da d : PyData} {s : Shared} {v : Value}
    (F : Fun K x qual st f fd) (S : FnScope N [p] (defScope st)) (hb : L2.Binds K fd [p] []) (hbody : defBody st = [.Return (some e) pos]) (hloc : List.lookup p (defScope st).names = some .local)
    (he : ∀ (A : Around) (env : Env) (s0 : Shared), (∀ q, PuE P w A env s0 (.Name p q) da) → PuE P w A env s0 e d) (nodb : (p == ("__debug__" : Str)) = false)
    (kin : K.In s.heap) (lim : s.heap.NoLimit) (dep : A.depth < recursionLimit) (r : Reads s.heap v da []) : wpAny (model P w) A (call (.ref f) [v]) (KeyPure d s) (fun _ _ => False) s := by
  obtain ⟨oc, od, kV, doc, pm, an, cdv, ct, osl, rfl, lk, hcd⟩ := F.ex
  refine wpAny_call (codeAny_call_function dep (kin _ _ lk) rfl S.co S.gen rfl (codeRec_of kin hcd) (hb s [v] kin rfl _ _ _ _ ?_))
  refine wpAny_newFunctionEnv_cells S.kind (fun ⟨n, u⟩ hm => (S.par n (List.of_mem_zip hm).1).imp id fun c => ⟨c, cellsFrom_some _ _ _ (.inl c)⟩) fun env hen s1 ic => ?_
  subst hen
  refine ⟨lim.keeps ic.toInCall.keep, codeAny_func ?_⟩
  show wpAny _ _ (execs (defBody st) _) _ _ _
  rw [hbody]
  obtain ⟨h1, tk1, e1⟩ := ic.toInCall.same
  have k1 : Keep s s1 := ⟨h1, tk1, e1, by have := ic.toInCall.keep; rw [e1] at this; exact this⟩
  have nm : ∀ q, PuE P w (A.deeper (newEnv (defScope st) s.heap.objs.size mainGlobals (cellsFrom (s.heap.objs.size + 1) (defScope st).names []) (qual ++ Str.ofString ".<locals>.") (some f) cdv none builtinsNs)) (newEnv (defScope st) s.heap.objs.size mainGlobals (cellsFrom (s.heap.objs.size + 1) (defScope st).names []) (qual ++ Str.ofString ".<locals>.") (some f) cdv none builtinsNs) s1 (.Name p q) da := fun q =>
    pu_name S.kind hloc ic.toInCall.ns (bind_one hloc) (Reads.keeps ic.toInCall.keep r) nodb
  refine wpAny_execs_cons (wpAny_Return_some (wpAny_mono ((he _ _ s1 nm).run s1 (Keep.refl s1)) (fun u s2 h2 => ?_) fun _ _ z => z.elim))
  obtain ⟨k2, r2⟩ := of_pure h2
  exact pure_of (k1.trans k2) r2
end Zq
namespace Zl
open PySem PySem.Spec PySem.W PyProof.Rows L2 Lf
mutual
theorem reads_nil {h : Heap} : ∀ (d : PyData) {v : Value} {as : List Addr}, noList d = true → Reads h v d as → as = []
  | .none, _, _, _, r => by cases r; rfl
  | .bool _, _, _, _, r => by cases r; rfl
  | .int _, _, _, _, r => by cases r; rfl
  | .str _, _, _, _, r => by cases r; rfl
  | .list _, _, _, n, _ => by rw [noList] at n; cases n
  | .dict _, _, _, n, _ => by rw [noList] at n; cases n
  | .tuple ds, _, _, n, r => by
    rw [noList] at n
    cases r with
    | tuple _ _ _ hr => exact readsAll_nil ds n hr
theorem readsAll_nil {h : Heap} : ∀ (ds : List PyData) {vs : List Value} {as : List Addr}, noLists ds = true → ReadsAll h vs ds as → as = []
  | [], _, _, _, r => by cases r; rfl
  | d :: ds, _, _, n, r => by
    rw [noLists, Bool.and_eq_true] at n
    cases r with
    | cons h1 h2 => rw [reads_nil d n.1 h1, readsAll_nil ds n.2 h2]; rfl
end
section
variable {X : Cx}
def rSortK (K : PySem.W.Frag) (kf : PyData → PyData) (Pd : PyData → Prop) : List V → Hp → VK → Prop := fun vs H Q => ∃ (a : Addr) (bs : List (V × PyData)), vs = [.ref a] ∧ SqL K H a (bs.map (·.1)) ∧ (∀ b ∈ bs, Dp K H b.1 b.2) ∧ AllAlike ((bs.map (·.2)).map kf) ∧ Sortable ((bs.map (·.2)).map kf) ∧
  (∀ b ∈ bs, (kf b.2).depth ≤ 50 ∧ noList b.2 = true ∧ Pd b.2) ∧ ∀ p, H p = none → Q (.ref p) (upd H p (.lst ((bs.mergeSort (dataLe false fun b => kf b.2)).map (·.1))))
/-- what a key tells, at each of the states behind s -/
def KeyTells (X : Cx) (f : Addr) (kf : PyData → PyData) (Pd : PyData → Prop) (s : Shared) : Prop := ∀ s', Zq.Keep s s' → ∀ v d, Pd d → Reads s'.heap v d [] → wpAny (model X.prog X.w) X.A.in1.in1 (call (.ref f) [v]) (KeyPure (kf d) s') (fun _ _ => False) s'
theorem sorted_at {kf : PyData → PyData} {Pd : PyData → Prop} {f : Addr} {pins : List (Addr × Obj)} {σ : L2.St} {H : Hp} {s : Shared} {vs : List V} {us : List Value} {Q : VK} (hu : X.A.units + 64 < cLine) (I : L2.Inv X pins σ H s) (rv : Vals vs us) (q : rSortK X.K kf Pd vs H Q) (key : KeyTells X f kf Pd s) :
    wpAny (model X.prog X.w) X.A (call (.builtin "sorted") us [("key", .ref f)]) (EP X pins σ Q) X.xe s := by
  obtain ⟨a, bs, rfl, hs, hd, al, so, dep, q⟩ := q
  obtain ⟨its, rv', hl, hz⟩ := I.list hs
  obtain rfl := Vals.ref1 rv
  have e := Dt.each_in rv'
  have er : EachIs (fun u (b : V × PyData) => RelV b.1 u ∧ Reads s.heap u b.2 []) its bs := Dt.each_both e fun u b m rb => by
    obtain ⟨as, r⟩ := Dp.reads I b.2 b.1 u (hd b m) rb
    rw [reads_nil b.2 (dep b m).2.1 r] at r
    exact ⟨rb, r⟩
  have hbl : bs.length ≤ sizeLine := by
    rw [List.length_map] at hz
    exact hz
  have mm : bs.map (fun b => kf b.2) = (bs.map (·.2)).map kf := by rw [List.map_map]; rfl
  refine sorted_key_data (fun b : V × PyData => kf b.2) hl.isList er (by rw [mm]; exact al) (by rw [mm]; exact so) hbl (fun b m => by have := (dep b m).1; omega) (b := false) (f := .ref f) rfl (fun _ => rfl) (fun x => ksk_t1 f x) (fun v b rb m h tk k => ?_) (fun out c h' tk k _ hn hlen ho => ?_)
  · exact key _ ⟨h, tk, rfl, k⟩ v b.2 (dep b m).2.2 (Reads.keeps k rb.2)
  have hlen2 : ((bs.mergeSort (dataLe false fun b => kf b.2)).map (·.1)).length ≤ sizeLine := by
    rw [List.length_map, List.length_mergeSort]
    exact hbl
  exact ⟨.ref _, upd H (s.heap.objs.size + 1) (.lst ((bs.mergeSort (dataLe false fun b => kf b.2)).map (·.1))), I.laid (t' := tk) k (Nat.le_succ _) ⟨hlen2, out, c, Dt.each_out (Dt.each_both ho fun _ _ _ r => r.1), hn⟩, rfl, q _ (I.hok.fresh (Nat.le_succ _))⟩
def zSortK (kf : PyData → PyData) (Pd : PyData → Prop) : List Val → Store → DK → Prop := fun xs μ Q => match xs with
  | [x] => itemsOf μ x fun ys => isL x μ ∧ ∃ ds, datOf ys = some ds ∧ AllAlike (ds.map kf) ∧ Sortable (ds.map kf) ∧ (∀ d ∈ ds, (kf d).depth ≤ 50 ∧ noList d = true ∧ Pd d) ∧ ∀ p, Q (.ptr p) (μ ++ [(p, .lst ((ds.mergeSort (dataLe false kf)).map .dat))])
  | _ => False
theorem sortK_up {kf : PyData → PyData} {Pd : PyData → Prop} (B : Base) (σ : List (Option V)) (ρ : DR) (H : Hp) (μ : Store) (vs : List V) (xs : List Val) (Q0 : DK) (Q : VK) (l : vs.length = xs.length) (R : RL X.w X.K B H (vs.map some ++ σ) (xs.map some ++ ρ) μ) (q : zSortK kf Pd xs μ Q0) (low : Low X B σ ρ Q0 Q) : rSortK X.K kf Pd vs H Q := by
  match xs, l, R, q with
  | [x], l, R, q =>
    obtain ⟨v, rfl, R⟩ := one_arg' l R
    obtain ⟨b, ys, hi, il, ds, ed, al, so, dep, q⟩ := itemsOf_its (P := fun ys => isL x μ ∧ ∃ ds, datOf ys = some ds ∧ AllAlike (ds.map kf) ∧ Sortable (ds.map kf) ∧ (∀ d ∈ ds, (kf d).depth ≤ 50 ∧ noList d = true ∧ Pd d) ∧ ∀ p, Q0 (.ptr p) (μ ++ [(p, Node.lst ((ds.mergeSort (dataLe false kf)).map .dat))])) q
    obtain ⟨a, us, rfl, hs, pr⟩ := hi.at R R.head
    have hb : b = false := by
      cases hi with
      | t ds => exact il.elim
      | _ => rfl
    subst hb
    obtain ⟨e1, e2, e3⟩ := zip_fst (K := X.K) (datOf_all pr ed)
    refine ⟨a, us.zip ds, rfl, by rw [e1]; exact hs, fun c hc => Dz.dp _ _ (Dz.mono fz_le _ _ (e3 c hc)), by rw [e2]; exact al, by rw [e2]; exact so, fun c hc => dep c.2 ?_, fun p hp => low _ _ (q p) _ _ ((R.tail.new (n := .lst ((ds.mergeSort (dataLe false kf)).map .dat)) hp ⟨_, upd_same, ?_⟩).cons rfl)⟩
    · rw [← e2]
      exact List.mem_map_of_mem hc
    · have e4 : ((us.zip ds).mergeSort (dataLe false fun b => kf b.2)).map (·.2) = ds.mergeSort (dataLe false kf) := by
        have := List.map_mergeSort (r := dataLe false (fun x : V × PyData => kf x.2)) (s := dataLe false kf) (f := fun x : V × PyData => x.2) (l := us.zip ds) (fun _ _ _ _ => rfl)
        rw [this, e2]
      rw [← e4]
      exact pair_list _ fun c hc => e3 c (List.mem_mergeSort.mp hc)
/-- a def as a key, its name -/
theorem d_sortK {kf : PyData → PyData} {Pd : PyData → Prop} {f : Addr} {x : Str} {e : Expr} {g : DTA} {p p2 kp pos : Pos} (hu : X.A.units + 64 < cLine) (hgs : Gl X "sorted") (hms : X.mg "sorted" = none) (hg : Gl X x) (hm : X.mg x = some (.ref f)) (hdb : (x == ("__debug__" : Str)) = false)
    (key : ∀ s : Shared, X.K.In s.heap → s.heap.NoLimit → KeyTells X f kf Pd s) (ha : DA X [e] g)
    (h3 : backTo pos (starEach [e] X.env) = [(false, eval e X.env)] := by rfl) (h4 : ((backTo pos (starEach [e] X.env)).any fun x => x.1) = false := by rfl)
    (h5 : ((backToKw pos (keywordEach [⟨some "key", .Name x p2, kp⟩] X.env)).all fun x => x.1.isSome) = true := by rfl) (h6 : ((backToKw pos (keywordEach [⟨some "key", .Name x p2, kp⟩] X.env)).any fun x => x.1.isNone) = false := by rfl) (h7 : (backToKw pos (keywordEach [⟨some "key", .Name x p2, kp⟩] X.env)).filterMap (fun x => x.1) = [("key" : Str)] := by rfl) :
    DE X (.Call (.Name "sorted" p) [e] [⟨some "key", .Name x p2, kp⟩] pos) (dCB (zSortK kf Pd) g) := by
  have c : CallRK X (.builtin "sorted") ["key"] fun vs zs H Q => zs = [.ref f] ∧ rSortK X.K kf Pd vs H Q := by
    intro pins s σ H vs zs us ws Q I rv rw_ h
    obtain ⟨rfl, q⟩ := h
    obtain rfl := Vals.ref1 rw_
    exact sorted_at hu I rv q (key s I.kIn (I.env0.mod.nolimit.keeps fun b o e => (I.env0.bs b o e).1))
  refine ⟨fun B => PE.weak (pe_callBK c hgs hms rfl (ha.run B) (pk_cons (pe_glob (v := .ref f) hg hm rfl hdb) pk_nil) (by decide) (by decide) h3 h4 h5 h6 h7) fun σ H Q h => ?_⟩
  exact up_CB (r := fun vs H Q => [V.ref f] = [V.ref f] ∧ rSortK X.K kf Pd vs H Q) (fun σ ρ H μ vs xs Q0 Q l R q low => ⟨rfl, sortK_up B σ ρ H μ vs xs Q0 Q l R q low⟩) h
end
end Zl
/-! A lambda as a key: its code stands in the table of the def around it, which is an own object here (Node.tab). -/
namespace Zq
open PySem PySem.Spec PySem.W PySem.Calls PyProof.Rows L2
theorem lam_mk {X : Cx} {pins : List (Addr × Obj)} {σ : L2.St} {H : Hp} {s : Shared} {c Pt : Addr} {ps : Array Value} {params : Arguments} {body : Expr} {scope : Scope} {pos : Pos} {E Q : Value → Shared → Prop}
    (I : L2.Inv X pins σ H s) (TB : LamX.TabB X.base X.mg c Pt) (hcode : X.env.code = .ref c) (hP : H Pt = some (.tbl ps)) (ht : TriplesOk ps.toList)
    (ha : ∀ pos cv, codeAmong pos ps.toList = some cv → ∃ c, cv = .ref c ∧ H c = some (LamX.CodeO c (X.env.qual ++ Str.ofString "<lambda>"))) (hdef : defaultsOf params X.env = ([], []))
    (hfree : ∀ y ∈ scope.names, y.2 = NameKind.free → ∃ c, List.lookup y.1 X.env.cells = some c)
    (h : ∀ (f c' : Addr) (pm ctv : Value) (H1 : Hp) (s' : Shared), L2.Inv X pins σ H1 s' → (∀ b o, b ≠ Pt → s.heap.get? b = some o → s'.heap.get? b = some o) →
      (H1 = H ∨ ∃ more : Array Value, H c' = none ∧ H1 = upd (upd H Pt (.tbl (ps ++ more))) c' (LamX.CodeO c' (X.env.qual ++ Str.ofString "<lambda>")) ∧ TriplesOk (ps ++ more).toList ∧ ∀ pos cv, codeAmong pos (ps ++ more).toList = some cv → codeAmong pos ps.toList = some cv ∨ cv = .ref c') →
      s'.heap.get? f = some (kla_obj (Str.ofString "<lambda>") (X.env.qual ++ Str.ofString "<lambda>") params body scope (cloFrom X.env.cells scope.names []) pm c' ctv) → s'.heap.CodeRec (.ref c') (X.env.qual ++ Str.ofString "<lambda>") → Q (.ref f) s') :
    wpAny (model X.prog X.w) X.A (eval (.Lambda params body scope pos) X.env) Q E s := by
  refine kla_eval hdef ?_
  have bP := Heap.BuiltinsAt.keeps TB.bm (Inv.bk I)
  have hP' := I.hok Pt (.tbl ps) hP
  cases hc : codeAmong pos ps.toList with
  | none =>
    refine kla_makeFunction (closure_ok hfree) I.ok.glob (Heap.Ns.keeps (Inv.mod I).glob (Inv.bk I)) hcode (CodeHd.keeps TB.code (Inv.bk I)) hP' ht hc TB.gP bP fun c' ctv h' tk hx hge hlt hrec htb => ?_
    have rec' := hrec
    obtain ⟨c2, oc, vs, t, e2, hoc, hd, hv⟩ := hrec
    cases e2
    have nC := HOk.fresh I.hok hge
    let o := kla_obj (Str.ofString "<lambda>") (X.env.qual ++ Str.ofString "<lambda>") params body scope (cloFrom X.env.cells scope.names []) ((X.mg (Str.ofString "__name__")).getD Value.none) c' ctv
    have I1 := LamX.inv_table (t' := tk) I hP (fun b u hb e => Heap.get?_push_of_some o (hx b u hb e)) (Heap.get?_push_of_some o htb) hge ⟨oc, vs, t, Heap.get?_push_of_some o hoc, hd, hv⟩
    have eL : (ps ++ #[rawInt pos.line, rawInt pos.col, Value.ref c']).toList = ps.toList ++ [rawInt pos.line, rawInt pos.col, .ref c'] := by simp
    refine h _ c' _ ctv _ _ I1 (fun b u hb e => Heap.get?_push_of_some o (hx b u hb e)) (.inr ⟨_, nC, rfl, by rw [eL]; exact TriplesOk_snoc _ _ _ _ ht, fun p cv q => ?_⟩) (Heap.get?_push_size _ rfl) ⟨c', oc, vs, t, rfl, Heap.get?_push_of_some o hoc, hd, hv⟩
    rw [eL] at q
    exact LamX.among_app _ ht q
  | some cv =>
    obtain ⟨c', rfl, hc'⟩ := ha _ _ hc
    refine kla_makeFunctionHit (closure_ok hfree) I.ok.glob (Heap.Ns.keeps (Inv.mod I).glob (Inv.bk I)) hcode (CodeHd.keeps TB.code (Inv.bk I)) hP' ht hc bP fun ctv h' tk hx hge => ?_
    let o := kla_obj (Str.ofString "<lambda>") (X.env.qual ++ Str.ofString "<lambda>") params body scope (cloFrom X.env.cells scope.names []) ((X.mg (Str.ofString "__name__")).getD Value.none) c' ctv
    have k : ∀ b u, s.heap.get? b = some u → (h'.push o).get? b = some u := fun b u e => Heap.get?_push_of_some o (hx b u e)
    obtain ⟨oc, vs, t, hoc, hd, hv⟩ := (I.hok c' _ hc').1
    exact h _ c' _ ctv H _ (I.kept (t' := tk) k) (fun b u _ e => k b u e) (.inl rfl) (Heap.get?_push_size _ rfl) ⟨c', oc, vs, t, rfl, k _ _ hoc, hd, hv⟩
/-- a lambda of one parameter, called -/
theorem key_lam {P : Program} {w : World} {A : Around} {q p : Str} {params : Arguments} {body : Expr} {scope : Scope} {cl : List (Str × Addr)} {pm ctv v : Value} {c' f : Addr} {da d : PyData} {s : Shared}
    (hf : s.heap.get? f = some (kla_obj (Str.ofString "<lambda>") q params body scope cl pm c' ctv)) (kind : scope.kind = .function) (co : scope.isCoroutine = false) (gen : scope.isGenerator = false) (hcl : ∀ y ∈ scope.names, y.2 ≠ NameKind.cell) (hloc : List.lookup p scope.names = some .local)
    (hrec : s.heap.CodeRec (.ref c') q) (hbind : bindArgs (kla_fn (Str.ofString "<lambda>") q params body scope cl pm (.ref c') ctv) ⟨[v], []⟩ = pure [(p, v)]) (lim : s.heap.NoLimit) (dep : A.depth < recursionLimit) (nodb : (p == ("__debug__" : Str)) = false)
    (he : ∀ (env : Env) (s0 : Shared), Keep s s0 → env.scope = scope → env.globals = mainGlobals → env.builtins = builtinsNs → (∀ q, PuE P w (A.deeper env) env s0 (.Name p q) da) → PuE P w (A.deeper env) env s0 body d)
    (r : Reads s.heap v da []) : wpAny (model P w) A (call (.ref f) [v]) (KeyPure d s) (fun _ _ => False) s := by
  refine wpAny_call (kla_callFunE dep hf rfl co gen rfl hrec ?_)
  rw [hbind]
  refine wpAny_pure ?_
  refine wpAny_newFunctionEnv hcl (fun x hx => by rw [List.mem_singleton.mp hx]; exact hloc) (fun h' ns sb => ?_) kind
  have k1 : ∀ b u, s.heap.get? b = some u → h'.get? b = some u := fun b u e => by
    rw [sb.2 b (Nat.ne_of_lt (Heap.lt_size e))]
    exact Heap.get?_push_of_some _ e
  have K1 : Keep s { s with heap := h', toks := s.toks + 1 } := ⟨h', s.toks + 1, rfl, k1⟩
  refine ⟨lim.keeps k1, kla_codeExpr ?_⟩
  refine wpAny_mono (PuE.run (s0 := { s with heap := h', toks := s.toks + 1 }) (he _ { s with heap := h', toks := s.toks + 1 } K1 ?_ ?_ ?_ ?_) _ (Keep.refl _)) (fun u s2 h2 => ?_) fun _ _ z => z.elim
  rotate_left 4
  · obtain ⟨k2, r2⟩ := of_pure h2
    exact pure_of (K1.trans k2) r2
  · rfl
  · rfl
  · rfl
  · exact fun q => pu_name kind hloc ns (by simp) (Reads.keeps k1 r) nodb
/-- repr of data made of no list, in a key -/
theorem pu_repr {P : Program} {w : World} {A : Around} {env : Env} {s0 : Shared} {e : Expr} {p pos : Pos} {ds : List PyData} {mg mb : Str → Option Value} (he : PuE P w A env s0 e (.tuple ds)) (kind : env.scope.kind = .function) (kn : env.kindOf "repr" = some .globalImplicit)
    (ng : s0.heap.Ns env.globals mg) (hm : mg "repr" = none) (nb : s0.heap.Ns env.builtins mb) (hb : mb "repr" = some (.builtin "repr")) (hg : A.guards = some []) (hu : A.units + ((PyData.tuple ds).depth + 1) < cLine) (hs : (PyData.tuple ds).showable = true) (hd : (PyData.tuple ds).hasDict = false) (hl : (PyData.tuple ds).shown.length ≤ sizeLine)
    (h1 : starEach [e] env = (false, eval e env) :: starEach [] env := by rfl) (h2 : ((backTo pos (starEach [] env)).any fun x => x.1) = false := by rfl) :
    PuE P w A env s0 (.Call (.Name "repr" p) [e] [] pos) (.str (PyData.tuple ds).shown) :=
  ⟨fun s k => by
    refine wpAny_Call_Name_kw (Name_function_global kind kn (loadGlobal_builtin (ng.keeps k.mem) hm (nb.keeps k.mem) hb ?_) (by decide))
    refine callWith_builtin1 ?_ h1 h2
    rw [h1]
    refine spliced_cons (wpAny_mono (he.run s k) (fun v s1 hv => ?_) fun _ _ z => z.elim)
    obtain ⟨k1, r1⟩ := of_pure hv
    refine spliced_nil ?_
    generalize e0 : ([] : List Addr) = as at r1
    cases r1 with
    | @tuple a o vs n _ _ ho hc hdt hr =>
      subst e0
      refine repr_of_reads' (.tuple ho hc hdt hr) hs (fun z => by rw [hd] at z; cases z) hg hu (fun _ _ e => e) (fun h' u tk kk => ?_) hl
      exact pure_of (k1.trans ⟨h', tk, rfl, kk⟩) (.str _ _)⟩
end Zq
namespace Zl
open PySem PySem.Spec PySem.W PySem.Calls PyProof.Rows L2 Lf
section
variable {X : Cx}
theorem RL.tabs {w : World} {K : PySem.W.Frag} {B : Base} {H : Hp} {σ : List (Option V)} {ρ : DR} {μ : Store} {j : Nat} {Pt c' : Addr} {q : Str} {ps more : Array Value} (R : RL w K B H σ ρ μ) (hj : μ[j]? = some (Pt, .tab q)) (hP : H Pt = some (.tbl ps)) (hc : H c' = none) (ht : TriplesOk (ps ++ more).toList)
    (ha : ∀ pos cv, codeAmong pos (ps ++ more).toList = some cv → codeAmong pos ps.toList = some cv ∨ cv = .ref c') : RL w K B (upd (upd H Pt (.tbl (ps ++ more))) c' (LamX.CodeO c' q)) σ ρ μ := by
  have inP : (Pt, Node.tab q) ∈ B.fr ++ μ := List.mem_append_right _ (List.mem_of_getElem? hj)
  have nP : Pt ≠ c' := fun e => by rw [e, hc] at hP; cases hP
  have other : ∀ x, x ≠ Pt → x ≠ c' → (upd (upd H Pt (.tbl (ps ++ more))) c' (LamX.CodeO c' q)) x = H x := fun x h1 h2 => by rw [upd_ne h2, upd_ne h1]
  have out : c' ∉ (B.fr ++ μ).map (·.1) := fun z => by
    obtain ⟨p, hp, e⟩ := List.mem_map.mp z
    exact (R.st p hp).live (by rw [e]; exact hc)
  have g : ∀ x o, Fz (B.fr ++ μ) H x = some o → Fz (B.fr ++ μ) (upd (upd H Pt (.tbl (ps ++ more))) c' (LamX.CodeO c' q)) x = some o := fun x o h => by
    obtain ⟨h1, h2⟩ := Fz.sub h
    refine Fz.of h1 ?_
    rw [other x (fun e => h1 (by rw [e]; exact List.mem_map_of_mem inP)) (fun e => by rw [e, hc] at h2; cases h2)]
    exact h2
  refine ⟨R.nd, fun x o h => g _ _ (R.base x o h), L2.Paired.mapP R.sl fun _ _ => RVo.mono g, fun p hp => ?_⟩
  by_cases e : p.1 = Pt
  · have ep : p = (Pt, .tab q) := by
      obtain ⟨i, hi, rfl⟩ := List.mem_iff_getElem.mp hp
      obtain ⟨k, hk, ek⟩ := List.mem_iff_getElem.mp inP
      have h1 : ((B.fr ++ μ).map (·.1))[i]? = some Pt := by rw [List.getElem?_map, List.getElem?_eq_getElem hi]; exact congrArg some e
      have h2 : ((B.fr ++ μ).map (·.1))[k]? = some Pt := by rw [List.getElem?_map, List.getElem?_eq_getElem hk, ek]; rfl
      have := (List.getElem?_inj (by rw [List.length_map]; exact hi) R.nd).mp (h1.trans h2.symm)
      subst this
      exact ek
    subst ep
    obtain ⟨ps', e1, _, e3⟩ := R.st _ inP
    rw [hP] at e1
    cases e1
    refine ⟨_, by rw [upd_ne nP, upd_same], ht, fun pos cv h => ?_⟩
    rcases ha pos cv h with h | rfl
    · exact (e3 pos cv h).imp fun c k => ⟨k.1, g _ _ k.2⟩
    · exact ⟨c', rfl, Fz.of out upd_same⟩
  · exact (R.st p hp).mono g (other p.1 e fun z => (R.st p hp).live (by rw [z]; exact hc))
abbrev dSortL (Pt : Addr) (q : Str) (kf : PyData → PyData) (Pd : PyData → Prop) (g : DTA) : DTE := fun ρ μ Q => g ρ μ fun xs μ1 => (∃ j : Nat, μ1[j]? = some (Pt, Node.tab q)) ∧ zSortK kf Pd xs μ1 Q
/-- a lambda as a key -/
theorem d_sortL {kf : PyData → PyData} {Pd : PyData → Prop} {c Pt : Addr} {params : Arguments} {body : Expr} {scope : Scope} {e : Expr} {g : DTA} {p lpos kp pos : Pos} (hu : X.A.units + 64 < cLine) (hgs : Gl X "sorted") (hms : X.mg "sorted" = none)
    (TB : LamX.TabB X.base X.mg c Pt) (hcode : X.env.code = .ref c) (hdef : defaultsOf params X.env = ([], [])) (hfree : ∀ y ∈ scope.names, y.2 ≠ NameKind.free)
    (key : ∀ (s : Shared) (f c' : Addr) (pm ctv : Value), L2.Mod X.K X.mg X.base → (∀ b o, X.base.get? b = some o → s.heap.get? b = some o) → s.heap.get? f = some (kla_obj (Str.ofString "<lambda>") (X.env.qual ++ Str.ofString "<lambda>") params body scope (cloFrom X.env.cells scope.names []) pm c' ctv) → s.heap.CodeRec (.ref c') (X.env.qual ++ Str.ofString "<lambda>") → KeyTells X f kf Pd s) (ha : DA X [e] g)
    (h3 : backTo pos (starEach [e] X.env) = [(false, eval e X.env)] := by rfl) (h4 : ((backTo pos (starEach [e] X.env)).any fun x => x.1) = false := by rfl)
    (h5 : ((backToKw pos (keywordEach [⟨some "key", .Lambda params body scope lpos, kp⟩] X.env)).all fun x => x.1.isSome) = true := by rfl) (h6 : ((backToKw pos (keywordEach [⟨some "key", .Lambda params body scope lpos, kp⟩] X.env)).any fun x => x.1.isNone) = false := by rfl) (h7 : (backToKw pos (keywordEach [⟨some "key", .Lambda params body scope lpos, kp⟩] X.env)).filterMap (fun x => x.1) = [("key" : Str)] := by rfl) :
    DE X (.Call (.Name "sorted" p) [e] [⟨some "key", .Lambda params body scope lpos, kp⟩] pos) (dSortL Pt (X.env.qual ++ Str.ofString "<lambda>") kf Pd g) := by
  refine ⟨fun B => ⟨fun pins s σ H Q I h => ?_⟩⟩
  obtain ⟨hv, hx, ρ, μ, Q0, hl, R0, h, low⟩ := h
  refine wpAny_Call_Name_kw (ld_blt I hgs hms rfl (callWith_kw (thn ((ha.run B).run pos pins s σ H (fun vs H1 => ∃ xs μ1, ((∃ j : Nat, μ1[j]? = some (Pt, Node.tab (X.env.qual ++ Str.ofString "<lambda>"))) ∧ zSortK kf Pd xs μ1 Q0) ∧ vs.length = xs.length ∧ RL X.w X.K B H1 (vs.map some ++ (hv ++ σ)) (xs.map some ++ (hx ++ ρ)) μ1) I ⟨hv, hx, ρ, μ, _, hl, R0, h, fun xs μ1 q vs H1 l R1 => ⟨xs, μ1, q, l, R1⟩⟩) fun us s1 h1 => ?_) h3 h4 h5 h6) (by decide) (by decide))
  obtain ⟨vs, H1, I1, rv, xs, μ1, ⟨⟨j, hj⟩, q⟩, l, R1⟩ := h1
  rw [h7]
  obtain ⟨ps, hP, ht, hcs⟩ := R1.st _ (List.mem_append_right _ (List.mem_of_getElem? hj))
  refine wpAny_evalAll_cons (wpAny_bind (Zq.lam_mk I1 TB hcode hP ht (fun pos cv h => (hcs pos cv h).imp fun c k => ⟨k.1, (Fz.sub k.2).2⟩) hdef (fun y hy z => absurd z (hfree y hy)) fun f c' pm ctv H2 s2 I2 _ al hf hrec => ?_))
  have R2 : RL X.w X.K B H2 (vs.map some ++ (hv ++ σ)) (xs.map some ++ (hx ++ ρ)) μ1 := by
    rcases al with rfl | ⟨more, hc, rfl, t1, t2⟩
    · exact R1
    · exact R1.tabs hj hP hc t1 t2
  refine wpAny_bind (wpAny_standAt (wpAny_pure (wpAny_evalAll_nil ?_)))
  exact sorted_at hu I2 rv (sortK_up B _ _ H2 μ1 vs xs Q0 Q l R2 q low) (key s2 f c' pm ctv I2.mod I2.bk hf hrec)
end
end Zl
/-! Where the law is entered, the (empty) table of a def's codes is told as an own object: Gd.law_at, walk_at with it. -/
namespace Gt
open PySem PySem.Spec PyProof.Rows L2 Gd
def entryT (Pt a : Addr) (t : Bool) (o : Obj) (xs : List V) : Hp := fun b => if b = Pt then some (.tbl #[]) else entry a t o xs b
theorem law_tab {P : Program} {w : World} {K : PySem.W.Frag} {mg mb : Str → Option Value} {fa a c Pt : Addr} {fd : FuncData} {x : Str} {sp : Sp} {s : Shared} {vs : List Value} {ns : List Int}
    (inK : K.In s.heap) (glob : s.heap.Ns mainGlobals mg) (hb : s.heap.Ns builtinsNs mb) (boot : ∀ x : Str, x ≠ "__name__" → mb x = bootBuiltins x) (lim : s.heap.NoLimit) (hg : s.gens = #[])
    (bmain : ∃ bm ob, mg (Str.ofString "__builtins__") = some (Value.ref bm) ∧ bm ≠ builtinsNs ∧ s.heap.get? bm = some ob ∧ ob.cls = Value.type "module" ∧ ob.dict = some builtinsNs ∧ ob.data = Data.plain)
    (hT : s.heap.get? Pt = some (PySem.W.tabObj #[])) (hK : K.lookup Pt = none) (hc : PySem.W.codeHdIn K c Pt = true)
    (at_ : s.heap.get? a = some { cls := .type "list", data := .seq vs.toArray }) (hi : IntsAre vs ns) (hl : ns.length ≤ sizeLine)
    (run : ∀ base : Heap, K.In base → base.Ns mainGlobals mg → LamX.TabB base mg c Pt → RunAt callerA P w K mg base fa fd [x] sp) (binds : ∀ (s : Shared) (u : Value), BindsTo s fd ⟨[u], []⟩ [(x, u)])
    (hsp : ∀ H : Hp, H Pt = some (.tbl #[]) → a ≠ Pt → SqL K H a (ns.map V.int) → sp [.ref a] H (fun v _ => v = .bl true) fun _ _ _ => False) :
    codeAny (model P w) callerA (.call (.ref fa) ⟨[.ref a], []⟩) (fun r s' => r = .ok (.ret (.bool true)) ∧ OldK s.heap s'.heap ∧ s'.os = s.os ∧ AllBare s'.gens) s := by
  have rv := vals_ints hi
  obtain ⟨t, ht⟩ : ∃ t : Bool, t = true ↔ K.lookup a = none := ⟨(K.lookup a).isNone, Option.isNone_iff_eq_none⟩
  let o : Obj := { cls := .type "list", data := .seq vs.toArray }
  have naP : a ≠ Pt := fun e => by rw [e, hT] at at_; cases at_
  let H : Hp := entryT Pt a t o (ns.map V.int)
  have HP : H Pt = some (.tbl #[]) := if_pos rfl
  have Hb : ∀ {b : Addr}, b ≠ Pt → H b = entry a t o (ns.map V.int) b := fun {b} n => if_neg n
  have none_of : ∀ {b : Addr} {u : Obj}, b ≠ Pt → s.heap.get? b = some u → (b = a → t = true → u ≠ o) → H b = none := fun {b u} nb e n => by
    rw [Hb nb]
    cases q : entry a t o (ns.map V.int) b with
    | none => rfl
    | some z =>
      obtain ⟨rfl, h1, _⟩ := entry_some q
      rw [at_] at e
      exact absurd (Option.some.inj e).symm (n rfl h1)
  have names : ∀ {b : Addr} {m : Str → Option Value}, s.heap.Ns b m → (hidT s.heap H).Ns b m := fun {b m} ⟨u, es, ep, e, d, r⟩ =>
    ⟨u, es, ep, hidT_get e (none_of (fun z => by rw [z, hT] at e; cases e; cases d) e fun _ _ z => by rw [z] at d; cases (show Data.seq vs.toArray _ = Data.dict es ep from d)), d, r⟩
  have kept : K.In (hidT s.heap H) := fun b u e => hidT_get (inK b u e) (none_of (fun z => by rw [z, hK] at e; cases e) (inK b u e) fun h1 h2 _ => by rw [h1, ht.mp h2] at e; cases e)
  have ok : HOk P w H s.heap := fun b u q => by
    by_cases e : b = Pt
    · subst e
      rw [HP] at q
      cases q
      exact hT
    · rw [Hb e] at q
      obtain ⟨rfl, _, rfl⟩ := entry_some q
      exact ⟨at_, by rw [List.length_map]; exact hl, vs, _, rv, at_⟩
  have script : SqL K H a (ns.map V.int) := by
    cases q : K.lookup a with
    | none => exact .inl (.inr ⟨o, (Hb naP).trans (if_pos ⟨rfl, ht.mpr q⟩)⟩)
    | some u =>
      obtain rfl : o = u := Option.some.inj (at_.symm.trans (inK a u q))
      exact .inr ⟨_, vs.toArray, _, q, rfl, rfl, rfl, by rw [List.size_toArray, hi.length]; exact hl, by simpa using rv⟩
  have bmat : (hidT s.heap H).BuiltinsAt mg Pt := by
    obtain ⟨bm, ob, h1, h2, h3, h4, h5, h6⟩ := bmain
    have n1 : bm ≠ Pt := fun z => by rw [z, hT] at h3; cases h3; cases h6
    refine ⟨bm, ob, h1, h2, fun z => ?_, n1, hidT_get h3 (none_of n1 h3 fun _ _ z => by rw [z] at h6; cases h6), h4, h5, h6⟩
    obtain ⟨u, es, ep, e, d, _⟩ := glob
    rw [z, e] at h3
    cases h3
    rw [h6] at d
    cases d
  have gP : mainGlobals ≠ Pt := fun z => by
    obtain ⟨u, es, ep, e, d, _⟩ := glob
    rw [z, hT] at e
    cases e
    cases d
  have env : Env0 P w K mg (hidT s.heap H) callerA [] s H :=
    { frames := rfl, mod := ⟨kept, names glob, ⟨mb, names hb, boot⟩, let ⟨mc, h1, h2⟩ := lim; ⟨mc, names h1, h2⟩⟩, bs := fun _ _ e => of_hidT e, bsz := Nat.le_of_eq (hidT_size _ _), funs := trivial, frf := fun b hb => absurd hb List.not_mem_nil, hok := ok, bare := .of_eq hg }
  refine codeAny_mono (run _ kept (names glob) (NdefX.tabB_of_K kept hc bmat gP) [] s H ⟨[.ref a], []⟩ [.ref a] [.ref a] _ _ env (binds s _) (.cons rfl .nil) (hsp H HP naP script)) fun r s' h => ?_
  match r, h with
  | .ok (.ret u), ⟨v, H', os, bare, un, hok', r', q⟩ =>
    obtain rfl : v = .bl true := q
    refine ⟨by rw [show u = Value.bool true from r'], ⟨fun b z e => ?_, fun b z e => un.there b z e (by simp)⟩, os, bare⟩
    by_cases eb : b = Pt
    · subst eb
      rw [hT] at e
      cases e
      obtain ⟨more, hm⟩ := un.tbls b _ HP
      have h2 := hok' b _ hm
      obtain ⟨oc, vs2, _, _, _, _, _, _, _, g1, g2, g3, g4, _⟩ := (NdefX.tabB_of_K (mg := mg) kept hc bmat gP).code
      exact .inr (.inl ⟨⟨c, oc, vs2, (of_hidT g1).1, g2, g3, g4⟩, rfl, #[], more, rfl, h2⟩)
    · cases hb : H b with
      | none => exact .inl (un.keep b z e hb (by intro z; cases z) (by simp))
      | some y =>
        have hb2 := hb
        rw [Hb eb] at hb2
        obtain ⟨rfl, _, rfl⟩ := entry_some hb2
        have e2 := (hok' b _ (un.frzs b o _ hb)).1
        rw [at_] at e
        exact .inl ((Option.some.inj e) ▸ e2)
/-- the end of a text: as Gd.walk_at, with the table of the def whose code is c -/
theorem walk_tab {l : PySem.W.OpenLaw} {n : Nat} {q : Program} {loose : List Str} {XP : (Str → Option Value) → Heap → Prop} {YP : World → Heap → Prop} {d : DefRec} {K : Params → PySem.W.Frag} {sp : World → Sp} {x : Str} {c Pt : Addr}
    (hn : l.most = some n) (hn2 : n ≤ sizeLine) (hdf : d.params.defaults = []) (hY : ∀ (w : World) (h : Heap), YP w h → (K w.params).In h ∧ h.get? Pt = some (PySem.W.tabObj #[])) (hK : ∀ w : World, (K w.params).lookup Pt = none) (hc : ∀ w : World, PySem.W.codeHdIn (K w.params) c Pt = true)
    (F : ∀ (w : World) (mg : Str → Option Value) (fa : Addr) (h : Heap), (K w.params).In h → h.Ns mainGlobals mg → mg d.name = some (.ref fa) →
      ∃ fd : FuncData, (∀ (s : Shared) (u : Value), BindsTo s fd ⟨[u], []⟩ [(x, u)]) ∧ ∀ base : Heap, (K w.params).In base → base.Ns mainGlobals mg → LamX.TabB base mg c Pt → RunAt callerA l.prog w (K w.params) mg base fa fd [x] (sp w))
    (hsp : ∀ (w : World) (H : Hp) (a : Addr) (ns : List Int), ns.length ≤ n → H Pt = some (.tbl #[]) → a ≠ Pt → SqL (K w.params) H a (ns.map V.int) → sp w [.ref a] H (fun v _ => v = .bl true) fun _ _ _ => False) :
    PySem.W.WalkO q loose XP YP l.row.toRowW d [] (fun f vs => PySem.call f vs) := by
  refine Att.attach_call hn hdf fun w _ s mg mb fa o pm cd doc a vs ns G Y ho hd hcd hmg hobj hints hlen hg => ?_
  obtain ⟨inK, hT⟩ := hY w _ Y
  obtain ⟨fd, hb, hF⟩ := F w mg fa _ inK G.T.g hmg
  exact law_tab inK G.T.g G.T.b G.T.builtins G.T.nolimit hg G.T.bmain hT (hK w) (hc w) hobj hints (Nat.le_trans hlen hn2) hF hb fun H hP na hS => hsp w H a ns hlen hP na hS
end Gt
namespace Zl
open PySem PySem.Spec PyProof.Rows L2 Lf
theorem law_spT {w : World} {K : PySem.W.Frag} {F : DSp} {H : Hp} {a Pt : Addr} {q : Str} {ns : List Int} {E : XK} (h : F [.scr ns] [(Pt, .tab q)] fun x _ => x = .dat (.bool true)) (hP : H Pt = some (.tbl #[])) (na : a ≠ Pt) (hS : SqL K H a (ns.map V.int)) : spZ w K F [.ref a] H (fun v _ => v = .bl true) E := by
  have hS' : SqL K (Fz ([] ++ [(Pt, .tab q)]) H) a (ns.map V.int) := by
    have g : Fz ([] ++ [(Pt, Node.tab q)]) H a = H a := if_neg (by simpa using na)
    rcases hS with (h | ⟨o, h⟩) | h
    · exact .inl (.inl (g.trans h))
    · exact .inl (.inr ⟨o, g.trans h⟩)
    · exact .inr h
  refine ⟨⟨fun _ => none, []⟩, _, _, _, rfl, ⟨by simp, fun x o e => (by cases e), .cons ⟨a, rfl, hS'⟩ .nil, fun p hp => ?_⟩, h, fun x μ' e v H' R => ?_⟩
  · rw [List.mem_singleton.mp hp]
    exact ⟨#[], hP, trivial, fun _ _ z => by cases z⟩
  subst e
  cases (R.head : Dz _ v (.bool true))
  rfl
end Zl
namespace Zl
open PySem PySem.Spec PyProof.Rows L2 Lf
/-- as runZ, the def's code known -/
theorem runZC {A : Around} {P : Program} {w : World} {K : PySem.W.Frag} {mg : Str → Option Value} {base : Heap} {x qual : Str} {st : Stmt} {f c : Addr} {fd : FuncData} {N ps : List Str} {k : Nat} {F : DSp} (FF : Fun K x qual st f fd) (hc : fd.code = .ref c) (S : FnScope N ps (defScope st))
    (rm : Room (k + 1) A) (len : ∀ xs μ Q, F xs μ Q → xs.length = ps.length)
    (body : ∀ (outer : List Env) (s : Shared) (H : Hp) (E : XK), Room k (A.deeper (envOfC qual (defScope st) s.heap.objs.size f (.ref c))) →
      ∃ t : DTS, DSs (cxOf CX0 P w K mg base N qual (defScope st) f (.ref c) A outer s H E).nox (defBody st) t ∧ ∀ xs μ Q, F xs μ Q → t (dEnd Q) (startZ N xs) μ) : Gd.RunAt A P w K mg base f fd ps (spZ w K F) := by
  obtain ⟨oc, od, kV, doc, pm, an, cdv, ct, osl, rfl, lk, hcd⟩ := FF.ex
  cases (hc : cdv = .ref c)
  intro outer s H args us vs Q E e0 hb rv hsp
  have inK : K.In s.heap := e0.mod.kin.keeps fun b o e => (e0.bs b o e).1
  have lenv : vs.length = ps.length := by
    obtain ⟨B, xs, μ, Q0, l, _, h, _⟩ := hsp
    rw [l]
    exact len _ _ _ h
  refine codeAny_call_function rm.depth (inK _ _ lk) rfl S.co S.gen rfl (PySem.W.codeRec_of inK hcd) (hb _ _ _ _ ?_)
  refine wpAny_newFunctionEnv_cells S.kind (fun ⟨n, v⟩ hm => (S.par n (List.of_mem_zip hm).1).imp id fun c => ⟨c, PySem.W.cellsFrom_some _ _ _ (.inl c)⟩) fun env he s1 ic => ?_
  subst he
  obtain ⟨B, xs, μ, Q0, l, R, h, low⟩ := hsp
  obtain ⟨t, d, q⟩ := body outer s H E (rm.deeper _)
  have hq : upS (cxOf CX0 P w K mg base N qual (defScope st) f (.ref c) A outer s H E).nox B t { nx := fun _ H' => Q .non H', rt := Q } (start N vs) H := by
    refine ⟨startZ N xs, μ, dEnd Q0, ?_, q xs μ Q0 h, ?_⟩
    · refine R.slots ?_
      unfold L2.start startZ
      rw [l]
      exact paired_app R.sl (paired_none _)
    · exact ⟨fun ρ μ ⟨μ', h, q⟩ σ H R => low _ _ q _ _ ((R.less h).slots (.cons .non .nil)), fun x μ ⟨μ', h, q⟩ v H R => low _ _ q _ _ (R.less h), fun _ _ q => q.elim, fun _ _ q => q.elim⟩
  refine ⟨(e0.mod.nolimit.keeps fun b o e => (e0.bs b o e).1).keeps ic.toInCall.keep, codeAny_func (wpAny_mono ((d.run B).nox.run [] s1 (start N vs) H _ (inv_start S rm.hd e0 lenv rv ic) hq) (fun fl s' hs => ?_) fun _ _ h => h)⟩
  cases fl with
  | ret u => exact let ⟨v, _, H', J, r, q⟩ := hs; ⟨v, H', J.os, J.bare, J.base, J.hok, r, q⟩
  | next => exact let ⟨_, H', J, q⟩ := hs; ⟨V.non, H', J.os, J.bare, J.base, J.hok, rfl, q⟩
  | brk => exact (let ⟨_, _, _, q⟩ := hs; q : False).elim
  | cont => exact (let ⟨_, _, _, q⟩ := hs; q : False).elim
theorem okZC {P : Program} {w : World} {K : PySem.W.Frag} {mg : Str → Option Value} {base : Heap} {x qual : Str} {st : Stmt} {f c : Addr} {fd : FuncData} {N ps : List Str} {k : Nat} {F : DSp} (FF : Fun K x qual st f fd) (hc : fd.code = .ref c) (S : FnScope N ps (defScope st))
    (len : ∀ xs μ Q, F xs μ Q → xs.length = ps.length)
    (body : ∀ (A : Around) (outer : List Env) (s : Shared) (H : Hp) (E : XK), Room k (A.deeper (envOfC qual (defScope st) s.heap.objs.size f (.ref c))) →
      ∃ t : DTS, DSs (cxOf CX0 P w K mg base N qual (defScope st) f (.ref c) A outer s H E).nox (defBody st) t ∧ ∀ xs μ Q, F xs μ Q → t (dEnd Q) (startZ N xs) μ) : FnOk P w K mg base CX0 (k + 1) f fd ps (spZ w K F) := by
  obtain ⟨oc, od, kV, doc, pm, an, cdv, ct, osl, rfl, lk, hcd⟩ := FF.ex
  cases (hc : cdv = .ref c)
  refine fn_of lk hcd S (fun vs H Q E h => ?_) fun A outer s H vs Q E hr h => ?_
  · obtain ⟨B, xs, μ, Q0, l, _, h, _⟩ := h
    rw [l]
    exact len _ _ _ h
  · obtain ⟨B, xs, μ, Q0, l, R, h, low⟩ := h
    obtain ⟨t, d, q⟩ := body A outer s H E hr
    refine ⟨_, (d.run B).nox, startZ N xs, μ, dEnd Q0, ?_, q xs μ Q0 h, ?_⟩
    · refine R.slots ?_
      unfold L2.start startZ
      rw [l]
      exact paired_app R.sl (paired_none _)
    · exact ⟨fun ρ μ ⟨μ', h, q⟩ σ H R => low _ _ q _ _ ((R.less h).slots (.cons .non .nil)), fun x μ ⟨μ', h, q⟩ v H R => low _ _ q _ _ (R.less h), fun _ _ q => q.elim, fun _ _ q => q.elim⟩
end Zl
/-! d.get(k); a statement that is never reached; the first items of a tuple in a key. -/
namespace Vd
open PySem PySem.Spec PyProof.Rows L2
section
variable {X : Cx} {pins : List (Addr × Obj)} {σ : L2.St} {H : Hp} {s : Shared} {a : Addr} {kvs : List KVR} {k : NestedKey} {y z : V} {u r : Value} {A : Around} {E : Value → Shared → Prop}
theorem c_get1 {Q : Value → Shared → Prop} (hu : A.units + 64 < cLine) (I : Inv X pins σ H s) (D : DAt X.w H a kvs) (ok : KeyOk k) (ky : KeyAt H k y) (ry : RelV y u) (h : ∀ w' s', Inv X pins σ H s' → RelV ((lookV kvs k).getD .non) w' → Q w' s') :
    wpAny (model X.prog X.w) A (call (.builtin "dict.get") [.ref a, u]) Q E s := by
  obtain ⟨hd, hz, xs, rel, m, R⟩ := D.out I.hok
  refine call_meetsIn PySem.F.slot_dict_get m.ty PySem.F.entry_dict_get (PySem.F.args_dict_get_2 _ _) (S := fun A' R s' => A' = A ∧ s' = s ∧ ∀ w' s2, Inv X pins σ H s2 → RelV ((lookV kvs k).getD .non) w' → R (.ok (.ret w')) s2) (.of_wp fun A' R' s' hS => ?_) ⟨rfl, rfl, fun w' s2 i q => h w' s2 i q⟩
  obtain ⟨rfl, rfl, hq⟩ := hS
  show wpAny _ _ (dictGet a u >>= _) _ _ _
  refine wpAny_bind (get (room8 hu) (ky.is I.hok ry) ok m R ?_)
  rcases look_cases rel k with ⟨e1, e2⟩ | ⟨v, w', e1, e2, rv⟩
  · rw [e2]
    rw [e1] at hq
    show wpAny _ _ (Builtin.Dict.missed a u >>= _) _ _ _
    exact wpAny_bind (wpAny_missed_other hd (wpAny_pure ⟨.none, rfl, hq .none _ (I.tok _) rfl⟩))
  · rw [e2]
    rw [e1] at hq
    exact wpAny_pure ⟨w', rfl, hq w' _ (I.tok _) rv⟩
end
structure G1 (X : Cx) (o : Expr) (m : Str) (apos : Pos) (e : Expr) (cpos : Pos) : Prop where
  base : attributeBase o m X.env (eval o X.env) = eval o X.env
  few : ((((backTo cpos (starEach [e] X.env)).all fun x => !x.1) && (backToKw cpos (keywordEach [] X.env)).all fun x => x.1.isSome) && decide (([e].length + ([] : List Keyword).length + if ([] : List Keyword).isEmpty = true then 0 else 1) < 30)) = true
  line : (apos.endLine == cpos.line) = true
  trees : backTo cpos (starEach [e] X.env) = [(false, eval e X.env)]
/-- d.get(k) -/
def tGet1 (w : World) (td ty : TE) : TE := fun σ H Q => td σ H fun x H1 => ∃ a, x = .ref a ∧ Some w H1 a ∧ ty σ H1 fun y H3 => ∃ kvs k, DAt w H3 a kvs ∧ KeyOk k ∧ KeyAt H3 k y ∧ Q ((lookV kvs k).getD .non) H3
section
variable {X : Cx} {o e : Expr} {apos cpos : Pos} {td ty : TE}
theorem pe_get1 (hu : X.A.units + 64 < cLine) (ho : PE X o td) (he : PE X e ty) (m : G1 X o "get" apos e cpos) : PE X (.Call (.Attribute o "get" apos) [e] [] cpos) (tGet1 X.w td ty) := by
  refine ⟨fun pins s σ H Q I h => ?_⟩
  refine wpAny_Call_method m.base m.few m.line PySem.F.plainAttrs_dict PySem.F.slot_dict_get PySem.F.type_dict_get (thn (ho.run pins s σ H _ I h) fun u s1 ⟨x, H1, I1, rx, a, ex, d, q1⟩ => ?_)
  subst ex
  cases (show u = Value.ref a from rx)
  refine ⟨(some_at I1 d).1, (some_at I1 d).2, ?_⟩
  rw [m.trees]
  refine Calls.callWith_builtin rfl (Calls.evalArgs_plain (Calls.spliced_cons (thn (he.run pins s1 σ H1 _ I1 q1) fun iv s2 ⟨y, H2, I2, ry, kvs, k, D, ok, ky, q3⟩ => Calls.spliced_nil ?_)))
  exact c_get1 hu I2 D ok ky ry fun w' s4 I4 rw' => ⟨_, H2, I4, rw', q3⟩
end
end Vd
namespace Zl
open PySem PySem.Spec PySem.W PyProof.Rows L2 Lf
section
variable {X : Cx} {o e : Expr} {apos cpos : Pos} {fd fk : DTE}
abbrev dGet1 (fd fk : DTE) : DTE := fun ρ μ Q => fd ρ μ fun d μ1 => match d with
  | .ptr a => (∃ kvs, DvAt μ1 a kvs) ∧ fk ρ μ1 fun y μ3 => match y with
    | .dat dk => ∃ kvs k, DvAt μ3 a kvs ∧ keyD dk = some k ∧ Vd.KeyOk k ∧ Q ((lookZ kvs k).getD (.dat .none)) μ3
    | _ => False
  | _ => False
theorem d_dget1 (hu : X.A.units + 64 < cLine) (ho : DE X o fd) (he : DE X e fk) (m : Vd.G1 X o "get" apos e cpos) : DE X (.Call (.Attribute o "get" apos) [e] [] cpos) (dGet1 fd fk) :=
  ⟨fun B => PE.weak (Vd.pe_get1 hu (ho.run B) (he.run B) m) fun σ H Q ⟨hv, hx, ρ, μ, Q0, hl, R, q, low⟩ => by
    refine ⟨hv, hx, ρ, μ, _, hl, R, q, fun d μ1 q1 v H1 R1 => ?_⟩
    match d, q1, R1 with
    | .ptr a, q1, R1 =>
      obtain ⟨⟨kvs, h1⟩, q1⟩ := q1
      obtain ⟨ks, D, _⟩ := h1.at R1
      cases (R1.head : v = .ref a)
      refine ⟨a, rfl, ⟨ks, D.at⟩, _ :: hv, _ :: hx, ρ, μ1, _, by simp [hl], R1, q1, fun y μ2 q2 u H2 R2 => ?_⟩
      match y, q2, R2 with
      | .dat dk, q2, R2 =>
        obtain ⟨kvs, k, h3, ek, ok, q3⟩ := q2
        obtain ⟨ks3, D3, pr⟩ := h3.at R2
        refine ⟨ks3, k, D3, ok, (keyAt_of dk u k R2.head ek).keep fun a xs e => fz_le _ _ e, ?_⟩
        rcases look_rel pr k with ⟨e1, e2⟩ | ⟨v, x, e1, e2, rv⟩
        · rw [e2] at q3
          rw [e1]
          exact low _ _ q3 _ _ (R2.tail.tail.cons .non)
        · rw [e2] at q3
          rw [e1]
          exact low _ _ q3 _ _ (R2.tail.tail.cons rv)⟩
theorem d_din {i : Expr} {pos : Pos} (hu : X.A.units + 64 < cLine) (hi : DE X i fk) (ho : DE X o fd) (hm : behindInMarks .In o = false := by rfl) : DE X (.Compare i [.In] [o] pos) (dDin id fk fd) :=
  ⟨fun B => PE.weak (pe_cmp (Vd.pc_in hu (hi.run B) (ho.run B)) hm) fun σ H Q ⟨hv, hx, ρ, μ, Q0, hl, R, q, low⟩ => by
    refine ⟨hv, hx, ρ, μ, _, hl, R, q, fun y μ1 q1 v H1 R1 => ⟨_ :: hv, _ :: hx, ρ, μ1, _, by simp [hl], R1, q1, fun d μ2 q2 u H2 R2 => ?_⟩⟩
    match d, y, q2, R2 with
    | .ptr a, .dat dk, q2, R2 =>
      obtain ⟨kvs, k, h, ek, ok, q2⟩ := q2
      obtain ⟨ks, D, pr⟩ := h.at R2
      cases (R2.head : u = .ref a)
      refine ⟨a, ks, k, rfl, D, ok, (keyAt_of dk v k R2.tail.head ek).keep fun a xs e => fz_le _ _ e, ?_⟩
      rw [look_some pr]
      exact low _ _ q2 _ _ (R2.tail.tail.cons (.bl _))⟩
/-- a statement that is never reached -/
theorem ds_never {st : Stmt} : DS X st (fun _ _ _ => False) := ⟨fun B => ⟨fun pins s σ H D I h => by
  obtain ⟨_, _, _, _, h, _⟩ := h
  exact h.elim⟩⟩
end
end Zl
namespace Zq
open PySem PySem.Spec PySem.W PySem.Calls PyProof.Rows L2
theorem readsAll_len {h : Heap} {vs : List Value} {ds : List PyData} {as : List Addr} (r : ReadsAll h vs ds as) : vs.length = ds.length := SeqAt.ReadsAll.length _ _ _ r
theorem readsAll_take {h : Heap} : ∀ (n : Nat) {ds : List PyData} {vs : List Value}, ReadsAll h vs ds [] → ReadsAll h (vs.take n) (ds.take n) []
  | 0, _, _, _ => .nil
  | n + 1, [], vs, r => by
    cases r with
    | nil => exact .nil
  | n + 1, d :: ds, vs, r => by
    generalize e : ([] : List Addr) = as at r
    cases r with
    | @cons v vs _ _ as bs h1 h2 =>
      have e' := e.symm
      rw [List.append_eq_nil_iff] at e'
      obtain ⟨rfl, rfl⟩ := e'
      exact .cons (as := []) (bs := []) h1 (readsAll_take n h2)
/-- a[:k] of a tuple -/
theorem pu_upto {P : Program} {w : World} {A : Around} {env : Env} {s0 : Shared} {a : Expr} {pos p2 p3 : Pos} {ds : List PyData} {k : Nat} {kk : Nat} (ha : PuE P w A env s0 a (.tuple ds)) (hk : k < ds.length) (hl : ds.length ≤ sizeLine)
    (ht : ∀ o i : Value, subscripted (.Slice none (some (.Constant (.int k) kk p3)) none p2) false o i = operate [i, o] (getItem o i) := by intros; rfl) : PuE P w A env s0 (.Subscript a (.Slice none (some (.Constant (.int k) kk p3)) none p2) pos) (.tuple (ds.take k)) :=
  ⟨fun s kp => by
    refine Subscript_ (wpAny_mono (ha.run s kp) (fun o s1 h1 => ?_) fun _ _ e => e)
    obtain ⟨k1, r1⟩ := of_pure h1
    refine wpAny_Slice ?_
    rw [evalPart_none]
    refine wpAny_pure ?_
    show wpAny _ _ (eval (.Constant (.int k) kk p3) env) _ _ _
    refine wpAny_Constant_int ?_
    refine wpAny_pure ?_
    generalize e0 : ([] : List Addr) = as at r1
    cases r1 with
    | @tuple a o vs n _ _ ho hc hdt hr =>
      subst e0
      have sz : vs.size = ds.length := by rw [← Array.length_toList]; exact SeqAt.ReadsAll.length _ _ _ hr
      let sv : Obj := { cls := .type "slice", data := .fields #[.none, .int k s1.toks, .none] }
      have k2 : Keep s1 { s1 with heap := s1.heap.push sv, toks := s1.toks + 1 } := ⟨_, _, rfl, fun b o e => Heap.get?_push_of_some _ e⟩
      have it : IsTup (s1.heap.push sv) a vs := ⟨o, Heap.get?_push_of_some _ ho, hc, n, hdt⟩
      have i0 : HT.sIx vs.size 0 none = 0 := rfl
      have i1 : HT.sIx vs.size vs.size (some (k : Int)) = k := by
        show (if (k : Int) < 0 then ((k : Int) + (vs.size : Nat)).toNat else min (k : Int).toNat vs.size) = k
        rw [if_neg (by omega)]
        omega
      refine tail_any (IsTup.typeIs it) (Slot.lookup slot_tuple_getitem) (HT.getItem_tuple_cut it (Heap.IsSliceOf.new _ _ _ _) (IsPart.none) (IsPart.int k s1.toks) (fun z => by rw [i1] at z; omega) ?_ (by omega)) (ht _ _)
      rw [i0, i1, List.drop_zero, Nat.sub_zero]
      have k3 : Keep { s1 with heap := s1.heap.push sv, toks := s1.toks + 1 } { s1 with heap := (s1.heap.push sv).push { cls := .type "tuple", data := .seq (vs.toList.take k).toArray }, toks := s1.toks + 1 } := ⟨_, _, rfl, fun b o e => Heap.get?_push_of_some _ e⟩
      refine pure_of ((k1.trans k2).trans k3) (.tuple (Heap.get?_push_size _ rfl) rfl rfl ?_)
      rw [List.toList_toArray]
      exact readsAll_take k (ReadsAll.keeps (k2.trans k3).mem hr)⟩
end Zq
/-! isinstance(x, T) of data and own lists. -/
namespace Zl
open PySem PySem.Spec PySem.W PyProof.Rows L2 Lf
def tyD : PyData → String
  | .none => "NoneType"
  | .bool _ => "bool"
  | .int _ => "int"
  | .str _ => "str"
  | .list _ => "list"
  | .tuple _ => "tuple"
  | .dict _ => "dict"
inductive TyZ (μ : Store) : Val → String → Prop
  | dat (d : PyData) : TyZ μ (.dat d) (tyD d)
  | lst (j : Nat) {a : Addr} {xs : List Val} : μ[j]? = some (a, Node.lst xs) → TyZ μ (.ptr a) "list"
section
variable {X : Cx} {B : Base} {σ : List (Option V)} {ρ : DR} {H : Hp} {μ : Store}
theorem TyZ.ok {v : V} {x : Val} {t : String} (h : TyZ μ x t) (R : RL X.w X.K B H (some v :: σ) (some x :: ρ) μ) : TyX X.K H v (.type t) := by
  have hd := R.head
  cases h with
  | dat d =>
    have hd : Dz _ v d := hd
    cases hd with
    | non => exact .base .non
    | bl b => exact .base (.bl b)
    | int i => exact .base (.int i)
    | str x => exact .base (.str x)
    | lst e _ => exact .base (.lst (fz_le _ _ e))
    | tup e _ => exact .base (.tup (fz_le _ _ e))
  | lst j hj =>
    obtain ⟨us, e, _⟩ := R.at hj
    cases (hd : v = .ref _)
    exact .base (.lst e)
abbrev dIsi (T : String) (f : DTE) : DTE := fun ρ μ Q => f ρ μ fun x μ1 => ∃ t b, TyZ μ1 x t ∧ kitB t T = some b ∧ Q (.dat (.bool b)) μ1
theorem d_isi {T : String} {y : Str} {e : Expr} {f : DTE} {p p2 pos : Pos} (hI : Gl X "isinstance") (mI : X.mg "isinstance" = none) (hT : Gl X y) (mT : X.mg y = none) (bT : bootBuiltins y = some (.type T)) (he : DE X e f)
    (n1 : y ≠ "__name__" := by decide) (n2 : (y == ("__debug__" : Str)) = false := by decide) (h1 : starEach [e, .Name y p2] X.env = (false, eval e X.env) :: starEach [.Name y p2] X.env := by rfl) (h2 : ((backTo pos (starEach [.Name y p2] X.env)).any fun x => x.1) = false := by rfl)
    (h3 : starEach [.Name y p2] X.env = (false, eval (.Name y p2) X.env) :: starEach [] X.env := by rfl) :
    DE X (.Call (.Name "isinstance" p) [e, .Name y p2] [] pos) (dIsi T f) := by
  refine ⟨fun B => PE.weak (pe_callB call_isi hI mI (by decide +kernel) (pa_cons (he.run B) (pa_cons (pe_bltn (v := V.ty T) (u := .type T) hT mT bT rfl n1 n2) pa_nil h3) h1) (by decide) (by decide) h1 h2) fun σ H Q h => ?_⟩
  obtain ⟨hv, hx, ρ, μ, Q0, hl, R0, h, low⟩ := h
  refine ⟨hv, hx, ρ, μ, _, hl, R0, h, fun x μ1 h1 u H1 R1 => ?_⟩
  obtain ⟨t, b, ht, hk, q⟩ := h1
  exact ⟨_, _, _, _, b, rfl, .ty T, ht.ok R1, kit_ty hk, low _ _ q _ _ (R1.tail.cons (.bl b))⟩
/-! enumerate(list) -/
def plainV : Val → Prop
  | .dat _ => True
  | .ptr _ => True
  | _ => False
def enV (i : Nat) : Val → Val
  | .dat d => .dat (.tuple [.int i, d])
  | .ptr a => .prt (.int i) a
  | x => x
def enumZ : Nat → List Val → List Val
  | _, [] => []
  | i, x :: xs => enV i x :: enumZ (i + 1) xs
theorem enumZ_len : ∀ {xs : List Val} {k : Nat}, (enumZ k xs).length = xs.length
  | [], _ => rfl
  | x :: xs, k => congrArg (· + 1) (enumZ_len (xs := xs) (k := k + 1))
theorem enumZ_get : ∀ {xs : List Val} {k i : Nat} {x : Val}, xs[i]? = some x → (enumZ k xs)[i]? = some (enV (k + i) x)
  | y :: xs, k, 0, x, h => by
    cases h
    rfl
  | y :: xs, k, i + 1, x, h => by
    show (enumZ (k + 1) xs)[i]? = _
    rw [enumZ_get (xs := xs) (k := k + 1) (i := i) h, show k + 1 + i = k + (i + 1) by omega]
theorem seq_enum {B : Base} {a : Addr} {x : Val} {xs : List Val} (h : ∀ σ' ρ' H' μ', RL X.w X.K B H' σ' ρ' μ' → keeps x xs μ' → ∃ vs, SqL X.K H' a vs ∧ Paired (RV X.K (Fz (B.fr ++ μ') H')) vs xs) (ok : ∀ y ∈ xs, plainV y) :
    SeqZ X B (Ite X.K a) (enumZ 0 xs) (keeps x xs) := by
  refine ⟨fun σ ρ H μ i R k hi => ?_, fun σ ρ H μ R k => ?_, fun μ q k => ?_⟩
  rotate_left 2
  · unfold keeps at k ⊢
    split at k
    · obtain ⟨j, hj⟩ := k
      exact ⟨j, by rw [List.getElem?_append_left (List.getElem?_eq_some_iff.mp hj).1]; exact hj⟩
    · trivial
  · obtain ⟨vs, h1, h2⟩ := h σ ρ H μ R k
    rw [enumZ_len] at hi
    have hi' : i < vs.length := by rw [h2.length]; exact hi
    have e := List.getElem?_eq_getElem hi'
    have ey := List.getElem?_eq_getElem hi
    obtain ⟨v, ev, rv⟩ := paired_get h2 ey
    refine ⟨⟨vs, _, h1, e⟩, fun z H' y => ?_⟩
    obtain ⟨T, u, rfl, hT, rfl, y⟩ := y
    have := y vs h1
    rw [ev] at this
    cases this
    refine ⟨_, enumZ_get ey, ?_⟩
    obtain ⟨R2, g, ep⟩ := R.newZ (o := .tup [.int i, v]) hT
    have pl := ok _ (List.mem_of_getElem? ey)
    rw [Nat.zero_add]
    cases ex : xs[i] with
    | dat d =>
      rw [ex] at rv
      exact R2.cons (x := .dat (.tuple [.int i, d])) (Dz.tup ep (.cons (.int i) (.cons (Dz.mono g _ _ rv) .nil)))
    | ptr b =>
      rw [ex] at rv
      cases (rv : v = .ref b)
      exact R2.cons (x := .prt (.int i) b) ⟨T, .int i, rfl, ep, .int i⟩
    | scr ns =>
      rw [ex] at pl
      exact pl.elim
    | prt k b =>
      rw [ex] at pl
      exact pl.elim
  · obtain ⟨vs, h1, h2⟩ := h σ ρ H μ R k
    rw [enumZ_len]
    exact ⟨vs, h1, Nat.le_of_eq h2.length⟩
end
section
variable {X : Cx}
abbrev dEnumI (f : DTE) : DTI := fun ρ μ Q => f ρ μ fun x μ1 => match x with
  | .dat (.list ds) => Q (enumZ 0 (ds.map .dat)) (fun _ => True) μ1
  | .ptr a => ∃ (j : Nat) (xs : List Val), μ1[j]? = some (a, Node.lst xs) ∧ (∀ y ∈ xs, plainV y) ∧ Q (enumZ 0 xs) (fun μ => ∃ j : Nat, μ[j]? = some (a, Node.lst xs)) μ1
  | _ => False
theorem di_enum {e : Expr} {f : DTE} {p pos tpos : Pos} {elts : List Expr} {kk : Nat} (hg : Gl X "enumerate") (hm : X.mg "enumerate" = none) (he : DE X e f) (h1 : starEach [e] X.env = [(false, eval e X.env)] := by rfl) :
    DI X (.Tuple elts kk tpos) (.Call (.Name "enumerate" p) [e] [] pos) (dEnumI f) :=
  ⟨fun B => PI.weak (pi_enum hg hm (pa_cons (he.run B) pa_nil h1) h1) fun σ H R q => by
    obtain ⟨hv, hx, ρ, μ, Q0, hl, R0, q, low⟩ := q
    refine ⟨hv, hx, ρ, μ, _, hl, R0, q, fun x μ1 q v H1 R1 => ?_⟩
    have key : ∀ (xs : List Val), Its μ1 x false xs → (∀ y ∈ xs, plainV y) → Q0 (enumZ 0 xs) (keeps x xs) μ1 → ∃ a xs, [v] = [V.ref a] ∧ SqL X.K H1 a xs ∧ R (Ite X.K a) H1 := fun xs h pl q => by
      obtain ⟨a, e, ⟨vs, ex⟩, st⟩ := its_firm R1 h R1.head
      subst e
      exact ⟨a, vs, rfl, ex, low _ _ _ q _ _ R1.tail (seq_enum st pl)⟩
    split at q
    · exact key _ (.d _) (fun y hy => by obtain ⟨d, _, rfl⟩ := List.mem_map.mp hy; trivial) q
    · obtain ⟨j, xs, hj, pl, q⟩ := q
      exact key _ (.p j hj) pl q
    · exact q.elim⟩
end
end Zl
/-! enumerate(tuple) -/
namespace Zq
open PySem PySem.Spec PySem.W PyProof.Rows L2
theorem called_any {M : Model} {A : Around} {E : Value → Shared → Prop} {s : Shared} {cls : Value} {Q : Bool → Shared → Prop} (h : ∀ b, Q b s) : wpAny M A (Builtin.SmallTypes.calledThroughType cls) Q E s := by
  unfold Builtin.SmallTypes.calledThroughType
  exact wpAny_bind (wpAny_stack_any fun st => wpAny_pure (h _))
theorem meets_enumT {a : Value} {o : Obj} {H : Heap → Prop} (hb : Begins a o H) : Meets (Builtin.«enumerate.__new__» ⟨[.type "enumerate", a], []⟩) (fun _ R s => H s.heap ∧ R (.ok (.ret (.ref (s.heap.push o).objs.size))) { s with heap := (s.heap.push o).push { cls := .type "enumerate", data := .fields #[.none, .bool false, .ref s.heap.objs.size, rawInt 0, .none, .none] } }) := by
  refine Meets.of_wp fun prog w A R s h => ?_
  unfold Builtin.«enumerate.__new__» Builtin.SmallTypes.newClass
  refine wpAny_bind ?_
  show wpAny _ _ (isType (Value.type "enumerate") >>= _) _ _ _
  refine wpAny_bind ?_
  show wpAny _ _ (pure true) _ _ _
  refine wpAny_pure ?_
  refine wpAny_ite_false (by decide) ?_
  refine wpAny_bind ?_
  rw [sub_enumerate]
  refine wpAny_pure ?_
  refine wpAny_ite_false (by decide) ?_
  refine wpAny_pure ?_
  refine wpAny_ite_true (by decide +kernel) ?_
  refine wpAny_bind ?_
  refine called_any fun b => ?_
  have fin : wpAny (model prog w) A.in1 (do
      let i ← pyIter a
      let r ← Builtin.SmallTypes.newRecord (Value.type "enumerate") (Builtin.SmallTypes.ownedTupleFields ++ [i, rawInt 0, .none, .none])
      ret r) (fun fin s' => ∃ v, fin = Fin.done (Flow.ret v) ∧ R (Except.ok (Flow.ret v)) s') (fun e s' => R (Except.error e) s') s := by
    refine wpAny_bind (hb.iter prog w A.in1 _ s _ h.1 ?_)
    refine wpAny_bind ?_
    unfold Builtin.SmallTypes.newRecord newObj
    refine wpAny_bind (wpAny_alloc' ?_)
    refine wpAny_pure ?_
    exact wpAny_pure ⟨_, rfl, h.2⟩
  cases b with
  | true =>
    refine wpAny_ite_true (by decide) ?_
    refine wpAny_bind (wpAny_of_eq (a := (a, none)) rfl ?_)
    exact fin
  | false =>
    refine wpAny_ite_false (by decide) ?_
    refine wpAny_bind (wpAny_of_eq (a := (a, none)) rfl ?_)
    exact fin
theorem call_enumT {prog : Program} {w : World} {A : Around} {E : Value → Shared → Prop} {s : Shared} {t : Addr} {items : Array Value} {Q : Value → Shared → Prop} (h : s.heap.IsTuple t items)
    (q : ∀ h' : Heap, IsEnum h' (s.heap.objs.size + 1) s.heap.objs.size 0 Value.none → h'.IsTupleIter s.heap.objs.size t 0 → (∀ (b : Addr) (o : Obj), s.heap.get? b = some o → h'.get? b = some o) → Q (.ref (s.heap.objs.size + 1)) { s with heap := h' }) :
    wpAny (model prog w) A (call (Value.type "enumerate") [Value.ref t]) Q E s := by
  refine callType_new F.called_enumerate (by decide) (F.typeCall_enumerate_1 _) (F.newCall_enumerate_1 _) (fun obj => F.args_object_init_2 _ _) F.entry_enumerate_new (meets_enumT (begins_tuple t items)) ⟨h, ?_⟩
  have z : (s.heap.push { cls := .type "tuple_iterator", data := .fields #[.ref t, .int 0 0] }).objs.size = s.heap.objs.size + 1 := Heap.size_push _ _
  refine ⟨⟨_, Heap.get?_push_size _ rfl, rfl⟩, ?_⟩
  rw [z]
  refine q _ ?_ ⟨_, Heap.get?_push_of_some _ (Heap.get?_push_size _ rfl), rfl, rfl⟩ fun b o e => Heap.get?_push_of_some _ (Heap.get?_push_of_some _ e)
  show Heap.get? _ (s.heap.objs.size + 1) = _
  rw [← z]
  exact Heap.get?_push_size _ rfl
end Zq
namespace Zl
open PySem PySem.Spec PySem.W PyProof.Rows L2 Lf
/-- enumerate(tuple) -/
def IteT (K : PySem.W.Frag) (a : Addr) : It :=
  ⟨fun i H => ∃ (xs : List V) (x : V), SqT K H a xs ∧ xs[i]? = some x, fun i H v H' => ∃ T x, v = .ref T ∧ H T = none ∧ H' = upd H T (.tup [.int ((i : Nat) : Int), x]) ∧ ∀ xs, SqT K H a xs → xs[i]? = some x, fun i H => ∃ xs : List V, SqT K H a xs ∧ xs.length = i⟩
def EnT (a e it : Addr) (i : Nat) (h : Heap) : Prop := (∃ z, IsEnum h e it ((i : Nat) : Int) z) ∧ h.IsTupleIter it a i ∧ e ≠ it
theorem EnT.apart {a e it : Addr} {i : Nat} {h : Heap} {vs : Array Value} (st : EnT a e it i h) (l : h.IsTuple a vs) : a ≠ it ∧ e ∉ [it, a] := by
  obtain ⟨⟨z, en⟩, ⟨o, eo, co, _⟩, hne⟩ := st
  obtain ⟨q, eq, cq, _⟩ := l
  refine ⟨fun z => ?_, fun m => ?_⟩
  · rw [z, eo] at eq
    cases eq
    rw [co] at cq
    exact absurd cq (by decide +kernel)
  · rcases List.mem_cons.mp m with z | m
    · exact hne z
    · rw [← List.mem_singleton.mp m] at eq
      rw [show h.get? e = _ from en] at eq
      cases eq
      exact absurd cq (show ¬ (Value.type "enumerate" = Value.type "tuple") by decide +kernel)
theorem turn_enumT {P : Program} {w : World} {K : PySem.W.Frag} {elts : List Expr} {kk : Nat} {tpos : Pos} (a e it : Addr) :
    Turn P w K (.Tuple elts kk tpos) (IteT K a) [e, it] e (EnT a e it) := by
  have two : ∀ {b : Addr}, b ∈ [e, it] → b = e ∨ b = it := fun m => (List.mem_cons.mp m).imp id List.mem_singleton.mp
  refine ⟨List.mem_cons_self .., fun i h st b m => ?_, fun i h h' st kp => ?_, ?_, ?_, ?_⟩
  · obtain ⟨⟨z, en⟩, ⟨o, eo, _, dt⟩, _⟩ := st
    rcases two m with rfl | rfl
    · exact ⟨_, en, fun v c => by cases c⟩
    · refine ⟨o, eo, fun v c => ?_⟩
      rw [dt] at c
      cases c
  · obtain ⟨⟨z, en⟩, li, hne⟩ := st
    exact ⟨⟨z, kp e (List.mem_cons_self ..) _ en⟩, li.at fun o q => kp it (List.mem_cons_of_mem _ (List.mem_singleton.mpr rfl)) o q, hne⟩
  · intro X h1 h2 h3 h4 i pins s σ H E I free st go
    cases h1
    cases h2
    cases h3
    obtain ⟨xs, x, sx, hx⟩ := go
    obtain ⟨vs, rel, isl, _⟩ := I.tuple sx
    obtain ⟨u, eu, ru⟩ := rel.get hx
    have ap := st.apart isl
    obtain ⟨⟨z, en⟩, li, hne⟩ := st
    have lt_e : e < s.heap.objs.size := Heap.lt_size en
    have lt_i : it < s.heap.objs.size := by
      obtain ⟨_, q, _⟩ := li
      exact Heap.lt_size q
    have at_u : vs.toArray[i]? = some u := by
      rw [List.getElem?_toArray]
      exact eu
    have lt_n : i < vs.toArray.size := (Array.getElem?_eq_some_iff.mp at_u).1
    refine wpAny_pyNext_enum_itemC (Draws.tuple (A := X.A.in1) (show X.A.in1.handled = none from I.ok.hd h4) it a ap.1 vs.toArray) en ⟨li, isl⟩ lt_n hne ap.2 fun y g tk ey out st2 pair size kept => ?_
    have euy : u = y := Option.some.inj (at_u.symm.trans ey)
    subst euy
    refine ⟨_, rfl, wpAny_letOwnedTupleGo_enum (s := { s with heap := g, toks := tk + 1 }) out fun g2 en2 sb => ?_⟩
    have at_T := (sb.2 _ (Nat.ne_of_gt lt_e)).trans pair
    have old : ∀ b ob, b ∉ [e, it] → s.heap.get? b = some ob → g2.get? b = some ob := fun b ob m q =>
      (sb.2 b fun z => m (z ▸ List.mem_cons_self ..)).trans (kept b ob (fun z => m (z ▸ List.mem_cons_self ..)) (fun z => m (z ▸ List.mem_cons_of_mem _ (List.mem_singleton.mpr rfl))) q)
    have pairOk : ObjOk X.prog X.w (upd H s.heap.objs.size (.tup [.int ((i : Nat) : Int), x])) g2 s.heap.objs.size (.tup [.int ((i : Nat) : Int), x]) :=
      ⟨(by show 2 ≤ sizeLine; decide), [.int ((i : Nat) : Int) tk, u], .cons ⟨tk, rfl⟩ (.cons ru .nil), ⟨_, at_T, rfl, _, rfl⟩⟩
    refine ⟨.ref s.heap.objs.size, _, I.turnedNew (ch := [e, it]) old free (Nat.le_refl _) pairOk, rfl, ⟨_, x, rfl, I.hok.fresh (Nat.le_refl _), rfl, fun ys sy => ?_⟩, ⟨⟨u, ?_⟩, ?_, hne⟩, fun b m => ?_⟩
    · rw [I.tuple_inj sy sx]
      exact hx
    · have ek : ((i + 1 : Nat) : Int) = ((i : Nat) : Int) + 1 := by omega
      rw [ek]
      exact en2
    · exact st2.1.at fun o q => (sb.2 it hne.symm).trans q
    · have lt_b : b < s.heap.objs.size := by rcases two m with rfl | rfl <;> assumption
      rw [upd_ne (Nat.ne_of_lt lt_b)]
      exact (free b m).1
  · intro X h1 h2 h3 h4 i pins s σ H E I free st stop
    cases h1
    cases h2
    cases h3
    obtain ⟨xs, sx, hx⟩ := stop
    obtain ⟨vs, rel, isl, _⟩ := I.tuple sx
    have ap := st.apart isl
    obtain ⟨⟨z, en⟩, li, hne⟩ := st
    obtain ⟨f0, f1, f2, f3, f4, f5⟩ := free it (List.mem_cons_of_mem _ (List.mem_singleton.mpr rfl))
    have full : vs.toArray.size = i := by
      rw [List.size_toArray, ← rel.length]
      exact hx
    refine wpAny_pyNext_enum_endD (Draws.tuple (A := X.A.in1) (show X.A.in1.handled = none from I.ok.hd h4) it a ap.1 vs.toArray) en ⟨full ▸ li, isl⟩ fun g eb => ?_
    exact ⟨rfl, I.turned (t' := s.toks) (fun b o m q => eb b o m q) f0 f1 f3 f4 f5⟩
  · intro A i s Q E st h
    obtain ⟨⟨z, en⟩, _⟩ := st
    exact wpAny_pyIter_enum en h
section
variable {X : Cx}
def iEnumT (K : PySem.W.Frag) (ta : TA) : TI := fun σ H R => ta σ H fun vs H1 => ∃ a xs, vs = [V.ref a] ∧ SqT K H1 a xs ∧ R (IteT K a) H1
theorem pi_enumT {e : Expr} {ta : TA} {p pos tpos : Pos} {elts : List Expr} {kk : Nat} (hg : Gl X "enumerate") (hm : X.mg "enumerate" = none) (ha : PA X [e] ta)
    (he : starEach [e] X.env = (false, eval e X.env) :: starEach [] X.env := by rfl) (hpl : ((backTo pos (starEach [] X.env)).any fun x => x.1) = false := by rfl) :
    PI X (.Tuple elts kk tpos) (.Call (.Name "enumerate" p) [e] [] pos) (iEnumT X.K ta) := by
  refine ⟨fun pins s σ H R I h => ?_⟩
  refine Call_ (ld_blt I hg hm boot_enumerate (callWith_type1 (thn (ha.run pos pins s σ H _ I h) fun us s1 ⟨vs, H1, I1, r1, q1⟩ => ?_) he hpl))
  obtain ⟨a, xs, ex, hq, q⟩ := q1
  subst ex
  obtain rfl := Vals.ref1 r1
  obtain ⟨its, rv, p', hz⟩ := I1.tuple hq
  refine Zq.call_enumT p' fun h' he hit hk => wpAny_pyIter_enum he ?_
  have I3 : Inv X pins σ H1 { s1 with heap := h' } := I1.kept (t' := s1.toks) hk
  refine ⟨s1.heap.objs.size + 1, [s1.heap.objs.size + 1, s1.heap.objs.size], _, _, H1, rfl, I3, turn_enumT a (s1.heap.objs.size + 1) s1.heap.objs.size, ⟨⟨.none, he⟩, hit, Nat.succ_ne_self _⟩, fun b hb => ?_, q⟩
  have hle : s1.heap.objs.size ≤ b := by
    have e' : b = s1.heap.objs.size + 1 ∨ b = s1.heap.objs.size := by simpa using hb
    rcases e' with z | z
    · rw [z]; exact Nat.le_add_right _ _
    · rw [z]; exact Nat.le_refl _
  exact I1.fpOk hle (I1.hok.fresh hle)
end
section
variable {X : Cx} {B : Base}
theorem seq_enumT {a : Addr} {ds : List PyData} (h : ∀ σ' ρ' H' μ', RL X.w X.K B H' σ' ρ' μ' → ∃ vs, SqT X.K H' a vs ∧ Paired (RV X.K (Fz (B.fr ++ μ') H')) vs (ds.map Val.dat)) :
    SeqZ X B (IteT X.K a) (enumZ 0 (ds.map Val.dat)) fun _ => True := by
  refine ⟨fun σ ρ H μ i R k hi => ?_, fun σ ρ H μ R k => ?_, fun μ q k => trivial⟩
  · obtain ⟨vs, h1, h2⟩ := h σ ρ H μ R
    rw [enumZ_len] at hi
    have hi' : i < vs.length := by rw [h2.length]; exact hi
    have e := List.getElem?_eq_getElem hi'
    have ey := List.getElem?_eq_getElem hi
    obtain ⟨v, ev, rv⟩ := paired_get h2 ey
    refine ⟨⟨vs, _, h1, e⟩, fun z H' y => ?_⟩
    obtain ⟨T, u, rfl, hT, rfl, y⟩ := y
    have := y vs h1
    rw [ev] at this
    cases this
    refine ⟨_, enumZ_get ey, ?_⟩
    obtain ⟨R2, g, ep⟩ := R.newZ (o := .tup [.int i, v]) hT
    rw [Nat.zero_add, List.getElem_map]
    rw [List.getElem_map] at rv
    exact R2.cons (x := .dat (.tuple [.int i, _])) (Dz.tup ep (.cons (.int i) (.cons (Dz.mono g _ _ rv) .nil)))
  · obtain ⟨vs, h1, h2⟩ := h σ ρ H μ R
    rw [enumZ_len]
    exact ⟨vs, h1, h2.length⟩
end
section
variable {X : Cx}
abbrev dEnumT (f : DTE) : DTI := fun ρ μ Q => f ρ μ fun x μ1 => match x with
  | .dat (.tuple ds) => Q (enumZ 0 (ds.map .dat)) (fun _ => True) μ1
  | _ => False
/-- enumerate(x), x a tuple of data -/
theorem di_enumT {e : Expr} {f : DTE} {p pos tpos : Pos} {elts : List Expr} {kk : Nat} (hg : Gl X "enumerate") (hm : X.mg "enumerate" = none) (he : DE X e f) (h1 : starEach [e] X.env = [(false, eval e X.env)] := by rfl) :
    DI X (.Tuple elts kk tpos) (.Call (.Name "enumerate" p) [e] [] pos) (dEnumT f) :=
  ⟨fun B => PI.weak (pi_enumT hg hm (pa_cons (he.run B) pa_nil h1) h1) fun σ H R q => by
    obtain ⟨hv, hx, ρ, μ, Q0, hl, R0, q, low⟩ := q
    refine ⟨hv, hx, ρ, μ, _, hl, R0, q, fun x μ1 q v H1 R1 => ?_⟩
    split at q
    · rename_i ds
      obtain ⟨a, e, ⟨vs, ex⟩, st⟩ := its_firm R1 (.t ds) R1.head
      subst e
      exact ⟨a, vs, rfl, ex, low _ _ _ q _ _ R1.tail (seq_enumT fun σ' ρ' H' μ' R' => st σ' ρ' H' μ' R' trivial)⟩
    · exact q.elim⟩
end
/-! max(list of ints) -/
section
variable {X : Cx}
def zMaxL : List Val → Store → DK → Prop := fun xs μ Q => match xs with
  | [x] => itemsOf μ x fun ys => isL x μ ∧ ∃ ns : List Int, ys = ns.map (fun n => .dat (.int n)) ∧ 0 < ns.length ∧ ∀ m ∈ ns, (∀ y ∈ ns, y ≤ m) → Q (.dat (.int m)) μ
  | _ => False
theorem ints_of {K : PySem.W.Frag} {Z : Hp} : ∀ {vs : List V} {ns : List Int}, Paired (RV K Z) vs (ns.map fun n => Val.dat (.int n)) → vs = ns.map V.int
  | [], [], _ => rfl
  | v :: vs, n :: ns, h => by
    cases h with
    | cons h1 h2 =>
      cases (h1 : Dz _ v (.int n))
      rw [ints_of h2]
      rfl
theorem ca_maxL (hc : X.calm = true) : CaZ X (.builtin "max") zMaxL := ⟨_, cr_max hc, fun B σ ρ H μ vs xs Q0 Q l R q low => by
  match xs, l, R, q with
  | [x], l, R, q =>
    obtain ⟨v, rfl, R⟩ := one_arg' l R
    obtain ⟨b, ys, hi, il, ns, ey, h0, q⟩ := itemsOf_its (P := fun ys => isL x μ ∧ ∃ ns : List Int, ys = ns.map (fun n => .dat (.int n)) ∧ 0 < ns.length ∧ ∀ m ∈ ns, (∀ y ∈ ns, y ≤ m) → Q0 (.dat (.int m)) μ) q
    obtain ⟨a, us, rfl, hs, pr⟩ := hi.at R R.head
    have hb : b = false := by
      cases hi with
      | t ds => exact il.elim
      | _ => rfl
    subst hb ey
    refine ⟨a, ns, rfl, by rw [← ints_of pr]; exact hs, h0, fun m hm hle => low _ _ (q m hm hle) _ _ (R.tail.cons (.int m))⟩⟩
end
end Zl
/-! dict(xs), xs a list of pairs whose first items are data that may be keys. -/
namespace Vd
open PySem PySem.Spec PySem.Calls PyProof.Rows L2
def puts : List Row → List Row → List Row
  | acc, [] => acc
  | acc, r :: rs => puts (put acc r.1 r.2.1 r.2.2) rs
def putsV : List KVR → List KVR → List KVR
  | acc, [] => acc
  | acc, r :: rs => putsV (putV acc r.1 r.2.1 r.2.2) rs
theorem puts_app : ∀ (acc a b : List Row), puts acc (a ++ b) = puts (puts acc a) b
  | _, [], _ => rfl
  | acc, r :: a, b => puts_app (put acc r.1 r.2.1 r.2.2) a b
theorem puts_mem : ∀ {rs acc : List Row} {x : Row}, x ∈ puts acc rs → ∃ y, (y ∈ acc ∨ y ∈ rs) ∧ y.1 = x.1 ∧ y.2.1 = x.2.1
  | [], acc, x, h => ⟨x, .inl h, rfl, rfl⟩
  | r :: rs, acc, x, h => by
    obtain ⟨y, hy | hy, e1, e2⟩ := puts_mem (rs := rs) h
    · rcases put_mem hy with ⟨a, b⟩ | ⟨z, hz, a, b⟩
      · exact ⟨r, .inr (List.mem_cons_self ..), a.symm.trans e1, b.symm.trans e2⟩
      · exact ⟨z, .inl hz, a.trans e1, b.trans e2⟩
    · exact ⟨y, .inr (List.mem_cons_of_mem _ hy), e1, e2⟩
theorem puts_nd : ∀ {rs acc : List Row}, (acc.map (·.1)).Nodup → ((puts acc rs).map (·.1)).Nodup
  | [], _, h => h
  | r :: rs, acc, h => puts_nd (rs := rs) (put_nd h)
theorem puts_len : ∀ (rs acc : List Row), (puts acc rs).length ≤ acc.length + rs.length
  | [], acc => Nat.le_refl _
  | r :: rs, acc => by
    have h1 := puts_len rs (put acc r.1 r.2.1 r.2.2)
    have h2 := put_len acc r.1 r.2.1 r.2.2
    show (puts (put acc r.1 r.2.1 r.2.2) rs).length ≤ _
    rw [List.length_cons]
    omega
theorem rel_puts : ∀ {ks acc : List KVR} {rs racc : List Row}, Paired RelR acc racc → Paired RelR ks rs → Paired RelR (putsV acc ks) (puts racc rs)
  | [], _, _, _, h, .nil => h
  | k :: ks, acc, r :: rs, racc, h, .cons h1 t => by
    obtain ⟨k1, k2, k3⟩ := k
    obtain ⟨r1, r2, r3⟩ := r
    obtain ⟨e1, e2, e3⟩ := h1
    dsimp only at e1 e2 e3
    subst e1
    show Paired RelR (putsV (putV acc k1 k2 k3) ks) (puts (put racc k1 r2 r3) rs)
    exact rel_puts (rel_put h k1 e2 e3) t
theorem call_dict_rows {prog : Program} {w : World} {A : Around} {E : Value → Shared → Prop} {s : Shared} {a : Addr} {items : Array Value} {Ts : Nat → Addr} {rs : List Row} {Q : Value → Shared → Prop} (hh : A.handled = none) (hu : A.units + 64 < cLine)
    (pl : PlainSeq "list" s.heap a items) (pi : PairItems s.heap items Ts (rs.map fun r => (r.2.1, r.2.2))) (is : ∀ r ∈ rs, KeyOk r.1 ∧ NestedIs s.heap r.1 r.2.1) (hz : rs.length ≤ sizeLine)
    (h : ∀ h' tk, Holds w h' s.heap.objs.size (puts [] rs) → (∀ b o, s.heap.get? b = some o → h'.get? b = some o) → Q (.ref s.heap.objs.size) { s with heap := h', toks := tk }) :
    wpAny (model prog w) A (call (.type "dict") [.ref a]) Q E s := by
  have el : (rs.map fun r => (r.2.1, r.2.2)).length = rs.length := List.length_map ..
  refine call_dict_arg (PairArg.list a items Ts (rs.map fun r => (r.2.1, r.2.2))) ⟨pl, pi⟩ fun s₁ hs₁ hdf ok₁ => ?_
  subst hs₁
  have push : ∀ b o, s.heap.get? b = some o → (s.heap.push { cls := .type "dict", data := .dict #[] }).get? b = some o := fun b o e => Heap.get?_push_of_some _ e
  have keyS : ∀ h' : Heap, (∀ b o, b ≠ s.heap.objs.size → (s.heap.push { cls := .type "dict", data := .dict #[] }).get? b = some o → h'.get? b = some o) → ∀ r ∈ rs, NestedIs h' r.1 r.2.1 := fun h' hk r hr =>
    NestedIs.at (fun b ob vs n hb hc => hk b ob (Nat.ne_of_lt (Heap.lt_size hb)) (push b ob hb)) _ _ (is r hr).2
  have rowsS : ∀ (i : Nat) (h' : Heap), (∀ b o, b ≠ s.heap.objs.size → (s.heap.push { cls := .type "dict", data := .dict #[] }).get? b = some o → h'.get? b = some o) → Rows h' (puts [] (rs.take i)) := fun i h' hk => by
    have m : ∀ x ∈ puts [] (rs.take i), ∃ r ∈ rs, r.1 = x.1 ∧ r.2.1 = x.2.1 := fun x hx => by
      obtain ⟨y, hy | hy, e⟩ := puts_mem hx
      · cases hy
      · exact ⟨y, List.mem_of_mem_take hy, e⟩
    refine ⟨fun x hx => ?_, fun x hx => ?_, puts_nd List.nodup_nil⟩
    · obtain ⟨r, hr, e1, e2⟩ := m x hx
      rw [← e1]
      exact (is r hr).1
    · obtain ⟨r, hr, e1, e2⟩ := m x hx
      rw [← e1, ← e2]
      exact keyS h' hk r hr
  refine updateFrom_arg (A := A.in1) (Tab := fun i h' => Holds w h' s.heap.objs.size (puts [] (rs.take i)) ∧ ∀ b o, b ≠ s.heap.objs.size → (s.heap.push { cls := .type "dict", data := .dict #[] }).get? b = some o → h'.get? b = some o) (PairArg.list a items Ts (rs.map fun r => (r.2.1, r.2.2))) .none hh ok₁ hdf ⟨Holds.new s.heap, fun _ _ _ e => e⟩ ?_ ?_ ?_ ?_
  · intro i h' tb
    obtain ⟨⟨o, _, _, e, _⟩, _⟩ := tb
    exact Heap.lt_size e
  · intro i h1 h2 wr' hd hw tb hk
    refine ⟨tb.1.stay fun o e => hk _ o hd e, fun b o hb e => ?_⟩
    refine hk b o (fun hm => ?_) (tb.2 b o hb e)
    rcases hw b hm with q | q
    · cases q
    · rw [show (s.heap.push { cls := .type "dict", data := .dict #[] }).get? b = none from q] at e
      cases e
  · intro i k v s' Q' E' hi hrel tb _ hQ
    rw [el] at hi
    have hr := List.getElem?_eq_getElem hi
    have hp : (rs.map fun r => (r.2.1, r.2.2))[i]? = some (k, v) := hrel
    rw [List.getElem?_map, hr] at hp
    have ekv := Option.some.inj hp
    have hm : rs[i] ∈ rs := List.getElem_mem hi
    have et : rs.take (i + 1) = rs.take i ++ [rs[i]] := by rw [List.take_succ, hr]; rfl
    have ep : puts [] (rs.take (i + 1)) = put (puts [] (rs.take i)) rs[i].1 rs[i].2.1 rs[i].2.2 := by
      rw [et, puts_app]
      rfl
    have hle := puts_len (rs.take i) []
    rw [List.length_take, List.length_nil] at hle
    cases ekv
    refine set (by rw [Around.in1_units, Around.in1_units]; omega) (keyS _ tb.2 _ hm) (is _ hm).1 tb.1 (rowsS i _ tb.2) (by omega) fun h' m' R' sb => ?_
    exact hQ h' _ ⟨by rw [ep]; exact m', fun b o hb e => (sb.2 b hb).trans (tb.2 b o hb e)⟩ sb
  · intro h' tk tb hk
    refine ⟨rfl, h h' tk ?_ fun b o e => hk b o (Nat.ne_of_lt (Heap.lt_size e)) (fun z => nomatch z) (push b o e)⟩
    have := tb.1
    rw [el, List.take_length] at this
    exact this
section
variable {X : Cx}
theorem rows_pairs {pins : List (Addr × Obj)} {σ : L2.St} {H : Hp} {s : Shared} (I : Inv X pins σ H s) : ∀ {ps : List Addr} {kvs : List KVR}, Paired (fun p (kv : KVR) => SqT X.K H p [kv.2.1, kv.2.2]) ps kvs →
    ∃ rs : List Row, Paired RelR kvs rs ∧ ∀ (j : Nat) (r : Row), rs[j]? = some r → ∃ b : Addr, ps[j]? = some b ∧ s.heap.IsTuple b #[r.2.1, r.2.2]
  | _, _, .nil => ⟨[], .nil, fun j q e => by simp at e⟩
  | _, _, .cons (a := p) (b := kv) h t => by
    obtain ⟨rs, r, hp⟩ := rows_pairs I t
    obtain ⟨its, rv, ht, _⟩ := I.tuple h
    obtain ⟨u, y, ei, ru, ry⟩ := vals2 rv
    subst ei
    refine ⟨(kv.1, u, y) :: rs, .cons ⟨rfl, ru, ry⟩ r, fun j q e => ?_⟩
    cases j with
    | zero =>
      have e' : (kv.1, u, y) = q := Option.some.inj e
      subst e'
      exact ⟨p, rfl, ht⟩
    | succ j =>
      obtain ⟨b, e1, e2⟩ := hp j q (by simpa using e)
      exact ⟨b, by simpa using e1, e2⟩
/-- dict(xs), xs a list of pairs -/
theorem call_dictNV (hu : X.A.units + 64 < cLine) (hcalm : X.calm = true) : CallR X (.type "dict") (fun xs H Q => ∃ (a : Addr) (ps : List Addr) (kvs : List KVR), xs = [.ref a] ∧ SqL X.K H a (ps.map V.ref) ∧ Paired (fun p (kv : KVR) => SqT X.K H p [kv.2.1, kv.2.2]) ps kvs ∧
    (∀ kv ∈ kvs, KeyOk kv.1 ∧ KeyAt H kv.1 kv.2.1) ∧ ∀ p, H p = none → Q (.ref p) (upd H p (dV X.w p (putsV [] kvs)))) := by
  intro pins s σ H xs us Q I r q
  obtain ⟨a, ps, kvs, ex, hq, hp, hk, q⟩ := q
  subst ex
  obtain ⟨u, eu, rx⟩ := vals1 r
  subst eu
  cases rx
  obtain ⟨its, rv, pl, hz⟩ := I.list hq
  have ei := refs_at rv
  subst ei
  rw [List.length_map] at hz
  obtain ⟨rs, rel, hpr⟩ := rows_pairs I hp
  obtain ⟨o, n, ho, hc, hd, hdat⟩ := pl
  have l1 : rs.length = kvs.length := rel.length.symm
  have l2 : ps.length = kvs.length := hp.length
  refine call_dict_rows (rs := rs) (Ts := fun j => (ps[j]?).getD 0) (I.ok.hd hcalm) hu ⟨o, n, ho, hc, hd, hdat⟩ ⟨by simp; omega, fun j k v e => ?_⟩ (fun r hr => ?_) (by omega) fun h' tk m' k => ?_
  · rw [List.getElem?_map] at e
    obtain ⟨r, er, e2⟩ := Option.map_eq_some_iff.mp e
    cases e2
    obtain ⟨b, e1, e3⟩ := hpr j r er
    refine ⟨by simp [e1], .inl ?_⟩
    show s.heap.IsTuple ((ps[j]?).getD 0) _
    rw [e1]
    exact e3
  · obtain ⟨p, hp, q1⟩ := paired_mem rel hr
    rw [← q1.1]
    exact ⟨(hk p hp).1, (hk p hp).2.is I.hok q1.2.1⟩
  · have hm : (s.heap.objs.size == sysModules) = false := beq_eq_false_iff_ne.mpr (Nat.ne_of_gt I.big)
    have rp : Paired RelR (putsV [] kvs) (puts [] rs) := rel_puts .nil rel
    have hl : (putsV [] kvs).length ≤ sizeLine := by
      rw [rp.length]
      have := puts_len rs []
      rw [List.length_nil] at this
      omega
    exact ⟨.ref s.heap.objs.size, upd H s.heap.objs.size (dV X.w s.heap.objs.size (putsV [] kvs)), I.laid (t' := tk) k (Nat.le_refl _) (dV_ok hm hl rp m'), rfl, q _ (I.hok.fresh (Nat.le_refl _))⟩
end
end Vd
namespace Zl
open PySem PySem.Spec PyProof.Rows L2 Lf
def putsZ : List (NestedKey × Val) → List (NestedKey × PyData) → List (NestedKey × Val)
  | acc, [] => acc
  | acc, r :: rs => putsZ (putZ acc r.1 (.dat r.2)) rs
section
variable {X : Cx}
/-- dict(xs), xs an own list of pairs, a key and data -/
def zDictN : List Val → Store → DK → Prop := fun xs μ Q => match xs with
  | [.ptr l] => ∃ (j : Nat) (kds : List (NestedKey × PyData)), μ[j]? = some (l, Node.lst (kds.map fun p => Val.dat (.tuple [datK p.1, p.2]))) ∧ (∀ p ∈ kds, Vd.KeyOk p.1) ∧ ∀ p, Q (.ptr p) (μ ++ [(p, .dv (putsZ [] kds))])
  | _ => False
theorem datK_pairs {K : PySem.W.Frag} {Z H : Hp} (hz : ∀ x o, Z x = some o → H x = some o) : ∀ {vs : List V} {kds : List (NestedKey × PyData)}, RVs K Z vs (kds.map fun p => Val.dat (.tuple [datK p.1, p.2])) → (∀ p ∈ kds, Vd.KeyOk p.1) →
    ∃ (ps : List Addr) (kvs : List Vd.KVR), vs = ps.map V.ref ∧ Paired (fun p (kv : Vd.KVR) => SqT K H p [kv.2.1, kv.2.2]) ps kvs ∧ Paired (RK K Z) kvs (kds.map fun p => (p.1, Val.dat p.2))
  | [], [], _, _ => ⟨[], [], rfl, .nil, .nil⟩
  | _ :: _, [], h, _ => by cases h
  | [], _ :: _, h, _ => by cases h
  | v :: vs, kd :: kds, hp, ok => by
    cases hp with
    | cons h1 t =>
      obtain ⟨ps, kvs, e, r1, r2⟩ := datK_pairs hz t fun p hp => ok p (List.mem_cons_of_mem _ hp)
      cases (h1 : Dz Z v (.tuple [datK kd.1, kd.2])) with
      | tup ez h2 =>
        cases h2 with
        | cons hk h3 =>
          cases h3 with
          | cons hd h4 =>
            cases h4
            rename_i a y u
            refine ⟨a :: ps, (kd.1, y, u) :: kvs, by rw [e]; rfl, .cons (SqT.of (hz _ _ ez)) r1, .cons ⟨rfl, ok kd (List.mem_cons_self ..), keyAt_of _ _ _ hk (keyD_datK _), hd⟩ r2⟩
theorem puts_rel {K : PySem.W.Frag} {Z : Hp} : ∀ {ks acc : List Vd.KVR} {kds : List (NestedKey × PyData)} {accz : List (NestedKey × Val)}, Paired (RK K Z) acc accz → Paired (RK K Z) ks (kds.map fun p => (p.1, Val.dat p.2)) → Paired (RK K Z) (Vd.putsV acc ks) (putsZ accz kds)
  | [], _, [], _, h, _ => h
  | [], _, _ :: _, _, _, h => by cases h
  | _ :: _, _, [], _, _, h => by cases h
  | k :: ks, acc, kd :: kds, accz, h, hp => by
    cases hp with
    | cons h1 t =>
      obtain ⟨k1, k2, k3⟩ := k
      obtain ⟨e1, e2, e3, e4⟩ := h1
      dsimp only at e1 e2 e3 e4
      subst e1
      show Paired (RK K Z) (Vd.putsV (Vd.putV acc kd.1 k2 k3) ks) (putsZ (putZ accz kd.1 (.dat kd.2)) kds)
      exact puts_rel (put_rel h e2 e3 e4) t
theorem putsV_nd : ∀ {ks acc : List Vd.KVR}, (acc.map (·.1)).Nodup → ((Vd.putsV acc ks).map (·.1)).Nodup
  | [], _, h => h
  | k :: ks, acc, h => by
    refine putsV_nd (ks := ks) ?_
    rw [Vd.putV_keys]
    split
    · exact h
    · rename_i m
      refine List.nodup_append.mpr ⟨h, by simp, fun x hx y hy => ?_⟩
      rw [List.mem_singleton.mp hy]
      exact fun e => m (e ▸ hx)
theorem ca_dictN (hu : X.A.units + 64 < cLine) (hc : X.calm = true) : CaZ X (.type "dict") zDictN := ⟨_, Vd.call_dictNV hu hc, fun B σ ρ H μ vs xs Q0 Q l R q low => by
  unfold zDictN at q
  split at q
  · obtain ⟨j, kds, hj, ok, q⟩ := q
    obtain ⟨v, rfl, R⟩ := one_arg' l R
    obtain ⟨us, e, pr⟩ := R.at hj
    cases (R.head : v = .ref _)
    obtain ⟨ps, kvs, rfl, r1, r2⟩ := datK_pairs fz_le pr ok
    refine ⟨_, ps, kvs, rfl, SqL.of e, r1, fun kv hkv => ?_, fun p hp => low _ _ (q p) _ _ ?_⟩
    · obtain ⟨n, hn, rfl⟩ := List.mem_iff_getElem.mp hkv
      have hn2 : n < (kds.map fun p => (p.1, Val.dat p.2)).length := by rw [← r2.length]; exact hn
      obtain ⟨q3, eq3, r3⟩ := paired_get r2 (List.getElem?_eq_getElem hn2)
      rw [List.getElem?_eq_getElem hn] at eq3
      cases eq3
      exact ⟨r3.2.1, r3.2.2.1.keep fun a xs e => fz_le _ _ e⟩
    · have R9 := R.tail.new (n := .dv (putsZ [] kds)) (o := Vd.dV X.w p (Vd.putsV [] kvs)) hp ⟨_, upd_same, putsV_nd List.nodup_nil, puts_rel .nil r2⟩
      exact R9.cons (x := .ptr p) rfl
  · exact q.elim⟩
/-- a, b = a list of data -/
def zgLst (n : Nat) (u : DTGs) : DTG := fun x ρ μ Q => match x with | .dat (.list ds) => ds.length = n ∧ u ds ρ μ Q | _ => False
theorem dg_lst {es : List Expr} {k n : Nat} {u : DTGs} {pos : Pos} (hc : X.calm = true) (h : DGs X es u) (hn : (assignEach es X.env).length = n := by rfl) (hst : (assignEach es X.env).findIdx? (·.1) = none := by rfl) : DG X (.Tuple es k pos) (zgLst n u) :=
  ⟨fun B => PG.weak (pg_lst hc (h.run B) hn hst) fun v σ H Q ⟨hv, hx, x, ρ, μ, Q0, l, R, q, low⟩ => by
    have hd := R.head
    match x, q, hd with
    | .dat (.list ds), q, hd =>
      cases (hd : Dz _ v (.list ds)) with
      | lst h1 h2 =>
        refine ⟨_, _, rfl, SqL.of (fz_le _ _ h1), by rw [dzAll_len h2]; exact q.1, hv, hx, ds, ρ, μ, Q0, l, dzAll_len h2, R.slots (paired_app (dz_some h2) R.tail.sl), q.2, low⟩⟩
/-- x in a tuple of data of any depth -/
def rInTD (K : PySem.W.Frag) (g : Bool → Bool) : R2 := fun x y H Q => ∃ d ds, Dp K H x d ∧ Dp K H y (.tuple ds) ∧ d.canLay0 = true ∧ PyData.canLayAll0 ds = true ∧ d.depth ≤ 50 ∧ Q (.bl (g (ds.any fun z => PyData.eqv z d))) H
theorem op_inTD (hu : X.A.units + 65 < cLine) : OpR X (compareOp .In) (rInTD X.K id) := by
  intro pins s σ H x y v u Q I rx ry h
  obtain ⟨d, ds, hd, he, sd, se, dp, q⟩ := h
  obtain ⟨as, r1⟩ := Dp.reads I d x v hd rx
  obtain ⟨bs, r2⟩ := Dp.reads I (.tuple ds) y u he ry
  have hm : min (PyData.depthAll ds) d.depth ≤ d.depth := Nat.min_le_right ..
  exact SeqAt.in_tuple_reads r2 r1 se sd (by omega) ⟨.bl _, H, I, rfl, q⟩
theorem op_notInTD (hu : X.A.units + 65 < cLine) : OpR X (compareOp .NotIn) (rInTD X.K not) := by
  intro pins s σ H x y v u Q I rx ry h
  obtain ⟨d, ds, hd, he, sd, se, dp, q⟩ := h
  obtain ⟨as, r1⟩ := Dp.reads I d x v hd rx
  obtain ⟨bs, r2⟩ := Dp.reads I (.tuple ds) y u he ry
  have hm : min (PyData.depthAll ds) d.depth ≤ d.depth := Nat.min_le_right ..
  exact SeqAt.notIn_tuple_reads r2 r1 se sd (by omega) ⟨.bl _, H, I, rfl, q⟩
def zInT (g : Bool → Bool) : DR2 := fun x y μ Q => match y with
  | .dat (.tuple ds) => ∃ d, View μ x d ∧ d.canLay0 = true ∧ PyData.canLayAll0 ds = true ∧ d.depth ≤ 50 ∧ Q (.dat (.bool (g (ds.any fun z => PyData.eqv z d)))) μ
  | _ => False
theorem inT_up {f : Value → Value → Sem Value} {g : Bool → Bool} (h : OpR X f (rInTD X.K g)) : OpZ X f (zInT g) := ⟨_, h, fun B σ ρ H μ u v x y Q0 Q R q low => by
  have hy := R.head
  have hx := R.tail.head
  unfold zInT at q
  split at q
  · obtain ⟨d, h1, h2, h3, h4, q⟩ := q
    exact ⟨d, _, h1.at R.tail hx, (View.d _).at R hy, h2, h3, h4, low _ _ q _ _ (R.tail.tail.cons (.bl _))⟩
  · exact q.elim⟩
theorem oz_inT (hu : X.A.units + 65 < cLine) : OpZ X (compareOp .In) (zInT id) := inT_up (op_inTD hu)
theorem oz_notinT (hu : X.A.units + 65 < cLine) : OpZ X (compareOp .NotIn) (zInT not) := inT_up (op_notInTD hu)
end
/-- what stands in such a dict -/
theorem putZ_keys : ∀ (xs : List (NestedKey × Val)) (k : NestedKey) (v : Val), (putZ xs k v).map (·.1) = if k ∈ xs.map (·.1) then xs.map (·.1) else xs.map (·.1) ++ [k]
  | [], k, v => rfl
  | x :: r, k, v => by
    rw [putZ]
    by_cases e : x.1 = k
    · rw [if_pos e, List.map_cons, List.map_cons, if_pos (by rw [e]; exact List.mem_cons_self ..)]
    · have ne : k ≠ x.1 := fun z => e z.symm
      rw [if_neg e, List.map_cons, List.map_cons, putZ_keys r k v]
      by_cases m : k ∈ r.map (·.1)
      · rw [if_pos m, if_pos (List.mem_cons_of_mem _ m)]
      · rw [if_neg m, if_neg fun h => (List.mem_cons.mp h).elim ne m]
        rfl
theorem putZ_new : ∀ {xs : List (NestedKey × Val)} {k : NestedKey} (v : Val), k ∉ xs.map (·.1) → putZ xs k v = xs ++ [(k, v)]
  | [], _, _, _ => rfl
  | x :: r, k, v, h => by
    rw [List.map_cons, List.mem_cons, not_or] at h
    rw [putZ, if_neg fun e => h.1 e.symm, putZ_new v h.2]
    rfl
theorem putsZ_new : ∀ {kds : List (NestedKey × PyData)} {acc : List (NestedKey × Val)}, (acc.map (·.1) ++ kds.map (·.1)).Nodup → putsZ acc kds = acc ++ kds.map fun p => (p.1, Val.dat p.2)
  | [], acc, _ => (List.append_nil _).symm
  | kd :: kds, acc, nd => by
    have h1 : kd.1 ∉ acc.map (·.1) := fun m => (List.nodup_append.mp nd).2.2 _ m _ (List.mem_cons_self ..) rfl
    unfold putsZ
    rw [putZ_new _ h1, putsZ_new (by rw [List.map_append, List.append_assoc]; exact nd), List.append_assoc]
    rfl
theorem lookZ_mem : ∀ {kvs : List (NestedKey × Val)} {k : NestedKey} {x : Val}, (kvs.map (·.1)).Nodup → (k, x) ∈ kvs → lookZ kvs k = some x
  | y :: r, k, x, nd, h => by
    rw [List.map_cons, List.nodup_cons] at nd
    unfold lookZ
    rcases List.mem_cons.mp h with e | h
    · rw [← e, if_pos rfl]
    · rw [if_neg fun e => nd.1 (List.mem_map.mpr ⟨_, h, e.symm⟩), lookZ_mem nd.2 h]
end Zl
namespace Kr
open PySem PySem.Spec PyProof.Rows L2 Lf Zl
abbrev rw_name : PySem.W.OpenLaw := PySem.Challenge.rw_leafround_k16_whole_no_cell_beneath_itse
abbrev topS (i : Nat) : Stmt := rw_name.prog.main.body[i]!
structure Bs (mg : Str → Option Value) : Prop where
  len : mg "len" = none
  range : mg "range" = none
  list : mg "list" = none
  tuple : mg "tuple" = none
  max : mg "max" = none
  min : mg "min" = none
  sorted : mg "sorted" = none
  repr : mg "repr" = none
  dict : mg "dict" = none
  int : mg "int" = none
  isinstance : mg "isinstance" = none
  enumerate : mg "enumerate" = none
  str : mg "str" = none
def urnN (d s c : Int) : Node := .lst [.dat (.int d), .dat (.int s), .dat (.int c)]
section
variable {P : Program} {w : World} {K : PySem.W.Frag} {mg : Str → Option Value} {base : Heap}
def fUrn : DSp := fun xs μ Q => ∃ ns k, xs = [.scr ns, .dat (.int k)] ∧ μ = [] ∧ 0 ≤ k ∧ k ≤ 1000 ∧ ∀ u d s, 0 ≤ d → 0 ≤ s → s < 2 ^ 62 → Q (.ptr u) [(u, urnN d s 0)]
abbrev sUrn : Stmt := topS 12
theorem scUrn : FnScope ["_law_script", "_law_k", "_law_cell", "_law_rest"] ["_law_script", "_law_k"] (defScope sUrn) := ⟨rfl, rfl, rfl, by decide +kernel, rfl, by decide +kernel, by decide +kernel⟩
theorem ok_urn {f : Addr} {fd : FuncData} (F : Fun K "_law_urn" "_law_urn" sUrn f fd) (T : Bs mg) : FnOk P w K mg base CX0 1 f fd ["_law_script", "_law_k"] (spZ w K fUrn) := by
  refine Fun.okZ F scUrn (fun xs μ Q h => ?_) (fun cdv A outer s H E hr => ?_)
  · obtain ⟨ns, k, rfl, _⟩ := h
    rfl
  · have nd := scUrn.nd
    refine ⟨_, (dss_cons (ds_set (i := 2) nd rfl (Or.inl rfl) (d_bin oz_add (d_bin oz_mul d_int (dv 1)) d_int))
  (dss_cut (ds_if (dt_cmp (oz_lt hr.units) (dv 1) (d_callB ca_len (by rfl) T.len PySem.boot_len (da_cons (dv 0) da_nil)) (nomark _))
  (dss_one (ds_set (i := 2) nd rfl (Or.inl rfl) (d_ix (dv 0) (dv 1) (fun _ _ => rfl))))
  dss_nil)
  (dss_cons (ds_set (i := 3) nd rfl (Or.inl rfl) d_int)
  (dss_cut (ds_if (dt_cmp (oz_ge hr.units) (dv 2) (d_bin oz_pow d_int d_int) (nomark _))
  (dss_one (ds_set (i := 3) nd rfl (Or.inl rfl) (d_bin oz_sub (dv 2) (d_bin oz_pow d_int d_int))))
  dss_nil)
  (dss_one (ds_ret (d_lst (da_cons (dv 3) (da_cons (d_bin oz_add (d_bin oz_mod (dv 2) d_int) (d_bin oz_mul d_int (dv 1))) (da_cons d_int da_nil)))))))))), ?_⟩
    rintro xs μ Q ⟨ns, k, rfl, rfl, h0, h1, q⟩
    refine ⟨wide_mul (a := 20) (b := 20) (by decide) (by omega) (by decide) (by decide) (by decide), ?_⟩
    refine ⟨fun ρ μ => ∃ c : Int, ρ = [some (.scr ns), some (.dat (.int k)), some (.dat (.int c)), none] ∧ μ = [], ?_, ?_⟩
    · refine ite2 (fun c => ?_) (fun c => ⟨_, rfl, rfl⟩)
      have c' := of_decide_eq_true c
      obtain ⟨m, rfl⟩ := Int.eq_ofNat_of_zero_le h0
      exact ⟨ns[m]'(by omega), atI_nat (List.getElem?_eq_getElem _), ⟨_, rfl, rfl⟩⟩
    rintro ρ μ ⟨c, rfl, rfl⟩
    refine ⟨fun ρ μ => ∃ d : Int, 0 ≤ d ∧ ρ = [some (.scr ns), some (.dat (.int k)), some (.dat (.int c)), some (.dat (.int d))] ∧ μ = [], ?_, ?_⟩
    · have pw : CPow 10 18 := ⟨by decide, by decide, by decide⟩
      refine ⟨pw, ite2 (fun c' => ⟨pw, _, ?_, rfl, rfl⟩) (fun c' => ⟨0, by decide, rfl, rfl⟩)⟩
      have := of_decide_eq_true c'
      exact Int.sub_nonneg_of_le this
    rintro ρ μ ⟨d, hd, rfl, rfl⟩
    refine ⟨by decide, wide_mul (a := 10) (b := 20) (by decide) (by omega) (by decide) (by decide) (by decide), (by show 3 ≤ sizeLine; decide), fun u => ?_⟩
    exact ⟨_, .refl _, q u _ _ hd (by omega) (by omega)⟩
end
end Kr
namespace Kr
open PySem PySem.Spec PyProof.Rows L2 Lf Zl
structure UrnOk (d s c : Int) (N : Nat) : Prop where
  d0 : 0 ≤ d
  s0 : 0 ≤ s
  s1 : s < 2 ^ 62
  c0 : 0 ≤ c
  c1 : c ≤ N
theorem UrnOk.more {d s c : Int} {N M : Nat} (h : UrnOk d s c N) (l : N ≤ M) : UrnOk d s c M := ⟨h.d0, h.s0, h.s1, h.c0, by have := h.c1; omega⟩
section
variable {P : Program} {w : World} {K : PySem.W.Frag} {mg : Str → Option Value} {base : Heap}
def fLot : DSp := fun xs μ Q => ∃ u d s c N m, xs = [.ptr u, .dat (.int m)] ∧ μ = [(u, urnN d s c)] ∧ UrnOk d s c N ∧ N ≤ 1000000 ∧ 0 < m ∧ m ≤ 1000000 ∧ ∀ k d' c', 0 ≤ k → k < m → UrnOk d' s c' (N + 1) → Q (.dat (.int k)) [(u, urnN d' s c')]
abbrev sLot : Stmt := topS 13
theorem scLot : FnScope ["_law_urn_here", "_law_many", "_law_digit", "_law_primes", "_law_prime", "_law_one", "_law_two"] ["_law_urn_here", "_law_many"] (defScope sLot) := ⟨rfl, rfl, rfl, by decide +kernel, rfl, by decide +kernel, by decide +kernel⟩
theorem pow_lt {x : Int} {a n : Nat} (h0 : 0 ≤ x) (h : x < 2 ^ a) : (x ^ n).natAbs < 2 ^ (a * n + 1) := by
  have e : (x ^ n).natAbs = x.natAbs ^ n := Int.natAbs_pow x n
  have h1 : x.natAbs < 2 ^ a := by
    have : (x.natAbs : Int) < ((2 ^ a : Nat) : Int) := by
      rw [Int.natAbs_of_nonneg h0, Int.natCast_pow]
      exact h
    exact Int.ofNat_lt.mp this
  rw [e]
  refine Nat.lt_of_le_of_lt (Nat.pow_le_pow_left (Nat.le_of_lt h1) n) ?_
  rw [← Nat.pow_mul]
  exact Nat.pow_lt_pow_right (by decide) (Nat.lt_succ_self _)
def primes : List Val := [.dat (.int 2147483647), .dat (.int 2147483587), .dat (.int 2147483579), .dat (.int 2147483543), .dat (.int 2147483497), .dat (.int 2147483489), .dat (.int 2147483423), .dat (.int 2147483399)]
theorem prime_at {i : Int} (h : 0 ≤ i) (h1 : i < 8) : ∃ p : Int, atI primes i = some (.dat (.int p)) ∧ 0 < p ∧ p < 2 ^ 31 := by
  obtain ⟨n, rfl⟩ := Int.eq_ofNat_of_zero_le h
  rcases n with _ | _ | _ | _ | _ | _ | _ | _ | n
  · exact ⟨_, rfl, by decide, by decide⟩
  · exact ⟨_, rfl, by decide, by decide⟩
  · exact ⟨_, rfl, by decide, by decide⟩
  · exact ⟨_, rfl, by decide, by decide⟩
  · exact ⟨_, rfl, by decide, by decide⟩
  · exact ⟨_, rfl, by decide, by decide⟩
  · exact ⟨_, rfl, by decide, by decide⟩
  · exact ⟨_, rfl, by decide, by decide⟩
  · omega
theorem ok_lot {f : Addr} {fd : FuncData} (F : Fun K "_law_lot" "_law_lot" sLot f fd) (T : Bs mg) : FnOk P w K mg base CX0 1 f fd ["_law_urn_here", "_law_many"] (spZ w K fLot) := by
  refine Fun.okZ F scLot (fun xs μ Q h => ?_) (fun cdv A outer s H E hr => ?_)
  · obtain ⟨u, d, s, c, N, m, rfl, _⟩ := h
    rfl
  · have nd := scLot.nd
    refine ⟨_, (dss_cons (ds_if (dt_cmp (oz_ge hr.units) (d_ix (dv 0) d_int (fun _ _ => rfl)) (dv 1) (nomark _))
  (dss_cons (ds_set (i := 2) nd rfl (Or.inl rfl) (d_bin oz_mod (d_ix (dv 0) d_int (fun _ _ => rfl)) (dv 1)))
  (dss_cons (ds_asg (d_bin oz_div (d_ix (dv 0) d_int (fun _ _ => rfl)) (dv 1)) (dg_sub (dv 0) d_int))
  (dss_one (ds_ret (dv 2)))))
  dss_nil)
  (dss_cons (ds_asg (d_bin oz_add (d_ix (dv 0) d_int (fun _ _ => rfl)) d_int) (dg_sub (dv 0) d_int))
  (dss_cons (ds_set (i := 3) nd rfl (Or.inl rfl) (d_lst (da_cons d_int (da_cons d_int (da_cons d_int (da_cons d_int (da_cons d_int (da_cons d_int (da_cons d_int (da_cons d_int da_nil))))))))))
  (dss_cons (ds_set (i := 4) nd rfl (Or.inl rfl) (d_ix (dv 3) (d_bin oz_mod (d_ix (dv 0) d_int (fun _ _ => rfl)) d_int) (fun _ _ => rfl)))
  (dss_cons (ds_set (i := 5) nd rfl (Or.inl rfl) (d_bin oz_add (d_bin oz_mul (d_bin oz_mod (d_ix (dv 0) d_int (fun _ _ => rfl)) (dv 4)) (d_bin oz_add (d_bin oz_mul d_int (d_ix (dv 0) d_int (fun _ _ => rfl))) d_int)) (d_bin oz_mul d_int (d_ix (dv 0) d_int (fun _ _ => rfl)))))
  (dss_cons (ds_set (i := 5) nd rfl (Or.inl rfl) (d_bin oz_mod (d_bin oz_pow (dv 5) d_int) (dv 4)))
  (dss_cons (ds_set (i := 6) nd rfl (Or.inl rfl) (d_bin oz_add (d_bin oz_add (d_bin oz_mul (dv 5) (dv 5)) (d_bin oz_mod (d_ix (dv 0) d_int (fun _ _ => rfl)) d_int)) (d_ix (dv 0) d_int (fun _ _ => rfl))))
  (dss_one (ds_ret (d_bin oz_mod (d_bin oz_div (d_bin oz_mod (d_bin oz_pow (dv 6) d_int) (d_ix (dv 3) (d_bin oz_mod (d_bin oz_add (d_ix (dv 0) d_int (fun _ _ => rfl)) d_int) d_int) (fun _ _ => rfl))) d_int) (dv 1))))))))))), ?_⟩
    rintro xs μ Q ⟨u, d, s, c, N, m, rfl, rfl, ok, hN, hm, hm1, q⟩
    obtain ⟨d0, s0, s1, c0, c1⟩ := id ok
    have cd : CDivW d m := wide_div (b := 20) hm (by omega) (by decide) (by decide)
    refine ⟨0, _, _, rfl, rfl, ite2 (fun c' => ?_) (fun c' => ?_)⟩
    · refine ⟨0, _, _, rfl, rfl, hm, 0, _, _, rfl, rfl, cd, 0, _, 0, rfl, rfl, ?_⟩
      refine ⟨_, .refl _, q _ _ _ (Int.emod_nonneg _ (by omega)) (Int.emod_lt_of_pos _ hm) ⟨Int.ediv_nonneg d0 (by omega), s0, s1, c0, by omega⟩⟩
    · refine ⟨0, _, _, rfl, rfl, 0, _, 2, rfl, rfl, (by show 8 ≤ sizeLine; decide), fun pl => ?_⟩
      obtain ⟨p, hp, p0, p1⟩ := prime_at (i := (c + 1) % 8) (Int.emod_nonneg _ (by decide)) (Int.emod_lt_of_pos _ (by decide))
      refine ⟨0, _, _, rfl, rfl, by decide, 1, _, _, rfl, hp, ?_⟩
      have e1 := Int.emod_nonneg s (show p ≠ 0 by omega)
      have e2 := Int.emod_lt_of_pos s p0
      refine ⟨0, _, _, rfl, rfl, p0, 0, _, _, rfl, rfl, wide_mul (a := 10) (b := 30) (by decide) (by omega) (by decide) (by decide) (by decide), wide_mul (a := 31) (b := 40) (by omega) (by omega) (by decide) (by decide) (by decide), 0, _, _, rfl, rfl, wide_mul (a := 20) (b := 30) (by decide) (by omega) (by decide) (by decide) (by decide), ?_⟩
      have m1 : s % p * (2 * (c + 1) + 7) ≤ 2 ^ 31 * 2 ^ 22 := Int.mul_le_mul (by omega) (by omega) (by omega) (by decide)
      have m0 : 0 ≤ s % p * (2 * (c + 1) + 7) := Int.mul_nonneg e1 (by omega)
      generalize s % p * (2 * (c + 1) + 7) = one at m1 m0 ⊢
      refine ⟨⟨by decide, by decide, by omega⟩, p0, ?_⟩
      have o1 := Int.emod_nonneg ((one + 8117 * (c + 1)) ^ (3 : Int).toNat) (show p ≠ 0 by omega)
      have o2 := Int.emod_lt_of_pos ((one + 8117 * (c + 1)) ^ (3 : Int).toNat) p0
      generalize (one + 8117 * (c + 1)) ^ (3 : Int).toNat % p = x at o1 o2 ⊢
      refine ⟨wide_mul (a := 31) (b := 31) (by omega) (by omega) (by decide) (by decide) (by decide), 0, _, _, rfl, rfl, by decide, 0, _, _, rfl, rfl, ?_⟩
      have x0 : 0 ≤ x * x := Int.mul_nonneg o1 o1
      have x1 : x * x ≤ 2 ^ 31 * 2 ^ 31 := Int.mul_le_mul (by omega) (by omega) (by omega) (by decide)
      have x2 := Int.emod_nonneg s (show (999961 : Int) ≠ 0 by decide)
      have x3 := Int.emod_lt_of_pos s (show (0 : Int) < 999961 by decide)
      obtain ⟨p', hp', q0, q1⟩ := prime_at (i := (c + 1 + 3) % 8) (Int.emod_nonneg _ (by decide)) (Int.emod_lt_of_pos _ (by decide))
      refine ⟨⟨by decide, by decide, by omega⟩, 0, _, _, rfl, rfl, by decide, 1, _, _, rfl, hp', q0, wide_div (b := 20) (by decide) (by decide) (by decide) (by decide), hm, ?_⟩
      exact ⟨_, List.take_sublist 1 _, q _ _ _ (Int.emod_nonneg _ (by omega)) (Int.emod_lt_of_pos _ hm) ⟨d0, s0, s1, by omega, by omega⟩⟩
end
end Kr
namespace Kr
open PySem PySem.Spec PyProof.Rows L2 Lf Zl
section
variable {P : Program} {w : World} {K : PySem.W.Frag} {mg : Str → Option Value} {base : Heap}
theorem ixN_nat {n k : Nat} (h : k < n) : ixN n (k : Int) = some k := by
  unfold ixN
  rw [if_pos (by omega), if_pos (by omega)]
  simp
theorem erase_map {α β : Type} (f : α → β) : ∀ (l : List α) (k : Nat), (l.map f).eraseIdx k = (l.eraseIdx k).map f
  | [], _ => rfl
  | _ :: _, 0 => rfl
  | x :: r, k + 1 => congrArg (f x :: ·) (erase_map f r k)
def fMixed : DSp := fun xs μ Q => ∃ u d s c N, ∃ ds : List PyData, xs = [.ptr u, .dat (.list ds)] ∧ μ = [(u, urnN d s c)] ∧ UrnOk d s c N ∧ N + ds.length ≤ 1000000 ∧ ∀ p (es : List PyData) d' c', es.Perm ds → UrnOk d' s c' (N + ds.length) → Q (.ptr p) [(u, urnN d' s c'), (p, .lst (es.map .dat))]
abbrev sMixed : Stmt := topS 21
theorem scMixed : FnScope ["_law_urn_here", "_law_things", "_law_left", "_law_turn"] ["_law_urn_here", "_law_things"] (defScope sMixed) := ⟨rfl, rfl, rfl, by decide +kernel, rfl, by decide +kernel, by decide +kernel⟩
theorem ok_mixed {f : Addr} {fd : FuncData} (F : Fun K "_law_mixed" "_law_mixed" sMixed f fd) (T : Bs mg) (c__law_lot : CalZ P w K mg base 1 "_law_lot" ["_law_urn_here", "_law_many"] fLot) : FnOk P w K mg base CX0 2 f fd ["_law_urn_here", "_law_things"] (spZ w K fMixed) := by
  refine Fun.okZ F scMixed (fun xs μ Q h => ?_) (fun cdv A outer s H E hr => ?_)
  · obtain ⟨u, d, s, c, N, ds, rfl, _⟩ := h
    rfl
  · have nd := scMixed.nd
    refine ⟨_, (dss_cons (ds_set (i := 2) nd rfl (Or.inr rfl) (d_callTy ca_list (by rfl) T.list (by decide +kernel) (da_cons (dv 1) da_nil)))
  (dss_one (ds_ret (d_lc (own := [("_law_turn", 3)]) rfl nd (di_range1 (by rfl) T.range (da_cons (d_callB ca_len (by rfl) T.len PySem.boot_len (da_cons (dv 1) da_nil)) da_nil)) (blkOk_by (own := [("_law_turn", 3)]) (N := ["_law_urn_here", "_law_things", "_law_left", "_law_turn"]) (sc := defScope (topS 21)) (by decide +kernel)) (put_name (i := 3) (by decide)) (fun _ _ _ _ _ => (pg_name (i := 3) nd rfl (Or.inl rfl))) (fun _ _ _ _ _ => dts_nil) (fun _ _ _ _ _ => (d_lm PySem.F.slot_list_pop PySem.F.type_list_pop me_pop (dv 2) (da_cons (d_own1 c__law_lot (hr.mono (by decide)) (by rfl) (da_cons (dv 0) (da_cons (d_callB ca_len (by rfl) T.len PySem.boot_len (da_cons (dv 2) da_nil)) da_nil))) da_nil))))))), ?_⟩
    rintro xs μ Q ⟨u, d, s, c, N, ds, rfl, rfl, ok, hN, q⟩
    have ez : sizeLine = 16777216 := by decide +kernel
    refine fun pl => ⟨by omega, by omega, ?_⟩
    refine ⟨fun k acc μ => ∃ d' c', ∃ rest es : List PyData, μ = [(u, urnN d' s c'), (pl, .lst (rest.map .dat))] ∧ acc = es.map .dat ∧ es.length = k ∧ (es ++ rest).Perm ds ∧ UrnOk d' s c' (N + k), ⟨d, c, ds, [], rfl, rfl, rfl, .refl _, ok⟩, fun _ _ _ _ _ => trivial, ?_, ?_⟩
    · rintro k y acc μ hy ⟨d', c', rest, es, rfl, rfl, rfl, pm, ok'⟩
      have hl := pm.length_eq
      rw [List.length_append] at hl
      have hk : es.length < ds.length := by
        have := (List.getElem?_eq_some_iff.mp hy).1
        rw [rangeZ_len] at this
        omega
      refine ⟨_, rfl, ⟨1, _, rfl⟩, 1, _, rfl, 0, u, _, rfl, u, d', s, c', N + es.length, _, rfl, rfl, ok', by omega, by rw [List.length_map]; omega, by rw [List.length_map]; omega, fun i d2 c2 i0 i1 ok2 => ⟨_, _, rfl, ?_⟩⟩
      obtain ⟨m, rfl⟩ := Int.eq_ofNat_of_zero_le i0
      rw [List.length_map] at i1
      have hm : m < rest.length := by omega
      refine ⟨1, _, m, .dat rest[m], rfl, by omega, by rw [List.length_map]; exact ixN_nat hm, by rw [List.getElem?_map, List.getElem?_eq_getElem hm]; rfl, by rw [List.length_map, ez]; omega, _, .refl _, ?_⟩
      refine ⟨d2, c2, rest.eraseIdx m, es ++ [rest[m]], ?_, by rw [List.map_append]; rfl, by simp, ?_, ok2⟩
      · rw [erase_map]
        rfl
      · refine List.Perm.trans ?_ pm
        rw [List.append_assoc]
        exact ((perm_at (List.getElem?_eq_getElem hm)).symm).append_left es
    · rintro acc μ ⟨d', c', rest, es, rfl, rfl, hk, pm, ok'⟩ p
      rw [rangeZ_len] at hk
      have e := pm.length_eq
      rw [List.length_append] at e
      have hr0 : rest = [] := List.eq_nil_of_length_eq_zero (by omega)
      subst hr0
      rw [rangeZ_len] at ok'
      rw [List.append_nil] at pm
      refine ⟨_, .cons₂ _ (.cons _ (.refl _)), q p es d' c' pm (ok'.more (by omega))⟩
end
end Kr
namespace Kr
open PySem PySem.Spec PyProof.Rows L2 Lf Zl
/-! ### what is heard: a text's number -/
abbrev Heard := List (Str × Int)
def hzV (k : Heard) : List (NestedKey × Val) := txtZ (k.map fun p => (p.1, .dat (.int p.2)))
def gi (k : Heard) (h : Str) : Option Int := (k.find? fun p => p.1 = h).map (·.2)
def num (k : Heard) (h : Str) : Int := (gi k h).getD 0
def pi (k : Heard) (h : Str) (v : Int) : Heard := match k with
  | [] => [(h, v)]
  | p :: r => if p.1 = h then (h, v) :: r else p :: pi r h v
theorem look_hz {k : Heard} {h : Str} : lookZ (hzV k) (.text h) = (gi k h).map fun v => Val.dat (.int v) := by
  induction k with
  | nil => rfl
  | cons p r ih =>
    show (if NestedKey.text p.1 = .text h then some _ else lookZ (hzV r) (.text h)) = _
    unfold gi
    rw [List.find?_cons]
    by_cases e : p.1 = h
    · rw [if_pos (congrArg _ e), decide_eq_true e]
      rfl
    · rw [if_neg (fun z => e (NestedKey.text.inj z)), decide_eq_false e]
      exact ih
theorem put_hz {k : Heard} {h : Str} {v : Int} : putZ (hzV k) (.text h) (.dat (.int v)) = hzV (pi k h v) := by
  induction k with
  | nil => rfl
  | cons p r ih =>
    show (if NestedKey.text p.1 = .text h then _ else _) = _
    unfold pi
    by_cases e : p.1 = h
    · rw [if_pos (congrArg _ e), if_pos e]
      show (NestedKey.text p.1, Val.dat (.int v)) :: hzV r = (NestedKey.text h, Val.dat (.int v)) :: hzV r
      rw [e]
    · rw [if_neg (fun z => e (NestedKey.text.inj z)), if_neg e]
      show _ :: putZ (hzV r) _ _ = _ :: hzV (pi r h v)
      rw [ih]
theorem gi_pi {k : Heard} {h j : Str} {v : Int} : gi (pi k h v) j = if h = j then some v else gi k j := by
  induction k with
  | nil =>
    unfold pi gi
    rw [List.find?_cons]
    by_cases e : h = j
    · rw [if_pos e, decide_eq_true e]
      rfl
    · rw [if_neg e, decide_eq_false e]
  | cons p r ih =>
    unfold pi
    by_cases c : p.1 = h
    · rw [if_pos c]
      unfold gi
      rw [List.find?_cons, List.find?_cons]
      by_cases e : h = j
      · rw [if_pos e, decide_eq_true e]
        rfl
      · rw [if_neg e, decide_eq_false e, decide_eq_false (by rw [c]; exact e)]
    · rw [if_neg c]
      unfold gi at ih ⊢
      rw [List.find?_cons, List.find?_cons]
      by_cases e : p.1 = j
      · rw [decide_eq_true e, if_neg (fun z => c (e.trans z.symm))]
      · rw [decide_eq_false e]
        exact ih
theorem num_pi {k : Heard} {h j : Str} {v : Int} : num (pi k h v) j = if h = j then v else num k j := by
  unfold num
  rw [gi_pi]
  split <;> rfl
theorem pi_keys {k : Heard} {h : Str} {v : Int} {x : Str} : x ∈ (pi k h v).map (·.1) ↔ x ∈ k.map (·.1) ∨ x = h := by
  induction k with
  | nil => simp [pi]
  | cons p r ih =>
    unfold pi
    by_cases c : p.1 = h
    · rw [if_pos c]
      simp only [List.map_cons, List.mem_cons]
      rw [c]
      exact ⟨fun z => z.elim (fun z => .inl (.inl z)) fun z => .inl (.inr z), fun z => z.elim id .inl⟩
    · rw [if_neg c]
      simp only [List.map_cons, List.mem_cons]
      rw [ih]
      exact ⟨fun z => z.elim (fun z => .inl (.inl z)) fun z => z.elim (fun z => .inl (.inr z)) .inr, fun z => z.elim (fun z => z.elim .inl fun z => .inr (.inl z)) fun z => .inr (.inr z)⟩
theorem pi_len {k : Heard} {h : Str} {v : Int} : (pi k h v).length ≤ k.length + 1 := by
  induction k with
  | nil => exact Nat.le_refl _
  | cons p r ih =>
    unfold pi
    split
    · exact Nat.le_succ _
    · exact Nat.succ_le_succ ih
theorem pi_nd {k : Heard} {h : Str} {v : Int} (nd : (k.map (·.1)).Nodup) : ((pi k h v).map (·.1)).Nodup := by
  induction k with
  | nil => simp [pi]
  | cons p r ih =>
    rw [List.map_cons, List.nodup_cons] at nd
    unfold pi
    by_cases c : p.1 = h
    · rw [if_pos c, List.map_cons, List.nodup_cons]
      exact ⟨by rw [← c]; exact nd.1, nd.2⟩
    · rw [if_neg c, List.map_cons, List.nodup_cons]
      refine ⟨fun z => ?_, ih nd.2⟩
      exact (pi_keys.mp z).elim nd.1 c
theorem gi_mem {k : Heard} (nd : (k.map (·.1)).Nodup) {p : Str × Int} (hp : p ∈ k) : gi k p.1 = some p.2 := by
  induction k with
  | nil => cases hp
  | cons q r ih =>
    rw [List.map_cons, List.nodup_cons] at nd
    unfold gi
    rw [List.find?_cons]
    rcases List.mem_cons.mp hp with e | hp
    · rw [← e, decide_eq_true rfl]
      rfl
    · rw [decide_eq_false (fun z => nd.1 (by rw [z]; exact List.mem_map_of_mem hp))]
      exact ih nd.2 hp
theorem gi_none {k : Heard} {h : Str} (n : h ∉ k.map (·.1)) : gi k h = none := by
  induction k with
  | nil => rfl
  | cons q r ih =>
    rw [List.map_cons, List.mem_cons, not_or] at n
    unfold gi
    rw [List.find?_cons, decide_eq_false (Ne.symm n.1)]
    exact ih n.2
/-- a walk over the second, each number made the greater -/
def joinN (k1 : Heard) (k2 : Heard) : Heard := k2.foldl (fun acc p => pi acc p.1 (if p.2 > num acc p.1 then p.2 else num acc p.1)) k1
theorem joinN_snoc {k1 l : Heard} {p : Str × Int} : joinN k1 (l ++ [p]) = pi (joinN k1 l) p.1 (if p.2 > num (joinN k1 l) p.1 then p.2 else num (joinN k1 l) p.1) := by
  unfold joinN
  rw [List.foldl_append]
  rfl
theorem joinN_num {k1 : Heard} : ∀ {k2 : Heard}, (k2.map (·.1)).Nodup → (∀ p ∈ k2, 0 ≤ p.2) → (∀ h, 0 ≤ num k1 h) → ∀ h, num (joinN k1 k2) h = (if num k2 h > num k1 h then num k2 h else num k1 h) := by
  suffices H : ∀ (n : Nat) (k2 : Heard), k2.length = n → (k2.map (·.1)).Nodup → (∀ p ∈ k2, 0 ≤ p.2) → (∀ h, 0 ≤ num k1 h) → ∀ h, num (joinN k1 k2) h = (if num k2 h > num k1 h then num k2 h else num k1 h) from fun {k2} => H _ k2 rfl
  intro n
  induction n with
  | zero =>
    intro k2 hl _ _ z h
    obtain rfl := List.eq_nil_of_length_eq_zero hl
    show num k1 h = if (0 : Int) > num k1 h then 0 else num k1 h
    rw [if_neg (by have := z h; omega)]
  | succ n ih =>
    intro k2 hl nd pos z h
    rcases List.eq_nil_or_concat k2 with rfl | ⟨l, p, rfl⟩
    · cases hl
    rw [List.concat_eq_append] at *
    rw [List.length_append, List.length_singleton] at hl
    rw [List.map_append, List.nodup_append] at nd
    have ih := ih l (by omega) nd.1 (fun q hq => pos q (List.mem_append_left _ hq)) z
    have np : p.1 ∉ l.map (·.1) := fun hm => nd.2.2 _ hm p.1 (by simp) rfl
    have n0 : num l p.1 = 0 := by unfold num; rw [gi_none np]; rfl
    have nl : num (l ++ [p]) h = if p.1 = h then p.2 else num l h := by
      unfold num gi
      rw [List.find?_append]
      by_cases e : p.1 = h
      · rw [if_pos e]
        have : l.find? (fun q => decide (q.1 = h)) = none := by
          rw [List.find?_eq_none]
          intro q hq z
          exact np (by rw [e, ← of_decide_eq_true z]; exact List.mem_map_of_mem hq)
        rw [this]
        simp [e]
      · rw [if_neg e]
        simp [e]
    rw [joinN_snoc, num_pi, nl]
    by_cases e : p.1 = h
    · have e0 : (if (0 : Int) > num k1 p.1 then 0 else num k1 p.1) = num k1 p.1 := if_neg (by have := z p.1; omega)
      rw [if_pos e, if_pos e, ih, n0, e0, e]
    · rw [if_neg e, if_neg e]
      exact ih h
/-- what may be heard -/
structure HOk4 (k : Heard) : Prop where
  nd : (k.map (·.1)).Nodup
  pos : ∀ p ∈ k, 0 ≤ p.2 ∧ p.2 ≤ 1000
  len : k.length ≤ 64
theorem HOk4.num {k : Heard} (o : HOk4 k) (h : Str) : 0 ≤ num k h := by
  unfold Kr.num gi
  cases e : k.find? fun p => decide (p.1 = h) with
  | none => exact Int.le_refl _
  | some p => exact (o.pos p (List.mem_of_find?_eq_some e)).1
end Kr
namespace Kr
open PySem PySem.Spec PyProof.Rows L2 Lf Zl
theorem joinN_ok {k1 k2 : Heard} (o1 : HOk4 k1) (o2 : HOk4 k2) (n : Nat) : ((joinN k1 (k2.take n)).map (·.1)).Nodup ∧ (∀ p ∈ joinN k1 (k2.take n), 0 ≤ p.2 ∧ p.2 ≤ 1000) ∧ (∀ x, x ∈ (joinN k1 (k2.take n)).map (·.1) → x ∈ k1.map (·.1) ∨ x ∈ k2.map (·.1)) ∧ (joinN k1 (k2.take n)).length ≤ k1.length + n := by
  induction n with
  | zero => exact ⟨o1.nd, o1.pos, fun x h => .inl h, Nat.le_refl _⟩
  | succ n ih =>
    by_cases h : n < k2.length
    · have e : k2.take (n + 1) = k2.take n ++ [k2[n]] := by rw [List.take_succ, List.getElem?_eq_getElem h]; rfl
      rw [e, joinN_snoc]
      obtain ⟨a1, a2, a3, a4⟩ := ih
      have hm := o2.pos _ (List.getElem_mem h)
      have nb : 0 ≤ num (joinN k1 (k2.take n)) k2[n].1 ∧ num (joinN k1 (k2.take n)) k2[n].1 ≤ 1000 := by
        unfold num gi
        cases e : (joinN k1 (k2.take n)).find? fun p => decide (p.1 = k2[n].1) with
        | none => exact ⟨Int.le_refl _, by show (0 : Int) ≤ 1000; decide⟩
        | some p => exact a2 p (List.mem_of_find?_eq_some e)
      refine ⟨pi_nd a1, fun p hp => ?_, fun x hx => ?_, Nat.le_trans pi_len (by omega)⟩
      · have v : gi (pi (joinN k1 (k2.take n)) k2[n].1 (if k2[n].2 > num (joinN k1 (k2.take n)) k2[n].1 then k2[n].2 else num (joinN k1 (k2.take n)) k2[n].1)) p.1 = some p.2 := gi_mem (pi_nd a1) hp
        rw [gi_pi] at v
        by_cases c : k2[n].1 = p.1
        · rw [if_pos c] at v
          have v := Option.some.inj v
          rw [← v]
          split <;> omega
        · rw [if_neg c] at v
          cases e2 : (joinN k1 (k2.take n)).find? fun q => decide (q.1 = p.1) with
          | none =>
            unfold gi at v
            rw [e2] at v
            cases v
          | some q =>
            unfold gi at v
            rw [e2] at v
            have v : q.2 = p.2 := Option.some.inj v
            rw [← v]
            exact a2 q (List.mem_of_find?_eq_some e2)
      · rcases pi_keys.mp hx with hx | rfl
        · exact a3 x hx
        · exact .inr (List.mem_map_of_mem (List.getElem_mem h))
    · rw [List.take_of_length_le (by omega)] at ih ⊢
      exact ⟨ih.1, ih.2.1, ih.2.2.1, by omega⟩
theorem set_back {α : Type} {l : List α} {j : Nat} {x : α} (h : l[j]? = some x) (y : α) : (l.set j y).set j x = l := by
  rw [List.set_set]
  refine List.ext_getElem? fun i => ?_
  rw [List.getElem?_set]
  split
  · rename_i e
    subst e
    rw [h, if_pos (List.getElem?_eq_some_iff.mp h).1]
  · rfl
section
variable {P : Program} {w : World} {K : PySem.W.Frag} {mg : Str → Option Value} {base : Heap}
def fJoined : DSp := fun xs μ Q => ∃ (a b : Addr) (k1 k2 : Heard) (i j : Nat), xs = [.ptr a, .ptr b] ∧ μ[i]? = some (a, .dv (hzV k1)) ∧ μ[j]? = some (b, .dv (hzV k2)) ∧ HOk4 k1 ∧ HOk4 k2 ∧ k1.length + k2.length ≤ 64 ∧
  ∀ p, Q (.ptr p) (μ ++ [(p, .dv (hzV (joinN k1 k2)))])
abbrev sJoined : Stmt := topS 14
theorem scJoined : FnScope ["_law_one", "_law_other", "_law_found", "_law_hand"] ["_law_one", "_law_other"] (defScope sJoined) := ⟨rfl, rfl, rfl, by decide +kernel, rfl, by decide +kernel, by decide +kernel⟩
theorem ok_joined {f : Addr} {fd : FuncData} (F : Fun K "_law_joined" "_law_joined" sJoined f fd) (T : Bs mg) : FnOk P w K mg base CX0 1 f fd ["_law_one", "_law_other"] (spZ w K fJoined) := by
  refine Fun.okZ F scJoined (fun xs μ Q h => ?_) (fun cdv A outer s H E hr => ?_)
  · obtain ⟨a, b, k1, k2, i, j, rfl, _⟩ := h
    rfl
  · have nd := scJoined.nd
    refine ⟨_, (dss_cons (ds_set (i := 2) nd rfl (Or.inl rfl) (d_callTy ca_dictC (by rfl) T.dict (by decide +kernel) (da_cons (dv 0) da_nil)))
  (dss_cons (ds_lock (ds_for PassesOwn.never rfl (di_keys (dv 1)) (dg_name (i := 3) nd rfl (Or.inl rfl))
  (dss_one (ds_dput hr.units (dv 2) (dv 3) (d_callB (ca_max2 rfl) (by rfl) T.max (by decide +kernel) (da_cons (d_dget hr.units (dv 2) (dv 3) d_int ⟨by rfl, by rfl, by rfl, by rfl⟩) (da_cons (d_dix hr.units (dv 1) (dv 3) (fun _ _ => rfl)) da_nil))) rfl))))
  (dss_one (ds_ret (dv 2))))), ?_⟩
    rintro xs μ Q ⟨a, b, k1, k2, i, j, rfl, hi, hj, o1, o2, hl, q⟩
    have ez : sizeLine = 16777216 := by decide +kernel
    have lj := (List.getElem?_eq_some_iff.mp hj).1
    refine ⟨k1.map (fun (p : Str × Int) => (p.1, Val.dat (.int p.2))), .own i hi, fun p => ?_⟩
    refine ⟨b, j, hzV k2, by rw [List.getElem?_append_left lj]; exact hj, fun od ks => ?_⟩
    rw [List.set_append_left _ _ lj]
    have hj2 : ∀ l : Store, (μ.set j (b, .dvl od ks (hzV k2)) ++ l)[j]? = some (b, .dvl od ks (hzV k2)) := fun l => by
      rw [List.getElem?_append_left (by rw [List.length_set]; exact lj), List.getElem?_set_self lj]
    have hp2 : ∀ n : Node, (μ.set j (b, .dvl od ks (hzV k2)) ++ [(p, n)])[μ.length]? = some (p, n) := fun n => by
      rw [List.getElem?_append_right (by rw [List.length_set]; exact Nat.le_refl _), List.length_set, Nat.sub_self]
      rfl
    refine ⟨j, od, ks, hzV k2, hj2 _, ?_⟩
    refine ⟨fun n ρ μ' => ∃ y3, ρ = [some (.ptr a), some (.ptr b), some (.ptr p), y3] ∧ μ' = μ.set j (b, .dvl od ks (hzV k2)) ++ [(p, .dv (hzV (joinN k1 (k2.take n))))], ⟨_, rfl, rfl⟩, fun n ρ μ' _ ⟨_, _, e⟩ => ⟨j, by rw [e]; exact hj2 _⟩, ?_, ?_⟩
    · rintro n y ρ μ' hy ⟨y3, rfl, rfl⟩
      unfold keysZ hzV txtZ at hy
      rw [List.map_map, List.map_map] at hy
      obtain ⟨kv, hkv, rfl⟩ := Option.map_eq_some_iff.mp (by rw [← List.getElem?_map]; exact hy)
      have hmem := List.mem_of_getElem? hkv
      have et : k2.take (n + 1) = k2.take n ++ [kv] := by rw [List.take_succ, hkv]; rfl
      obtain ⟨a1, a2, a3, a4⟩ := joinN_ok o1 o2 n
      have hn := (List.getElem?_eq_some_iff.mp hkv).1
      have kt : Vd.KeyOk (.text kv.1) := key_text _
      have gk : gi k2 kv.1 = some kv.2 := gi_mem o2.nd hmem
      have dg : (lookZ (hzV (joinN k1 (k2.take n))) (.text kv.1)).getD (.dat (.int 0)) = .dat (.int (num (joinN k1 (k2.take n)) kv.1)) := by
        rw [look_hz]
        unfold num
        cases gi (joinN k1 (k2.take n)) kv.1 <;> rfl
      refine ⟨⟨_, .own μ.length (hp2 _)⟩, hzV (joinN k1 (k2.take n)), .text kv.1, .own μ.length (hp2 _), rfl, kt, ?_⟩
      rw [dg]
      refine ⟨hzV k2, .text kv.1, _, .lck j (hj2 _), rfl, kt, by rw [look_hz, gk]; rfl, ?_⟩
      refine ⟨μ.length, hzV (joinN k1 (k2.take n)), .text kv.1, hp2 _, rfl, kt, by unfold hzV txtZ; rw [List.length_map, List.length_map, ez]; omega, ?_⟩
      refine ⟨_, .refl _, _, rfl, ?_⟩
      rw [put_hz, et, joinN_snoc, List.set_append_right _ _ (by rw [List.length_set]; exact Nat.le_refl _), List.length_set, Nat.sub_self]
      rfl
    · rintro ρ μ' ⟨y3, rfl, rfl⟩
      have lk : (keysZ (hzV k2)).length = k2.length := by unfold keysZ hzV txtZ; rw [List.length_map, List.length_map, List.length_map]
      rw [lk, List.take_length]
      refine ⟨j, hj2 _, ?_⟩
      rw [List.set_append_left _ _ (by rw [List.length_set]; exact lj), set_back hj]
      exact ⟨_, .refl _, q p⟩
end
end Kr
namespace Kr
open PySem PySem.Spec PyProof.Rows L2 Lf Zl
def hands0 : List Str := ["a", "b", "ab", "zz"]
def hands4 : List Str := ["a", "b", "ab", "zz", "m", "qa", "qb", "qab", "qzz"]
theorem hands_up : ∀ h ∈ hands0, h ∈ hands4 := by decide
def nam (h : Str) (k : Nat) : PyData := .tuple [.str h, .int k]
def sig (h : Str) (k a : Nat) : PyData := .tuple [.str h, .int k, .int a]
/-- a name, or nothing -/
inductive NamO : PyData → Prop
  | none : NamO .none
  | nam {h : Str} {k : Nat} : h ∈ hands4 → k < 64 → NamO (nam h k)
  | sig {h : Str} {k a : Nat} : h ∈ hands4 → k < 64 → a < 64 → NamO (sig h k a)
theorem nam_lay {h : Str} {k : Nat} (hh : h ∈ hands4) (hk : k < 64) : (nam h k).canLay0 = true ∧ (nam h k).depth ≤ 1 ∧ noList (nam h k) = true := by
  have a : ∀ h ∈ hands4, ∀ k : Nat, k < 64 → (nam h k).canLay0 = true ∧ (nam h k).depth ≤ 1 ∧ noList (nam h k) = true := by decide +kernel
  exact a h hh k hk
theorem sig_lay {h : Str} {k a : Nat} (hh : h ∈ hands4) (hk : k < 64) (ha : a < 64) : (sig h k a).canLay0 = true ∧ (sig h k a).depth ≤ 1 ∧ noList (sig h k a) = true := by
  have e : (sig h k a).canLay0 = (nam h k).canLay0 := by
    show (PyData.tuple [.str h, .int k, .int a]).canLay0 = (PyData.tuple [.str h, .int k]).canLay0
    rw [PyData.canLay0, PyData.canLay0, PyData.canLayAll0, PyData.canLayAll0, PyData.canLayAll0, PyData.canLayAll0, PyData.canLayAll0, PyData.canLayAll0]
    rfl
  refine ⟨by rw [e]; exact (nam_lay hh hk).1, ?_, rfl⟩
  exact (by decide : 1 ≤ 1)
theorem NamO.lay {d : PyData} (h : NamO d) : d.canLay0 = true ∧ d.depth ≤ 1 ∧ noList d = true := by
  cases h with
  | none => exact ⟨rfl, Nat.zero_le _, rfl⟩
  | nam h1 h2 => exact nam_lay h1 h2
  | sig h1 h2 h3 => exact sig_lay h1 h2 h3
theorem NamO.shaped {d : PyData} (h : NamO d) : SeqAt.shaped d = true := by
  unfold SeqAt.shaped
  rw [h.lay.1, Bool.true_and, decide_eq_true_eq]
  have := h.lay.2.1
  omega
theorem namo_eqv {d e : PyData} (hd : NamO d) (he : NamO e) (q : d.eqv e = true) : d = e := by
  cases hd with
  | none => cases he <;> first | rfl | cases q
  | nam h1 h2 =>
    cases he with
    | none => cases q
    | nam h3 h4 =>
      unfold nam at q ⊢
      simp [PyData.eqv, PyData.eqvAll] at q
      rw [q.1, q.2]
    | sig h3 h4 h5 =>
      unfold nam sig at q
      simp [PyData.eqv, PyData.eqvAll] at q
  | sig h1 h2 h3 =>
    cases he with
    | none => cases q
    | nam h4 h5 =>
      unfold nam sig at q
      simp [PyData.eqv, PyData.eqvAll] at q
    | sig h4 h5 h6 =>
      unfold sig at q ⊢
      simp [PyData.eqv, PyData.eqvAll] at q
      rw [q.1, q.2.1, q.2.2]
theorem namo_cmp {g : Bool → Bool} {d e : PyData} {μ : Store} {Q : DK} (hd : NamO d) (he : NamO e) (q : Q (.dat (.bool (g (PyData.eqv d e)))) μ) : zEqq g (.dat d) (.dat e) μ Q := by
  have sd := hd.shaped
  have se := he.shaped
  cases hd with
  | none =>
    cases he with
    | none => exact q
    | nam _ _ => exact ⟨sd, se, q⟩
    | sig _ _ _ => exact ⟨sd, se, q⟩
  | nam _ _ => cases he <;> exact ⟨sd, se, q⟩
  | sig _ _ _ => cases he <;> exact ⟨sd, se, q⟩
/-! ### deeds -/
structure Deed where
  h : Str
  k : Nat
  st : Int
  seen : List (Str × Int)
  act : PyData
def Deed.D (d : Deed) : PyData := .tuple [.str d.h, .int d.k, .int d.st, .tuple (d.seen.map fun p => .tuple [.str p.1, .int p.2]), d.act]
def Deed.name (d : Deed) : PyData := nam d.h d.k
def texts4 : List Str := ["ab", "x = 1", "y", " "]
def Cell (ks : List Deed) (c : PyData) : Prop := ∃ e ∈ ks, e.name = c ∧ ∃ h p, e.act = .tuple [.str "cell", h, p]
def Stood (ks : List Deed) (h p : PyData) : Prop := ∃ e ∈ ks, e.name = p ∧ ((∃ q, e.act = .tuple [.str "cell", h, q]) ∨ ∃ c q, e.act = .tuple [.str "place", c, h, q])
def Spelt (ks : List Deed) (c s : PyData) : Prop := ∃ e ∈ ks, ∃ (s0 : PyData) (t : Str) (a : Nat), e.act = .tuple [.str "write", c, s0, .str t] ∧ a < t.length ∧ s = sig e.h e.k a
def isTurn (act : PyData) : Prop := ∃ w n, (w = ("on" : Str) ∨ w = ("off" : Str)) ∧ act = .tuple [.str w, n]
def Other (ks : List Deed) (n : PyData) : Prop := ∃ e ∈ ks, e.name = n ∧ ¬ isTurn e.act
inductive Act (ks : List Deed) : PyData → Prop
  | cell (h p : PyData) : (h = .none ∨ Cell ks h) → (p = .none ∨ Stood ks h p) → Act ks (.tuple [.str "cell", h, p])
  | place (c h p : PyData) : Cell ks c → (h = .none ∨ Cell ks h) → (p = .none ∨ Stood ks h p) → Act ks (.tuple [.str "place", c, h, p])
  | write (c s : PyData) (t : Str) : Cell ks c → (s = .none ∨ Spelt ks c s) → t ∈ texts4 → Act ks (.tuple [.str "write", c, s, .str t])
  | strike (l : List PyData) : (∀ x ∈ l, ∃ c, Spelt ks c x) → l.length ≤ 60 → Act ks (.tuple [.str "strike", .tuple l])
  | drop (c : PyData) : Cell ks c → Act ks (.tuple [.str "drop", c])
  | turn (w : Str) (n : PyData) : (w = "on" ∨ w = "off") → Other ks n → Act ks (.tuple [.str w, n])
theorem text_len : ∀ t ∈ texts4, t.length ≤ 5 ∧ (PyData.str t).canLay0 = true := by decide +kernel

/-- the forms of an act -/
inductive AForm : PyData → Prop
  | cell {h p : PyData} : NamO h → NamO p → AForm (.tuple [.str "cell", h, p])
  | place {c h p : PyData} : NamO c → NamO h → NamO p → AForm (.tuple [.str "place", c, h, p])
  | write {c s : PyData} {t : Str} : NamO c → NamO s → t ∈ texts4 → AForm (.tuple [.str "write", c, s, .str t])
  | strike {l : List PyData} : (∀ x ∈ l, NamO x) → l.length ≤ 60 → AForm (.tuple [.str "strike", .tuple l])
  | drop {c : PyData} : NamO c → AForm (.tuple [.str "drop", c])
  | turn {w : Str} {n : PyData} : (w = "on" ∨ w = "off") → NamO n → AForm (.tuple [.str w, n])
theorem spelt_namo {ks : List Deed} (h : ∀ e ∈ ks, (e.h ∈ hands4 ∧ e.k < 64) ∧ AForm e.act) {c s : PyData} (q : Spelt ks c s) : NamO s := by
  obtain ⟨e, he, s0, t, a, ea, ha, rfl⟩ := q
  obtain ⟨h1, h2⟩ := h e he
  rw [ea] at h2
  generalize eq : (PyData.tuple [.str "write", c, s0, .str t]) = z at h2
  cases h2 with
  | write _ _ h3 =>
    cases eq
    have := (text_len t h3).1
    exact .sig h1.1 h1.2 (by omega)
  | turn hw _ =>
    exfalso
    rcases hw with rfl | rfl <;> cases eq
  | _ => cases eq
theorem Act.form {ks : List Deed} (h : ∀ e ∈ ks, (e.h ∈ hands4 ∧ e.k < 64) ∧ AForm e.act) {act : PyData} (a : Act ks act) : AForm act := by
  have nm : ∀ {e : Deed} {n : PyData}, e ∈ ks → e.name = n → NamO n := fun he e => by
    rw [← e]
    exact .nam (h _ he).1.1 (h _ he).1.2
  have cl : ∀ {c}, Cell ks c → NamO c := fun ⟨e, he, en, _⟩ => nm he en
  have clO : ∀ {c}, (c = .none ∨ Cell ks c) → NamO c := fun z => z.elim (fun z => by rw [z]; exact .none) cl
  have stO : ∀ {x p}, (p = .none ∨ Stood ks x p) → NamO p := fun z => z.elim (fun z => by rw [z]; exact .none) fun ⟨e, he, en, _⟩ => nm he en
  cases a with
  | cell x p h1 h2 => exact .cell (clO h1) (stO h2)
  | place c x p h1 h2 h3 => exact .place (cl h1) (clO h2) (stO h3)
  | write c s t h1 h2 h3 => exact .write (cl h1) (h2.elim (fun z => by rw [z]; exact .none) (spelt_namo h)) h3
  | strike l h1 h2 => exact .strike (fun x hx => by obtain ⟨c, z⟩ := h1 x hx; exact spelt_namo h z) h2
  | drop c h1 => exact .drop (cl h1)
  | turn w n h1 h2 =>
    obtain ⟨e, he, en, _⟩ := h2
    exact .turn h1 (nm he en)
end Kr
namespace Kr
open PySem PySem.Spec PyProof.Rows L2 Lf Zl
structure DF (d : Deed) : Prop where
  hh : d.h ∈ hands4
  hk : d.k < 64
  st : 0 ≤ d.st ∧ d.st ≤ 1000
  act : AForm d.act
abbrev deedsN (ds : List Deed) : Node := .lst (ds.map fun d => .dat d.D)
theorem datOf_ds (ds : List Deed) : datOf (ds.map fun d => Val.dat d.D) = some (ds.map Deed.D) := by
  rw [← datOf_map (ds.map Deed.D), List.map_map]
  rfl
def knows (k : Heard) (d : Deed) : Bool := decide ((d.k : Int) < num k d.h)
theorem str_cmp {g : Bool → Bool} {a b : Str} {μ : Store} {Q : DK} (q : Q (.dat (.bool (g (decide (a = b))))) μ) : zEqq g (.dat (.str a)) (.dat (.str b)) μ Q := q
theorem atI_in {α : Type} {xs : List α} {k : Int} (h0 : 0 ≤ k) (h1 : k < xs.length) : ∃ n : Nat, ∃ h : n < xs.length, k = n ∧ atI xs k = some xs[n] := by
  obtain ⟨n, rfl⟩ := Int.eq_ofNat_of_zero_le h0
  have hn : n < xs.length := by omega
  exact ⟨n, hn, rfl, atI_nat (List.getElem?_eq_getElem hn)⟩
section
variable {P : Program} {w : World} {K : PySem.W.Frag} {mg : Str → Option Value} {base : Heap}
def fKnown : DSp := fun xs μ Q => ∃ (h : Addr) (k : Heard) (ds : List Deed), xs = [.dat (.list (ds.map Deed.D)), .ptr h] ∧ μ = [(h, .dv (hzV k))] ∧ ds.length ≤ 10000 ∧ ∀ p, Q (.ptr p) [(h, .dv (hzV k)), (p, deedsN (ds.filter (knows k)))]
abbrev sKnown : Stmt := topS 15
theorem scKnown : FnScope ["_law_deeds_here", "_law_heard", "_law_deed"] ["_law_deeds_here", "_law_heard"] (defScope sKnown) := ⟨rfl, rfl, rfl, by decide +kernel, rfl, by decide +kernel, by decide +kernel⟩
theorem ok_known {f : Addr} {fd : FuncData} (F : Fun K "_law_known" "_law_known" sKnown f fd) (T : Bs mg) : FnOk P w K mg base CX0 1 f fd ["_law_deeds_here", "_law_heard"] (spZ w K fKnown) := by
  refine Fun.okZ F scKnown (fun xs μ Q h => ?_) (fun cdv A outer s H E hr => ?_)
  · obtain ⟨h, k, ds, rfl, _⟩ := h
    rfl
  · have nd := scKnown.nd
    refine ⟨_, (dss_one (ds_ret (d_lc (own := [("_law_deed", 2)]) rfl nd (di_seq (dv 0)) (blkOk_by (own := [("_law_deed", 2)]) (N := ["_law_deeds_here", "_law_heard", "_law_deed"]) (sc := defScope (topS 15)) (by decide +kernel)) (put_name (i := 2) (by decide)) (fun _ _ _ _ _ => (pg_name (i := 2) nd rfl (Or.inl rfl))) (fun _ _ _ _ _ => (dts_one (dt_cmp (oz_lt hr.units) (d_ix (dv 2) d_int (fun _ _ => rfl)) (d_dget hr.units (dv 1) (d_ix (dv 2) d_int (fun _ _ => rfl)) d_int ⟨by rfl, by rfl, by rfl, by rfl⟩) (nomark _)))) (fun _ _ _ _ _ => (dv 2))))), ?_⟩
    rintro xs μ Q ⟨h, k, ds, rfl, rfl, hl, q⟩
    have ez : sizeLine = 16777216 := by decide +kernel
    refine ⟨fun n acc μ => μ = [(h, .dv (hzV k))] ∧ acc = ((ds.take n).filter (knows k)).map fun d => Val.dat d.D, ⟨rfl, rfl⟩, fun _ _ _ _ _ => trivial, ?_, ?_⟩
    · rintro n y acc μ hy ⟨rfl, rfl⟩
      rw [List.map_map] at hy
      obtain ⟨d, hd, rfl⟩ := Option.map_eq_some_iff.mp (by rw [← List.getElem?_map]; exact hy)
      have et : ds.take (n + 1) = ds.take n ++ [d] := by rw [List.take_succ, hd]; rfl
      have ll : ((ds.take n).filter (knows k)).length ≤ 10000 := Nat.le_trans (List.length_filter_le _ _) (by rw [List.length_take]; omega)
      have dg : (lookZ (hzV k) (.text d.h)).getD (.dat (.int 0)) = .dat (.int (num k d.h)) := by
        rw [look_hz]
        unfold num
        cases gi k d.h <;> rfl
      refine ⟨_, rfl, _, rfl, ⟨_, .own 0 rfl⟩, _, rfl, hzV k, .text d.h, .own 0 rfl, rfl, key_text _, ?_⟩
      rw [dg]
      refine ite2 (fun g => ?_) (fun g => ?_)
      · refine ⟨by rw [List.length_map, ez]; omega, _, .refl _, rfl, ?_⟩
        rw [et, List.filter_append, List.filter_cons, if_pos (show knows k d = true from g), List.map_append]
        rfl
      · refine ⟨_, .refl _, rfl, ?_⟩
        rw [et, List.filter_append, List.filter_cons, if_neg (show ¬ knows k d = true from g), List.map_append]
        simp
    · rintro acc μ ⟨rfl, rfl⟩ p
      rw [List.length_map, List.length_map, List.take_length]
      exact ⟨_, .refl _, q p⟩
def fPick : DSp := fun xs μ Q => ∃ u d s c N, ∃ ts : List PyData, xs = [.ptr u, .dat (.list ts)] ∧ μ = [(u, urnN d s c)] ∧ UrnOk d s c N ∧ N ≤ 1000000 ∧ ts ≠ [] ∧ ts.length ≤ 1000000 ∧ ∀ t ∈ ts, ∀ d' c', UrnOk d' s c' (N + 1) → Q (.dat t) [(u, urnN d' s c')]
abbrev sPick : Stmt := topS 16
theorem scPick : FnScope ["_law_urn_here", "_law_things"] ["_law_urn_here", "_law_things"] (defScope sPick) := ⟨rfl, rfl, rfl, by decide +kernel, rfl, by decide +kernel, by decide +kernel⟩
theorem ok_pick {f : Addr} {fd : FuncData} (F : Fun K "_law_pick" "_law_pick" sPick f fd) (T : Bs mg) (c__law_lot : CalZ P w K mg base 1 "_law_lot" ["_law_urn_here", "_law_many"] fLot) : FnOk P w K mg base CX0 2 f fd ["_law_urn_here", "_law_things"] (spZ w K fPick) := by
  refine Fun.okZ F scPick (fun xs μ Q h => ?_) (fun cdv A outer s H E hr => ?_)
  · obtain ⟨u, d, s, c, N, ts, rfl, _⟩ := h
    rfl
  · have nd := scPick.nd
    refine ⟨_, (dss_one (ds_ret (d_ix (dv 1) (d_own1 c__law_lot (hr.mono (by decide)) (by rfl) (da_cons (dv 0) (da_cons (d_callB ca_len (by rfl) T.len PySem.boot_len (da_cons (dv 1) da_nil)) da_nil))) (fun _ _ => rfl)))), ?_⟩
    rintro xs μ Q ⟨u, d, s, c, N, ts, rfl, rfl, ok, hN, ne, hl, q⟩
    have hp : 0 < ts.length := List.length_pos_iff.mpr ne
    refine ⟨0, u, _, rfl, u, d, s, c, N, _, rfl, rfl, ok, by omega, by omega, by omega, fun t d2 c2 t0 t1 ok2 => ⟨_, _, rfl, ?_⟩⟩
    obtain ⟨n, hn, rfl, e⟩ := atI_in (xs := ts) t0 t1
    exact ⟨ts[n], e, _, .refl _, q _ (List.getElem_mem hn) d2 c2 ok2⟩
def fStood : DSp := fun xs μ Q => ∃ (ks : List Deed) (h : PyData), xs = [.dat (.list (ks.map Deed.D)), .dat h] ∧ μ = [] ∧ (∀ e ∈ ks, DF e) ∧ NamO h ∧ ks.length ≤ 10000 ∧ ∀ (p : Addr) (ps : List PyData), (∀ x ∈ ps, Stood ks h x) → ps.length ≤ ks.length → Q (.ptr p) [(p, .lst (ps.map Val.dat))]
abbrev sStood : Stmt := topS 17
theorem scStood : FnScope ["_law_known_here", "_law_head", "_law_found", "_law_deed", "_law_act_here"] ["_law_known_here", "_law_head"] (defScope sStood) := ⟨rfl, rfl, rfl, by decide +kernel, rfl, by decide +kernel, by decide +kernel⟩
theorem ok_stood {f : Addr} {fd : FuncData} (F : Fun K "_law_stood" "_law_stood" sStood f fd) (T : Bs mg) : FnOk P w K mg base CX0 1 f fd ["_law_known_here", "_law_head"] (spZ w K fStood) := by
  refine Fun.okZ F scStood (fun xs μ Q h => ?_) (fun cdv A outer s H E hr => ?_)
  · obtain ⟨ks, h, rfl, _⟩ := h
    rfl
  · have nd := scStood.nd
    refine ⟨_, (dss_cons (ds_set (i := 2) nd rfl (Or.inl rfl) (d_lst da_nil))
  (dss_cons (ds_for PassesOwn.never rfl (di_seq (dv 0)) (dg_name (i := 3) nd rfl (Or.inl rfl))
  (dss_cons (ds_set (i := 4) nd rfl (Or.inl rfl) (d_ix (dv 3) d_int (fun _ _ => rfl)))
  (dss_one (ds_if (DW.dt (dw_or (DW.dt (dw_and (dt_cmp (oz_eq hr.units) (d_ix (dv 4) d_int (fun _ _ => rfl)) d_str (nomark _)) (dw_and1 (dt_cmp (oz_eq hr.units) (d_ix (dv 4) d_int (fun _ _ => rfl)) (dv 1) (nomark _))))) (dw_or1 (DW.dt (dw_and (dt_cmp (oz_eq hr.units) (d_ix (dv 4) d_int (fun _ _ => rfl)) d_str (nomark _)) (dw_and1 (dt_cmp (oz_eq hr.units) (d_ix (dv 4) d_int (fun _ _ => rfl)) (dv 1) (nomark _))))))))
  (dss_one (ds_expr (d_lm PySem.F.slot_list_append PySem.F.type_list_append me_append (dv 2) (da_cons (d_slice (dv 3) do_none (do_some d_int)) da_nil))))
  dss_nil))))
  (dss_one (ds_ret (dv 2))))), ?_⟩
    rintro xs μ Q ⟨ks, h, rfl, rfl, df, hh, hl, q⟩
    have ez : sizeLine = 16777216 := by decide +kernel
    refine ⟨Nat.zero_le _, fun fo => ?_⟩
    refine ⟨fun n ρ μ => ∃ (y3 y4 : Option Val) (ps : List PyData), ρ = [some (.dat (.list (ks.map Deed.D))), some (.dat h), some (.ptr fo), y3, y4] ∧ μ = [(fo, .lst (ps.map Val.dat))] ∧ (∀ x ∈ ps, Stood ks h x) ∧ ps.length ≤ n, ⟨_, _, [], rfl, rfl, fun _ h => (by cases h), Nat.le_refl _⟩, fun _ _ _ _ _ => trivial, ?_, ?_⟩
    · rintro n y ρ μ hy ⟨y3, y4, ps, rfl, rfl, hs, hn⟩
      rw [List.map_map] at hy
      obtain ⟨d, hd, rfl⟩ := Option.map_eq_some_iff.mp (by rw [← List.getElem?_map]; exact hy)
      have hm := List.mem_of_getElem? hd
      have hlt := (List.getElem?_eq_some_iff.mp hd).1
      have no : ∃ (y3 y4 : Option Val) (ps' : List PyData), [some (Val.dat (.list (ks.map Deed.D))), some (.dat h), some (.ptr fo), some (.dat d.D), some (.dat d.act)] = [some (.dat (.list (ks.map Deed.D))), some (.dat h), some (.ptr fo), y3, y4] ∧ ([(fo, .lst (ps.map Val.dat))] : Store) = [(fo, .lst (ps'.map Val.dat))] ∧ (∀ x ∈ ps', Stood ks h x) ∧ ps'.length ≤ n + 1 := ⟨_, _, ps, rfl, rfl, hs, by omega⟩
      have yes : Stood ks h d.name → ∃ (y3 y4 : Option Val) (ps' : List PyData), [some (Val.dat (.list (ks.map Deed.D))), some (.dat h), some (.ptr fo), some (.dat d.D), some (.dat d.act)] = [some (.dat (.list (ks.map Deed.D))), some (.dat h), some (.ptr fo), y3, y4] ∧ ([(fo, .lst (ps.map Val.dat ++ [.dat d.name]))] : Store) = [(fo, .lst (ps'.map Val.dat))] ∧ (∀ x ∈ ps', Stood ks h x) ∧ ps'.length ≤ n + 1 := fun z => by
        refine ⟨_, _, ps ++ [d.name], rfl, by rw [List.map_append]; rfl, fun x hx => ?_, by simp; omega⟩
        rcases List.mem_append.mp hx with hx | hx
        · exact hs x hx
        · rw [List.mem_singleton.mp hx]
          exact z
      refine ⟨d.act, rfl, ?_⟩
      have af := (df d hm).act
      obtain ⟨dh, dk, dst, dsn, dact⟩ := d
      dsimp only at af no yes ⊢
      have bound : (ps.map Val.dat).length < sizeLine := by rw [List.length_map, ez]; omega
      cases af with
      | cell h1 h2 =>
        refine ⟨_, rfl, str_cmp (ite2 (fun _ => ?_) (fun c => absurd c (by decide +kernel)))⟩
        refine ⟨_, rfl, namo_cmp h1 hh (ite2 (fun g => ?_) (fun g => ?_))⟩
        · refine ⟨⟨0, _, rfl⟩, ?_⟩
          refine ⟨0, _, rfl, bound, ?_⟩
          have e := namo_eqv h1 hh g
          subst e
          exact ⟨_, .refl _, yes ⟨_, hm, rfl, .inl ⟨_, rfl⟩⟩⟩
        · refine ⟨_, rfl, str_cmp (ite2 (fun c => absurd c (by decide +kernel)) (fun _ => ?_))⟩
          exact ⟨_, .refl _, no⟩
      | place h1 h2 h3 =>
        refine ⟨_, rfl, str_cmp (ite2 (fun c => absurd c (by decide +kernel)) (fun _ => ?_))⟩
        refine ⟨_, rfl, str_cmp (ite2 (fun _ => ?_) (fun c => absurd c (by decide +kernel)))⟩
        refine ⟨_, rfl, namo_cmp h2 hh (ite2 (fun g => ?_) (fun g => ?_))⟩
        · refine ⟨⟨0, _, rfl⟩, ?_⟩
          refine ⟨0, _, rfl, bound, ?_⟩
          have e := namo_eqv h2 hh g
          subst e
          exact ⟨_, .refl _, yes ⟨_, hm, rfl, .inr ⟨_, _, rfl⟩⟩⟩
        · exact ⟨_, .refl _, no⟩
      | write h1 h2 h3 =>
        refine ⟨_, rfl, str_cmp (ite2 (fun c => absurd c (by decide +kernel)) (fun _ => ?_))⟩
        refine ⟨_, rfl, str_cmp (ite2 (fun c => absurd c (by decide +kernel)) (fun _ => ?_))⟩
        exact ⟨_, .refl _, no⟩
      | strike h1 h2 =>
        refine ⟨_, rfl, str_cmp (ite2 (fun c => absurd c (by decide +kernel)) (fun _ => ?_))⟩
        refine ⟨_, rfl, str_cmp (ite2 (fun c => absurd c (by decide +kernel)) (fun _ => ?_))⟩
        exact ⟨_, .refl _, no⟩
      | drop h1 =>
        refine ⟨_, rfl, str_cmp (ite2 (fun c => absurd c (by decide +kernel)) (fun _ => ?_))⟩
        refine ⟨_, rfl, str_cmp (ite2 (fun c => absurd c (by decide +kernel)) (fun _ => ?_))⟩
        exact ⟨_, .refl _, no⟩
      | turn h1 h2 =>
        rcases h1 with rfl | rfl
        · refine ⟨_, rfl, str_cmp (ite2 (fun c => absurd c (by decide +kernel)) (fun _ => ?_))⟩
          refine ⟨_, rfl, str_cmp (ite2 (fun c => absurd c (by decide +kernel)) (fun _ => ?_))⟩
          exact ⟨_, .refl _, no⟩
        · refine ⟨_, rfl, str_cmp (ite2 (fun c => absurd c (by decide +kernel)) (fun _ => ?_))⟩
          refine ⟨_, rfl, str_cmp (ite2 (fun c => absurd c (by decide +kernel)) (fun _ => ?_))⟩
          exact ⟨_, .refl _, no⟩
    · rintro ρ μ ⟨y3, y4, ps, rfl, rfl, hs, hn⟩
      rw [List.length_map, List.length_map] at hn
      exact ⟨_, .refl _, q fo ps hs hn⟩
end
end Kr
namespace Kr
open PySem PySem.Spec PyProof.Rows L2 Lf Zl
theorem rangeZ_lt {n : Nat} {i : Nat} {y : Val} (hy : (rangeZ 0 n)[i]? = some y) : i < n ∧ y = .dat (.int i) := by
  have h := (List.getElem?_eq_some_iff.mp hy).1
  rw [rangeZ_len] at h
  rw [rangeZ_get h] at hy
  cases hy
  exact ⟨h, by rw [Int.zero_add]⟩
section
variable {P : Program} {w : World} {K : PySem.W.Frag} {mg : Str → Option Value} {base : Heap}
def fSpelt : DSp := fun xs μ Q => ∃ (ks : List Deed) (c : PyData), xs = [.dat (.list (ks.map Deed.D)), .dat c] ∧ μ = [] ∧ (∀ e ∈ ks, DF e) ∧ NamO c ∧ ks.length ≤ 10000 ∧ ∀ (p : Addr) (ss : List PyData), (∀ x ∈ ss, Spelt ks c x) → ss.length ≤ 5 * ks.length → Q (.ptr p) [(p, .lst (ss.map Val.dat))]
abbrev sSpelt : Stmt := topS 18
theorem scSpelt : FnScope ["_law_known_here", "_law_cell", "_law_found", "_law_deed", "_law_act_here", "_law_at"] ["_law_known_here", "_law_cell"] (defScope sSpelt) := ⟨rfl, rfl, rfl, by decide +kernel, rfl, by decide +kernel, by decide +kernel⟩
theorem ok_spelt {f : Addr} {fd : FuncData} (F : Fun K "_law_spelt" "_law_spelt" sSpelt f fd) (T : Bs mg) : FnOk P w K mg base CX0 1 f fd ["_law_known_here", "_law_cell"] (spZ w K fSpelt) := by
  refine Fun.okZ F scSpelt (fun xs μ Q h => ?_) (fun cdv A outer s H E hr => ?_)
  · obtain ⟨ks, c, rfl, _⟩ := h
    rfl
  · have nd := scSpelt.nd
    refine ⟨_, (dss_cons (ds_set (i := 2) nd rfl (Or.inl rfl) (d_lst da_nil))
  (dss_cons (ds_for PassesOwn.never rfl (di_seq (dv 0)) (dg_name (i := 3) nd rfl (Or.inr rfl))
  (dss_cons (ds_set (i := 4) nd rfl (Or.inl rfl) (d_ix (dv 3) d_int (fun _ _ => rfl)))
  (dss_one (ds_if (DW.dt (dw_and (dt_cmp (oz_eq hr.units) (d_ix (dv 4) d_int (fun _ _ => rfl)) d_str (nomark _)) (dw_and1 (dt_cmp (oz_eq hr.units) (d_ix (dv 4) d_int (fun _ _ => rfl)) (dv 1) (nomark _)))))
  (dss_one (ds_expr (d_lm PySem.F.slot_list_extend PySem.F.type_list_extend me_extend2 (dv 2) (da_cons (d_lc (own := [("_law_at", 5)]) rfl nd (di_range1 (by rfl) T.range (da_cons (d_callB ca_len (by rfl) T.len PySem.boot_len (da_cons (d_ix (dv 4) d_int (fun _ _ => rfl)) da_nil)) da_nil)) (blkOk_by (own := [("_law_at", 5)]) (N := ["_law_known_here", "_law_cell", "_law_found", "_law_deed", "_law_act_here", "_law_at"]) (sc := defScope (topS 18)) (by decide +kernel)) (put_name (i := 5) (by decide)) (fun _ _ _ _ _ => (pg_name (i := 5) nd rfl (Or.inl rfl))) (fun _ _ _ _ _ => dts_nil) (fun _ _ _ _ _ => (d_tup (da_cons (d_ix (dv 3) d_int (fun _ _ => rfl)) (da_cons (d_ix (dv 3) d_int (fun _ _ => rfl)) (da_cons (dv 5) da_nil)))))) da_nil))))
  dss_nil))))
  (dss_one (ds_ret (dv 2))))), ?_⟩
    rintro xs μ Q ⟨ks, c, rfl, rfl, df, hh, hl, q⟩
    have ez : sizeLine = 16777216 := by decide +kernel
    refine ⟨Nat.zero_le _, fun fo => ?_⟩
    refine ⟨fun n ρ μ => ∃ (y3 y4 y5 : Option Val) (ps : List PyData), ρ = [some (.dat (.list (ks.map Deed.D))), some (.dat c), some (.ptr fo), y3, y4, y5] ∧ μ = [(fo, .lst (ps.map Val.dat))] ∧ (∀ x ∈ ps, Spelt ks c x) ∧ ps.length ≤ 5 * n, ⟨_, _, _, [], rfl, rfl, fun _ h => (by cases h), Nat.le_refl _⟩, fun _ _ _ _ _ => trivial, ?_, ?_⟩
    · rintro n y ρ μ hy ⟨y3, y4, y5, ps, rfl, rfl, hs, hn⟩
      rw [List.map_map] at hy
      obtain ⟨d, hd, rfl⟩ := Option.map_eq_some_iff.mp (by rw [← List.getElem?_map]; exact hy)
      have hm := List.mem_of_getElem? hd
      have hlt := (List.getElem?_eq_some_iff.mp hd).1
      have no : ∃ (y3 y4 y5' : Option Val) (ps' : List PyData), [some (Val.dat (.list (ks.map Deed.D))), some (.dat c), some (.ptr fo), some (.dat d.D), some (.dat d.act), y5] = [some (Val.dat (.list (ks.map Deed.D))), some (.dat c), some (.ptr fo), y3, y4, y5'] ∧ ([(fo, .lst (ps.map Val.dat))] : Store) = [(fo, .lst (ps'.map Val.dat))] ∧ (∀ x ∈ ps', Spelt ks c x) ∧ ps'.length ≤ 5 * (n + 1) := ⟨_, _, _, ps, rfl, rfl, hs, by omega⟩
      refine ⟨d.act, rfl, ?_⟩
      have af := (df d hm).act
      obtain ⟨dh, dk, dst, dsn, dact⟩ := d
      dsimp only at af no ⊢
      cases af with
      | cell h1 h2 =>
        refine ⟨_, rfl, str_cmp (ite2 (fun c => absurd c (by decide +kernel)) (fun _ => ?_))⟩
        exact ⟨_, .refl _, no⟩
      | place h1 h2 h3 =>
        refine ⟨_, rfl, str_cmp (ite2 (fun c => absurd c (by decide +kernel)) (fun _ => ?_))⟩
        exact ⟨_, .refl _, no⟩
      | @write wc ws wt h1 h2 h3 =>
        refine ⟨_, rfl, str_cmp (ite2 (fun _ => ?_) (fun c => absurd c (by decide +kernel)))⟩
        refine ⟨_, rfl, namo_cmp h1 hh (ite2 (fun g => ?_) (fun g => ?_))⟩
        · have e := namo_eqv h1 hh g
          subst e
          have tl := (text_len wt h3).1
          refine ⟨⟨0, _, rfl⟩, _, rfl, by rw [ez]; omega, ?_⟩
          refine ⟨by omega, by omega, fun m acc μ => μ = [(fo, .lst (ps.map Val.dat))] ∧ acc = ((List.range m).map fun a => sig dh dk a).map Val.dat, ⟨rfl, rfl⟩, fun _ _ _ _ _ => trivial, ?_, ?_⟩
          · rintro m y acc μ hy ⟨rfl, rfl⟩
            obtain ⟨ml, rfl⟩ := rangeZ_lt hy
            refine ⟨_, rfl, _, rfl, _, rfl, (by decide : 3 ≤ sizeLine), by rw [List.length_map, List.length_map, List.length_range, ez]; omega, _, .refl _, rfl, ?_⟩
            rw [List.range_succ, List.map_append, List.map_append]
            rfl
          rintro acc μ ⟨rfl, rfl⟩ pl
          rw [rangeZ_len, Int.toNat_natCast]
          refine ⟨0, _, _, rfl, .p 1 rfl, by rw [List.length_map, List.length_map, List.length_map, List.length_range, ez]; omega, ?_⟩
          refine ⟨[(fo, .lst ((ps ++ (List.range wt.length).map fun a => sig dh dk a).map Val.dat))], ?_, _, _, _, ps ++ (List.range wt.length).map (fun a => sig dh dk a), rfl, rfl, fun x hx => ?_, ?_⟩
          · rw [List.map_append]
            exact .cons₂ _ (List.nil_sublist _)
          · rcases List.mem_append.mp hx with hx | hx
            · exact hs x hx
            · obtain ⟨a, ha, rfl⟩ := List.mem_map.mp hx
              exact ⟨_, hm, ws, wt, a, rfl, List.mem_range.mp ha, rfl⟩
          · rw [List.length_append, List.length_map, List.length_range]
            omega
        · exact ⟨_, .refl _, no⟩
      | strike h1 h2 =>
        refine ⟨_, rfl, str_cmp (ite2 (fun c => absurd c (by decide +kernel)) (fun _ => ?_))⟩
        exact ⟨_, .refl _, no⟩
      | drop h1 =>
        refine ⟨_, rfl, str_cmp (ite2 (fun c => absurd c (by decide +kernel)) (fun _ => ?_))⟩
        exact ⟨_, .refl _, no⟩
      | turn h1 h2 =>
        rcases h1 with rfl | rfl
        · refine ⟨_, rfl, str_cmp (ite2 (fun c => absurd c (by decide +kernel)) (fun _ => ?_))⟩
          exact ⟨_, .refl _, no⟩
        · refine ⟨_, rfl, str_cmp (ite2 (fun c => absurd c (by decide +kernel)) (fun _ => ?_))⟩
          exact ⟨_, .refl _, no⟩
    · rintro ρ μ ⟨y3, y4, y5, ps, rfl, rfl, hs, hn⟩
      rw [List.length_map, List.length_map] at hn
      exact ⟨_, .refl _, q fo ps hs hn⟩
end
end Kr
namespace Kr
open PySem PySem.Spec PyProof.Rows L2 Lf Zl
local macro_rules | `(tactic| walk_at "sub") => `(tactic| first | exact List.nil_sublist _ | (refine .cons₂ _ ?_; walk_at "sub") | (refine .cons _ ?_; walk_at "sub"))
theorem datOf_d (ds : List PyData) : datOf (ds.map Val.dat) = some ds := datOf_map ds
theorem namo_list {ds : List PyData} (h : ∀ d ∈ ds, NamO d) : SeqAt.shaped (.list ds) = true := by
  have : PyData.canLayAll0 ds = true ∧ PyData.depthAll ds ≤ 1 := by
    induction ds with
    | nil => exact ⟨rfl, Nat.zero_le _⟩
    | cons d ds ih =>
      obtain ⟨a1, a2⟩ := ih fun e he => h e (List.mem_cons_of_mem _ he)
      obtain ⟨b1, b2, _⟩ := (h d (List.mem_cons_self ..)).lay
      refine ⟨?_, ?_⟩
      · rw [PyData.canLayAll0.eq_2, a1, b1]
        rfl
      · rw [PyData.depthAll.eq_2]
        exact Nat.max_le.mpr ⟨b2, a2⟩
  unfold SeqAt.shaped
  rw [PyData.canLay0.eq_5, this.1, Bool.true_and, decide_eq_true_eq, PyData.depth]
  omega
theorem eqv_nil {ds : List PyData} : (PyData.list ds).eqv (.list []) = decide (ds = []) := by
  cases ds <;> rfl
theorem ptr_cmp {g : Bool → Bool} {a b : Addr} {μ : Store} {Q : DK} {d e : PyData} (h1 : View μ (.ptr a) d) (h2 : View μ (.ptr b) e) (s1 : SeqAt.shaped d = true) (s2 : SeqAt.shaped e = true) (q : Q (.dat (.bool (g (PyData.eqv d e)))) μ) : zEqq g (.ptr a) (.ptr b) μ Q := ⟨d, e, h1, h2, s1, s2, q⟩
theorem act_head {a : PyData} (h : AForm a) : ∃ w r, a = .tuple (.str w :: r) ∧ w.length ≤ 6 := by
  cases h with
  | cell _ _ => exact ⟨_, _, rfl, by decide⟩
  | place _ _ _ => exact ⟨_, _, rfl, by decide⟩
  | write _ _ _ => exact ⟨_, _, rfl, by decide⟩
  | strike _ _ => exact ⟨_, _, rfl, by decide⟩
  | drop _ => exact ⟨_, _, rfl, by decide⟩
  | turn hw _ => rcases hw with rfl | rfl <;> exact ⟨_, _, rfl, by decide⟩
theorem form_cell {r : List PyData} (h : AForm (.tuple (.str "cell" :: r))) : ∃ a b, r = [a, b] := by
  generalize e : (PyData.tuple (.str "cell" :: r)) = z at h
  cases h with
  | cell _ _ =>
    cases e
    exact ⟨_, _, rfl⟩
  | turn hw _ =>
    exfalso
    rcases hw with rfl | rfl <;> cases e
  | _ => cases e
theorem flat_urn (d s c : Int) : flatN (urnN d s c) := fun x hx => by
  rcases List.mem_cons.mp hx with rfl | hx
  · exact rfl
  rcases List.mem_cons.mp hx with rfl | hx
  · exact rfl
  rw [List.mem_singleton.mp hx]
  exact rfl
theorem flat_list {p : Addr} {ds : List PyData} (h : ∀ d ∈ ds, NamO d) : ∀ q ∈ [(p, Node.lst (ds.map Val.dat))], flatN q.2 := fun q hq => by
  rw [List.mem_singleton.mp hq]
  intro x hx
  obtain ⟨d, hd, rfl⟩ := List.mem_map.mp hx
  exact (h d hd).lay.2.2
theorem text_at {k : Int} (h0 : 0 ≤ k) (h1 : k < 4) : ∃ t ∈ texts4, atI [Val.dat (.str "ab"), .dat (.str "x = 1"), .dat (.str "y"), .dat (.str " ")] k = some (.dat (.str t)) := by
  obtain rfl | rfl | rfl | rfl : k = 0 ∨ k = 1 ∨ k = 2 ∨ k = 3 := by omega
  · exact ⟨_, by decide, rfl⟩
  · exact ⟨_, by decide, rfl⟩
  · exact ⟨_, by decide, rfl⟩
  · exact ⟨_, by decide, rfl⟩
theorem turn_at {k : Int} (h0 : 0 ≤ k) (h1 : k < 3) : ∃ t : Str, (t = "on" ∨ t = "off") ∧ atI [Val.dat (.str "on"), .dat (.str "off"), .dat (.str "off")] k = some (.dat (.str t)) := by
  obtain rfl | rfl | rfl : k = 0 ∨ k = 1 ∨ k = 2 := by omega
  · exact ⟨_, .inl rfl, rfl⟩
  · exact ⟨_, .inr rfl, rfl⟩
  · exact ⟨_, .inr rfl, rfl⟩
def headOf : PyData → PyData
  | .tuple (x :: _) => x
  | _ => .none
def nt (e : Deed) : Bool := !(([PyData.str "off", .str "on"]).any fun z => PyData.eqv z (headOf e.act))
theorem nt_cell {e : Deed} {h p : PyData} (q : e.act = .tuple [.str "cell", h, p]) : nt e = true := by
  unfold nt
  rw [q]
  exact (by decide +kernel : (!(([PyData.str "off", .str "on"]).any fun z => PyData.eqv z (.str "cell"))) = true)
theorem nt_turn {e : Deed} (q : nt e = true) : ¬ isTurn e.act := fun ⟨w, n, hw, ea⟩ => by
  unfold nt at q
  rw [ea] at q
  rcases hw with rfl | rfl
  · exact absurd (show (!(([PyData.str "off", .str "on"]).any fun z => PyData.eqv z (.str "on"))) = true from q) (by decide +kernel)
  · exact absurd (show (!(([PyData.str "off", .str "on"]).any fun z => PyData.eqv z (.str "off"))) = true from q) (by decide +kernel)
theorem at_head {α : Type} {x : α} {r : List α} : atI (x :: r) 0 = some x := by
  obtain ⟨n, hn, e, h⟩ := atI_in (xs := x :: r) (k := 0) (Int.le_refl _) (by simp)
  obtain rfl : n = 0 := by omega
  exact h
theorem cut60 {α : Type} (xs : List α) : cutG xs none (some 60) = xs.take 60 := cutG_take xs 60
theorem spelt_tup {ks : List Deed} {c x : PyData} (h : Spelt ks c x) : ∃ a b d, x = .tuple [.str a, .int b, .int d] := by
  obtain ⟨e, he, s0, t, a, _, _, rfl⟩ := h
  exact ⟨_, _, _, rfl⟩
section
variable {P : Program} {w : World} {K : PySem.W.Frag} {mg : Str → Option Value} {base : Heap}
def fAct : DSp := fun xs μ Q => ∃ u d s c N, ∃ ks : List Deed, xs = [.ptr u, .dat (.list (ks.map Deed.D))] ∧ μ = [(u, urnN d s c)] ∧ UrnOk d s c N ∧ N ≤ 100000 ∧ (∀ e ∈ ks, DF e) ∧ ks.length ≤ 64 ∧ ∀ (a : PyData) (d' c' : Int), Act ks a → UrnOk d' s c' (N + 400) → Q (.dat a) [(u, urnN d' s c')]
abbrev sAct : Stmt := topS 19
theorem scAct : FnScope ["_law_urn_here", "_law_known_here", "_law_cells", "_law_way", "_law_head", "_law_cell", "_law_signs", "_law_text", "_law_some", "_law_others", "_law_deed", "_law_sign"] ["_law_urn_here", "_law_known_here"] (defScope sAct) := ⟨rfl, rfl, rfl, by decide +kernel, rfl, by decide +kernel, by decide +kernel⟩
set_option maxHeartbeats 2000000 in
theorem ok_act {f : Addr} {fd : FuncData} (F : Fun K "_law_act" "_law_act" sAct f fd) (T : Bs mg) (c__law_lot : CalZ P w K mg base 1 "_law_lot" ["_law_urn_here", "_law_many"] fLot) (c__law_pick : CalZ P w K mg base 2 "_law_pick" ["_law_urn_here", "_law_things"] fPick)
    (c__law_stood : CalZ P w K mg base 1 "_law_stood" ["_law_known_here", "_law_head"] fStood) (c__law_spelt : CalZ P w K mg base 1 "_law_spelt" ["_law_known_here", "_law_cell"] fSpelt) : FnOk P w K mg base CX0 3 f fd ["_law_urn_here", "_law_known_here"] (spZ w K fAct) := by
  refine Fun.okZ F scAct (fun xs μ Q h => ?_) (fun cdv A outer s H E hr => ?_)
  · obtain ⟨u, d, s, c, N, ks, rfl, _⟩ := h
    rfl
  · have nd := scAct.nd
    refine ⟨_, (dss_cons (ds_setLc (i := 2) (own := [("_law_deed", 10)]) rfl nd rfl rfl (sw_true rfl rfl rfl (by decide +kernel)) (di_seq (dv 1)) (blkOk_by (own := [("_law_deed", 10)]) (N := ["_law_urn_here", "_law_known_here", "_law_cells", "_law_way", "_law_head", "_law_cell", "_law_signs", "_law_text", "_law_some", "_law_others", "_law_deed", "_law_sign"]) (sc := defScope (topS 19)) (by decide +kernel)) (put_name (i := 10) (by decide)) (fun _ _ _ _ _ => (pg_name (i := 10) nd rfl (Or.inl rfl))) (fun _ _ _ _ _ => (dts_one (dt_cmp (oz_eq hr.units) (d_ix (d_ix (dv 10) d_int (fun _ _ => rfl)) d_int (fun _ _ => rfl)) d_str (nomark _)))) (fun _ _ _ _ _ => (d_slice (dv 10) do_none (do_some d_int))))
  (dss_cons (ds_set (i := 3) nd rfl (Or.inl rfl) (d_own1 c__law_lot (hr.mono (by decide)) (by rfl) (da_cons (dv 0) (da_cons d_int da_nil))))
  (dss_cons (ds_if (DW.dt (dw_or (dt_cmp (oz_eq hr.units) (dv 2) (d_lst da_nil) (nomark _)) (dw_or1 (dt_cmp (oz_lt hr.units) (dv 3) d_int (nomark _)))))
  (dss_cons (ds_set (i := 4) nd rfl (Or.inl rfl) (d_ownM c__law_pick (hr.mono (by decide)) (by rfl) (da_cons (dv 0) (da_cons (d_bin oz_add (d_lst (da_cons d_non da_nil)) (dv 2)) da_nil))))
  (dss_one (ds_ret (d_tup (da_cons d_str (da_cons (dv 4) (da_cons (d_ownM c__law_pick (hr.mono (by decide)) (by rfl) (da_cons (dv 0) (da_cons (d_bin oz_add (d_lst (da_cons d_non da_nil)) (d_ownL c__law_stood (hr.mono (by decide)) (by rfl) (da_cons (dv 1) (da_cons (dv 4) da_nil)))) da_nil))) da_nil)))))))
  dss_nil)
  (dss_cons (ds_set (i := 5) nd rfl (Or.inl rfl) (d_ownM c__law_pick (hr.mono (by decide)) (by rfl) (da_cons (dv 0) (da_cons (dv 2) da_nil))))
  (dss_cons (ds_if (dt_cmp (oz_lt hr.units) (dv 3) d_int (nomark _))
  (dss_cons (ds_set (i := 4) nd rfl (Or.inl rfl) (d_ownM c__law_pick (hr.mono (by decide)) (by rfl) (da_cons (dv 0) (da_cons (d_bin oz_add (d_lst (da_cons d_non da_nil)) (dv 2)) da_nil))))
  (dss_one (ds_ret (d_tup (da_cons d_str (da_cons (dv 5) (da_cons (dv 4) (da_cons (d_ownM c__law_pick (hr.mono (by decide)) (by rfl) (da_cons (dv 0) (da_cons (d_bin oz_add (d_lst (da_cons d_non da_nil)) (d_ownL c__law_stood (hr.mono (by decide)) (by rfl) (da_cons (dv 1) (da_cons (dv 4) da_nil)))) da_nil))) da_nil))))))))
  dss_nil)
  (dss_cut (ds_set (i := 6) nd rfl (Or.inl rfl) (d_ownL c__law_spelt (hr.mono (by decide)) (by rfl) (da_cons (dv 1) (da_cons (dv 5) da_nil))))
  (dss_cons (ds_if (DW.dt (dw_or (dt_cmp (oz_lt hr.units) (dv 3) d_int (nomark _)) (dw_or1 (DW.dt (dw_and (dt_cmp (oz_eq hr.units) (dv 3) d_int (nomark _)) (dw_and1 (dt_cmp (oz_eq hr.units) (dv 6) (d_lst da_nil) (nomark _))))))))
  (dss_cons (ds_set (i := 7) nd rfl (Or.inl rfl) (d_ix (d_lst (da_cons d_str (da_cons d_str (da_cons d_str (da_cons d_str da_nil))))) (d_own1 c__law_lot (hr.mono (by decide)) (by rfl) (da_cons (dv 0) (da_cons d_int da_nil))) (fun _ _ => rfl)))
  (dss_one (ds_ret (d_tup (da_cons d_str (da_cons (dv 5) (da_cons (d_ownM c__law_pick (hr.mono (by decide)) (by rfl) (da_cons (dv 0) (da_cons (d_bin oz_add (d_lst (da_cons d_non da_nil)) (dv 6)) da_nil))) (da_cons (dv 7) da_nil))))))))
  dss_nil)
  (dss_cons (ds_if (dt_cmp (oz_eq hr.units) (dv 3) d_int (nomark _))
  (dss_cons (ds_setLc (i := 8) (own := [("_law_sign", 11)]) rfl nd rfl rfl (sw_true rfl rfl rfl (by decide +kernel)) (di_seq (dv 6)) (blkOk_by (own := [("_law_sign", 11)]) (N := ["_law_urn_here", "_law_known_here", "_law_cells", "_law_way", "_law_head", "_law_cell", "_law_signs", "_law_text", "_law_some", "_law_others", "_law_deed", "_law_sign"]) (sc := defScope (topS 19)) (by decide +kernel)) (put_name (i := 11) (by decide)) (fun _ _ _ _ _ => (pg_name (i := 11) nd rfl (Or.inl rfl))) (fun _ _ _ _ _ => (dts_one (dt_cmp (oz_eq hr.units) (d_own1 c__law_lot (hr.mono (by decide)) (by rfl) (da_cons (dv 0) (da_cons d_int da_nil))) d_int (nomark _)))) (fun _ _ _ _ _ => (dv 11)))
  (dss_one (ds_ret (d_tup (da_cons d_str (da_cons (d_callTy ca_tuple (by rfl) T.tuple (by decide +kernel) (da_cons (d_slice (d_callB (ca_sorted hr.units) (by rfl) T.sorted (by decide +kernel) (da_cons (d_bin oz_add (dv 8) (d_bin oz_mul (d_lst (da_cons (d_ownM c__law_pick (hr.mono (by decide)) (by rfl) (da_cons (dv 0) (da_cons (dv 6) da_nil))) da_nil)) (d_callTy ca_int (by rfl) T.int (by decide +kernel) (da_cons (d_cmp (oz_eq hr.units) (dv 8) (d_lst da_nil) (nomark _)) da_nil)))) da_nil)) do_none (do_some d_int)) da_nil)) da_nil))))))
  dss_nil)
  (dss_cons (ds_setLc (i := 9) (own := [("_law_deed", 10)]) rfl nd rfl rfl (sw_true rfl rfl rfl (by decide +kernel)) (di_seq (dv 1)) (blkOk_by (own := [("_law_deed", 10)]) (N := ["_law_urn_here", "_law_known_here", "_law_cells", "_law_way", "_law_head", "_law_cell", "_law_signs", "_law_text", "_law_some", "_law_others", "_law_deed", "_law_sign"]) (sc := defScope (topS 19)) (by decide +kernel)) (put_name (i := 10) (by decide)) (fun _ _ _ _ _ => (pg_name (i := 10) nd rfl (Or.inl rfl))) (fun _ _ _ _ _ => (dts_one (dt_cmp (oz_notin (room65 hr)) (d_ix (d_ix (dv 10) d_int (fun _ _ => rfl)) d_int (fun _ _ => rfl)) (d_tup (da_cons d_str (da_cons d_str da_nil))) (by rfl)))) (fun _ _ _ _ _ => (d_slice (dv 10) do_none (do_some d_int))))
  (dss_cons (ds_if (dt_cmp (oz_eq hr.units) (dv 3) d_int (nomark _))
  (dss_one (ds_ret (d_tup (da_cons d_str (da_cons (dv 5) da_nil)))))
  dss_nil)
  (dss_one (ds_ret (d_tup (da_cons (d_ix (d_lst (da_cons d_str (da_cons d_str (da_cons d_str da_nil)))) (d_bin oz_sub (dv 3) d_int) (fun _ _ => rfl)) (da_cons (d_ownM c__law_pick (hr.mono (by decide)) (by rfl) (da_cons (dv 0) (da_cons (dv 9) da_nil))) da_nil))))))))))))))), ?_⟩
    rintro xs μ Q ⟨u, d, s, c, N, ks, rfl, rfl, ok, hN, df, hl, q⟩
    have ez : sizeLine = 16777216 := by decide +kernel
    have nmO : ∀ {e : Deed}, e ∈ ks → NamO e.name := fun he => .nam (df _ he).hh (df _ he).hk
    have isC : ∀ {e : Deed}, e ∈ ks → (∃ h p, e.act = .tuple [.str "cell", h, p]) → Cell ks e.name := fun he z => ⟨_, he, rfl, z⟩
    -- the cells
    refine ⟨fun n acc μ => μ = [(u, urnN d s c)] ∧ ∃ cs : List PyData, acc = cs.map Val.dat ∧ (∀ x ∈ cs, Cell ks x) ∧ cs.length ≤ n, ⟨rfl, [], rfl, fun _ h => (by cases h), Nat.le_refl _⟩, fun _ _ _ _ _ => trivial, ?_, ?_⟩
    · rintro n y acc μ hy ⟨rfl, cs, rfl, hc, hn⟩
      rw [List.map_map] at hy
      obtain ⟨e, he, rfl⟩ := Option.map_eq_some_iff.mp (by rw [← List.getElem?_map]; exact hy)
      have hm := List.mem_of_getElem? he
      have hlt := (List.getElem?_eq_some_iff.mp he).1
      have no : ([(u, urnN d s c)] : Store) = [(u, urnN d s c)] ∧ ∃ cs' : List PyData, cs.map Val.dat = cs'.map Val.dat ∧ (∀ x ∈ cs', Cell ks x) ∧ cs'.length ≤ n + 1 := ⟨rfl, cs, rfl, hc, by omega⟩
      have af := (df e hm).act
      obtain ⟨w0, r0, ea, _⟩ := act_head af
      have eD : e.D = .tuple [.str e.h, .int e.k, .int e.st, .tuple (e.seen.map fun p => .tuple [.str p.1, .int p.2]), .tuple (.str w0 :: r0)] := by
        unfold Deed.D
        rw [ea]
      refine ⟨_, rfl, e.act, rfl, ?_⟩
      rw [ea]
      refine ⟨.str w0, at_head, str_cmp (ite2 (fun g => ?_) (fun g => ⟨_, .refl _, no⟩))⟩
      have ew : w0 = "cell" := of_decide_eq_true g
      subst ew
      rw [ea] at af
      obtain ⟨a, b, rfl⟩ := form_cell af
      refine ⟨by rw [List.length_map, ez]; omega, _, .refl _, rfl, cs ++ [e.name], by rw [List.map_append]; rfl, fun x hx => ?_, by simp; omega⟩
      rcases List.mem_append.mp hx with hx | hx
      · exact hc x hx
      · rw [List.mem_singleton.mp hx]
        exact isC hm ⟨_, _, ea⟩
    rintro acc μ ⟨rfl, cs, rfl, hc, hn⟩ pc
    rw [List.length_map, List.length_map] at hn
    have namC : ∀ x, Cell ks x → NamO x := fun x ⟨e, he, en, _⟩ => by rw [← en]; exact nmO he
    have namS : ∀ h x, Stood ks h x → NamO x := fun h x ⟨e, he, en, _⟩ => by rw [← en]; exact nmO he
    have namP : ∀ c x, Spelt ks c x → NamO x := fun c x h => spelt_namo (fun e he => ⟨⟨(df e he).hh, (df e he).hk⟩, (df e he).act⟩) h
    have headN : ∀ h, h ∈ PyData.none :: cs → NamO h ∧ (h = .none ∨ Cell ks h) := fun h hm => by
      rcases List.mem_cons.mp hm with rfl | hm
      · exact ⟨.none, .inl rfl⟩
      · exact ⟨namC h (hc h hm), .inr (hc h hm)⟩
    refine ⟨0, u, _, rfl, u, d, s, c, N, 16, rfl, rfl, ok, by omega, by decide, by decide, fun way d1 c1 w0 w1 ok1 => ⟨_, _, rfl, ?_⟩⟩
    refine ⟨Nat.zero_le _, fun pe => ptr_cmp (g := id) (.p 1 rfl (datOf_d cs)) (.p 2 rfl rfl) (namo_list fun x hx => namC x (hc x hx)) rfl ?_⟩
    rw [eqv_nil]
    refine ite2 (fun g => ?_) (fun g => ?_)
    · -- a cell at the beginning
      refine ⟨(by decide : 1 ≤ sizeLine), fun pn => ⟨[.dat .none], cs.map Val.dat, .p 3 rfl, .p 1 rfl, by rw [List.length_map, ez]; show 1 + _ ≤ _; omega, fun pm => ?_⟩⟩
      refine ⟨0, u, _, [.ptr u, .dat (.list (.none :: cs))], rfl, .cons (.keep _) (.cons (.p 4 (by decide) rfl (datOf_d (.none :: cs))) .nil), u, d1, s, c1, _, .none :: cs, rfl, rfl, ok1, by omega, by simp, by rw [List.length_cons]; omega, fun hd hmem d2 c2 ok2 => ⟨urnN d2 s c2, [], rfl, ⟨(headN hd hmem).1.lay.2.2, flat_urn _ _ _, by simp⟩, ?_⟩⟩
      refine ⟨(by decide : 1 ≤ sizeLine), fun pn2 => ?_⟩
      refine ⟨[.dat (.list (ks.map Deed.D)), .dat hd], .cons (.keep _) (.cons (.keep _) .nil), ks, hd, rfl, rfl, df, (headN hd hmem).1, by omega, fun ps pl h1 h2 => ⟨⟨trivial, flat_list fun x hx => namS _ _ (h1 x hx)⟩, ?_⟩⟩
      refine ⟨[.dat .none], pl.map Val.dat, .p 5 rfl, .p 6 rfl, by rw [List.length_map, ez]; show 1 + _ ≤ _; omega, fun pm2 => ?_⟩
      refine ⟨0, u, _, [.ptr u, .dat (.list (.none :: pl))], rfl, .cons (.keep _) (.cons (.p 7 (by decide) rfl (datOf_d (.none :: pl))) .nil), u, d2, s, c2, _, .none :: pl, rfl, rfl, ok2, by omega, by simp, by rw [List.length_cons]; omega, fun pp pmem d3 c3 ok3 => ⟨urnN d3 s c3, [], rfl, ⟨?_, flat_urn _ _ _, by simp⟩, ?_⟩⟩
      · rcases List.mem_cons.mp pmem with rfl | pm
        · exact rfl
        · exact (namS _ _ (h1 pp pm)).lay.2.2
      exact ⟨(by decide : 3 ≤ sizeLine), _, .cons₂ _ (List.nil_sublist _), q _ d3 c3 (.cell hd pp (headN hd hmem).2 ((List.mem_cons.mp pmem).imp id (h1 pp))) (ok3.more (by omega))⟩
    refine ite2 (fun g2 => ?_) (fun g2 => ?_)
    · -- a cell
      refine ⟨(by decide : 1 ≤ sizeLine), fun pn => ⟨[.dat .none], cs.map Val.dat, .p 3 rfl, .p 1 rfl, by rw [List.length_map, ez]; show 1 + _ ≤ _; omega, fun pm => ?_⟩⟩
      refine ⟨0, u, _, [.ptr u, .dat (.list (.none :: cs))], rfl, .cons (.keep _) (.cons (.p 4 (by decide) rfl (datOf_d (.none :: cs))) .nil), u, d1, s, c1, _, .none :: cs, rfl, rfl, ok1, by omega, by simp, by rw [List.length_cons]; omega, fun hd hmem d2 c2 ok2 => ⟨urnN d2 s c2, [], rfl, ⟨(headN hd hmem).1.lay.2.2, flat_urn _ _ _, by simp⟩, ?_⟩⟩
      refine ⟨(by decide : 1 ≤ sizeLine), fun pn2 => ?_⟩
      refine ⟨[.dat (.list (ks.map Deed.D)), .dat hd], .cons (.keep _) (.cons (.keep _) .nil), ks, hd, rfl, rfl, df, (headN hd hmem).1, by omega, fun ps pl h1 h2 => ⟨⟨trivial, flat_list fun x hx => namS _ _ (h1 x hx)⟩, ?_⟩⟩
      refine ⟨[.dat .none], pl.map Val.dat, .p 5 rfl, .p 6 rfl, by rw [List.length_map, ez]; show 1 + _ ≤ _; omega, fun pm2 => ?_⟩
      refine ⟨0, u, _, [.ptr u, .dat (.list (.none :: pl))], rfl, .cons (.keep _) (.cons (.p 7 (by decide) rfl (datOf_d (.none :: pl))) .nil), u, d2, s, c2, _, .none :: pl, rfl, rfl, ok2, by omega, by simp, by rw [List.length_cons]; omega, fun pp pmem d3 c3 ok3 => ⟨urnN d3 s c3, [], rfl, ⟨?_, flat_urn _ _ _, by simp⟩, ?_⟩⟩
      · rcases List.mem_cons.mp pmem with rfl | pm
        · exact rfl
        · exact (namS _ _ (h1 pp pm)).lay.2.2
      exact ⟨(by decide : 3 ≤ sizeLine), _, .cons₂ _ (List.nil_sublist _), q _ d3 c3 (.cell hd pp (headN hd hmem).2 ((List.mem_cons.mp pmem).imp id (h1 pp))) (ok3.more (by omega))⟩
    have cne : cs ≠ [] := by simpa using g
    refine ⟨0, u, _, [.ptr u, .dat (.list cs)], rfl, .cons (.keep _) (.cons (.p 1 (by decide) rfl (datOf_d cs)) .nil), u, d1, s, c1, _, cs, rfl, rfl, ok1, by omega, cne, by omega, fun ce cmem d2 c2 ok2 => ⟨urnN d2 s c2, [], rfl, ⟨(namC ce (hc ce cmem)).lay.2.2, flat_urn _ _ _, by simp⟩, ?_⟩⟩
    have hce := hc ce cmem
    refine ite2 (fun g3 => ?_) (fun g3 => ?_)
    · -- a place
      refine ⟨(by decide : 1 ≤ sizeLine), fun pn => ⟨[.dat .none], cs.map Val.dat, .p 3 rfl, .p 1 rfl, by rw [List.length_map, ez]; show 1 + _ ≤ _; omega, fun pm => ?_⟩⟩
      refine ⟨0, u, _, [.ptr u, .dat (.list (.none :: cs))], rfl, .cons (.keep _) (.cons (.p 4 (by decide) rfl (datOf_d (.none :: cs))) .nil), u, d2, s, c2, _, .none :: cs, rfl, rfl, ok2, by omega, by simp, by rw [List.length_cons]; omega, fun hd hmem d3 c3 ok3 => ⟨urnN d3 s c3, [], rfl, ⟨(headN hd hmem).1.lay.2.2, flat_urn _ _ _, by simp⟩, ?_⟩⟩
      refine ⟨(by decide : 1 ≤ sizeLine), fun pn2 => ?_⟩
      refine ⟨[.dat (.list (ks.map Deed.D)), .dat hd], .cons (.keep _) (.cons (.keep _) .nil), ks, hd, rfl, rfl, df, (headN hd hmem).1, by omega, fun ps pl h1 h2 => ⟨⟨trivial, flat_list fun x hx => namS _ _ (h1 x hx)⟩, ?_⟩⟩
      refine ⟨[.dat .none], pl.map Val.dat, .p 5 rfl, .p 6 rfl, by rw [List.length_map, ez]; show 1 + _ ≤ _; omega, fun pm2 => ?_⟩
      refine ⟨0, u, _, [.ptr u, .dat (.list (.none :: pl))], rfl, .cons (.keep _) (.cons (.p 7 (by decide) rfl (datOf_d (.none :: pl))) .nil), u, d3, s, c3, _, .none :: pl, rfl, rfl, ok3, by omega, by simp, by rw [List.length_cons]; omega, fun pp pmem d4 c4 ok4 => ⟨urnN d4 s c4, [], rfl, ⟨?_, flat_urn _ _ _, by simp⟩, ?_⟩⟩
      · rcases List.mem_cons.mp pmem with rfl | pm
        · exact rfl
        · exact (namS _ _ (h1 pp pm)).lay.2.2
      exact ⟨(by decide : 4 ≤ sizeLine), _, .cons₂ _ (List.nil_sublist _), q _ d4 c4 (.place ce hd pp hce (headN hd hmem).2 ((List.mem_cons.mp pmem).imp id (h1 pp))) (ok4.more (by omega))⟩
    refine ⟨fun ρ μ => ∃ (psp : Addr) (ss : List PyData), ρ = [some (.ptr u), some (.dat (.list (ks.map Deed.D))), some (.ptr pc), some (.dat (.int way)), none, some (.dat ce), some (.ptr psp), none, none, none, none, none] ∧ μ = [(u, urnN d2 s c2), (pc, .lst (cs.map Val.dat)), (pe, .lst []), (psp, .lst (ss.map Val.dat))] ∧ (∀ x ∈ ss, Spelt ks ce x) ∧ ss.length ≤ 320, ?_, ?_⟩
    · refine ⟨[.dat (.list (ks.map Deed.D)), .dat ce], .cons (.keep _) (.cons (.keep _) .nil), ks, ce, rfl, rfl, df, namC ce hce, by omega, fun psp ss h1 h2 => ⟨⟨trivial, flat_list fun x hx => namP _ _ (h1 x hx)⟩, ?_⟩⟩
      exact ⟨psp, ss, rfl, rfl, h1, by omega⟩
    rintro ρ μ ⟨psp, ss, rfl, rfl, hss, lss⟩
    refine ite2 (fun g4 => ?_) (fun g4 => ?_)
    · -- a writing
      refine ⟨(by decide : 4 ≤ sizeLine), fun pt => ⟨0, u, _, rfl, u, _, s, _, _, 4, rfl, rfl, ok2, by omega, by decide, by decide, fun tt d3 c3 t0 t1 ok3 => ⟨_, _, rfl, ?_⟩⟩⟩
      obtain ⟨tx, htx, etx⟩ := text_at t0 t1
      refine ⟨4, _, _, rfl, etx, ?_⟩
      refine ⟨(by decide : 1 ≤ sizeLine), fun pn => ⟨[.dat .none], ss.map Val.dat, .p 5 rfl, .p 3 rfl, by rw [List.length_map, ez]; show 1 + _ ≤ _; omega, fun pm => ?_⟩⟩
      refine ⟨0, u, _, [.ptr u, .dat (.list (.none :: ss))], rfl, .cons (.keep _) (.cons (.p 6 (by decide) rfl (datOf_d (.none :: ss))) .nil), u, d3, s, c3, _, .none :: ss, rfl, rfl, ok3, by omega, by simp, by rw [List.length_cons]; omega, fun sg smem d4 c4 ok4 => ⟨urnN d4 s c4, [], rfl, ⟨?_, flat_urn _ _ _, by simp⟩, ?_⟩⟩
      · rcases List.mem_cons.mp smem with rfl | sm
        · exact rfl
        · exact (namP _ _ (hss sg sm)).lay.2.2
      exact ⟨(by decide : 4 ≤ sizeLine), _, .cons₂ _ (List.nil_sublist _), q _ d4 c4 (.write ce sg tx hce ((List.mem_cons.mp smem).imp id (hss sg)) htx) (ok4.more (by omega))⟩
    have w11 : 11 ≤ way := by simpa using g4
    refine ite2 (fun g5 => ?_) (fun g5 => ?_)
    · have e11 : way = 11 := of_decide_eq_true g5
      subst e11
      refine ⟨Nat.zero_le _, fun p2 => ptr_cmp (g := id) (.p 3 rfl (datOf_d ss)) (.p 4 rfl rfl) (namo_list fun x hx => namP _ _ (hss x hx)) rfl ?_⟩
      rw [eqv_nil]
      refine ite2 (fun g6 => ?_) (fun g6 => ?_)
      · -- a writing
        refine ⟨(by decide : 4 ≤ sizeLine), fun pt => ⟨0, u, _, rfl, u, _, s, _, _, 4, rfl, rfl, ok2, by omega, by decide, by decide, fun tt d3 c3 t0 t1 ok3 => ⟨_, _, rfl, ?_⟩⟩⟩
        obtain ⟨tx, htx, etx⟩ := text_at t0 t1
        refine ⟨5, _, _, rfl, etx, ?_⟩
        refine ⟨(by decide : 1 ≤ sizeLine), fun pn => ⟨[.dat .none], ss.map Val.dat, .p 6 rfl, .p 3 rfl, by rw [List.length_map, ez]; show 1 + _ ≤ _; omega, fun pm => ?_⟩⟩
        refine ⟨0, u, _, [.ptr u, .dat (.list (.none :: ss))], rfl, .cons (.keep _) (.cons (.p 7 (by decide) rfl (datOf_d (.none :: ss))) .nil), u, d3, s, c3, _, .none :: ss, rfl, rfl, ok3, by omega, by simp, by rw [List.length_cons]; omega, fun sg smem d4 c4 ok4 => ⟨urnN d4 s c4, [], rfl, ⟨?_, flat_urn _ _ _, by simp⟩, ?_⟩⟩
        · rcases List.mem_cons.mp smem with rfl | sm
          · exact rfl
          · exact (namP _ _ (hss sg sm)).lay.2.2
        exact ⟨(by decide : 4 ≤ sizeLine), _, .cons₂ _ (List.nil_sublist _), q _ d4 c4 (.write ce sg tx hce ((List.mem_cons.mp smem).imp id (hss sg)) htx) (ok4.more (by omega))⟩
      have sne : ss ≠ [] := by simpa using g6
      refine ⟨3, ss.map Val.dat, rfl, fun n acc μ => ∃ (d c : Int) (sm : List PyData), μ = [(u, urnN d s c), (pc, .lst (cs.map Val.dat)), (pe, .lst []), (psp, .lst (ss.map Val.dat)), (p2, .lst [])] ∧ acc = sm.map Val.dat ∧ (∀ x ∈ sm, Spelt ks ce x) ∧ sm.length ≤ n ∧ UrnOk d s c (N + 2 + n), ⟨d2, c2, [], rfl, rfl, fun _ h => (by cases h), Nat.le_refl _, ok2⟩, fun k acc μ _ h => ⟨3, by obtain ⟨_, _, _, e, _⟩ := h; rw [e]; rfl⟩, ?_, ?_⟩
      · rintro n y acc μ hy ⟨d3, c3, sm, rfl, rfl, hsm, lsm, ok3⟩
        obtain ⟨x, hx, rfl⟩ := Option.map_eq_some_iff.mp (by rw [← List.getElem?_map]; exact hy)
        have hlt := (List.getElem?_eq_some_iff.mp hx).1
        refine ⟨_, rfl, 0, u, _, rfl, u, _, s, _, _, 2, rfl, rfl, ok3, by omega, by decide, by decide, fun t d4 c4 t0 t1 ok4 => ⟨_, _, rfl, ?_⟩⟩
        refine ite2 (fun _ => ?_) (fun _ => ?_)
        · refine ⟨by rw [List.length_map, ez]; omega, _, .refl _, d4, c4, sm ++ [x], rfl, by rw [List.map_append]; rfl, fun z hz => ?_, by simp; omega, ok4.more (by omega)⟩
          rcases List.mem_append.mp hz with hz | hz
          · exact hsm z hz
          · rw [List.mem_singleton.mp hz]
            exact hss x (List.mem_of_getElem? hx)
        · exact ⟨_, .refl _, d4, c4, sm, rfl, rfl, hsm, by omega, ok4.more (by omega)⟩
      rintro acc μ ⟨d3, c3, sm, rfl, rfl, hsm, lsm, ok3⟩ psm
      rw [List.length_map] at lsm ok3
      refine ⟨0, u, _, [.ptr u, .dat (.list ss)], rfl, .cons (.keep _) (.cons (.p 3 (by decide) rfl (datOf_d ss)) .nil), u, d3, s, c3, _, ss, rfl, rfl, ok3, by omega, sne, by omega, fun sg smem d4 c4 ok4 => ⟨urnN d4 s c4, [], rfl, ⟨(namP _ _ (hss sg smem)).lay.2.2, flat_urn _ _ _, by simp⟩, (by decide : 1 ≤ sizeLine), fun pl => ?_⟩⟩
      refine ⟨Nat.zero_le _, fun p7 => ptr_cmp (g := id) (.p 5 rfl (datOf_d sm)) (.p 7 rfl rfl) (namo_list fun x hx => namP _ _ (hsm x hx)) rfl ?_⟩
      obtain ⟨bb, hb⟩ : ∃ bb, id ((PyData.list sm).eqv (.list [])) = bb := ⟨_, rfl⟩
      rw [hb]
      cases bb
      · skip
        refine ⟨[.dat sg], .p 6 rfl, by decide, by decide, by rw [ez]; show 1 * 0 ≤ _; decide, fun p8 => ?_⟩
        refine ⟨sm.map Val.dat, ([] : List PyData).map Val.dat, .p 5 rfl, .p 8 rfl, by rw [List.length_map, ez]; show _ + 0 ≤ _; omega, fun p9 => ?_⟩
        have hl9 : ∀ x ∈ sm ++ ([] : List PyData), Spelt ks ce x := fun x hx => by
          rcases List.mem_append.mp hx with hx | hx
          · exact hsm x hx
          · cases hx
        have all : PySem.W.AllAlike (sm ++ ([] : List PyData)) := fun x hx y hy => by
          obtain ⟨a, b, e, rfl⟩ := spelt_tup (hl9 x hx)
          obtain ⟨a', b', e', rfl⟩ := spelt_tup (hl9 y hy)
          rfl
        have sor : PySem.W.Sortable (sm ++ ([] : List PyData)) := .inl fun x hx => by
          obtain ⟨a, b, e, rfl⟩ := spelt_tup (hl9 x hx)
          exact ⟨_, _, rfl⟩
        refine ⟨9, _, rfl, ⟨9, _, rfl⟩, sm ++ ([] : List PyData), by rw [← List.map_append]; exact datOf_d _, all, sor, fun x hx => ?_, fun p10 => ?_⟩
        · have := (namP _ _ (hl9 x hx)).lay.2.1
          omega
        refine ⟨10, _, rfl, fun p11 => ⟨11, _, rfl, _, by rw [cutG_map]; exact datOf_d _, ?_⟩⟩
        refine ⟨(by decide : 2 ≤ sizeLine), _, .cons₂ _ (List.nil_sublist _), q _ d4 c4 (.strike _ (fun x hx => ⟨ce, hl9 x ?_⟩) ?_) (ok4.more (by omega))⟩
        · rw [cut60] at hx
          exact List.mem_mergeSort.mp (List.mem_of_mem_take hx)
        · rw [cut60, List.length_take]
          omega
      · skip
        refine ⟨[.dat sg], .p 6 rfl, by decide, by decide, by rw [ez]; show 1 * 1 ≤ _; decide, fun p8 => ?_⟩
        refine ⟨sm.map Val.dat, ([sg] : List PyData).map Val.dat, .p 5 rfl, .p 8 rfl, by rw [List.length_map, ez]; show _ + 1 ≤ _; omega, fun p9 => ?_⟩
        have hl9 : ∀ x ∈ sm ++ ([sg] : List PyData), Spelt ks ce x := fun x hx => by
          rcases List.mem_append.mp hx with hx | hx
          · exact hsm x hx
          · rw [List.mem_singleton.mp hx]; exact hss sg smem
        have all : PySem.W.AllAlike (sm ++ ([sg] : List PyData)) := fun x hx y hy => by
          obtain ⟨a, b, e, rfl⟩ := spelt_tup (hl9 x hx)
          obtain ⟨a', b', e', rfl⟩ := spelt_tup (hl9 y hy)
          rfl
        have sor : PySem.W.Sortable (sm ++ ([sg] : List PyData)) := .inl fun x hx => by
          obtain ⟨a, b, e, rfl⟩ := spelt_tup (hl9 x hx)
          exact ⟨_, _, rfl⟩
        refine ⟨9, _, rfl, ⟨9, _, rfl⟩, sm ++ ([sg] : List PyData), by rw [← List.map_append]; exact datOf_d _, all, sor, fun x hx => ?_, fun p10 => ?_⟩
        · have := (namP _ _ (hl9 x hx)).lay.2.1
          omega
        refine ⟨10, _, rfl, fun p11 => ⟨11, _, rfl, _, by rw [cutG_map]; exact datOf_d _, ?_⟩⟩
        refine ⟨(by decide : 2 ≤ sizeLine), _, .cons₂ _ (List.nil_sublist _), q _ d4 c4 (.strike _ (fun x hx => ⟨ce, hl9 x ?_⟩) ?_) (ok4.more (by omega))⟩
        · rw [cut60] at hx
          exact List.mem_mergeSort.mp (List.mem_of_mem_take hx)
        · rw [cut60, List.length_take]
          omega
    have w12 : 12 ≤ way := by
      have : way ≠ 11 := by simpa using g5
      omega
    refine ite2 (fun z => (Bool.false_ne_true z).elim) fun _ => ?_
    refine ite2 (fun g6 => ?_) (fun _ => ?_)
    · exact absurd (of_decide_eq_true g6) (by omega)
    refine ⟨fun n acc μ => μ = [(u, urnN d2 s c2), (pc, .lst (cs.map Val.dat)), (pe, .lst []), (psp, .lst (ss.map Val.dat))] ∧ acc = (((ks.take n).filter nt).map Deed.name).map Val.dat, ⟨rfl, rfl⟩, fun _ _ _ _ _ => trivial, ?_, ?_⟩
    · rintro n y acc μ hy ⟨rfl, rfl⟩
      rw [List.map_map] at hy
      obtain ⟨e, he, rfl⟩ := Option.map_eq_some_iff.mp (by rw [← List.getElem?_map]; exact hy)
      have hm := List.mem_of_getElem? he
      have et : ks.take (n + 1) = ks.take n ++ [e] := by rw [List.take_succ, he]; rfl
      have ll : ((ks.take n).filter nt).length ≤ 64 := Nat.le_trans (List.length_filter_le _ _) (by rw [List.length_take]; omega)
      obtain ⟨w0, r0, ea, _⟩ := act_head (df e hm).act
      have hn0 : nt e = !(([PyData.str "off", .str "on"]).any fun z => PyData.eqv z (.str w0)) := by
        unfold nt
        rw [ea]
        rfl
      refine ⟨_, rfl, e.act, rfl, ?_⟩
      rw [ea]
      refine ⟨.str w0, at_head, (by decide : 2 ≤ sizeLine), .str w0, .d _, rfl, rfl, ?_⟩
      refine ite2 (fun g => ?_) (fun g => ?_)
      · refine ⟨by rw [List.length_map, List.length_map, ez]; omega, _, .refl _, rfl, ?_⟩
        rw [et, List.filter_append, List.filter_cons, if_pos (hn0.trans g), List.map_append, List.map_append]
        rfl
      · refine ⟨_, .refl _, rfl, ?_⟩
        rw [et, List.filter_append, List.filter_cons, if_neg (by rw [hn0]; exact g), List.map_append]
        simp
    rintro acc μ ⟨rfl, rfl⟩ po
    rw [List.length_map, List.length_map, List.take_length]
    refine ite2 (fun g7 => ?_) (fun g7 => ?_)
    · exact ⟨(by decide : 2 ≤ sizeLine), _, .cons₂ _ (List.nil_sublist _), q _ d2 c2 (.drop ce hce) (ok2.more (by omega))⟩
    have w13 : 13 ≤ way := by
      have : way ≠ 12 := by simpa using g7
      omega
    obtain ⟨tw, htw, etw⟩ := turn_at (k := way - 13) (by omega) (by omega)
    have one : ∃ e ∈ ks, nt e = true := by
      obtain ⟨e, he, _, h, p, ea⟩ := hce
      exact ⟨e, he, nt_cell ea⟩
    have one2 : (ks.filter nt).map Deed.name ≠ [] := by
      obtain ⟨e, he, hn⟩ := one
      exact List.ne_nil_of_mem (List.mem_map_of_mem (List.mem_filter.mpr ⟨he, hn⟩))
    have ln : ((ks.filter nt).map Deed.name).length ≤ 64 := by
      rw [List.length_map]
      exact Nat.le_trans (List.length_filter_le _ _) hl
    refine ⟨(by decide : 3 ≤ sizeLine), fun p5 => ⟨5, _, _, rfl, etw, ?_⟩⟩
    refine ⟨0, u, _, [.ptr u, .dat (.list ((ks.filter nt).map Deed.name))], rfl, .cons (.keep _) (.cons (.p 4 (by decide) rfl (datOf_d _)) .nil), u, d2, s, c2, _, _, rfl, rfl, ok2, by omega, one2, by omega, fun on omem d3 c3 ok3 => ⟨urnN d3 s c3, [], rfl, ⟨?_, flat_urn _ _ _, by simp⟩, ?_⟩⟩
    · obtain ⟨e, he, rfl⟩ := List.mem_map.mp omem
      exact (nmO (List.mem_filter.mp he).1).lay.2.2
    refine ⟨(by decide : 2 ≤ sizeLine), _, .cons₂ _ (List.nil_sublist _), q _ d3 c3 (.turn tw on htw ?_) (ok3.more (by omega))⟩
    obtain ⟨e, he, rfl⟩ := List.mem_map.mp omem
    obtain ⟨h1, h2⟩ := List.mem_filter.mp he
    exact ⟨e, h1, rfl, nt_turn h2⟩
end
end Kr
namespace Kr
open PySem PySem.Spec PyProof.Rows L2 Lf Zl
theorem len_sub : ∀ {l1 l2 : List Str}, l1.Nodup → (∀ x ∈ l1, x ∈ l2) → l1.length ≤ l2.length
  | [], _, _, _ => Nat.zero_le _
  | x :: l1, l2, nd, h => by
    rw [List.nodup_cons] at nd
    have hx := h x (List.mem_cons_self ..)
    have := len_sub (l1 := l1) (l2 := l2.erase x) nd.2 fun y hy => (List.mem_erase_of_ne (fun e => nd.1 (by rw [← e]; exact hy))).mpr (h y (List.mem_cons_of_mem _ hy))
    rw [List.length_erase_of_mem hx] at this
    have := List.length_pos_of_mem hx
    rw [List.length_cons]
    omega
structure HE where
  h : Str
  a : Addr
  k : Heard
  j : Nat
def dN (st : List HE) : Node := .dv (txtZ (st.map fun x => (x.h, .ptr x.a)))
structure HInv (hs : List Str) (st : List HE) (Hs : Store) (ds : List Deed) : Prop where
  eh : st.map (·.h) = hs
  nd : hs.Nodup
  «at» : ∀ x ∈ st, Hs[x.j]? = some (x.a, .dv (hzV x.k))
  jn : (st.map (·.j)).Nodup
  ok : ∀ x ∈ st, HOk4 x.k ∧ ∀ p ∈ x.k, p.1 ∈ hs
  own : ∀ x ∈ st, num x.k x.h = ((ds.filter fun d => decide (d.h = x.h)).length : Nat)
  le : ∀ x ∈ st, ∀ y ∈ st, num x.k y.h ≤ num y.k y.h
theorem HInv.one {hs : List Str} {st : List HE} {Hs : Store} {ds : List Deed} (I : HInv hs st Hs ds) {x y : HE} (hx : x ∈ st) (hy : y ∈ st) (e : x.h = y.h) : x = y := by
  obtain ⟨i, hi, rfl⟩ := List.mem_iff_getElem.mp hx
  obtain ⟨j, hj, rfl⟩ := List.mem_iff_getElem.mp hy
  have nd := I.nd
  rw [← I.eh] at nd
  have h1 : (st.map (·.h))[i]? = some st[i].h := by rw [List.getElem?_map, List.getElem?_eq_getElem hi]; rfl
  have h2 : (st.map (·.h))[j]? = some st[i].h := by rw [List.getElem?_map, List.getElem?_eq_getElem hj, e]; rfl
  have := (List.getElem?_inj (by rw [List.length_map]; exact hi) nd).mp (h1.trans h2.symm)
  subst this
  rfl
theorem HInv.oneJ {hs : List Str} {st : List HE} {Hs : Store} {ds : List Deed} (I : HInv hs st Hs ds) {x y : HE} (hx : x ∈ st) (hy : y ∈ st) (e : x.j = y.j) : x = y := by
  obtain ⟨i, hi, rfl⟩ := List.mem_iff_getElem.mp hx
  obtain ⟨j, hj, rfl⟩ := List.mem_iff_getElem.mp hy
  have h1 : (st.map (·.j))[i]? = some st[i].j := by rw [List.getElem?_map, List.getElem?_eq_getElem hi]; rfl
  have h2 : (st.map (·.j))[j]? = some st[i].j := by rw [List.getElem?_map, List.getElem?_eq_getElem hj, e]; rfl
  have := (List.getElem?_inj (by rw [List.length_map]; exact hi) I.jn).mp (h1.trans h2.symm)
  subst this
  rfl
theorem look_dN : ∀ {st : List HE} {x : HE}, (st.map (·.h)).Nodup → x ∈ st → lookZ (txtZ (st.map fun x => (x.h, Val.ptr x.a))) (.text x.h) = some (.ptr x.a)
  | y :: st, x, nd, hx => by
    rw [List.map_cons, List.nodup_cons] at nd
    show (if NestedKey.text y.h = .text x.h then some _ else lookZ (txtZ (st.map _)) _) = _
    rcases List.mem_cons.mp hx with rfl | hx
    · rw [if_pos rfl]
    · rw [if_neg fun z => nd.1 (by rw [NestedKey.text.inj z]; exact List.mem_map_of_mem hx)]
      exact look_dN nd.2 hx
/-- one entry otherwise -/
def updH (st : List HE) (h : Str) (a : Addr) (k : Heard) (j : Nat) : List HE := st.map fun y => if y.h = h then ⟨h, a, k, j⟩ else y
theorem updH_hs {st : List HE} {h : Str} {a : Addr} {k : Heard} {j : Nat} : (updH st h a k j).map (·.h) = st.map (·.h) := by
  unfold updH
  rw [List.map_map]
  refine List.map_congr_left fun y _ => ?_
  show (if y.h = h then (⟨h, a, k, j⟩ : HE) else y).h = y.h
  split
  · rename_i e
    exact e.symm
  · rfl
theorem put_dN : ∀ {st : List HE} {h : Str} {a : Addr} {k : Heard} {j : Nat}, h ∈ st.map (·.h) → (st.map (·.h)).Nodup → putZ (txtZ (st.map fun x => (x.h, Val.ptr x.a))) (.text h) (.ptr a) = txtZ ((updH st h a k j).map fun x => (x.h, Val.ptr x.a))
  | y :: st, h, a, k, j, hh, nd => by
    rw [List.map_cons, List.nodup_cons] at nd
    show (if NestedKey.text y.h = .text h then (NestedKey.text y.h, Val.ptr a) :: txtZ (st.map _) else (NestedKey.text y.h, Val.ptr y.a) :: putZ (txtZ (st.map _)) _ _) = txtZ (((if y.h = h then (⟨h, a, k, j⟩ : HE) else y) :: updH st h a k j).map _)
    by_cases e : y.h = h
    · rw [if_pos (congrArg _ e), if_pos e, e]
      have : updH st h a k j = st := by
        unfold updH
        refine (List.map_congr_left fun z hz => ?_).trans (List.map_id _)
        rw [if_neg fun e2 => nd.1 (by rw [e, ← e2]; exact List.mem_map_of_mem hz)]
        rfl
      rw [this]
      rfl
    · rw [if_neg fun z => e (NestedKey.text.inj z), if_neg e, put_dN (k := k) (j := j) ((List.mem_cons.mp hh).resolve_left (Ne.symm e)) nd.2]
      rfl
theorem mem_updH {st : List HE} {h : Str} {a : Addr} {k : Heard} {j : Nat} {x : HE} (hx : x ∈ updH st h a k j) : x = ⟨h, a, k, j⟩ ∨ (x ∈ st ∧ x.h ≠ h) := by
  obtain ⟨y, hy, rfl⟩ := List.mem_map.mp hx
  by_cases e : y.h = h
  · rw [if_pos e]
    exact .inl rfl
  · rw [if_neg e]
    exact .inr ⟨hy, e⟩
theorem jn_updH {st : List HE} {h : Str} {a : Addr} {k : Heard} {j : Nat} (nd : (st.map (·.h)).Nodup) (jn : (st.map (·.j)).Nodup) (nj : ∀ y ∈ st, y.h ≠ h → y.j ≠ j) : ((updH st h a k j).map (·.j)).Nodup := by
  induction st with
  | nil => exact .nil
  | cons y st ih =>
    rw [List.map_cons, List.nodup_cons] at nd jn
    show ((if y.h = h then (⟨h, a, k, j⟩ : HE) else y).j :: (updH st h a k j).map (·.j)).Nodup
    rw [List.nodup_cons]
    refine ⟨fun z => ?_, ih nd.2 jn.2 fun z hz => nj z (List.mem_cons_of_mem _ hz)⟩
    obtain ⟨x, hx, ex⟩ := List.mem_map.mp z
    by_cases e : y.h = h
    · rw [if_pos e] at ex
      obtain ⟨w, hw, rfl⟩ := List.mem_map.mp hx
      have ne : w.h ≠ h := fun q => nd.1 (by rw [e, ← q]; exact List.mem_map_of_mem hw)
      rw [if_neg ne] at ex
      exact nj w (List.mem_cons_of_mem _ hw) ne ex
    · rw [if_neg e] at ex
      rcases mem_updH hx with rfl | ⟨hx, _⟩
      · exact nj y (List.mem_cons_self ..) e ex.symm
      · exact jn.1 (by rw [← ex]; exact List.mem_map_of_mem hx)
/-- one hand's dict is another -/
theorem HInv.join {hs : List Str} {st : List HE} {Hs : Store} {ds : List Deed} (I : HInv hs st Hs ds) {x : HE} (hx : x ∈ st) {p : Addr} {k' : Heard} (o : HOk4 k' ∧ ∀ p ∈ k', p.1 ∈ hs) (e : num k' x.h = num x.k x.h) (le : ∀ y ∈ st, num k' y.h ≤ num y.k y.h) :
    HInv hs (updH st x.h p k' Hs.length) (Hs ++ [(p, .dv (hzV k'))]) ds := by
  have nd := I.nd
  rw [← I.eh] at nd
  have lt : ∀ y ∈ st, y.j < Hs.length := fun y hy => (List.getElem?_eq_some_iff.mp (I.at y hy)).1
  refine ⟨updH_hs.trans I.eh, I.nd, fun y hy => ?_, jn_updH nd I.jn fun y hy _ => Nat.ne_of_lt (lt y hy), fun y hy => ?_, fun y hy => ?_, fun y hy z hz => ?_⟩
  · rcases mem_updH hy with rfl | ⟨hy, _⟩
    · show (Hs ++ [(p, Node.dv (hzV k'))])[Hs.length]? = _
      simp
    · rw [List.getElem?_append_left (lt y hy)]
      exact I.at y hy
  · rcases mem_updH hy with rfl | ⟨hy, _⟩
    · exact o
    · exact I.ok y hy
  · rcases mem_updH hy with rfl | ⟨hy, _⟩
    · exact e.trans (I.own x hx)
    · exact I.own y hy
  · rcases mem_updH hy with rfl | ⟨hy, _⟩
    · rcases mem_updH hz with rfl | ⟨hz, _⟩
      · exact Int.le_refl _
      · exact le z hz
    · rcases mem_updH hz with rfl | ⟨hz, _⟩
      · show num y.k x.h ≤ num k' x.h
        rw [e]
        exact I.le y hy x hx
      · exact I.le y hy z hz
/-- a deed more -/
theorem HInv.deed {hs : List Str} {st : List HE} {Hs : Store} {ds : List Deed} (I : HInv hs st Hs ds) {x : HE} (hx : x ∈ st) {d : Deed} (ed : d.h = x.h) (o : HOk4 (pi x.k x.h (num x.k x.h + 1))) :
    HInv hs (updH st x.h x.a (pi x.k x.h (num x.k x.h + 1)) x.j) (Hs.set x.j (x.a, .dv (hzV (pi x.k x.h (num x.k x.h + 1))))) (ds ++ [d]) := by
  have nd := I.nd
  rw [← I.eh] at nd
  have lt : ∀ y ∈ st, y.j < Hs.length := fun y hy => (List.getElem?_eq_some_iff.mp (I.at y hy)).1
  have hin : x.h ∈ hs := by rw [← I.eh]; exact List.mem_map_of_mem hx
  refine ⟨updH_hs.trans I.eh, I.nd, fun y hy => ?_, jn_updH nd I.jn fun y hy ne e => ne ?_, fun y hy => ?_, fun y hy => ?_, fun y hy z hz => ?_⟩
  · rcases mem_updH hy with rfl | ⟨hy, ne⟩
    · show (Hs.set x.j _)[x.j]? = _
      rw [List.getElem?_set_self (lt x hx)]
    · rw [List.getElem?_set_ne (fun e => ne (by rw [I.oneJ hx hy e]))]
      exact I.at y hy
  · rw [I.oneJ hy hx e]
  · rcases mem_updH hy with rfl | ⟨hy, _⟩
    · refine ⟨o, fun p hp => ?_⟩
      rcases pi_keys.mp (List.mem_map_of_mem hp) with h | h
      · obtain ⟨q, hq, e⟩ := List.mem_map.mp h
        rw [← e]
        exact (I.ok x hx).2 q hq
      · rw [h]
        exact hin
    · exact I.ok y hy
  · rcases mem_updH hy with rfl | ⟨hy, ne⟩
    · show num (pi x.k x.h (num x.k x.h + 1)) x.h = _
      rw [num_pi, if_pos rfl, I.own x hx, List.filter_append, List.length_append, List.filter_cons, if_pos (decide_eq_true ed)]
      rfl
    · rw [List.filter_append, List.filter_cons, if_neg (by simp; rw [ed]; exact Ne.symm ne), List.filter_nil, List.append_nil]
      exact I.own y hy
  · rcases mem_updH hy with rfl | ⟨hy, ne⟩
    · rcases mem_updH hz with rfl | ⟨hz, nz⟩
      · exact Int.le_refl _
      · show num (pi x.k x.h _) z.h ≤ _
        rw [num_pi, if_neg (Ne.symm nz)]
        exact I.le x hx z hz
    · rcases mem_updH hz with rfl | ⟨hz, _⟩
      · show num y.k x.h ≤ num (pi x.k x.h _) x.h
        rw [num_pi, if_pos rfl]
        have := I.le y hy x hx
        omega
      · exact I.le y hy z hz
/-- what is drawn -/
structure Dr (hs : List Str) (ds : List Deed) : Prop where
  df : ∀ d ∈ ds, DF d
  st : ∀ d ∈ ds, d.st < ds.length
  each : ∀ as d bs, ds = as ++ d :: bs → ∃ ks, (∀ e ∈ ks, e ∈ as ∧ e.st < d.st) ∧ (∀ e ∈ as, e.h = d.h → e ∈ ks) ∧ Act ks d.act
  num : ∀ as d bs, ds = as ++ d :: bs → d.k = (as.filter fun e => decide (e.h = d.h)).length
  seen : ∀ d ∈ ds, d.seen.length ≤ 4 ∧ ∀ p ∈ d.seen, p.1 ∈ hs ∧ 0 ≤ p.2 ∧ p.2 ≤ 1000
  h0 : ∀ d ∈ ds, d.h ∈ hs
theorem Dr.nil : Dr hs [] := ⟨fun _ h => (by cases h), fun _ h => (by cases h), fun as d bs h => (by cases as <;> cases h), fun as d bs h => (by cases as <;> cases h), fun _ h => (by cases h), fun _ h => (by cases h)⟩
theorem snoc_cut {α : Type} {ds as bs : List α} {d x : α} (e : ds ++ [x] = as ++ d :: bs) : (as = ds ∧ d = x) ∨ ∃ cs, bs = cs ++ [x] ∧ ds = as ++ d :: cs := by
  rcases List.eq_nil_or_concat bs with rfl | ⟨cs, y, rfl⟩
  · obtain ⟨h1, h2⟩ := List.append_inj' e rfl
    cases h2
    exact .inl ⟨h1.symm, rfl⟩
  · rw [List.concat_eq_append, ← List.cons_append, ← List.append_assoc] at e
    obtain ⟨h1, h2⟩ := List.append_inj' e rfl
    cases h2
    exact .inr ⟨cs, List.concat_eq_append .., h1⟩
theorem Dr.snoc {ds : List Deed} (D : Dr hs ds) {d : Deed} {ks : List Deed} (h1 : DF d) (h2 : d.st ≤ ds.length) (h3 : ∀ e ∈ ks, e ∈ ds ∧ e.st < d.st) (h4 : ∀ e ∈ ds, e.h = d.h → e ∈ ks) (h5 : Act ks d.act) (h6 : d.k = (ds.filter fun e => decide (e.h = d.h)).length)
    (h7 : d.seen.length ≤ 4 ∧ ∀ p ∈ d.seen, p.1 ∈ hs ∧ 0 ≤ p.2 ∧ p.2 ≤ 1000) (h8 : d.h ∈ hs) : Dr hs (ds ++ [d]) := by
  have ap : ∀ (q : Deed → Prop), (∀ e ∈ ds, q e) → q d → ∀ e ∈ ds ++ [d], q e := fun q a b e he => by
    rcases List.mem_append.mp he with he | he
    · exact a e he
    · rw [List.mem_singleton.mp he]
      exact b
  refine ⟨ap _ D.df h1, ?_, fun as e bs q => ?_, fun as e bs q => ?_, ap _ D.seen h7, ap _ D.h0 h8⟩
  · rw [List.length_append, List.length_singleton]
    exact ap _ (fun e he => by have := D.st e he; omega) (by omega)
  · rcases snoc_cut q with ⟨rfl, rfl⟩ | ⟨cs, _, q⟩
    · exact ⟨ks, h3, h4, h5⟩
    · exact D.each as e cs q
  · rcases snoc_cut q with ⟨rfl, rfl⟩ | ⟨cs, _, q⟩
    · exact h6
    · exact D.num as e cs q
end Kr
namespace Kr
open PySem PySem.Spec PyProof.Rows L2 Lf Zl
local macro_rules | `(tactic| walk_at "sub") => `(tactic| first | exact List.nil_sublist _ | (refine .cons₂ _ ?_; walk_at "sub") | (refine .cons _ ?_; walk_at "sub"))
def handsV : List Val := [.dat (.str "a"), .dat (.str "b"), .dat (.str "ab"), .dat (.str "zz")]
theorem hands_cut {l : Int} (h : 0 ≤ l) (h1 : l < 4) : ∃ hs : List Str, cutG handsV none (some (1 + l)) = hs.map (fun h => .dat (.str h)) ∧ (∀ h ∈ hs, h ∈ hands0) ∧ 0 < hs.length ∧ hs.length ≤ 4 ∧ hs.Nodup := by
  obtain rfl | rfl | rfl | rfl : l = 0 ∨ l = 1 ∨ l = 2 ∨ l = 3 := by omega
  · exact ⟨["a"], rfl, by decide, by decide, by decide, by decide⟩
  · exact ⟨["a", "b"], rfl, by decide, by decide, by decide, by decide⟩
  · exact ⟨["a", "b", "ab"], rfl, by decide, by decide, by decide, by decide⟩
  · exact ⟨["a", "b", "ab", "zz"], rfl, by decide, by decide, by decide, by decide⟩
def mkH : List Str → List Addr → Nat → List HE
  | h :: hs, a :: as, n => ⟨h, a, [], n⟩ :: mkH hs as (n + 1)
  | _, _, _ => []
theorem mkH_hs : ∀ {hs : List Str} {as : List Addr} {n : Nat}, as.length = hs.length → (mkH hs as n).map (·.h) = hs
  | [], [], _, _ => rfl
  | h :: hs, a :: as, n, l => by
    show h :: (mkH hs as (n + 1)).map (·.h) = _
    rw [mkH_hs (by simpa using l)]
  | [], _ :: _, _, l => by simp at l
  | _ :: _, [], _, l => by simp at l
theorem mkH_dN : ∀ {hs : List Str} {as : List Addr} {n : Nat}, as.length = hs.length → (mkH hs as n).map (fun x => (x.h, Val.ptr x.a)) = (hs.zip as).map fun h => (h.1, .ptr h.2)
  | [], [], _, _ => rfl
  | h :: hs, a :: as, n, l => by
    show (h, Val.ptr a) :: (mkH hs as (n + 1)).map _ = (h, Val.ptr a) :: (hs.zip as).map _
    rw [mkH_dN (by simpa using l)]
  | [], _ :: _, _, l => by simp at l
  | _ :: _, [], _, l => by simp at l
theorem mkH_mem : ∀ {hs : List Str} {as : List Addr} {n : Nat} {x : HE}, x ∈ mkH hs as n → x.k = [] ∧ n ≤ x.j ∧ as[x.j - n]? = some x.a
  | h :: hs, a :: as, n, x, hx => by
    rcases List.mem_cons.mp hx with rfl | hx
    · exact ⟨rfl, Nat.le_refl _, by simp⟩
    · obtain ⟨h1, h2, h3⟩ := mkH_mem hx
      refine ⟨h1, by omega, ?_⟩
      rw [show x.j - n = (x.j - (n + 1)) + 1 by omega]
      exact h3
  | [], _, _, _, hx => by cases hx
  | _ :: _, [], _, _, hx => by cases hx
theorem mkH_j : ∀ {hs : List Str} {as : List Addr} {n : Nat}, ((mkH hs as n).map (·.j)).Nodup
  | h :: hs, a :: as, n => by
    show (n :: (mkH hs as (n + 1)).map (·.j)).Nodup
    rw [List.nodup_cons]
    refine ⟨fun z => ?_, mkH_j⟩
    obtain ⟨x, hx, e⟩ := List.mem_map.mp z
    have := (mkH_mem hx).2.1
    omega
  | [], _, _ => .nil
  | _ :: _, [], _ => .nil
theorem mkH_inv {hs : List Str} {as : List Addr} (nd : hs.Nodup) (l : as.length = hs.length) : HInv hs (mkH hs as 0) (as.map fun a => (a, .dv [])) [] := by
  refine ⟨mkH_hs l, nd, fun x hx => ?_, mkH_j, fun x hx => ?_, fun x hx => ?_, fun x hx y hy => ?_⟩
  · obtain ⟨h1, _, h3⟩ := mkH_mem hx
    rw [Nat.sub_zero] at h3
    rw [List.getElem?_map, h3, h1]
    rfl
  · rw [(mkH_mem hx).1]
    exact ⟨⟨.nil, fun _ h => (by cases h), Nat.zero_le _⟩, fun _ h => (by cases h)⟩
  · rw [(mkH_mem hx).1]
    rfl
  · rw [(mkH_mem hx).1, (mkH_mem hy).1]
    exact Int.le_refl _
theorem set_same {α : Type} {l : List α} {j : Nat} {x : α} (h : l[j]? = some x) : l.set j x = l := by
  have := set_back h x
  rwa [List.set_set] at this
theorem pi_mem : ∀ {k : Heard} {h : Str} {v : Int} {p : Str × Int}, p ∈ pi k h v → p = (h, v) ∨ p ∈ k
  | [], h, v, p, hp => .inl (List.mem_singleton.mp hp)
  | q :: r, h, v, p, hp => by
    unfold pi at hp
    by_cases c : q.1 = h
    · rw [if_pos c] at hp
      exact (List.mem_cons.mp hp).imp id (List.mem_cons_of_mem _)
    · rw [if_neg c] at hp
      rcases List.mem_cons.mp hp with rfl | hp
      · exact .inr (List.mem_cons_self ..)
      · exact (pi_mem hp).imp id (List.mem_cons_of_mem _)
theorem len4 {k : Heard} {hs : List Str} (nd : (k.map (·.1)).Nodup) (h : ∀ p ∈ k, p.1 ∈ hs) : k.length ≤ hs.length := by
  have := len_sub nd fun x hx => by
    obtain ⟨p, hp, rfl⟩ := List.mem_map.mp hx
    exact h p hp
  rwa [List.length_map] at this
theorem HInv.joined {hs : List Str} {st : List HE} {Hs : Store} {ds : List Deed} (I : HInv hs st Hs ds) (few : hs.length ≤ 4) {x y : HE} (hx : x ∈ st) (hy : y ∈ st) :
    (HOk4 (joinN x.k y.k) ∧ ∀ p ∈ joinN x.k y.k, p.1 ∈ hs) ∧ num (joinN x.k y.k) x.h = num x.k x.h ∧ ∀ z ∈ st, num (joinN x.k y.k) z.h ≤ num z.k z.h := by
  obtain ⟨ox, kx⟩ := I.ok x hx
  obtain ⟨oy, ky⟩ := I.ok y hy
  obtain ⟨a1, a2, a3, _⟩ := joinN_ok ox oy y.k.length
  rw [List.take_length] at a1 a2 a3
  have kk : ∀ p ∈ joinN x.k y.k, p.1 ∈ hs := fun p hp => by
    rcases a3 p.1 (List.mem_map_of_mem hp) with h | h
    · obtain ⟨q, hq, e⟩ := List.mem_map.mp h
      rw [← e]
      exact kx q hq
    · obtain ⟨q, hq, e⟩ := List.mem_map.mp h
      rw [← e]
      exact ky q hq
  have nm := joinN_num (k1 := x.k) (k2 := y.k) oy.nd (fun p hp => (oy.pos p hp).1) ox.num
  refine ⟨⟨⟨a1, a2, by have := len4 a1 kk; omega⟩, kk⟩, ?_, fun z hz => ?_⟩
  · rw [nm]
    have := I.le y hy x hx
    rw [if_neg (by omega)]
  · rw [nm]
    have h1 := I.le y hy z hz
    have h2 := I.le x hx z hz
    split <;> omega
theorem HInv.more {hs : List Str} {st : List HE} {Hs : Store} {ds : List Deed} (I : HInv hs st Hs ds) (few : hs.length ≤ 4) {x : HE} (hx : x ∈ st) (l : ds.length ≤ 64) : HOk4 (pi x.k x.h (num x.k x.h + 1)) := by
  obtain ⟨ox, kx⟩ := I.ok x hx
  have n0 := ox.num x.h
  have n1 := I.own x hx
  have n2 : (ds.filter fun d => decide (d.h = x.h)).length ≤ ds.length := List.length_filter_le ..
  have nd := pi_nd (k := x.k) (h := x.h) (v := num x.k x.h + 1) ox.nd
  refine ⟨nd, fun p hp => ?_, ?_⟩
  · rcases pi_mem hp with rfl | hp
    · show 0 ≤ num x.k x.h + 1 ∧ num x.k x.h + 1 ≤ 1000
      omega
    · exact ox.pos p hp
  · have := len4 nd (hs := hs) fun p hp => by
      rcases pi_mem hp with rfl | hp
      · show x.h ∈ hs
        rw [← I.eh]
        exact List.mem_map_of_mem hx
      · exact kx p hp
    omega
theorem flat_hz (k : Heard) : flatN (.dv (hzV k)) := fun p hp => by
  unfold hzV txtZ at hp
  rw [List.map_map] at hp
  obtain ⟨q, _, rfl⟩ := List.mem_map.mp hp
  exact rfl
theorem noLists_of : ∀ {ds : List PyData}, (∀ d ∈ ds, noList d = true) → noLists ds = true
  | [], _ => rfl
  | d :: ds, h => by
    rw [noLists, h d (List.mem_cons_self ..), noLists_of fun e he => h e (List.mem_cons_of_mem _ he)]
    rfl
theorem nl2 {a b : PyData} (ha : noList a = true) (hb : noList b = true) : noList (.tuple [a, b]) = true := by
  show (noList a && (noList b && true)) = true
  rw [ha, hb]
  rfl
theorem nl3 {a b c : PyData} (ha : noList a = true) (hb : noList b = true) (hc : noList c = true) : noList (.tuple [a, b, c]) = true := by
  show (noList a && (noList b && (noList c && true))) = true
  rw [ha, hb, hc]
  rfl
theorem nl4 {a b c d : PyData} (ha : noList a = true) (hb : noList b = true) (hc : noList c = true) (hd : noList d = true) : noList (.tuple [a, b, c, d]) = true := by
  show (noList a && (noList b && (noList c && (noList d && true)))) = true
  rw [ha, hb, hc, hd]
  rfl
theorem aform_flat {a : PyData} (h : AForm a) : noList a = true := by
  cases h with
  | cell h1 h2 => exact nl3 rfl h1.lay.2.2 h2.lay.2.2
  | place h1 h2 h3 => exact nl4 rfl h1.lay.2.2 h2.lay.2.2 h3.lay.2.2
  | write h1 h2 _ => exact nl4 rfl h1.lay.2.2 h2.lay.2.2 rfl
  | strike h1 _ => exact nl2 rfl (show noLists _ = true from noLists_of fun d hd => (h1 d hd).lay.2.2)
  | drop h1 => exact nl2 rfl h1.lay.2.2
  | turn _ h1 => exact nl2 rfl h1.lay.2.2
theorem deed_flat {d : Deed} (h : DF d) : noList d.D = true := by
  have hs : noList (.tuple (d.seen.map fun p => PyData.tuple [.str p.1, .int p.2])) = true := noLists_of fun e he => by
    obtain ⟨p, _, rfl⟩ := List.mem_map.mp he
    rfl
  show (noList (.str d.h) && (noList (.int d.k) && (noList (.int d.st) && (noList (.tuple (d.seen.map fun p => PyData.tuple [.str p.1, .int p.2])) && (noList d.act && true))))) = true
  rw [hs, aform_flat h.act]
  rfl
theorem flat_deeds {p : Addr} {ds : List Deed} (h : ∀ d ∈ ds, DF d) : ∀ q ∈ [(p, deedsN ds)], flatN q.2 := fun q hq => by
  rw [List.mem_singleton.mp hq]
  intro x hx
  obtain ⟨d, hd, rfl⟩ := List.mem_map.mp hx
  exact deed_flat (h d hd)
theorem dN_same {st : List HE} {x : HE} (one : ∀ y ∈ st, y.h = x.h → y = x) {k : Heard} : dN (updH st x.h x.a k x.j) = dN st := by
  unfold dN updH
  rw [List.map_map]
  congr 2
  refine List.map_congr_left fun y hy => ?_
  show ((if y.h = x.h then (⟨x.h, x.a, k, x.j⟩ : HE) else y).h, Val.ptr (if y.h = x.h then (⟨x.h, x.a, k, x.j⟩ : HE) else y).a) = _
  by_cases e : y.h = x.h
  · rw [if_pos e, one y hy e]
  · rw [if_neg e]
section
variable {P : Program} {w : World} {K : PySem.W.Frag} {mg : Str → Option Value} {base : Heap}
def baseD (u hl ho dl : Addr) (ur : Node) (hs : List Str) (st : List HE) (ds : List Deed) : Store := [(u, ur), (hl, .lst (hs.map fun h => .dat (.str h))), (ho, dN st), (dl, deedsN ds)]
def fDeeds : DSp := fun xs μ Q => ∃ u d s c N, ∃ m : Nat, xs = [.ptr u, .dat (.int m)] ∧ μ = [(u, urnN d s c)] ∧ UrnOk d s c N ∧ N ≤ 1000 ∧ m ≤ 40 ∧ ∀ (p : Addr) (ds : List Deed) (d' c' : Int), Dr hands0 ds → ds.length = m → UrnOk d' s c' (N + 500 * m + 10) → Q (.ptr p) [(u, urnN d' s c'), (p, deedsN ds)]
abbrev sDeeds : Stmt := topS 20
theorem scDeeds : FnScope ["_law_urn_here", "_law_many", "_law_hands", "_law_hand", "_law_heard", "_law_deeds_here", "_law_turn", "_law_look", "_law_known_here", "_law_stamp", "_law_deed", "_law_seen", "_law_k", "_law_one"] ["_law_urn_here", "_law_many"] (defScope sDeeds) := ⟨rfl, rfl, rfl, by decide +kernel, rfl, by decide +kernel, by decide +kernel⟩
set_option maxHeartbeats 4000000 in
theorem ok_deeds {f : Addr} {fd : FuncData} (F : Fun K "_law_deeds" "_law_deeds" sDeeds f fd) (T : Bs mg) (c__law_lot : CalZ P w K mg base 1 "_law_lot" ["_law_urn_here", "_law_many"] fLot) (c__law_pick : CalZ P w K mg base 2 "_law_pick" ["_law_urn_here", "_law_things"] fPick)
    (c__law_joined : CalZ P w K mg base 1 "_law_joined" ["_law_one", "_law_other"] fJoined) (c__law_known : CalZ P w K mg base 1 "_law_known" ["_law_deeds_here", "_law_heard"] fKnown) (c__law_act : CalZ P w K mg base 3 "_law_act" ["_law_urn_here", "_law_known_here"] fAct) : FnOk P w K mg base CX0 4 f fd ["_law_urn_here", "_law_many"] (spZ w K fDeeds) := by
  refine Fun.okZ F scDeeds (fun xs μ Q h => ?_) (fun cdv A outer s H E hr => ?_)
  · obtain ⟨u, d, s, c, N, m, rfl, _⟩ := h
    rfl
  · have nd := scDeeds.nd
    refine ⟨_, (dss_cons (ds_set (i := 2) nd rfl (Or.inl rfl) (d_slice (d_lst (da_cons d_str (da_cons d_str (da_cons d_str (da_cons d_str da_nil))))) do_none (do_some (d_bin oz_add d_int (d_own1 c__law_lot (hr.mono (by decide)) (by rfl) (da_cons (dv 0) (da_cons d_int da_nil)))))))
  (dss_cons (ds_set (i := 4) nd rfl (Or.inr rfl) (d_callTy (ca_dictP rfl) (by rfl) T.dict (by decide +kernel) (da_cons (d_lc (own := [("_law_hand", 3)]) rfl nd (di_seq (dv 2)) (blkOk_by (own := [("_law_hand", 3)]) (N := ["_law_urn_here", "_law_many", "_law_hands", "_law_hand", "_law_heard", "_law_deeds_here", "_law_turn", "_law_look", "_law_known_here", "_law_stamp", "_law_deed", "_law_seen", "_law_k", "_law_one"]) (sc := defScope (topS 20)) (by decide +kernel)) (put_name (i := 3) (by decide)) (fun _ _ _ _ _ => (pg_name (i := 3) nd rfl (Or.inl rfl))) (fun _ _ _ _ _ => dts_nil) (fun _ _ _ _ _ => (d_tupP (da_cons (dv 3) (da_cons d_dnew da_nil))))) da_nil)))
  (dss_cons (ds_set (i := 5) nd rfl (Or.inl rfl) (d_lst da_nil))
  (dss_cons (ds_weak (ds_for PassesOwn.never rfl (di_range1 (by rfl) T.range (da_cons (dv 1) da_nil)) (dg_name (i := 6) nd rfl (Or.inl rfl))
  (dss_cons (ds_set (i := 3) nd rfl (Or.inr rfl) (d_ownM c__law_pick (hr.mono (by decide)) (by rfl) (da_cons (dv 0) (da_cons (dv 2) da_nil))))
  (dss_cons (ds_for PassesOwn.never rfl (di_range1 (by rfl) T.range (da_cons (d_own1 c__law_lot (hr.mono (by decide)) (by rfl) (da_cons (dv 0) (da_cons d_int da_nil))) da_nil)) (dg_name (i := 7) nd rfl (Or.inl rfl))
  (dss_one (ds_dput hr.units (dv 4) (dv 3) (d_ownS c__law_joined (hr.mono (by decide)) (by rfl) (da_cons (d_dix hr.units (dv 4) (dv 3) (fun _ _ => rfl)) (da_cons (d_dix hr.units (dv 4) (d_ownM c__law_pick (hr.mono (by decide)) (by rfl) (da_cons (dv 0) (da_cons (dv 2) da_nil))) (fun _ _ => rfl)) da_nil))) rfl)))
  (dss_cons (ds_set (i := 8) nd rfl (Or.inl rfl) (d_ownM c__law_known (hr.mono (by decide)) (by rfl) (da_cons (dv 5) (da_cons (d_dix hr.units (dv 4) (dv 3) (fun _ _ => rfl)) da_nil))))
  (dss_cons (ds_set (i := 9) nd rfl (Or.inl rfl) d_int)
  (dss_cons (ds_for PassesOwn.never rfl (di_seq (dv 8)) (dg_name (i := 10) nd rfl (Or.inl rfl))
  (dss_one (ds_set (i := 9) nd rfl (Or.inl rfl) (d_callB (ca_max2 rfl) (by rfl) T.max (by decide +kernel) (da_cons (dv 9) (da_cons (d_bin oz_add (d_ix (dv 10) d_int (fun _ _ => rfl)) d_int) da_nil))))))
  (dss_cons (ds_set (i := 11) nd rfl (Or.inl rfl) (d_callTy ca_tuple (by rfl) T.tuple (by decide +kernel) (da_cons (d_lc (own := [("_law_one", 13)]) rfl nd (di_seq (d_callB (ca_sortT rfl) (by rfl) T.sorted (by decide +kernel) (da_cons (d_dix hr.units (dv 4) (dv 3) (fun _ _ => rfl)) da_nil))) (blkOk_by (own := [("_law_one", 13)]) (N := ["_law_urn_here", "_law_many", "_law_hands", "_law_hand", "_law_heard", "_law_deeds_here", "_law_turn", "_law_look", "_law_known_here", "_law_stamp", "_law_deed", "_law_seen", "_law_k", "_law_one"]) (sc := defScope (topS 20)) (by decide +kernel)) (put_name (i := 13) (by decide)) (fun _ _ _ _ _ => (pg_name (i := 13) nd rfl (Or.inl rfl))) (fun _ _ _ _ _ => dts_nil) (fun _ _ _ _ _ => (d_tup (da_cons (dv 13) (da_cons (d_dix hr.units (d_dix hr.units (dv 4) (dv 3) (fun _ _ => rfl)) (dv 13) (fun _ _ => rfl)) da_nil))))) da_nil)))
  (dss_cons (ds_set (i := 12) nd rfl (Or.inl rfl) (d_dget hr.units (d_dix hr.units (dv 4) (dv 3) (fun _ _ => rfl)) (dv 3) d_int ⟨by rfl, by rfl, by rfl, by rfl⟩))
  (dss_cons (ds_expr (d_lm PySem.F.slot_list_append PySem.F.type_list_append me_append (dv 5) (da_cons (d_tup (da_cons (dv 3) (da_cons (dv 12) (da_cons (dv 9) (da_cons (dv 11) (da_cons (d_ownM c__law_act (hr.mono (by decide)) (by rfl) (da_cons (dv 0) (da_cons (dv 8) da_nil))) da_nil)))))) da_nil)))
  (dss_one (ds_dput hr.units (d_dix hr.units (dv 4) (dv 3) (fun _ _ => rfl)) (dv 3) (d_bin oz_add (dv 12) d_int) rfl))))))))))))
  (dss_one (ds_ret (dv 5))))))), ?_⟩
    rintro xs μ Q ⟨u, d, s, c, N, m, rfl, rfl, ok, hN, hm, q⟩
    have ez : sizeLine = 16777216 := by decide +kernel
    refine ⟨(by decide : 4 ≤ sizeLine), fun t0 => ⟨0, u, _, rfl, u, d, s, c, N, 4, rfl, rfl, ok, by omega, by decide, by decide, fun l d1 c1 l0 l1 ok1 => ⟨_, _, rfl, 1, handsV, rfl, fun hl => ?_⟩⟩⟩
    obtain ⟨hs, eh, hin, hpos, hfew, hnd⟩ := hands_cut l0 l1
    rw [eh]
    refine ⟨2, hs.map (fun h => Val.dat (.str h)), rfl, fun n acc μ => ∃ ads : List Addr, μ = [(u, urnN d1 s c1), (t0, .lst handsV), (hl, .lst (hs.map fun h => .dat (.str h)))] ++ (ads.map fun a => (a, .dv [])) ∧ acc = ((hs.take n).zip ads).map (fun h => Val.prt (.str h.1) h.2) ∧ ads.length = n, ⟨[], rfl, rfl, rfl⟩, fun _ _ _ _ h => ⟨2, by obtain ⟨_, e, _⟩ := h; rw [e]; rfl⟩, ?_, ?_⟩
    · rintro n y acc μ hy ⟨ads, rfl, rfl, ha⟩
      obtain ⟨h, hh, rfl⟩ := Option.map_eq_some_iff.mp (by rw [← List.getElem?_map]; exact hy)
      have hlt := (List.getElem?_eq_some_iff.mp hh).1
      have et : hs.take (n + 1) = hs.take n ++ [h] := by rw [List.take_succ, hh]; rfl
      refine ⟨_, rfl, fun p => ⟨by rw [List.length_map, List.length_zip, ez, List.length_take]; omega, _, .refl _, ads ++ [p], ?_, ?_, by simp [ha]⟩⟩
      · rw [List.map_append, ← List.append_assoc]
        rfl
      · rw [et, List.zip_append (by rw [List.length_take]; omega), List.map_append]
        rfl
    rintro acc μ ⟨ads, rfl, rfl, ha⟩ lp
    rw [List.length_map] at ha
    rw [List.length_map, List.take_length]
    have zf : (hs.zip ads).map (·.1) = hs := List.map_fst_zip (by omega)
    refine ⟨_, hs.zip ads, List.getElem?_concat_length .., by rw [zf]; exact hnd, fun ho => ⟨Nat.zero_le _, fun dl => ?_⟩⟩
    have edn : Node.dv (txtZ ((hs.zip ads).map fun h => (h.1, Val.ptr h.2))) = dN (mkH hs ads 0) := by
      unfold dN
      rw [mkH_dN ha]
    rw [edn]
    refine ⟨_, baseD u hl ho dl (urnN d1 s c1) hs (mkH hs ads 0) [] ++ ads.map (fun a => (a, .dv [])), Weak.trans (μ' := [(u, urnN d1 s c1), (hl, .lst (hs.map fun h => .dat (.str h)))] ++ (ads.map (fun a => (a, Node.dv [])) ++ [(ho, dN (mkH hs ads 0)), (dl, deedsN [])])) (weak_sub ?_) (weak_perm ?_), ?_⟩
    · show List.Sublist ((u, urnN d1 s c1) :: (hl, _) :: (ads.map (fun a => (a, Node.dv [])) ++ [(ho, _), (dl, _)])) ((u, urnN d1 s c1) :: (t0, _) :: (hl, _) :: (((ads.map (fun a => (a, Node.dv [])) ++ [(lp, _)]) ++ [(ho, _)]) ++ [(dl, _)]))
      rw [List.append_assoc, List.append_assoc]
      exact .cons₂ _ (.cons _ (.cons₂ _ ((List.Sublist.refl _).append (.cons _ (.refl _)))))
    · show List.Perm (_ :: _ :: ([(ho, _), (dl, _)] ++ ads.map (fun a => (a, Node.dv [])))) (_ :: _ :: (ads.map (fun a => (a, Node.dv [])) ++ [(ho, _), (dl, _)]))
      exact (List.perm_append_comm.cons _).cons _
    have edh : datOf (hs.map fun h => Val.dat (.str h)) = some (hs.map PyData.str) := by
      rw [← datOf_map (hs.map PyData.str), List.map_map]
      rfl
    have hne : hs.map PyData.str ≠ [] := by
      intro z
      have := congrArg List.length z
      rw [List.length_map] at this
      simp at this
      rw [this] at hpos
      cases hpos
    refine ⟨by omega, by omega, fun i ρ μ => ∃ (y3 y6 y7 y8 y9 y10 y11 y12 y13 : Option Val) (st : List HE) (Hs : Store) (ds : List Deed) (e c : Int), ρ = [some (.ptr u), some (.dat (.int m)), some (.ptr hl), y3, some (.ptr ho), some (.ptr dl), y6, y7, y8, y9, y10, y11, y12, y13] ∧ μ = baseD u hl ho dl (urnN e s c) hs st ds ++ Hs ∧ HInv hs st Hs ds ∧ Dr hands0 ds ∧ ds.length = i ∧ UrnOk e s c (N + 1 + 490 * i),
      ⟨_, _, _, _, _, _, _, _, _, mkH hs ads 0, _, [], d1, c1, rfl, rfl, mkH_inv hnd ha, Dr.nil, rfl, ok1⟩, fun _ _ _ _ _ => trivial, ?_, ?_⟩
    · rintro i y ρ μ hy ⟨y3, y6, y7, y8, y9, y10, y11, y12, y13, st, Hs, ds, e, c, rfl, rfl, I, D, hdl, oku⟩
      rw [Int.toNat_natCast] at hy
      obtain ⟨hi, rfl⟩ := rangeZ_lt hy
      refine ⟨0, u, _, [.ptr u, .dat (.list (hs.map PyData.str))], rfl, .cons (.keep _) (.cons (.p 1 (by decide) rfl edh) .nil), u, e, s, c, _, hs.map PyData.str, rfl, rfl, oku, by omega, hne, by rw [List.length_map]; omega, fun t ht d2 c2 ok2 => ⟨urnN d2 s c2, [], rfl, ⟨?_, flat_urn _ _ _, by simp⟩, ?_⟩⟩
      · obtain ⟨h, _, rfl⟩ := List.mem_map.mp ht
        exact rfl
      obtain ⟨h, hh, rfl⟩ := List.mem_map.mp ht
      rw [List.append_nil]
      refine ⟨0, u, _, rfl, u, _, s, _, _, 3, rfl, rfl, ok2, by omega, by decide, by decide, fun lk d3 c3 k0 k1 ok3 => ⟨_, [], rfl, ?_⟩⟩
      rw [List.append_nil]
      refine ⟨by omega, by omega, fun i2 ρ μ => ∃ (y7 : Option Val) (st : List HE) (Hs : Store) (e c : Int), ρ = [some (.ptr u), some (.dat (.int m)), some (.ptr hl), some (.dat (.str h)), some (.ptr ho), some (.ptr dl), some (.dat (.int i)), y7, y8, y9, y10, y11, y12, y13] ∧ μ = baseD u hl ho dl (urnN e s c) hs st ds ++ Hs ∧ HInv hs st Hs ds ∧ UrnOk e s c (N + 1 + 490 * i + 2 + i2), ⟨_, st, Hs, d3, c3, rfl, rfl, I, ok3⟩, fun _ _ _ _ _ => trivial, ?_, ?_⟩
      · rintro i2 y ρ μ hy ⟨y7, st, Hs, e, c, rfl, rfl, I, oku⟩
        have hi2 : i2 < 3 := by
          have := (List.getElem?_eq_some_iff.mp hy).1
          rw [rangeZ_len] at this
          omega
        have sn := I.nd
        rw [← I.eh] at sn
        obtain ⟨x, hx, rfl⟩ := List.mem_map.mp (show h ∈ st.map (·.h) by rw [I.eh]; exact hh)
        refine ⟨_, .text x.h, .ptr x.a, .own 2 rfl, rfl, key_text _, look_dN sn hx, ?_⟩
        refine ⟨0, u, _, [.ptr u, .dat (.list (hs.map PyData.str))], rfl, .cons (.keep _) (.cons (.p 1 (by decide) rfl edh) .nil), u, e, s, c, _, hs.map PyData.str, rfl, rfl, oku, by omega, hne, by rw [List.length_map]; omega, fun t ht d4 c4 ok4 => ⟨urnN d4 s c4, [], rfl, ⟨?_, flat_urn _ _ _, by simp⟩, ?_⟩⟩
        · obtain ⟨h, _, rfl⟩ := List.mem_map.mp ht
          exact rfl
        obtain ⟨h2, hh2, rfl⟩ := List.mem_map.mp ht
        obtain ⟨y, hy2, rfl⟩ := List.mem_map.mp (show h2 ∈ st.map (·.h) by rw [I.eh]; exact hh2)
        rw [List.append_nil]
        refine ⟨_, .text y.h, .ptr y.a, .own 2 rfl, rfl, key_text _, look_dN sn hy2, ?_⟩
        obtain ⟨oj, ej, lj⟩ := I.joined hfew hx hy2
        have lx := len4 (I.ok x hx).1.nd (I.ok x hx).2
        have ly := len4 (I.ok y hy2).1.nd (I.ok y hy2).2
        have lst : st.length ≤ 4 := by
          have := congrArg List.length I.eh
          rw [List.length_map] at this
          omega
        refine ⟨[], baseD u hl ho dl (urnN d4 s c4) hs st ds ++ Hs, [], by rw [List.nil_append, List.append_nil]; rfl, x.a, y.a, x.k, y.k, x.j + 4, y.j + 4, rfl, I.at x hx, I.at y hy2, (I.ok x hx).1, (I.ok y hy2).1, by omega, fun p => ⟨baseD u hl ho dl (urnN d4 s c4) hs st ds ++ Hs, [(p, _)], rfl, ?_⟩⟩
        rw [List.nil_append, List.append_nil]
        refine ⟨2, _, .text x.h, rfl, rfl, key_text _, by unfold txtZ; rw [List.length_map, List.length_map, ez]; omega, ?_⟩
        refine ⟨baseD u hl ho dl (urnN d4 s c4) hs (updH st x.h p (joinN x.k y.k) Hs.length) ds ++ (Hs ++ [(p, .dv (hzV (joinN x.k y.k)))]), ?_, _, updH st x.h p (joinN x.k y.k) Hs.length, _, d4, c4, rfl, rfl, I.join hx oj ej lj, ok4.more (by omega)⟩
        have ep := put_dN (st := st) (h := x.h) (a := p) (k := joinN x.k y.k) (j := Hs.length) (List.mem_map_of_mem hx) sn
        show List.Sublist ((u, _) :: (hl, _) :: (ho, Node.dv (txtZ ((updH st x.h p (joinN x.k y.k) Hs.length).map fun x => (x.h, Val.ptr x.a)))) :: (dl, _) :: (Hs ++ [(p, _)])) ((u, _) :: (hl, _) :: (ho, Node.dv (putZ (txtZ (st.map fun x => (x.h, Val.ptr x.a))) (.text x.h) (.ptr p))) :: (dl, _) :: (Hs ++ [(p, _)]))
        rw [ep]
        exact .refl _
      · rintro ρ μ ⟨y7', st', Hs', e', c', rfl, rfl, I', oku'⟩
        rw [rangeZ_len] at oku'
        have sn := I'.nd
        rw [← I'.eh] at sn
        obtain ⟨x, hx, rfl⟩ := List.mem_map.mp (show h ∈ st'.map (·.h) by rw [I'.eh]; exact hh)
        have lks : lk.toNat ≤ 2 := by omega
        refine ⟨_, .text x.h, .ptr x.a, .own 2 rfl, rfl, key_text _, look_dN sn hx, ?_⟩
        refine ⟨x.j + 4, x.a, _, [.dat (.list (ds.map Deed.D)), .ptr x.a], I'.at x hx, .cons (.p 3 (by omega) rfl (datOf_ds ds)) (.cons (.keep _) .nil), x.a, x.k, ds, rfl, rfl, by omega, fun kn => ⟨_, [(kn, _)], rfl, ⟨trivial, ?_, ?_⟩, ?_⟩⟩
        · exact flat_hz _
        · exact flat_deeds fun d hd => D.df d (List.mem_filter.mp hd).1
        have ltx : x.j < Hs'.length := (List.getElem?_eq_some_iff.mp (I'.at x hx)).1
        have gH : ∀ l : Store, (Hs' ++ l)[x.j]? = some (x.a, .dv (hzV x.k)) := fun l => by
          rw [List.getElem?_append_left ltx]
          exact I'.at x hx
        have e0 : (baseD u hl ho dl (urnN e' s c') hs st' ds ++ Hs').set (x.j + 4) (x.a, .dv (hzV x.k)) = baseD u hl ho dl (urnN e' s c') hs st' ds ++ Hs' := set_same (I'.at x hx)
        rw [e0]
        generalize hK : ds.filter (knows x.k) = Kd
        have kin : ∀ d ∈ Kd, d ∈ ds := fun d hd => by rw [← hK] at hd; exact (List.mem_filter.mp hd).1
        have lK : Kd.length ≤ ds.length := by rw [← hK]; exact List.length_filter_le ..
        refine ⟨_, _, List.getElem?_concat_length .., fun n ρ μ => ∃ (y10' : Option Val) (sv : Int), ρ = [some (.ptr u), some (.dat (.int m)), some (.ptr hl), some (.dat (.str x.h)), some (.ptr ho), some (.ptr dl), some (.dat (.int i)), y7', some (.ptr kn), some (.dat (.int sv)), y10', y11, y12, y13] ∧ μ = baseD u hl ho dl (urnN e' s c') hs st' ds ++ Hs' ++ [(kn, deedsN Kd)] ∧ 0 ≤ sv ∧ sv ≤ ds.length ∧ ∀ d ∈ Kd.take n, d.st < sv,
          ⟨_, 0, rfl, rfl, Int.le_refl _, by omega, fun _ h => (by cases h)⟩, fun _ _ _ _ h => by obtain ⟨_, _, _, e, _⟩ := h; rw [e]; exact ⟨_, List.getElem?_concat_length ..⟩, ?_, ?_⟩
        · rintro n y ρ μ hy ⟨y10', sv, rfl, rfl, s0, s1, hsv⟩
          obtain ⟨d, hd, rfl⟩ := Option.map_eq_some_iff.mp (by rw [← List.getElem?_map]; exact hy)
          have hmem := kin d (List.mem_of_getElem? hd)
          have d0 := (D.df d hmem).st
          have d1 := D.st d hmem
          have et : Kd.take (n + 1) = Kd.take n ++ [d] := by rw [List.take_succ, hd]; rfl
          refine ⟨.int d.st, rfl, _, .refl _, _, if d.st + 1 > sv then d.st + 1 else sv, rfl, rfl, by split <;> omega, by split <;> omega, fun z hz => ?_⟩
          rw [et] at hz
          rcases List.mem_append.mp hz with hz | hz
          · have := hsv z hz
            split <;> omega
          · rw [List.mem_singleton.mp hz]
            split <;> omega
        rintro ρ μ ⟨y10', sv, rfl, rfl, s0, s1, hsv⟩
        rw [List.length_map, List.take_length] at hsv
        let B0 : Store := baseD u hl ho dl (urnN e' s c') hs st' ds
        have g1 : ∀ l1 : Store, (B0 ++ Hs' ++ l1)[x.j + 4]? = some (x.a, .dv (hzV x.k)) := fun l1 => gH l1
        have g2 : ∀ l1 l2 : Store, (B0 ++ Hs' ++ l1 ++ l2)[x.j + 4]? = some (x.a, .dv (hzV x.k)) := fun l1 l2 => by
          rw [List.append_assoc (B0 ++ Hs')]
          exact g1 _
        have g3 : ∀ l1 l2 l3 : Store, (B0 ++ Hs' ++ l1 ++ l2 ++ l3)[x.j + 4]? = some (x.a, .dv (hzV x.k)) := fun l1 l2 l3 => by
          rw [List.append_assoc (B0 ++ Hs' ++ l1)]
          exact g2 _ _
        have lx := len4 (I'.ok x hx).1.nd (I'.ok x hx).2
        refine ⟨_, .text x.h, .ptr x.a, .own 2 rfl, rfl, key_text _, look_dN sn hx, ?_⟩
        refine ⟨x.k.map (fun p => (p.1, Val.dat (.int p.2))), .own (x.j + 4) (g1 _), by rw [List.length_map]; omega, fun ys so hys _ => ?_⟩
        rw [List.map_map] at hys
        have mys : ∀ y ∈ ys, y ∈ x.k.map (·.1) := fun y hy => hys.mem_iff.mp hy
        have lys : ys.length ≤ 4 := by
          rw [hys.length_eq, List.length_map]
          omega
        refine ⟨_, _, List.getElem?_concat_length .., fun n acc μ => μ = B0 ++ Hs' ++ [(kn, deedsN Kd)] ++ [(so, .lst (ys.map fun y => Val.dat (.str y)))] ∧ acc = (ys.take n).map (fun y => Val.dat (.tuple [.str y, .int (num x.k y)])), ⟨rfl, rfl⟩, fun _ _ _ _ h => ⟨(B0 ++ Hs' ++ [(kn, deedsN Kd)]).length, by rw [h.1]; exact List.getElem?_concat_length ..⟩, ?_, ?_⟩
        · rintro n y acc μ hy ⟨rfl, rfl⟩
          obtain ⟨yy, hyy, rfl⟩ := Option.map_eq_some_iff.mp (by rw [← List.getElem?_map]; exact hy)
          have et : ys.take (n + 1) = ys.take n ++ [yy] := by rw [List.take_succ, hyy]; rfl
          obtain ⟨pp, hpp, rfl⟩ := List.mem_map.mp (mys yy (List.mem_of_getElem? hyy))
          have gp : gi x.k pp.1 = some pp.2 := gi_mem (I'.ok x hx).1.nd hpp
          have np : num x.k pp.1 = pp.2 := by unfold num; rw [gp]; rfl
          refine ⟨_, rfl, _, .text x.h, .ptr x.a, .own 2 rfl, rfl, key_text _, look_dN sn hx, hzV x.k, .text pp.1, .dat (.int pp.2), .own (x.j + 4) (g2 _ _), rfl, key_text _, by rw [look_hz, gp]; rfl, ?_⟩
          refine ⟨(by decide : 2 ≤ sizeLine), by rw [List.length_map, List.length_take, ez]; omega, _, .refl _, rfl, ?_⟩
          rw [et, List.map_append, ← np]
          rfl
        rintro acc μ ⟨rfl, rfl⟩ lq
        rw [List.length_map, List.take_length]
        let sl : List (Str × Int) := ys.map fun y => (y, num x.k y)
        have esl : datOf (ys.map (fun y => Val.dat (.tuple [.str y, .int (num x.k y)]))) = some (sl.map fun p => PyData.tuple [.str p.1, .int p.2]) := by
          rw [← datOf_map (sl.map fun p => PyData.tuple [.str p.1, .int p.2]), List.map_map, List.map_map]
          rfl
        refine ⟨_, _, List.getElem?_concat_length .., _, esl, ?_⟩
        have dg : (lookZ (hzV x.k) (.text x.h)).getD (.dat (.int 0)) = .dat (.int (num x.k x.h)) := by
          rw [look_hz]
          unfold num
          cases gi x.k x.h <;> rfl
        refine ⟨_, .text x.h, .ptr x.a, .own 2 rfl, rfl, key_text _, look_dN sn hx, ⟨_, .own (x.j + 4) (g3 _ _ _)⟩, hzV x.k, .text x.h, .own (x.j + 4) (g3 _ _ _), rfl, key_text _, ?_⟩
        rw [dg]
        have gk : (B0 ++ Hs' ++ [(kn, deedsN Kd)] ++ [(so, Node.lst (ys.map fun y => Val.dat (.str y)))] ++ [(lq, Node.lst (ys.map (fun y => Val.dat (.tuple [.str y, .int (num x.k y)]))))])[(B0 ++ Hs').length]? = some (kn, deedsN Kd) := by
          rw [List.append_assoc, List.append_assoc, List.getElem?_append_right (Nat.le_refl _), Nat.sub_self]
          rfl
        refine ⟨⟨3, _, rfl⟩, ?_⟩
        refine ⟨0, u, _, [.ptr u, .dat (.list (Kd.map Deed.D))], rfl, .cons (.keep _) (.cons (.p (B0 ++ Hs').length (by rw [List.length_append]; show 4 + _ ≠ 0; omega) gk (datOf_ds Kd)) .nil), u, e', s, c', _, Kd, rfl, rfl, oku', by omega, fun d hd => D.df d (kin d hd), by omega, fun a d5 c5 hact ok5 => ⟨urnN d5 s c5, [], rfl, ⟨?_, flat_urn _ _ _, by simp⟩, ?_⟩⟩
        · refine aform_flat (hact.form fun e he => ⟨⟨(D.df e (kin e he)).hh, (D.df e (kin e he)).hk⟩, (D.df e (kin e he)).act⟩)
        have aff := hact.form fun e he => ⟨⟨(D.df e (kin e he)).hh, (D.df e (kin e he)).hk⟩, (D.df e (kin e he)).act⟩
        refine ⟨(by decide : 5 ≤ sizeLine), 3, _, rfl, by rw [List.length_map, ez]; omega, ?_⟩
        let dd : Deed := ⟨x.h, (ds.filter fun d => decide (d.h = x.h)).length, sv, sl, a⟩
        have own := I'.own x hx
        have cnt : (ds.filter fun d => decide (d.h = x.h)).length ≤ ds.length := List.length_filter_le ..
        refine ⟨_, .text x.h, .ptr x.a, .own 2 rfl, rfl, key_text _, look_dN sn hx, ?_⟩
        refine ⟨x.j + 4, hzV x.k, .text x.h, ?_, rfl, key_text _, by unfold hzV txtZ; rw [List.length_map, List.length_map, ez]; omega, ?_⟩
        · show ((((Hs' ++ [(kn, _)]) ++ [(so, _)]) ++ [(lq, _)]) ++ [])[x.j]? = _
          rw [List.append_nil, List.append_assoc, List.append_assoc]
          exact gH _
        refine ⟨baseD u hl ho dl (urnN d5 s c5) hs (updH st' x.h x.a (pi x.k x.h (num x.k x.h + 1)) x.j) (ds ++ [dd]) ++ Hs'.set x.j (x.a, .dv (hzV (pi x.k x.h (num x.k x.h + 1)))), ?_, _, _, _, _, _, _, _, _, _, _, _, ds ++ [dd], d5, c5, rfl, rfl, I'.deed hx rfl (I'.more hfew hx (by omega)), D.snoc (d := dd) (ks := Kd) ?_ ?_ ?_ ?_ hact rfl ?_ (hin _ (by rw [← I'.eh]; exact List.mem_map_of_mem hx)), by simp [hdl], ok5.more (by omega)⟩
        · have e1 : deedsN (ds ++ [dd]) = .lst (ds.map (fun d => Val.dat d.D) ++ [.dat (.tuple [.str x.h, .int (num x.k x.h), .int sv, .tuple (sl.map fun p => PyData.tuple [.str p.1, .int p.2]), a])]) := by
            unfold deedsN
            rw [List.map_append, own]
            rfl
          rw [put_hz]
          show List.Sublist ((u, _) :: (hl, _) :: (ho, dN (updH st' x.h x.a (pi x.k x.h (num x.k x.h + 1)) x.j)) :: (dl, deedsN (ds ++ [dd])) :: Hs'.set x.j _) ((u, _) :: (hl, _) :: (ho, dN st') :: (dl, _) :: ((((Hs' ++ [(kn, _)]) ++ [(so, _)]) ++ [(lq, _)]) ++ []).set x.j _)
          rw [dN_same fun y hy e => I'.one hy hx e, e1, List.append_nil, List.append_assoc, List.append_assoc, List.set_append_left _ _ ltx]
          exact .cons₂ _ (.cons₂ _ (.cons₂ _ (.cons₂ _ (List.sublist_append_left _ _))))
        · exact ⟨hands_up _ (hin _ (by rw [← I'.eh]; exact List.mem_map_of_mem hx)), by show (ds.filter fun d => decide (d.h = x.h)).length < 64; omega, ⟨s0, by show sv ≤ 1000; omega⟩, aff⟩
        · exact s1
        · exact fun e he => ⟨kin e he, hsv e he⟩
        · intro e he eh
          have eh : e.h = x.h := eh
          rw [← hK]
          refine List.mem_filter.mpr ⟨he, decide_eq_true ?_⟩
          obtain ⟨as, bs, qq⟩ := List.append_of_mem he
          have n1 := D.num as e bs qq
          rw [eh] at n1 ⊢
          rw [own, qq, List.filter_append, List.length_append, List.filter_cons, if_pos (decide_eq_true eh), List.length_cons, n1]
          omega
        · refine ⟨by show (ys.map _).length ≤ 4; rw [List.length_map]; exact lys, fun p hp => ?_⟩
          obtain ⟨y, hy, rfl⟩ := List.mem_map.mp hp
          obtain ⟨pp, hpp, rfl⟩ := List.mem_map.mp (mys y hy)
          have gp : gi x.k pp.1 = some pp.2 := gi_mem (I'.ok x hx).1.nd hpp
          have np : num x.k pp.1 = pp.2 := by unfold num; rw [gp]; rfl
          refine ⟨hin _ ((I'.ok x hx).2 pp hpp), ?_⟩
          show 0 ≤ num x.k pp.1 ∧ num x.k pp.1 ≤ 1000
          rw [np]
          exact (I'.ok x hx).1.pos pp hpp
    · rintro ρ μ ⟨y3, y6, y7, y8, y9, y10, y11, y12, y13, st, Hs, ds, e, c, rfl, rfl, I, D, hdl, oku⟩
      rw [rangeZ_len, Int.toNat_natCast] at hdl oku
      exact ⟨[(u, urnN e s c), (dl, deedsN ds)], .cons₂ _ (.cons _ (.cons _ (.cons₂ _ (List.nil_sublist _)))), q dl ds e c D hdl (oku.more (by omega))⟩
end
end Kr
namespace Kr
open PySem PySem.Spec PyProof.Rows L2 Lf Zl
def mrk (d : Deed) : PyData := .tuple [.int d.st, .str d.h]
section
variable {P : Program} {w : World} {K : PySem.W.Frag} {mg : Str → Option Value} {base : Heap}
def fMark : DSp := fun xs μ Q => ∃ d : Deed, xs = [.dat d.D] ∧ μ = [] ∧ Q (.dat (mrk d)) []
abbrev sMark : Stmt := topS 2
theorem scMark : FnScope ["deed"] ["deed"] (defScope sMark) := ⟨rfl, rfl, rfl, by decide +kernel, rfl, by decide +kernel, by decide +kernel⟩
theorem ok_mark {f : Addr} {fd : FuncData} (F : Fun K "mark_of" "mark_of" sMark f fd) (T : Bs mg) : FnOk P w K mg base CX0 1 f fd ["deed"] (spZ w K fMark) := by
  refine Fun.okZ F scMark (fun xs μ Q h => ?_) (fun cdv A outer s H E hr => ?_)
  · obtain ⟨d, rfl, _⟩ := h
    rfl
  · have nd := scMark.nd
    refine ⟨_, (dss_one (ds_ret (d_tup (da_cons (d_ix (dv 0) d_int (fun _ _ => rfl)) (da_cons (d_ix (dv 0) d_int (fun _ _ => rfl)) da_nil))))), ?_⟩
    rintro xs μ Q ⟨d, rfl, rfl, q⟩
    exact ⟨_, rfl, _, rfl, (by decide : 2 ≤ sizeLine), _, .refl _, q⟩
end
end Kr
namespace Kr
open PySem PySem.Spec PyProof.Rows L2 Lf Zl
local macro_rules | `(tactic| walk_at "sub") => `(tactic| first | exact List.nil_sublist _ | (refine .cons₂ _ ?_; walk_at "sub") | (refine .cons _ ?_; walk_at "sub"))
def nmK (h : Str) (k : Nat) : NestedKey := .tup [.text h, .num k]
/-- what a deed turns, and how -/
def turnOf (d : Deed) : Option (PyData × Str) := match d.act with
  | .tuple [.str w, n] => if w = "off" ∨ w = "on" then some (n, w) else none
  | _ => none
def tn (d : Deed) (w : Str) : PyData := .tuple [mrk d, .str w]
def stepB (x : NestedKey) (acc : Option PyData) (d : Deed) : Option PyData := match turnOf d with
  | some (n, w) => if keyD n = some x then some (match acc with | some m => if PySem.W.dataLt (tn d w) m = true then m else tn d w | none => tn d w) else acc
  | none => acc
def best (ds : List Deed) (x : NestedKey) : Option PyData := ds.foldl (stepB x) none
theorem best_snoc {ds : List Deed} {d : Deed} {x : NestedKey} : best (ds ++ [d]) x = stepB x (best ds x) d := by
  unfold best
  rw [List.foldl_append]
  rfl
def TnF (m : PyData) : Prop := ∃ (s : Int) (h w : Str), m = .tuple [.tuple [.int s, .str h], .str w]
theorem best_form : ∀ {ds : List Deed} {x : NestedKey} {m : PyData}, best ds x = some m → TnF m := by
  intro ds
  suffices H : ∀ (n : Nat) (ds : List Deed), ds.length = n → ∀ (x : NestedKey) (m : PyData), best ds x = some m → TnF m from fun {x m} h => H _ ds rfl x m h
  intro n
  induction n with
  | zero =>
    intro ds hl x m h
    obtain rfl := List.eq_nil_of_length_eq_zero hl
    cases h
  | succ n ih =>
    intro ds hl x m h
    rcases List.eq_nil_or_concat ds with rfl | ⟨l, d, rfl⟩
    · cases hl
    rw [List.concat_eq_append] at h hl
    rw [List.length_append, List.length_singleton] at hl
    rw [best_snoc] at h
    unfold stepB at h
    have ih := ih l (by omega) x
    split at h
    · rename_i n' w' _
      split at h
      · have h := Option.some.inj h
        rw [← h]
        have t : TnF (tn d w') := ⟨_, _, _, rfl⟩
        split
        · rename_i m' e'
          split
          · exact ih m' e'
          · exact t
        · exact t
      · exact ih m h
    · exact ih m h
theorem nam_key {n : PyData} (h : ∃ a ∈ hands4, ∃ k : Nat, k < 64 ∧ n = nam a k) : ∃ x, keyD n = some x ∧ Vd.KeyOk x ∧ datK x = n ∧ ∃ a ∈ hands4, ∃ k : Nat, k < 64 ∧ x = nmK a k := by
  obtain ⟨a, ha, k, hk, rfl⟩ := h
  exact ⟨nmK a k, rfl, ⟨(by decide : 1 ≤ 8), fun _ _ => trivial⟩, rfl, a, ha, k, hk, rfl⟩
theorem form_turn {w : Str} {r : List PyData} (h : AForm (.tuple (.str w :: r))) (hw : w = "off" ∨ w = "on") : ∃ n, r = [n] := by
  generalize e : (PyData.tuple (.str w :: r)) = z at h
  cases h with
  | turn _ _ =>
    cases e
    exact ⟨_, rfl⟩
  | _ =>
    exfalso
    rcases hw with rfl | rfl <;> cases e
theorem tn_all {a b : PyData} (ha : TnF a) (hb : TnF b) : PySem.W.AlikeAll [a, b] ∧ a.depth ≤ 50 ∧ b.depth ≤ 50 := by
  obtain ⟨s, h, w, rfl⟩ := ha
  obtain ⟨s', h', w', rfl⟩ := hb
  refine ⟨⟨fun x hx y hy => ?_, fun x hx => ?_⟩, (by decide : 2 ≤ 50), (by decide : 2 ≤ 50)⟩
  · rcases List.mem_cons.mp hx with rfl | hx
    · rcases List.mem_cons.mp hy with rfl | hy
      · rfl
      · rw [List.mem_singleton.mp hy]
        rfl
    · rw [List.mem_singleton.mp hx]
      rcases List.mem_cons.mp hy with rfl | hy
      · rfl
      · rw [List.mem_singleton.mp hy]
        rfl
  · rcases List.mem_cons.mp hx with rfl | hx
    · exact fun z => by cases z
    · rw [List.mem_singleton.mp hx]
      exact fun z => by cases z
theorem pz_keys : ∀ {kvs : List (NestedKey × Val)} {k : NestedKey} {v : Val}, k ∉ kvs.map (·.1) → putZ kvs k v = kvs ++ [(k, v)]
  | [], _, _, _ => rfl
  | p :: r, k, v, h => by
    rw [List.map_cons, List.mem_cons, not_or] at h
    show (if p.1 = k then _ else p :: putZ r k v) = _
    rw [if_neg (Ne.symm h.1), pz_keys h.2]
    rfl
theorem lz_mem : ∀ {kvs : List (NestedKey × Val)} {k : NestedKey}, (lookZ kvs k).isSome = true ↔ k ∈ kvs.map (·.1)
  | [], k => by
    show (none : Option Val).isSome = true ↔ k ∈ []
    simp
  | p :: r, k => by
    show (if p.1 = k then some p.2 else lookZ r k).isSome = true ↔ k ∈ p.1 :: r.map (·.1)
    by_cases c : p.1 = k
    · rw [if_pos c, c]
      simp
    · rw [if_neg c, lz_mem, List.mem_cons]
      exact ⟨.inr, fun h => h.resolve_left (Ne.symm c)⟩
theorem pz_old : ∀ {kvs : List (NestedKey × Val)} {k : NestedKey} {v : Val}, k ∈ kvs.map (·.1) → (putZ kvs k v).map (·.1) = kvs.map (·.1)
  | p :: r, k, v, h => by
    show List.map (·.1) (if p.1 = k then (p.1, v) :: r else p :: putZ r k v) = _
    by_cases c : p.1 = k
    · rw [if_pos c]
      rfl
    · rw [if_neg c]
      show p.1 :: _ = p.1 :: _
      rw [pz_old ((List.mem_cons.mp h).resolve_left (Ne.symm c))]
theorem pz_nd {kvs : List (NestedKey × Val)} {k : NestedKey} {v : Val} (nd : (kvs.map (·.1)).Nodup) : ((putZ kvs k v).map (·.1)).Nodup ∧ ∀ x ∈ (putZ kvs k v).map (·.1), x ∈ kvs.map (·.1) ∨ x = k := by
  by_cases c : k ∈ kvs.map (·.1)
  · rw [pz_old c]
    exact ⟨nd, fun x h => .inl h⟩
  · rw [pz_keys c, List.map_append]
    refine ⟨List.nodup_append.mpr ⟨nd, by simp, fun a ha b hb => ?_⟩, fun x h => ?_⟩
    · rw [List.mem_singleton.mp hb]
      exact fun e => c (by have e : a = k := e; rw [← e]; exact ha)
    · rcases List.mem_append.mp h with h | h
      · exact .inl h
      · exact .inr (List.mem_singleton.mp h)
def isOffB : Option PyData → Bool
  | some (.tuple [_, .str w]) => decide (w = "off")
  | _ => false
theorem isOffB_iff {o : Option PyData} : isOffB o = true ↔ ∃ m : PyData, o = some (.tuple [m, .str "off"]) := by
  constructor
  · intro h
    unfold isOffB at h
    split at h
    · rename_i m w
      exact ⟨m, by rw [of_decide_eq_true h]⟩
    · cases h
  · rintro ⟨m, rfl⟩
    rfl
section
variable {P : Program} {w : World} {K : PySem.W.Frag} {mg : Str → Option Value} {base : Heap}
def fTable : DSp := fun xs μ Q => ∃ ds : List Deed, xs = [.dat (.list (ds.map Deed.D))] ∧ μ = [] ∧ (∀ d ∈ ds, DF d ∧ ∀ n w, turnOf d = some (n, w) → ∃ a ∈ hands4, ∃ k : Nat, k < 64 ∧ n = nam a k) ∧ ds.length ≤ 64 ∧
  ∀ p kvs, (∀ x, x ∈ kvs.map (·.1) ↔ isOffB (best ds x) = true) → (∀ x ∈ kvs.map (·.1), Vd.KeyOk x) → (∀ p ∈ kvs, p.2 = .dat (.bool true)) → (kvs.map (·.1)).Nodup → kvs.length ≤ 64 → Q (.ptr p) [(p, .dv kvs)]
abbrev sTable : Stmt := topS 6
theorem scTable : FnScope ["deeds", "last", "deed", "word", "turn", "name"] ["deeds"] (defScope sTable) := ⟨rfl, rfl, rfl, by decide +kernel, rfl, by decide +kernel, by decide +kernel⟩
set_option maxHeartbeats 1000000 in
theorem ok_table {f : Addr} {fd : FuncData} (F : Fun K "off_table" "off_table" sTable f fd) (T : Bs mg) (c_mark_of : CalZ P w K mg base 1 "mark_of" ["deed"] fMark) : FnOk P w K mg base CX0 2 f fd ["deeds"] (spZ w K fTable) := by
  refine Fun.okZ F scTable (fun xs μ Q h => ?_) (fun cdv A outer s H E hr => ?_)
  · obtain ⟨ds, rfl, _⟩ := h
    rfl
  · have nd := scTable.nd
    refine ⟨_, (dss_cons (ds_set (i := 1) nd rfl (Or.inr rfl) d_dnew)
  (dss_cons (ds_for PassesOwn.never rfl (di_seq (dv 0)) (dg_name (i := 2) nd rfl (Or.inl rfl))
  (dss_cons (ds_set (i := 3) nd rfl (Or.inl rfl) (d_ix (d_ix (dv 2) d_int (fun _ _ => rfl)) d_int (fun _ _ => rfl)))
  (dss_one (ds_if (DW.dt (dw_or (dt_cmp (oz_eq hr.units) (dv 3) d_str (nomark _)) (dw_or1 (dt_cmp (oz_eq hr.units) (dv 3) d_str (nomark _)))))
  (dss_cons (ds_set (i := 4) nd rfl (Or.inl rfl) (d_tup (da_cons (d_own0 c_mark_of (hr.mono (by decide)) (by rfl) (da_cons (dv 2) da_nil)) (da_cons (dv 3) da_nil))))
  (dss_one (ds_dput hr.units (dv 1) (d_ix (d_ix (dv 2) d_int (fun _ _ => rfl)) d_int (fun _ _ => rfl)) (d_callB (ca_maxD rfl hr.units) (by rfl) T.max (by decide +kernel) (da_cons (dv 4) (da_cons (d_dget hr.units (dv 1) (d_ix (d_ix (dv 2) d_int (fun _ _ => rfl)) d_int (fun _ _ => rfl)) (dv 4) ⟨by rfl, by rfl, by rfl, by rfl⟩) da_nil))) rfl)))
  dss_nil))))
  (dss_one (ds_ret (d_lock (d_dc hr.units (own := [("name", 5)]) rfl nd (di_keys (dv 1)) (blkOk_by (own := [("name", 5)]) (N := ["deeds", "last", "deed", "word", "turn", "name"]) (sc := defScope (topS 6)) (by decide +kernel)) (put_name (i := 5) (by decide)) (fun _ _ _ _ _ => (pg_name (i := 5) nd rfl (Or.inl rfl))) (fun _ _ _ _ _ => (dts_one (dt_cmp (oz_eq hr.units) (d_ix (d_dix hr.units (dv 1) (dv 5) (fun _ _ => rfl)) d_int (fun _ _ => rfl)) d_str (nomark _)))) (fun _ _ _ _ _ => (dv 5)) (fun _ _ _ _ _ => d_bl))))))), ?_⟩
    rintro xs μ Q ⟨ds, rfl, rfl, df, hl, q⟩
    have ez : sizeLine = 16777216 := by decide +kernel
    refine fun la => ?_
    refine ⟨fun i ρ μ => ∃ (y2 y3 y4 y5 : Option Val) (kvs : List (NestedKey × Val)), ρ = [some (.dat (.list (ds.map Deed.D))), some (.ptr la), y2, y3, y4, y5] ∧ μ = [(la, .dv kvs)] ∧ (∀ x, lookZ kvs x = (best (ds.take i) x).map Val.dat) ∧ kvs.length ≤ i ∧ (kvs.map (·.1)).Nodup ∧ ∀ x ∈ kvs.map (·.1), Vd.KeyOk x, ⟨_, _, _, _, [], rfl, rfl, fun x => rfl, Nat.le_refl _, .nil, fun _ h => by cases h⟩, fun _ _ _ _ _ => trivial, ?_, ?_⟩
    · rintro i y ρ μ hy ⟨y2, y3, y4, y5, kvs, rfl, rfl, hk, hn, hnd, hok⟩
      rw [List.map_map] at hy
      obtain ⟨d, hd, rfl⟩ := Option.map_eq_some_iff.mp (by rw [← List.getElem?_map]; exact hy)
      have hm := List.mem_of_getElem? hd
      have hlt := (List.getElem?_eq_some_iff.mp hd).1
      have et : ds.take (i + 1) = ds.take i ++ [d] := by rw [List.take_succ, hd]; rfl
      obtain ⟨dfd, tf⟩ := df d hm
      obtain ⟨w0, r0, ea, _⟩ := act_head dfd.act
      have af := dfd.act
      obtain ⟨dh, dk, dst, dsn, dact⟩ := d
      dsimp only at ea af
      subst ea
      refine ⟨_, rfl, .str w0, at_head, ?_⟩
      refine ite2 (fun g => ?_) (fun g => ?_)
      · have ew : w0 = "off" := of_decide_eq_true g
        subst ew
        obtain ⟨n, rfl⟩ := form_turn af (.inl rfl)
        have te : turnOf ⟨dh, dk, dst, dsn, .tuple [.str "off", n]⟩ = some (n, ("off" : Str)) := by
          unfold turnOf
          exact if_pos (Or.inl rfl)
        obtain ⟨x, ek, okx, _, _⟩ := nam_key (tf n _ te)
        refine ⟨⟨dh, dk, dst, dsn, .tuple [.str "off", n]⟩, rfl, rfl, (by decide : 2 ≤ sizeLine), ?_⟩
        refine ⟨⟨kvs, .own 0 rfl⟩, _, rfl, n, rfl, kvs, x, .own 0 rfl, ek, okx, ?_⟩
        rw [hk x]
        have fin : ∀ v : PyData, stepB x (best (ds.take i) x) ⟨dh, dk, dst, dsn, .tuple [.str "off", n]⟩ = some v → (∀ z, lookZ (putZ kvs x (.dat v)) z = (best (ds.take (i + 1)) z).map Val.dat) ∧ (putZ kvs x (.dat v)).length ≤ i + 1 ∧ ((putZ kvs x (.dat v)).map (·.1)).Nodup ∧ ∀ y ∈ (putZ kvs x (.dat v)).map (·.1), Vd.KeyOk y := fun v hv => by
          refine ⟨fun z => ?_, by have := putZ_len kvs x (.dat v); omega, (pz_nd hnd).1, fun y hy => ((pz_nd hnd).2 y hy).elim (hok y) fun e => by rw [e]; exact okx⟩
          rw [lookZ_put, et, best_snoc]
          by_cases c : x = z
          · subst c
            rw [if_pos rfl, hv]
            rfl
          · rw [if_neg c, hk z]
            unfold stepB
            rw [te]
            show _ = Option.map Val.dat (if keyD n = some z then _ else best (ds.take i) z)
            rw [if_neg (by rw [ek]; exact fun q => c (Option.some.inj q))]
        have sv : stepB x (best (ds.take i) x) ⟨dh, dk, dst, dsn, .tuple [.str "off", n]⟩ = some (match best (ds.take i) x with | some m => if PySem.W.dataLt (tn ⟨dh, dk, dst, dsn, .tuple [.str "off", n]⟩ "off") m = true then m else tn ⟨dh, dk, dst, dsn, .tuple [.str "off", n]⟩ "off" | none => tn ⟨dh, dk, dst, dsn, .tuple [.str "off", n]⟩ "off") := by
          unfold stepB
          rw [te]
          exact if_pos ek
        cases eb : best (ds.take i) x with
        | none =>
          rw [eb] at sv
          obtain ⟨al, q1, q2⟩ := tn_all (a := tn ⟨dh, dk, dst, dsn, .tuple [.str "off", n]⟩ "off") (b := tn ⟨dh, dk, dst, dsn, .tuple [.str "off", n]⟩ "off") ⟨_, _, _, rfl⟩ ⟨_, _, _, rfl⟩
          refine ⟨al, q1, q2, _, rfl, n, rfl, 0, kvs, x, rfl, ek, okx, by omega, _, .refl _, ?_⟩
          refine ⟨_, _, _, _, _, rfl, rfl, fin _ ?_⟩
          rw [eb]
          exact sv.trans (congrArg some (ite_self _).symm)
        | some m =>
          rw [eb] at sv
          obtain ⟨ms, mh, mw, rfl⟩ := best_form eb
          obtain ⟨al, q1, q2⟩ := tn_all (a := tn ⟨dh, dk, dst, dsn, .tuple [.str "off", n]⟩ "off") (b := .tuple [.tuple [.int ms, .str mh], .str mw]) ⟨_, _, _, rfl⟩ ⟨_, _, _, rfl⟩
          refine ⟨al, q1, q2, _, rfl, n, rfl, 0, kvs, x, rfl, ek, okx, by omega, _, .refl _, ?_⟩
          refine ⟨_, _, _, _, _, rfl, rfl, fin _ ?_⟩
          rw [eb]
          exact sv
      refine ite2 (fun g2 => ?_) (fun g2 => ?_)
      · have ew : w0 = "on" := of_decide_eq_true g2
        subst ew
        obtain ⟨n, rfl⟩ := form_turn af (.inr rfl)
        have te : turnOf ⟨dh, dk, dst, dsn, .tuple [.str "on", n]⟩ = some (n, ("on" : Str)) := by
          unfold turnOf
          exact if_pos (Or.inr rfl)
        obtain ⟨x, ek, okx, _, _⟩ := nam_key (tf n _ te)
        refine ⟨⟨dh, dk, dst, dsn, .tuple [.str "on", n]⟩, rfl, rfl, (by decide : 2 ≤ sizeLine), ?_⟩
        refine ⟨⟨kvs, .own 0 rfl⟩, _, rfl, n, rfl, kvs, x, .own 0 rfl, ek, okx, ?_⟩
        rw [hk x]
        have fin : ∀ v : PyData, stepB x (best (ds.take i) x) ⟨dh, dk, dst, dsn, .tuple [.str "on", n]⟩ = some v → (∀ z, lookZ (putZ kvs x (.dat v)) z = (best (ds.take (i + 1)) z).map Val.dat) ∧ (putZ kvs x (.dat v)).length ≤ i + 1 ∧ ((putZ kvs x (.dat v)).map (·.1)).Nodup ∧ ∀ y ∈ (putZ kvs x (.dat v)).map (·.1), Vd.KeyOk y := fun v hv => by
          refine ⟨fun z => ?_, by have := putZ_len kvs x (.dat v); omega, (pz_nd hnd).1, fun y hy => ((pz_nd hnd).2 y hy).elim (hok y) fun e => by rw [e]; exact okx⟩
          rw [lookZ_put, et, best_snoc]
          by_cases c : x = z
          · subst c
            rw [if_pos rfl, hv]
            rfl
          · rw [if_neg c, hk z]
            unfold stepB
            rw [te]
            show _ = Option.map Val.dat (if keyD n = some z then _ else best (ds.take i) z)
            rw [if_neg (by rw [ek]; exact fun q => c (Option.some.inj q))]
        have sv : stepB x (best (ds.take i) x) ⟨dh, dk, dst, dsn, .tuple [.str "on", n]⟩ = some (match best (ds.take i) x with | some m => if PySem.W.dataLt (tn ⟨dh, dk, dst, dsn, .tuple [.str "on", n]⟩ "on") m = true then m else tn ⟨dh, dk, dst, dsn, .tuple [.str "on", n]⟩ "on" | none => tn ⟨dh, dk, dst, dsn, .tuple [.str "on", n]⟩ "on") := by
          unfold stepB
          rw [te]
          exact if_pos ek
        cases eb : best (ds.take i) x with
        | none =>
          rw [eb] at sv
          obtain ⟨al, q1, q2⟩ := tn_all (a := tn ⟨dh, dk, dst, dsn, .tuple [.str "on", n]⟩ "on") (b := tn ⟨dh, dk, dst, dsn, .tuple [.str "on", n]⟩ "on") ⟨_, _, _, rfl⟩ ⟨_, _, _, rfl⟩
          refine ⟨al, q1, q2, _, rfl, n, rfl, 0, kvs, x, rfl, ek, okx, by omega, _, .refl _, ?_⟩
          refine ⟨_, _, _, _, _, rfl, rfl, fin _ ?_⟩
          rw [eb]
          exact sv.trans (congrArg some (ite_self _).symm)
        | some m =>
          rw [eb] at sv
          obtain ⟨ms, mh, mw, rfl⟩ := best_form eb
          obtain ⟨al, q1, q2⟩ := tn_all (a := tn ⟨dh, dk, dst, dsn, .tuple [.str "on", n]⟩ "on") (b := .tuple [.tuple [.int ms, .str mh], .str mw]) ⟨_, _, _, rfl⟩ ⟨_, _, _, rfl⟩
          refine ⟨al, q1, q2, _, rfl, n, rfl, 0, kvs, x, rfl, ek, okx, by omega, _, .refl _, ?_⟩
          refine ⟨_, _, _, _, _, rfl, rfl, fin _ ?_⟩
          rw [eb]
          exact sv
      · refine ⟨_, .refl _, _, _, _, _, kvs, rfl, rfl, fun x => ?_, by omega, hnd, hok⟩
        rw [hk x, et, best_snoc]
        have n1 : w0 ≠ "off" := by simpa using g
        have n2 : w0 ≠ "on" := by simpa using g2
        have tnone : turnOf ⟨dh, dk, dst, dsn, .tuple (.str w0 :: r0)⟩ = none := by
          unfold turnOf
          split
          · rename_i e
            cases e
            rw [if_neg (fun z => z.elim n1 n2)]
          · rfl
        unfold stepB
        rw [tnone]
    · rintro ρ μ ⟨y2, y3, y4, y5, kvs, rfl, rfl, hk, hn, hnd, hok⟩
      rw [List.length_map, List.length_map, List.take_length] at hk
      rw [List.length_map, List.length_map] at hn
      refine ⟨la, 0, kvs, rfl, fun od ks => ?_⟩
      refine ⟨0, od, ks, kvs, rfl, fun n acc μ => μ = [(la, .dvl od ks kvs)] ∧ acc = (((kvs.map (·.1)).take n).filter fun x => isOffB (best ds x)).map fun x => (x, Val.dat (.bool true)), ⟨rfl, rfl⟩, fun _ _ _ _ h => ⟨0, by rw [h.1]; rfl⟩, ?_, ?_⟩
      · rintro n y acc μ hy ⟨rfl, rfl⟩
        unfold keysZ at hy
        obtain ⟨kv, hkv, rfl⟩ := Option.map_eq_some_iff.mp (by rw [← List.getElem?_map]; exact hy)
        have hx : (kvs.map (·.1))[n]? = some kv.1 := by rw [List.getElem?_map, hkv]; rfl
        have hin := List.mem_of_getElem? hx
        have et : (kvs.map (·.1)).take (n + 1) = (kvs.map (·.1)).take n ++ [kv.1] := by rw [List.take_succ, hx]; rfl
        have hs := lz_mem.mpr hin
        rw [hk kv.1] at hs
        cases eb : best ds kv.1 with
        | none =>
          rw [eb] at hs
          cases hs
        | some m =>
          obtain ⟨ms, mh, mw, rfl⟩ := best_form eb
          have nin : kv.1 ∉ ((((kvs.map (·.1)).take n).filter fun x => isOffB (best ds x)).map fun x => (x, Val.dat (.bool true))).map (·.1) := fun z => by
            rw [List.map_map] at z
            obtain ⟨x, hx2, e⟩ := List.mem_map.mp z
            have e : x = kv.1 := e
            have h3 := (List.mem_filter.mp hx2).1
            rw [e] at h3
            have nd2 := hnd
            rw [← List.take_append_drop (n + 1) (kvs.map (·.1)), et, List.nodup_append, List.nodup_append] at nd2
            exact nd2.1.2.2 _ h3 _ (List.mem_singleton_self _) rfl
          refine ⟨_, rfl, kvs, kv.1, .dat (.tuple [.tuple [.int ms, .str mh], .str mw]), .lck 0 rfl, keyD_datK _, hok _ hin, by rw [hk kv.1, eb]; rfl, .str mw, rfl, str_cmp ?_⟩
          refine ite2 (fun g => ?_) (fun g => ?_)
          · refine ⟨kv.1, keyD_datK _, hok _ hin, ?_, _, .refl _, rfl, ?_⟩
            · rw [List.length_map]
              refine Nat.lt_of_le_of_lt (List.length_filter_le _ _) ?_
              rw [List.length_take, List.length_map, ez]
              omega
            · rw [et, List.filter_append, List.filter_cons, if_pos (show isOffB (best ds kv.1) = true by rw [eb]; exact g), List.map_append, pz_keys nin]
              rfl
          · refine ⟨_, .refl _, rfl, ?_⟩
            rw [et, List.filter_append, List.filter_cons, if_neg (show ¬ isOffB (best ds kv.1) = true by rw [eb]; exact g), List.map_append]
            simp
      · rintro acc μ ⟨rfl, rfl⟩ p
        have lk : (keysZ kvs).length = (kvs.map (·.1)).length := by unfold keysZ; rw [List.length_map, List.length_map]
        rw [lk, List.take_length]
        refine ⟨0, rfl, [(p, .dv _)], .cons _ (.refl _), q p _ (fun x => ?_) (fun x hx => ?_) (fun kv hkv => by obtain ⟨x, _, rfl⟩ := List.mem_map.mp hkv; rfl) ?_ ?_⟩
        · rw [List.map_map]
          have : ((fun x : NestedKey × Val => x.1) ∘ fun x : NestedKey => (x, Val.dat (.bool true))) = id := rfl
          rw [this, List.map_id, List.mem_filter]
          refine ⟨fun h => h.2, fun h => ⟨lz_mem.mp ?_, h⟩⟩
          obtain ⟨m, e⟩ := isOffB_iff.mp h
          rw [hk x, e]
          rfl
        · rw [List.map_map] at hx
          obtain ⟨x', hx', e⟩ := List.mem_map.mp hx
          have e : x' = x := e
          subst e
          exact hok _ (List.mem_filter.mp hx').1
        · rw [List.map_map]
          have : ((fun x : NestedKey × Val => x.1) ∘ fun x : NestedKey => (x, Val.dat (.bool true))) = id := rfl
          rw [this, List.map_id]
          exact hnd.filter _
        · rw [List.length_map]
          refine Nat.le_trans (List.length_filter_le _ _) ?_
          rw [List.length_map]
          omega
end
end Kr
namespace Kr
open PySem PySem.Spec PyProof.Rows L2 Lf Zl
def ml (d e : Deed) : Bool := PySem.W.dataLt (mrk d) (mrk e)
theorem ml_is {d e : Deed} : ml d e = if d.st = e.st then (if d.h = e.h then false else decide (d.h.cps.toList < e.h.cps.toList)) else decide (d.st < e.st) := by
  unfold ml mrk
  rw [PySem.W.dataLt_pair rfl rfl, PyData.eqv.eq_5, PyData.eqv.eq_6, PySem.W.dataLt_str, PySem.W.dataLt_int]
  simp
abbrev Alk (d e : Deed) : Prop := d.st = e.st ∧ d.h = e.h
theorem ml_asym {d e : Deed} (h : ml d e = true) : ml e d = false := (Sa.swo_data (α := Deed) mrk).1 _ _ h
theorem ml_trans {d e f : Deed} (h1 : ml d e = true) (h2 : ml e f = true) : ml d f = true := lex_trans (O := itemOrd) _ _ _ h1 h2
theorem cps_ne {a b : Str} (h : a ≠ b) : a.cps.toList ≠ b.cps.toList := fun e => h (by
  cases a
  cases b
  simp only at e
  congr 1
  exact Array.toList_inj.mp e)
theorem ml_tri {d e : Deed} (h : ¬ Alk d e) : ml d e = true ∨ ml e d = true := by
  rw [ml_is, ml_is]
  by_cases c : d.st = e.st
  · have n : d.h ≠ e.h := fun q => h ⟨c, q⟩
    rw [if_pos c, if_pos c.symm, if_neg n, if_neg (Ne.symm n), decide_eq_true_eq, decide_eq_true_eq]
    have n2 := cps_ne n
    by_cases c2 : d.h.cps.toList < e.h.cps.toList
    · exact .inl c2
    · by_cases c3 : e.h.cps.toList < d.h.cps.toList
      · exact .inr c3
      · exact absurd (List.le_antisymm (Std.not_lt.mp c3) (Std.not_lt.mp c2)) n2
  · rw [if_neg c, if_neg (Ne.symm c), decide_eq_true_eq, decide_eq_true_eq]
    omega
theorem mrk_eqv {d e : Deed} : (mrk d).eqv (mrk e) = decide (Alk d e) := by
  unfold mrk
  simp [PyData.eqv, PyData.eqvAll]
  rfl
theorem tn_lt {d e : Deed} {w w' : Str} (h : ¬ Alk d e) : PySem.W.dataLt (tn d w) (tn e w') = ml d e := by
  unfold tn
  rw [PySem.W.dataLt_pair rfl rfl, mrk_eqv, decide_eq_false h]
  rfl
theorem tn_irr {t : PyData} : PySem.W.dataLt t t = false := by
  cases e : PySem.W.dataLt t t with
  | false => rfl
  | true => exact absurd ((Sa.swo_data (α := PyData) id).1 _ _ e) (by rw [show PySem.W.dataLt (id t) (id t) = PySem.W.dataLt t t from rfl, e]; simp)
def Unl (l : List Deed) : Prop := ∀ d ∈ l, ∀ e ∈ l, Alk d e → d = e
def Turns (d : Deed) (x : NestedKey) (w : Str) : Prop := ∃ n, turnOf d = some (n, w) ∧ keyD n = some x
theorem Turns.one {d : Deed} {x : NestedKey} {w w' : Str} (h : Turns d x w) (h' : Turns d x w') : w = w' := by
  obtain ⟨n, e, _⟩ := h
  obtain ⟨n', e', _⟩ := h'
  rw [e] at e'
  cases e'
  rfl
structure IsB (l : List Deed) (x : NestedKey) (d : Deed) (w : Str) : Prop where
  mem : d ∈ l
  turns : Turns d x w
  top : ∀ e ∈ l, ∀ w', Turns e x w' → e = d ∨ ml e d = true
theorem IsB.one {l : List Deed} {x : NestedKey} {d d' : Deed} {w w' : Str} (h : IsB l x d w) (h' : IsB l x d' w') : d = d' ∧ w = w' := by
  have e : d = d' := by
    rcases h.top d' h'.mem _ h'.turns with e | e
    · exact e.symm
    · rcases h'.top d h.mem _ h.turns with e2 | e2
      · exact e2
      · rw [ml_asym e] at e2
        cases e2
  subst e
  exact ⟨rfl, h.turns.one h'.turns⟩
def BestIs (l : List Deed) (x : NestedKey) (o : Option PyData) : Prop := (o = none ∧ ∀ e ∈ l, ∀ w, ¬ Turns e x w) ∨ ∃ d w, IsB l x d w ∧ o = some (tn d w)
theorem BestIs.snoc {l : List Deed} {x : NestedKey} {o : Option PyData} {d : Deed} (u : Unl (l ++ [d])) (h : BestIs l x o) : BestIs (l ++ [d]) x (stepB x o d) := by
  have ind : d ∈ l ++ [d] := List.mem_append_right _ (List.mem_singleton_self _)
  have inl : ∀ {e}, e ∈ l → e ∈ l ++ [d] := fun h => List.mem_append_left _ h
  have cut : ∀ {e}, e ∈ l ++ [d] → e ∈ l ∨ e = d := fun h => (List.mem_append.mp h).imp id fun h => List.mem_singleton.mp h
  by_cases t : ∃ w, Turns d x w
  · obtain ⟨w, n, et, ek⟩ := t
    have td : Turns d x w := ⟨n, et, ek⟩
    have es : ∀ o' : Option PyData, stepB x o' d = some (match o' with | some m => if PySem.W.dataLt (tn d w) m = true then m else tn d w | none => tn d w) := fun o' => by
      unfold stepB
      rw [et]
      exact if_pos ek
    rw [es]
    rcases h with ⟨rfl, no⟩ | ⟨d0, w0, B, rfl⟩
    · refine .inr ⟨d, w, ⟨ind, td, fun e he w' t' => ?_⟩, rfl⟩
      rcases cut he with he | rfl
      · exact absurd t' (no e he w')
      · exact .inl rfl
    · show BestIs _ _ (some (if PySem.W.dataLt (tn d w) (tn d0 w0) = true then tn d0 w0 else tn d w))
      by_cases a : Alk d d0
      · have e0 := u d ind d0 (inl B.mem) a
        subst e0
        obtain rfl := B.turns.one td
        rw [if_neg (by rw [tn_irr]; simp)]
        refine .inr ⟨d, _, ⟨ind, td, fun e he w' t' => ?_⟩, rfl⟩
        rcases cut he with he | rfl
        · exact B.top e he w' t'
        · exact .inl rfl
      · rw [tn_lt a]
        cases c : ml d d0 with
        | true =>
          rw [if_pos rfl]
          refine .inr ⟨d0, w0, ⟨inl B.mem, B.turns, fun e he w' t' => ?_⟩, rfl⟩
          rcases cut he with he | rfl
          · exact B.top e he w' t'
          · exact .inr c
        | false =>
          rw [if_neg (by simp)]
          have c2 : ml d0 d = true := (ml_tri a).resolve_left (by rw [c]; simp)
          refine .inr ⟨d, w, ⟨ind, td, fun e he w' t' => ?_⟩, rfl⟩
          rcases cut he with he | rfl
          · rcases B.top e he w' t' with rfl | q
            · exact .inr c2
            · exact .inr (ml_trans q c2)
          · exact .inl rfl
  · have es : stepB x o d = o := by
      unfold stepB
      split
      · rename_i n w e
        rw [if_neg fun q => t ⟨w, n, e, q⟩]
      · rfl
    rw [es]
    rcases h with ⟨rfl, no⟩ | ⟨d0, w0, B, rfl⟩
    · refine .inl ⟨rfl, fun e he w' t' => ?_⟩
      rcases cut he with he | rfl
      · exact no e he w' t'
      · exact t ⟨w', t'⟩
    · refine .inr ⟨d0, w0, ⟨inl B.mem, B.turns, fun e he w' t' => ?_⟩, rfl⟩
      rcases cut he with he | rfl
      · exact B.top e he w' t'
      · exact absurd ⟨w', t'⟩ t
theorem best_is {x : NestedKey} : ∀ (n : Nat) (l : List Deed), l.length = n → Unl l → BestIs l x (best l x) := by
  intro n
  induction n with
  | zero =>
    intro l hl _
    obtain rfl := List.eq_nil_of_length_eq_zero hl
    exact .inl ⟨rfl, fun _ h => by cases h⟩
  | succ n ih =>
    intro l hl u
    rcases List.eq_nil_or_concat l with rfl | ⟨l, d, rfl⟩
    · cases hl
    rw [List.concat_eq_append] at hl u ⊢
    rw [List.length_append, List.length_singleton] at hl
    rw [best_snoc]
    exact (ih l (by omega) fun d hd e he => u d (List.mem_append_left _ hd) e (List.mem_append_left _ he)).snoc u
/-- a name is off -/
def OffN (l : List Deed) (n : PyData) : Prop := ∃ d ∈ l, turnOf d = some (n, ("off" : Str)) ∧ ∀ e ∈ l, ∀ w', turnOf e = some (n, w') → e = d ∨ ml e d = true
structure Tk (ds : List Deed) : Prop where
  df : ∀ d ∈ ds, DF d
  tr : ∀ d ∈ ds, ∀ n w, turnOf d = some (n, w) → ∃ e ∈ ds, e.name = n
  un : Unl ds
  nd : (ds.map Deed.name).Nodup
  len : ds.length ≤ 64
theorem Tk.nam {ds : List Deed} (T : Tk ds) : ∀ d ∈ ds, DF d ∧ ∀ n w, turnOf d = some (n, w) → ∃ a ∈ hands4, ∃ k : Nat, k < 64 ∧ n = nam a k := fun d hd => ⟨T.df d hd, fun n w q => by
  obtain ⟨e, he, rfl⟩ := T.tr d hd n w q
  exact ⟨e.h, (T.df e he).hh, e.k, (T.df e he).hk, rfl⟩⟩
theorem Tk.perm {ds es : List Deed} (T : Tk ds) (p : es.Perm ds) : Tk es := by
  refine ⟨fun d hd => T.df d (p.mem_iff.mp hd), fun d hd n w e => ?_, fun d hd e he => T.un d (p.mem_iff.mp hd) e (p.mem_iff.mp he), (p.map _).nodup_iff.mpr T.nd, by rw [p.length_eq]; exact T.len⟩
  obtain ⟨e, he, q⟩ := T.tr d (p.mem_iff.mp hd) n w e
  exact ⟨e, p.mem_iff.mpr he, q⟩
theorem OffN.perm {ds es : List Deed} (p : es.Perm ds) {n : PyData} (h : OffN ds n) : OffN es n := by
  obtain ⟨d, hd, e, t⟩ := h
  exact ⟨d, p.mem_iff.mpr hd, e, fun e he => t e (p.mem_iff.mp he)⟩
theorem Tk.offs {ds : List Deed} (T : Tk ds) {x : NestedKey} : (∃ m : PyData, Kr.best ds x = some (.tuple [m, .str "off"])) ↔ ∃ n, keyD n = some x ∧ OffN ds n := by
  have key : ∀ {d : Deed}, d ∈ ds → ∀ {n : PyData} {w : Str}, turnOf d = some (n, w) → ∃ y, keyD n = some y ∧ datK y = n := fun {d} hd {n w} e => by
    obtain ⟨y, h1, _, h2, _⟩ := nam_key ((T.nam _ hd).2 n w e)
    exact ⟨y, h1, h2⟩
  have same : ∀ {d e : Deed}, d ∈ ds → e ∈ ds → ∀ {n n' : PyData} {w w' : Str}, turnOf d = some (n, w) → turnOf e = some (n', w') → keyD n = some x → keyD n' = some x → n = n' := fun {d e} hd he {n n' w w'} t t' k k' => by
    obtain ⟨y, h1, h2⟩ := key hd t
    obtain ⟨y', h1', h2'⟩ := key he t'
    rw [k] at h1
    rw [k'] at h1'
    cases h1
    cases h1'
    exact h2.symm.trans h2'
  constructor
  · rintro ⟨m, e⟩
    rcases best_is (x := x) ds.length ds rfl T.un with ⟨q, _⟩ | ⟨d, w, B, q⟩
    · rw [q] at e
      cases e
    · rw [q] at e
      obtain ⟨n, t, k⟩ := B.turns
      have ew : w = "off" := by
        have := Option.some.inj e
        unfold tn at this
        cases this
        rfl
      subst ew
      refine ⟨n, k, d, B.mem, t, fun e he w' t' => B.top e he w' ⟨n, t', k⟩⟩
  · rintro ⟨n, k, d, hd, t, top⟩
    have B : IsB ds x d "off" := ⟨hd, ⟨n, t, k⟩, fun e he w' ⟨n', t', k'⟩ => top e he w' (by rw [same hd he t t' k k']; exact t')⟩
    rcases best_is (x := x) ds.length ds rfl T.un with ⟨_, no⟩ | ⟨d', w', B', q⟩
    · exact absurd B.turns (no d hd _)
    · obtain ⟨rfl, rfl⟩ := B.one B'
      exact ⟨mrk d, q⟩
end Kr
namespace Kr
open PySem PySem.Spec PyProof.Rows L2 Lf Zl
theorem name_eq {d e : Deed} (h : d.name = e.name) : d.h = e.h ∧ d.k = e.k := by
  have h : PyData.tuple [.str d.h, .int d.k] = .tuple [.str e.h, .int e.k] := h
  simp at h
  exact ⟨h.1, Int.ofNat.inj h.2⟩
theorem Dr.rise {ds : List Deed} (D : Dr hs ds) {as bs : List Deed} {d e : Deed} (q : ds = as ++ d :: bs) (h : e ∈ as) (eh : e.h = d.h) : e.st < d.st := by
  obtain ⟨ks, h1, h2, _⟩ := D.each as d bs q
  exact (h1 e (h2 e h eh)).2
theorem Dr.unl {ds : List Deed} (D : Dr hs ds) : Unl ds := by
  intro d hd e he ⟨a1, a2⟩
  obtain ⟨as, bs, q⟩ := List.append_of_mem he
  rw [q] at hd
  rcases List.mem_append.mp hd with h | h
  · have := D.rise q h a2
    omega
  · rcases List.mem_cons.mp h with rfl | h
    · rfl
    · obtain ⟨b1, b2, rfl⟩ := List.append_of_mem h
      have := D.rise (as := as ++ e :: b1) (d := d) (bs := b2) (by rw [q]; simp) (e := e) (by simp) a2.symm
      omega
theorem Dr.names {ds : List Deed} (D : Dr hs ds) : (ds.map Deed.name).Nodup := by
  rw [List.Nodup, List.pairwise_map, List.pairwise_iff_getElem]
  intro i j hi hj hij e
  obtain ⟨e1, e2⟩ := name_eq e
  have qi : ds = ds.take i ++ ds[i] :: ds.drop (i + 1) := by simp
  have qj : ds = ds.take j ++ ds[j] :: ds.drop (j + 1) := by simp
  have n1 := D.num _ _ _ qi
  have n2 := D.num _ _ _ qj
  have ej : ds.take j = ds.take i ++ ds[i] :: (ds.drop (i + 1)).take (j - (i + 1)) := by
    conv => lhs; rw [qi]
    rw [List.take_append, List.length_take, Nat.min_eq_left (by omega), List.take_of_length_le (by rw [List.length_take]; omega), show j - i = (j - (i + 1)) + 1 by omega, List.take_succ_cons]
  rw [ej, List.filter_append, List.length_append, List.filter_cons, if_pos (decide_eq_true e1), List.length_cons] at n2
  rw [e1] at n1
  omega
theorem Dr.tk {ds : List Deed} (D : Dr hs ds) (l : ds.length ≤ 64) : Tk ds := by
  refine ⟨D.df, fun d hd n w e => ?_, D.unl, D.names, l⟩
  obtain ⟨as, bs, q⟩ := List.append_of_mem hd
  obtain ⟨ks, h1, _, a⟩ := D.each as d bs q
  have fin : Other ks n → ∃ e ∈ ds, e.name = n := fun ⟨e, he, en, _⟩ => ⟨e, by rw [q]; exact List.mem_append_left _ (h1 e he).1, en⟩
  unfold turnOf at e
  split at e
  · rename_i w0 n0 ea
    split at e
    · rename_i hw
      cases e
      rw [ea] at a
      generalize eq : (PyData.tuple [.str w, n]) = z at a
      cases a with
      | turn w' n' hw' ho =>
        cases eq
        exact fin ho
      | drop c hc =>
        exfalso
        cases eq
        rcases hw with h | h <;> exact absurd h (by decide)
      | strike l _ _ =>
        exfalso
        cases eq
        rcases hw with h | h <;> exact absurd h (by decide)
      | _ => cases eq
    · cases e
  · cases e
end Kr
namespace Kr
open PySem PySem.Spec PyProof.Rows L2 Lf Zl
/-! ### places gone through -/
abbrev Hm := NestedKey → Option (NestedKey × NestedKey)
structure Pl where
  d : Deed
  c : NestedKey
  p : NestedKey
def Pl.st (p : Pl) : NestedKey := nmK p.d.h p.d.k
def Pl.D (p : Pl) : PyData := .tuple [mrk p.d, datK p.st, datK p.c, datK p.p]
def kN (n : PyData) : NestedKey := (keyD n).getD .none
def toPl (d : Deed) : Option Pl := match d.act with
  | .tuple [.str w, h, _] => if w = "cell" then some ⟨d, nmK d.h d.k, kN h⟩ else none
  | .tuple [.str w, c, h, _] => if w = "place" then some ⟨d, kN c, kN h⟩ else none
  | _ => none
inductive Way (H : Hm) : NestedKey → List NestedKey → Prop
  | stop : Way H .none []
  | up {x s q : NestedKey} {l : List NestedKey} : x ≠ .none → H x = some (s, q) → Way H q l → Way H x (x :: l)
theorem Way.one {H : Hm} {x : NestedKey} {l : List NestedKey} (h : Way H x l) : ∀ {l'}, Way H x l' → l = l' := by
  induction h with
  | stop =>
    intro l' h'
    cases h' with
    | stop => rfl
    | up n _ _ => exact absurd rfl n
  | up n e _ ih =>
    intro l' h'
    cases h' with
    | stop => exact absurd rfl n
    | up _ e' h' =>
      rw [e] at e'
      cases e'
      rw [ih h']
theorem Way.inv {H : Hm} {x : NestedKey} {l : List NestedKey} (h : Way H x l) : (x = .none ∧ l = []) ∨ ∃ s q r, x ≠ .none ∧ H x = some (s, q) ∧ Way H q r ∧ l = x :: r := by
  cases h with
  | stop => exact .inl ⟨rfl, rfl⟩
  | up n e w => exact .inr ⟨_, _, _, n, e, w, rfl⟩
theorem Way.mem {H : Hm} {x : NestedKey} {l : List NestedKey} (h : Way H x l) : ∀ y ∈ l, y ≠ .none ∧ ∃ z, H y = some z := by
  induction h with
  | stop => exact fun _ h => by cases h
  | up n e _ ih =>
    intro y hy
    rcases List.mem_cons.mp hy with rfl | hy
    · exact ⟨n, _, e⟩
    · exact ih y hy
theorem Way.suf {H : Hm} {x : NestedKey} {l : List NestedKey} (h : Way H x l) : ∀ y ∈ l, ∃ m, Way H y m ∧ m.length ≤ l.length := by
  induction h with
  | stop => exact fun _ h => by cases h
  | up n e w ih =>
    intro y hy
    rcases List.mem_cons.mp hy with rfl | hy
    · exact ⟨_, .up n e w, Nat.le_refl _⟩
    · obtain ⟨m, h1, h2⟩ := ih y hy
      exact ⟨m, h1, by rw [List.length_cons]; omega⟩
theorem Way.nodup {H : Hm} {x : NestedKey} {l : List NestedKey} (h : Way H x l) : l.Nodup := by
  induction h with
  | stop => exact .nil
  | up n e w ih =>
    rw [List.nodup_cons]
    refine ⟨fun z => ?_, ih⟩
    obtain ⟨m, h1, h2⟩ := w.suf _ z
    have := congrArg List.length (h1.one (.up n e w))
    rw [List.length_cons] at this
    omega
theorem Way.keep {H : Hm} {x c : NestedKey} {z : NestedKey × NestedKey} {l : List NestedKey} (h : Way H x l) (n : c ∉ l) : Way (fun y => if y = c then some z else H y) x l := by
  induction h with
  | stop => exact .stop
  | @up x s q l n0 e w ih =>
    rw [List.mem_cons, not_or] at n
    refine .up (s := s) n0 ?_ (ih n.2)
    show (if x = c then _ else H x) = _
    rw [if_neg (Ne.symm n.1)]
    exact e
theorem Way.move {H : Hm} {x c s p : NestedKey} {l m : List NestedKey} (h : Way H x m) (nn : c ≠ .none) (w : Way H p l) (n : c ∉ l) : ∃ m', Way (fun y => if y = c then some (s, p) else H y) x m' := by
  induction h with
  | stop => exact ⟨_, .stop⟩
  | @up x s' q l' n0 e w' ih =>
    by_cases ex : x = c
    · subst ex
      exact ⟨_, .up nn (if_pos rfl) (w.keep n)⟩
    · obtain ⟨m', hm⟩ := ih
      exact ⟨_, .up n0 ((if_neg ex).trans e) hm⟩
noncomputable def way (H : Hm) (x : NestedKey) : List NestedKey := Classical.epsilon (Way H x)
theorem way_is {H : Hm} {x : NestedKey} {l : List NestedKey} (h : Way H x l) : way H x = l := (Classical.epsilon_spec (p := Way H x) ⟨l, h⟩).one h
def upto (c : NestedKey) (l : List NestedKey) : List NestedKey := l.takeWhile (fun x => decide (x ≠ c)) ++ [c]
theorem upto_at {c : NestedKey} : ∀ {t r : List NestedKey}, c ∉ t → upto c (t ++ c :: r) = t ++ [c]
  | [], r, _ => by simp [upto]
  | x :: t, r, h => by
    rw [List.mem_cons, not_or] at h
    have ih := upto_at (t := t) (r := r) h.2
    unfold upto at ih ⊢
    rw [List.cons_append, List.takeWhile_cons, if_pos (decide_eq_true (Ne.symm h.1)), List.cons_append, ih]
    rfl
structure Sm where
  H : Hm
  rows : List PyData
def rowD (st : NestedKey) (w : Str) (l : List NestedKey) : PyData := .tuple [datK st, .str w, .tuple (l.map datK)]
def rowO (st : NestedKey) : PyData := .tuple [datK st, .str "off", .none]
noncomputable def stepP (off : NestedKey → Bool) (s : Sm) (p : Pl) : Sm :=
  if off p.st = true ∧ p.st ≠ p.c then ⟨s.H, s.rows ++ [rowO p.st]⟩
  else if p.c ∈ way s.H p.p then ⟨s.H, s.rows ++ [rowD p.st "passed" (upto p.c (way s.H p.p))]⟩
  else ⟨fun x => if x = p.c then some (p.st, p.p) else s.H x, s.rows ++ [rowD p.st "done" (way s.H p.p)]⟩
noncomputable def runP (off : NestedKey → Bool) (ps : List Pl) : Sm := ps.foldl (stepP off) ⟨fun _ => none, []⟩
theorem runP_snoc {off : NestedKey → Bool} {ps : List Pl} {p : Pl} : runP off (ps ++ [p]) = stepP off (runP off ps) p := by
  unfold runP
  rw [List.foldl_append]
  rfl
theorem stepP_rows {off : NestedKey → Bool} {s : Sm} {p : Pl} : (stepP off s p).rows.length = s.rows.length + 1 := by
  unfold stepP
  split
  · simp
  · split <;> simp
def Cel (ps : List Pl) (x : NestedKey) : Prop := ∃ q ∈ ps, q.st = q.c ∧ q.c = x
/-- what holds of a place when it comes -/
structure Cond (as : List Pl) (p : Pl) : Prop where
  par : p.p = .none ∨ Cel as p.p
  cel : p.st = p.c ∨ Cel as p.c
  new : ∀ q ∈ as, q.st ≠ p.st
  hh : p.d.h ∈ hands4
  hk : p.d.k < 64
def PlsOk (ps : List Pl) : Prop := ∀ i p, ps[i]? = some p → Cond (ps.take i) p
theorem Pl.nn (p : Pl) : p.st ≠ .none := fun z => by cases z
theorem Cond.ne {as : List Pl} {p : Pl} (c : Cond as p) (h : Cel as p.c) : p.st ≠ p.c := by
  obtain ⟨q, hq, e1, e2⟩ := h
  rw [← e2, ← e1]
  exact Ne.symm (c.new q hq)
structure HOk (H : Hm) (as : List Pl) : Prop where
  dom : ∀ x z, H x = some z → Cel as x
  way : ∀ x, Cel as x → ∃ l, Way H x l
theorem Cel.nn {as : List Pl} {x : NestedKey} (h : Cel as x) : x ≠ .none := by
  obtain ⟨q, _, e1, e2⟩ := h
  rw [← e2, ← e1]
  exact q.nn
theorem Cel.more {as bs : List Pl} {x : NestedKey} (h : Cel as x) : Cel (as ++ bs) x := by
  obtain ⟨q, hq, e⟩ := h
  exact ⟨q, List.mem_append_left _ hq, e⟩
theorem HOk.ways {H : Hm} {as : List Pl} (h : HOk H as) {x : NestedKey} (hx : x = .none ∨ Cel as x) : ∃ l, Way H x l := by
  rcases hx with rfl | hx
  · exact ⟨_, .stop⟩
  · exact h.way x hx
theorem nodup_le' : ∀ {a b : List NestedKey}, a.Nodup → (∀ x ∈ a, x ∈ b) → a.length ≤ b.length
  | [], _, _, _ => Nat.zero_le _
  | x :: a, b, nd, h => by
    rw [List.nodup_cons] at nd
    have hx := h x (List.mem_cons_self ..)
    have e := List.length_erase_of_mem hx
    have := nodup_le' (a := a) (b := b.erase x) nd.2 fun y hy => (List.mem_erase_of_ne (fun z => nd.1 (by rw [← z]; exact hy))).mpr (h y (List.mem_cons_of_mem _ hy))
    have := List.length_pos_of_mem hx
    rw [List.length_cons]
    omega
theorem HOk.len {H : Hm} {as : List Pl} (h : HOk H as) {x : NestedKey} {l : List NestedKey} (w : Way H x l) : l.length ≤ as.length ∧ ∀ y ∈ l, Cel as y := by
  have m : ∀ y ∈ l, Cel as y := fun y hy => by
    obtain ⟨_, z, e⟩ := w.mem y hy
    exact h.dom y z e
  refine ⟨?_, m⟩
  have := nodup_le' (b := as.map Pl.c) w.nodup fun y hy => by
    obtain ⟨q, hq, _, e⟩ := m y hy
    rw [← e]
    exact List.mem_map_of_mem hq
  rwa [List.length_map] at this
theorem HOk.snoc {H : Hm} {as : List Pl} {p : Pl} {off : NestedKey → Bool} {rows : List PyData} (h : HOk H as) (c : Cond as p) : HOk (stepP off ⟨H, rows⟩ p).H (as ++ [p]) := by
  have cut : ∀ {x}, Cel (as ++ [p]) x → Cel as x ∨ (p.st = p.c ∧ x = p.c) := fun {x} ⟨q, hq, e1, e2⟩ => by
    rcases List.mem_append.mp hq with hq | hq
    · exact .inl ⟨q, hq, e1, e2⟩
    · rw [List.mem_singleton.mp hq] at e1 e2
      exact .inr ⟨e1, e2.symm⟩
  obtain ⟨l, w⟩ := h.ways c.par
  have m := h.len w
  have cn : p.c ≠ .none := by
    rcases c.cel with e | e
    · rw [← e]
      exact p.nn
    · exact e.nn
  have old : p.st ≠ p.c → HOk H (as ++ [p]) := fun n => ⟨fun x z e => (h.dom x z e).more, fun x hx => (cut hx).elim (h.way x) fun z => absurd z.1 n⟩
  unfold stepP
  split
  · rename_i g
    exact old g.2
  · rename_i g
    show HOk (Sm.H (if p.c ∈ Kr.way H p.p then _ else _)) _
    rw [way_is w]
    split
    · rename_i g2
      refine old fun e => ?_
      obtain ⟨q, hq, e1, e2⟩ := m.2 _ g2
      exact c.new q hq (by rw [e1, e2, e])
    · rename_i g2
      refine ⟨fun x z e => ?_, fun x hx => ?_⟩
      · have e : (if x = p.c then some (p.st, p.p) else H x) = some z := e
        by_cases ex : x = p.c
        · subst ex
          rcases c.cel with e2 | e2
          · exact ⟨p, by simp, e2, rfl⟩
          · exact e2.more
        · rw [if_neg ex] at e
          exact (h.dom x z e).more
      · rcases cut hx with hx | ⟨e1, rfl⟩
        · obtain ⟨m', hm⟩ := h.way x hx
          exact hm.move cn w g2
        · exact ⟨_, .up cn (if_pos rfl) (w.keep g2)⟩
theorem run_ok {off : NestedKey → Bool} {ps : List Pl} (h : PlsOk ps) : ∀ i, i ≤ ps.length → HOk (runP off (ps.take i)).H (ps.take i)
  | 0, _ => ⟨fun x z e => (by cases e), fun x ⟨q, hq, _⟩ => (by cases hq)⟩
  | i + 1, hi => by
    have hg : ps[i]? = some ps[i] := List.getElem?_eq_getElem hi
    have et : ps.take (i + 1) = ps.take i ++ [ps[i]] := by rw [List.take_succ, hg]; rfl
    rw [et, runP_snoc]
    exact (run_ok h i (by omega)).snoc (h i _ hg)
theorem run_rows {off : NestedKey → Bool} {ps : List Pl} : ∀ i, i ≤ ps.length → (runP off (ps.take i)).rows.length = i
  | 0, _ => rfl
  | i + 1, hi => by
    have hg : ps[i]? = some ps[i] := List.getElem?_eq_getElem hi
    have et : ps.take (i + 1) = ps.take i ++ [ps[i]] := by rw [List.take_succ, hg]; rfl
    rw [et, runP_snoc, stepP_rows, run_rows i (by omega)]
end Kr
namespace Kr
open PySem PySem.Spec PyProof.Rows L2 Lf Zl
structure Ts (K : PySem.W.Frag) (mg : Str → Option Value) (CP : Addr) : Prop extends Bs mg where
  c_Placing : Cls K CP
  n_Placing__places : NoAttr K CP "_places"
  n_Placing__off : NoAttr K CP "_off"
  n_Placing__told : NoAttr K CP "_told"
  n_Placing__before : NoAttr K CP "_before"
  n_Placing_stood : NoAttr K CP "stood"
  g_Placing : mg "Placing" = some (.ref CP)
structure Ad where
  r : Addr
  dx : Addr
  a : Addr
  b : Addr
  c : Addr
  d : Addr
  e : Addr
def pIns (CP : Addr) (z : Ad) : Addr × Node := (z.r, .ins CP z.dx [("_places", .ptr z.a), ("_off", .ptr z.b), ("_told", .ptr z.c), ("_before", .ptr z.d), ("stood", .ptr z.e)])
def plS (CP : Addr) (z : Ad) (P : List Val) (O : List (NestedKey × Val)) (T B : List Val) (S : List (NestedKey × Val)) : Store := [pIns CP z, (z.a, .lst P), (z.b, .dv O), (z.c, .lst T), (z.d, .lst B), (z.e, .dv S)]
abbrev kv (x : NestedKey) : Val := .dat (datK x)
def Nk (x : NestedKey) : Prop := x = .none ∨ ∃ h ∈ hands4, ∃ k : Nat, k < 64 ∧ x = nmK h k
theorem Nk.namo {x : NestedKey} (h : Nk x) : NamO (datK x) := by
  rcases h with rfl | ⟨a, ha, k, hk, rfl⟩
  · exact .none
  · exact .nam ha hk
theorem Nk.key {x : NestedKey} (h : Nk x) : Vd.KeyOk x := by
  rcases h with rfl | ⟨a, ha, k, hk, rfl⟩
  · exact ⟨by decide, fun _ _ => trivial⟩
  · exact ⟨(by decide : 1 ≤ 8), fun _ _ => trivial⟩
theorem Nk.eqv {x y : NestedKey} (hx : Nk x) (hy : Nk y) : (datK x).eqv (datK y) = decide (x = y) := by
  cases e : (datK x).eqv (datK y) with
  | true =>
    have := namo_eqv hx.namo hy.namo e
    have h2 := keyD_datK x
    rw [this, keyD_datK y] at h2
    exact (decide_eq_true (Option.some.inj h2).symm).symm
  | false =>
    refine (decide_eq_false fun z => ?_).symm
    subst z
    rw [SeqAt.eqv_refl _ hx.namo.lay.1] at e
    cases e
def StoodH (S : List (NestedKey × Val)) (H : Hm) : Prop := ∀ x, lookZ S x = (H x).map fun z => .dat (.tuple [datK z.1, datK z.2])
section
variable {P : Program} {w : World} {K : PySem.W.Frag} {mg : Str → Option Value} {base : Heap} {CP : Addr}
abbrev sPl : Stmt := topS 4
def fPInit (CP : Addr) : DSp := fun xs μ Q => ∃ r dx, xs = [.ptr r] ∧ μ = [(r, .ins CP dx [])] ∧ ∀ a b c d e, Q (.dat .none) (plS CP ⟨r, dx, a, b, c, d, e⟩ [] [] [] [] [])
abbrev sPInit : Stmt := inClass sPl 0
theorem scPInit : FnScope ["self"] ["self"] (defScope sPInit) := ⟨rfl, rfl, rfl, by decide +kernel, rfl, by decide +kernel, by decide +kernel⟩
theorem ok_pinit {f : Addr} {fd : FuncData} (F : Fun K "__init__" "Placing.__init__" sPInit f fd) (T : Ts K mg CP) : FnOk P w K mg base CX0 1 f fd ["self"] (spZ w K (fPInit CP)) := by
  refine Fun.okZ F scPInit (fun xs μ Q h => ?_) (fun cdv A outer s H E hr => ?_)
  · obtain ⟨r, dx, rfl, _⟩ := h
    rfl
  · have nd := scPInit.nd
    refine ⟨_, (dss_cons (ds_asg (d_lst da_nil) (dg_fld T.c_Placing T.n_Placing__places (dv 0)))
  (dss_cons (ds_asg d_dnew (dg_fld T.c_Placing T.n_Placing__off (dv 0)))
  (dss_cons (ds_asg (d_lst da_nil) (dg_fld T.c_Placing T.n_Placing__told (dv 0)))
  (dss_cons (ds_asg (d_lst da_nil) (dg_fld T.c_Placing T.n_Placing__before (dv 0)))
  (dss_one (ds_asg d_dnew (dg_fld T.c_Placing T.n_Placing_stood (dv 0)))))))), ?_⟩
    rintro xs μ Q ⟨r, dx, rfl, rfl, q⟩
    refine ⟨Nat.zero_le _, fun a => ⟨0, dx, _, rfl, (show 0 < 1000 by decide), fun b => ⟨0, dx, _, rfl, (show 1 < 1000 by decide), ⟨Nat.zero_le _, fun c => ⟨0, dx, _, rfl, (show 2 < 1000 by decide), ⟨Nat.zero_le _, fun d => ⟨0, dx, _, rfl, (show 3 < 1000 by decide), fun e => ⟨0, dx, _, rfl, (show 4 < 1000 by decide), ?_⟩⟩⟩⟩⟩⟩⟩⟩
    exact ⟨_, .refl _, q a b c d e⟩
def fPTold (CP : Addr) : DSp := fun xs μ Q => ∃ z P O T B S, xs = [.ptr (Ad.r z)] ∧ μ = plS CP z P O T B S ∧ T.length ≤ 1000 ∧ ∀ p, Q (.ptr p) [(p, .lst T)]
abbrev sPTold : Stmt := inClass sPl 3
theorem scPTold : FnScope ["self"] ["self"] (defScope sPTold) := ⟨rfl, rfl, rfl, by decide +kernel, rfl, by decide +kernel, by decide +kernel⟩
theorem ok_ptold {f : Addr} {fd : FuncData} (F : Fun K "told" "Placing.told" sPTold f fd) (T : Ts K mg CP) : FnOk P w K mg base CX0 1 f fd ["self"] (spZ w K (fPTold CP)) := by
  refine Fun.okZ F scPTold (fun xs μ Q h => ?_) (fun cdv A outer s H E hr => ?_)
  · obtain ⟨z, P, O, T, B, S, rfl, _⟩ := h
    rfl
  · have nd := scPTold.nd
    refine ⟨_, (dss_one (ds_ret (d_callTy ca_list (by rfl) T.list (by decide +kernel) (da_cons (d_fld T.c_Placing T.n_Placing__told (dv 0)) da_nil)))), ?_⟩
    rintro xs μ Q ⟨z, P, O, T, B, S, rfl, rfl, hl, q⟩
    refine ⟨0, z.dx, _, _, rfl, rfl, 3, _, rfl, fun p => ?_⟩
    exact ⟨[_], .cons _ (.cons _ (.cons _ (.cons _ (.cons _ (.cons _ (.refl _)))))), q p⟩
def fPBehind (CP : Addr) : DSp := fun xs μ Q => ∃ (z : Ad) (ps : List Pl) (O : List (NestedKey × Val)) (T B : List Val) (S : List (NestedKey × Val)) (d : Deed), xs = [.ptr (Ad.r z), .dat (mrk d)] ∧ μ = plS CP z (ps.map fun p => .dat p.D) O T B S ∧ ps.length ≤ 1000 ∧ (∀ p ∈ ps, ml p.d d = true) ∧ Q (.dat (.int (ps.length : Nat))) μ
abbrev sPBehind : Stmt := inClass sPl 4
theorem scPBehind : FnScope ["self", "mark", "at"] ["self", "mark"] (defScope sPBehind) := ⟨rfl, rfl, rfl, by decide +kernel, rfl, by decide +kernel, by decide +kernel⟩
theorem ok_pbehind {f : Addr} {fd : FuncData} (F : Fun K "_number_behind" "Placing._number_behind" sPBehind f fd) (T : Ts K mg CP) : FnOk P w K mg base CX0 1 f fd ["self", "mark"] (spZ w K (fPBehind CP)) := by
  refine Fun.okZ F scPBehind (fun xs μ Q h => ?_) (fun cdv A outer s H E hr => ?_)
  · obtain ⟨z, ps, O, T, B, S, d, rfl, _⟩ := h
    rfl
  · have nd := scPBehind.nd
    refine ⟨_, (dss_cons (ds_set (i := 2) nd rfl (Or.inl rfl) (d_callB ca_len (by rfl) T.len PySem.boot_len (da_cons (d_fld T.c_Placing T.n_Placing__places (dv 0)) da_nil)))
  (dss_cons (ds_whileN PassesOwn.never (DW.dt (dw_and (dt_cmp (oz_gt hr.units) (dv 2) d_int (nomark _)) (dw_and1 (dt_cmp (oz_gt hr.units) (d_ix (d_ix (d_fld T.c_Placing T.n_Placing__places (dv 0)) (d_bin oz_sub (dv 2) d_int) (fun _ _ => rfl)) d_int (fun _ _ => rfl)) (dv 1) (nomark _)))))
  (dss_one ds_never))
  (dss_one (ds_ret (dv 2))))), ?_⟩
    rintro xs μ Q ⟨z, ps, O, T, B, S, d, rfl, rfl, hl, up, q⟩
    have ez : sizeLine = 16777216 := by decide +kernel
    refine ⟨0, z.dx, _, _, rfl, rfl, 1, _, rfl, ?_⟩
    rw [List.length_map]
    refine ⟨fun n ρ μ => ρ = [some (.ptr z.r), some (.dat (mrk d)), some (.dat (.int (ps.length : Nat)))] ∧ μ = plS CP z (ps.map fun p => .dat p.D) O T B S, ⟨0, rfl, rfl⟩, ?_⟩
    rintro n ρ μ ⟨rfl, rfl⟩
    refine ite2 (fun c0 => ?_) (fun _ => (ite2 (fun z => (Bool.false_ne_true z).elim) fun _ => ⟨_, .refl _, q⟩))
    have pos : 0 < ps.length := by
      have : (0 : Int) < (ps.length : Nat) := of_decide_eq_true c0
      omega
    obtain ⟨x, hx, ex⟩ := Lf.atI_mem (xs := ps.map fun p => Val.dat p.D) (i := (ps.length : Nat) - 1) (by omega) (by rw [List.length_map]; omega)
    obtain ⟨p, hp, rfl⟩ := List.mem_map.mp hx
    have g : PySem.W.dataLt (mrk d) (mrk p.d) = false := ml_asym (up p hp)
    refine ⟨0, z.dx, _, _, rfl, rfl, 1, _, _, rfl, ex, _, rfl, rfl, fun z => (by cases z), (by show 1 ≤ 50; decide), ?_⟩
    refine ite2 (fun z => ?_) fun _ => ⟨_, .refl _, q⟩
    have z : PySem.W.dataLt (mrk d) (mrk p.d) = true := z
    rw [g] at z
    cases z
def fPBack (CP : Addr) : DSp := fun xs μ Q => ∃ z P O T B S, xs = [.ptr (Ad.r z), .dat (.int ((List.length T : Nat) : Int))] ∧ μ = plS CP z P O T B S ∧ T.length ≤ 1000 ∧ Q (.dat .none) μ
abbrev sPBack : Stmt := inClass sPl 5
theorem scPBack : FnScope ["self", "at", "cell", "before"] ["self", "at"] (defScope sPBack) := ⟨rfl, rfl, rfl, by decide +kernel, rfl, by decide +kernel, by decide +kernel⟩
theorem ok_pback {f : Addr} {fd : FuncData} (F : Fun K "_go_back" "Placing._go_back" sPBack f fd) (T : Ts K mg CP) : FnOk P w K mg base CX0 1 f fd ["self", "at"] (spZ w K (fPBack CP)) := by
  refine Fun.okZ F scPBack (fun xs μ Q h => ?_) (fun cdv A outer s H E hr => ?_)
  · obtain ⟨z, P, O, T, B, S, rfl, _⟩ := h
    rfl
  · have nd := scPBack.nd
    refine ⟨_, (dss_one (ds_whileN PassesOwn.never (dt_cmp (oz_gt hr.units) (d_callB ca_len (by rfl) T.len PySem.boot_len (da_cons (d_fld T.c_Placing T.n_Placing__told (dv 0)) da_nil)) (dv 1) (nomark _))
  (dss_cons (ds_set (i := 2) nd rfl (Or.inl rfl) (d_ix (d_ix (d_fld T.c_Placing T.n_Placing__places (dv 0)) (d_bin oz_sub (d_callB ca_len (by rfl) T.len PySem.boot_len (da_cons (d_fld T.c_Placing T.n_Placing__told (dv 0)) da_nil)) d_int) (fun _ _ => rfl)) d_int (fun _ _ => rfl)))
  (dss_cons (ds_set (i := 3) nd rfl (Or.inl rfl) (d_lm0 PySem.F.slot_list_pop PySem.F.type_list_pop me_pop (d_fld T.c_Placing T.n_Placing__before (dv 0))))
  (dss_cons (ds_expr (d_lm0 PySem.F.slot_list_pop PySem.F.type_list_pop me_pop (d_fld T.c_Placing T.n_Placing__told (dv 0))))
  (dss_one (ds_if (dt_cmp oz_isN (dv 3) d_non (nomark _))
  (dss_one ds_never)
  (dss_one (ds_dput hr.units (d_fld T.c_Placing T.n_Placing_stood (dv 0)) (dv 2) (dv 3) rfl))))))))), ?_⟩
    rintro xs μ Q ⟨z, P, O, T, B, S, rfl, rfl, hl, q⟩
    have ez : sizeLine = 16777216 := by decide +kernel
    refine ⟨fun n ρ μ => ρ = [some (.ptr z.r), some (.dat (.int (T.length : Nat))), none, none] ∧ μ = plS CP z P O T B S, ⟨0, rfl, rfl⟩, ?_⟩
    rintro n ρ μ ⟨rfl, rfl⟩
    refine ⟨0, z.dx, _, _, rfl, rfl, 3, _, rfl, ?_⟩
    refine ite2 (fun c0 => ?_) (fun _ => ⟨_, .refl _, q⟩)
    have : ((T.length : Nat) : Int) < (T.length : Nat) := of_decide_eq_true c0
    omega
def fPUp (CP : Addr) : DSp := fun xs μ Q => ∃ (z : Ad) (P : List Val) (O : List (NestedKey × Val)) (T B : List Val) (S : List (NestedKey × Val)) (H : Hm) (c p : NestedKey) (l : List NestedKey), xs = [.ptr (Ad.r z), kv c, kv p] ∧ μ = plS CP z P O T B S ∧ StoodH S H ∧ Way H p l ∧ l.length ≤ 1000 ∧ (∀ x ∈ l, Nk x) ∧ Nk c ∧ c ≠ .none ∧
  (c ∈ l → Q (.dat (.tuple [.str "passed", .tuple ((upto c l).map datK)])) μ) ∧ (c ∉ l → Q (.dat (.tuple [.str "done", .tuple (l.map datK)])) μ)
abbrev sPUp : Stmt := inClass sPl 7
theorem scPUp : FnScope ["self", "cell", "parent", "way"] ["self", "cell", "parent"] (defScope sPUp) := ⟨rfl, rfl, rfl, by decide +kernel, rfl, by decide +kernel, by decide +kernel⟩
theorem ok_pup {f : Addr} {fd : FuncData} (F : Fun K "_way_up" "Placing._way_up" sPUp f fd) (T : Ts K mg CP) : FnOk P w K mg base CX0 1 f fd ["self", "cell", "parent"] (spZ w K (fPUp CP)) := by
  refine Fun.okZ F scPUp (fun xs μ Q h => ?_) (fun cdv A outer s H E hr => ?_)
  · obtain ⟨z, P, O, T, B, S, H, c, p, l, rfl, _⟩ := h
    rfl
  · have nd := scPUp.nd
    refine ⟨_, (dss_cons (ds_set (i := 3) nd rfl (Or.inl rfl) (d_lst da_nil))
  (dss_cons (ds_whileN PassesOwn.never (dt_cmp oz_notN (dv 2) d_non (nomark _))
  (dss_cons (ds_expr (d_lm PySem.F.slot_list_append PySem.F.type_list_append me_append (dv 3) (da_cons (dv 2) da_nil)))
  (dss_cons (ds_if (dt_cmp (oz_eq hr.units) (dv 2) (dv 1) (nomark _))
  (dss_one (ds_ret (d_tup (da_cons d_str (da_cons (d_callTy ca_tuple (by rfl) T.tuple (by decide +kernel) (da_cons (dv 3) da_nil)) da_nil)))))
  dss_nil)
  (dss_one (ds_set (i := 2) nd rfl (Or.inl rfl) (d_ix (d_dix hr.units (d_fld T.c_Placing T.n_Placing_stood (dv 0)) (dv 2) (fun _ _ => rfl)) d_int (fun _ _ => rfl)))))))
  (dss_one (ds_ret (d_tup (da_cons d_str (da_cons (d_callTy ca_tuple (by rfl) T.tuple (by decide +kernel) (da_cons (dv 3) da_nil)) da_nil))))))), ?_⟩
    rintro xs μ Q ⟨z, P, O, T, B, S, H, c, p, l, rfl, rfl, hS, hw, hl, nk, nc, cn, q1, q2⟩
    have ez : sizeLine = 16777216 := by decide +kernel
    refine ⟨Nat.zero_le _, fun g => ?_⟩
    refine ⟨fun n ρ μ => ∃ t x r, n = List.length r ∧ l = t ++ r ∧ c ∉ t ∧ Way H x r ∧ ρ = [some (.ptr z.r), some (kv c), some (kv x), some (.ptr g)] ∧ μ = plS CP z P O T B S ++ [(g, .lst (t.map kv))], ⟨_, [], p, l, rfl, rfl, by simp, hw, rfl, rfl⟩, ?_⟩
    rintro n ρ μ ⟨t, x, r, rfl, el, ct, wx, rfl, rfl⟩
    refine is_kv (g := not) ?_
    refine ite2 (fun c0 => ?_) (fun c0 => ?_)
    · have c' : x ≠ .none := by simpa using c0
      rcases wx.inv with ⟨h, _⟩ | ⟨s1, q0, r, _, e1, w1, rfl⟩
      · exact absurd h c'
      have nx : Nk x := nk x (by rw [el]; simp)
      have sx := nx.namo.shaped
      have sc := nc.namo.shaped
      obtain ⟨xa, hxa, xk, hxk, rfl⟩ := nx.resolve_left c'
      obtain ⟨ca, hca, ck, hck, rfl⟩ := nc.resolve_left cn
      have le := congrArg List.length el
      rw [List.length_append, List.length_cons] at le
      refine ⟨⟨6, _, rfl⟩, 6, _, rfl, by rw [List.length_map, ez]; omega, sx, sc, ?_⟩
      rw [nx.eqv nc]
      refine ite2 (fun g2 => ?_) (fun g2 => ?_)
      · have exc := of_decide_eq_true g2
        rw [← exc] at ct q1
        have up := upto_at (r := r) ct
        rw [← el] at up
        refine ⟨6, _, rfl, (t ++ [nmK xa xk]).map datK, ?_, (by show 2 ≤ sizeLine; decide), _, List.take_sublist 6 _, ?_⟩
        · rw [show t.map kv ++ [kv (nmK xa xk)] = ((t ++ [nmK xa xk]).map datK).map Val.dat by simp [kv]]
          exact datOf_map _
        rw [← up]
        exact q1 (by rw [el]; simp)
      · have exc : nmK xa xk ≠ nmK ca ck := of_decide_eq_false (by simpa using g2)
        refine ⟨0, z.dx, _, _, rfl, rfl, S, nmK xa xk, .dat (.tuple [datK s1, datK q0]), .own 5 rfl, keyD_datK _, nx.key, (by rw [hS, e1]; rfl), _, rfl, _, .refl _, _, Nat.lt_succ_self _, t ++ [nmK xa xk], q0, r, rfl, by rw [el]; simp, ?_, w1, rfl, ?_⟩
        · rw [List.mem_append, List.mem_singleton, not_or]
          exact ⟨ct, Ne.symm exc⟩
        · rw [List.map_append]
          rfl
    · have c' : x = .none := by simpa using c0
      rcases wx.inv with ⟨_, rfl⟩ | ⟨s1, q0, r, h, _⟩
      · rw [List.append_nil] at el
        subst el
        refine ⟨6, _, rfl, l.map datK, ?_, (by show 2 ≤ sizeLine; decide), _, List.take_sublist 6 _, q2 ct⟩
        rw [show l.map kv = (l.map datK).map Val.dat by simp [kv]]
        exact datOf_map _
      · exact absurd c' h
end
end Kr
namespace Kr
open PySem PySem.Spec PyProof.Rows L2 Lf Zl
theorem cut_last {x : Val} {l : List Val} {n : Nat} (h : l.length = n) : cutG (l ++ [x]) (some (n : Int)) none = [x] := by
  subst h
  have e1 : HT.sIx (l ++ [x]).length 0 (some ((l.length : Nat) : Int)) = l.length := by
    show (if ((l.length : Nat) : Int) < 0 then (((l.length : Nat) : Int) + ((l ++ [x]).length : Nat)).toNat else min ((l.length : Nat) : Int).toNat (l ++ [x]).length) = _
    rw [if_neg (by omega), List.length_append, List.length_singleton]
    omega
  have e2 : HT.sIx (l ++ [x]).length (l ++ [x]).length none = (l ++ [x]).length := rfl
  unfold cutG
  rw [e1, e2, List.drop_left, List.length_append, List.length_singleton]
  simp
theorem Cond.nkp {as : List Pl} {p : Pl} (c : Cond as p) (hh : ∀ q ∈ as, q.d.h ∈ hands4 ∧ q.d.k < 64) : Nk p.st ∧ Nk p.c ∧ Nk p.p ∧ p.c ≠ .none := by
  have cn : ∀ {x}, Cel as x → Nk x ∧ x ≠ .none := fun {x} h => by
    have n := h.nn
    obtain ⟨q, hq, e1, e2⟩ := h
    refine ⟨.inr ⟨q.d.h, (hh q hq).1, q.d.k, (hh q hq).2, ?_⟩, n⟩
    rw [← e2, ← e1]
    rfl
  have s : Nk p.st := .inr ⟨_, c.hh, _, c.hk, rfl⟩
  refine ⟨s, ?_, ?_, ?_⟩
  · rcases c.cel with e | e
    · rw [← e]
      exact s
    · exact (cn e).1
  · rcases c.par with e | e
    · exact .inl e
    · exact (cn e).1
  · rcases c.cel with e | e
    · rw [← e]
      exact p.nn
    · exact (cn e).2
section
variable {P : Program} {w : World} {K : PySem.W.Frag} {mg : Str → Option Value} {base : Heap} {CP : Addr}
def plP (as : List Pl) : List Val := as.map fun p => .dat p.D
def fPOn (CP : Addr) : DSp := fun xs μ Q => ∃ (z : Ad) (off : NestedKey → Bool) (as : List Pl) (p : Pl) (m : Sm) (O : List (NestedKey × Val)) (B : List Val) (S : List (NestedKey × Val)), xs = [.ptr z.r] ∧ μ = plS CP z (plP (as ++ [p])) O (m.rows.map .dat) B S ∧
  as.length ≤ 64 ∧ m.rows.length = as.length ∧ B.length = as.length ∧ S.length ≤ as.length ∧ (∀ q ∈ as, q.d.h ∈ hands4 ∧ q.d.k < 64) ∧ Cond as p ∧ HOk m.H as ∧ StoodH S m.H ∧ lookZ O p.st = some (.dat (.bool (off p.st))) ∧
  ∀ B' S', B'.length = as.length + 1 → S'.length ≤ as.length + 1 → StoodH S' (stepP off m p).H → Q (.dat .none) (plS CP z (plP (as ++ [p])) O ((stepP off m p).rows.map .dat) B' S')
abbrev sPOn : Stmt := inClass sPl 6
theorem scPOn : FnScope ["self", "_", "stand", "cell", "parent", "word", "way"] ["self"] (defScope sPOn) := ⟨rfl, rfl, rfl, by decide +kernel, rfl, by decide +kernel, by decide +kernel⟩
theorem ok_pon {f : Addr} {fd : FuncData} (F : Fun K "_go_on" "Placing._go_on" sPOn f fd) (T : Ts K mg CP) (m_Placing__way_up : MCalZ P w K mg base 1 CP "_way_up" ["self", "cell", "parent"] (fPUp CP)) : FnOk P w K mg base CX0 2 f fd ["self"] (spZ w K (fPOn CP)) := by
  refine Fun.okZ F scPOn (fun xs μ Q h => ?_) (fun cdv A outer s H E hr => ?_)
  · obtain ⟨z, off, as, p, m, O, B, S, rfl, _⟩ := h
    rfl
  · have nd := scPOn.nd
    refine ⟨_, (dss_one (ds_for PassesOwn.never rfl (di_seq (d_slice (d_fld T.c_Placing T.n_Placing__places (dv 0)) (do_some (d_callB ca_len (by rfl) T.len PySem.boot_len (da_cons (d_fld T.c_Placing T.n_Placing__told (dv 0)) da_nil))) do_none)) (dg_tup rfl (dgs_cons (dg_name (i := 1) nd rfl (Or.inl rfl)) (dgs_cons (dg_name (i := 2) nd rfl (Or.inl rfl)) (dgs_cons (dg_name (i := 3) nd rfl (Or.inl rfl)) (dgs_cons (dg_name (i := 4) nd rfl (Or.inl rfl)) dgs_nil)))))
  (dss_cons (ds_expr (d_lm PySem.F.slot_list_append PySem.F.type_list_append me_append (d_fld T.c_Placing T.n_Placing__before (dv 0)) (da_cons (d_dget1 hr.units (d_fld T.c_Placing T.n_Placing_stood (dv 0)) (dv 3) ⟨by rfl, by rfl, by rfl, by rfl⟩) da_nil)))
  (dss_cut (ds_if (DW.dt (dw_and (dt_truth (d_dix hr.units (d_fld T.c_Placing T.n_Placing__off (dv 0)) (dv 2) (fun _ _ => rfl))) (dw_and1 (dt_cmp (oz_ne hr.units) (dv 2) (dv 3) (nomark _)))))
  (dss_cons (ds_expr (d_lm PySem.F.slot_list_append PySem.F.type_list_append me_append (d_fld T.c_Placing T.n_Placing__told (dv 0)) (da_cons (d_tup (da_cons (dv 2) (da_cons d_str (da_cons d_non da_nil)))) da_nil)))
  (dss_one ds_continue))
  dss_nil)
  (dss_cons (ds_asg (d_meth (pl := _) m_Placing__way_up T.c_Placing (hr.mono (by decide)) (dv 0) (da_cons (dv 3) (da_cons (dv 4) da_nil))) (dg_tup rfl (dgs_cons (dg_name (i := 5) nd rfl (Or.inl rfl)) (dgs_cons (dg_name (i := 6) nd rfl (Or.inl rfl)) dgs_nil))))
  (dss_cons (ds_if (dt_cmp (oz_eq hr.units) (dv 5) d_str (nomark _))
  (dss_one (ds_dput hr.units (d_fld T.c_Placing T.n_Placing_stood (dv 0)) (dv 3) (d_tup (da_cons (dv 2) (da_cons (dv 4) da_nil))) rfl))
  dss_nil)
  (dss_one (ds_expr (d_lm PySem.F.slot_list_append PySem.F.type_list_append me_append (d_fld T.c_Placing T.n_Placing__told (dv 0)) (da_cons (d_tup (da_cons (dv 2) (da_cons (dv 5) (da_cons (dv 6) da_nil)))) da_nil)))))))))), ?_⟩
    rintro xs μ Q ⟨z, off, as, p, m, O, B, S, rfl, rfl, hl, hrw, hB, hSl, hh, co, ho, hS, hO, q⟩
    have ez : sizeLine = 16777216 := by decide +kernel
    obtain ⟨n1, n2, n3, n4⟩ := co.nkp hh
    obtain ⟨l, wl⟩ := ho.ways co.par
    obtain ⟨ll, lc⟩ := ho.len wl
    have nl : ∀ x ∈ l, Nk x := fun x hx => by
      obtain ⟨q, hq, e1, e2⟩ := lc x hx
      refine .inr ⟨q.d.h, (hh q hq).1, q.d.k, (hh q hq).2, ?_⟩
      rw [← e2, ← e1]
      rfl
    refine ⟨0, z.dx, _, _, rfl, rfl, 0, z.dx, _, _, rfl, rfl, 3, _, rfl, ?_⟩
    rw [List.length_map, hrw]
    refine ⟨1, _, rfl, fun g => ?_⟩
    have ec : cutG (plP (as ++ [p])) (some ((as.length : Nat) : Int)) none = [.dat p.D] := by
      unfold plP
      rw [List.map_append]
      exact cut_last (List.length_map _)
    rw [ec]
    refine ⟨6, _, rfl, fun i ρ μ => ∃ (y1 y2 y3 y4 y5 y6 : Option Val) (T' B' : List Val) (S' : List (NestedKey × Val)), ρ = [some (.ptr z.r), y1, y2, y3, y4, y5, y6] ∧ μ = plS CP z (plP (as ++ [p])) O T' B' S' ++ [(g, .lst [.dat p.D])] ∧ (i = 0 → T' = m.rows.map .dat ∧ B' = B ∧ S' = S) ∧
      (i = 1 → T' = (stepP off m p).rows.map .dat ∧ B'.length = as.length + 1 ∧ S'.length ≤ as.length + 1 ∧ StoodH S' (stepP off m p).H), ⟨_, _, _, _, _, _, _, _, _, rfl, rfl, fun _ => ⟨rfl, rfl, rfl⟩, fun h => by cases h⟩, fun i ρ μ _ h => ?_, ?_, ?_⟩
    · obtain ⟨_, _, _, _, _, _, _, _, _, _, e, _⟩ := h
      rw [e]
      exact ⟨6, rfl⟩
    · rintro i y ρ μ hy ⟨y1, y2, y3, y4, y5, y6, T', B', S', rfl, rfl, h0, _⟩
      have hi : i = 0 := by
        have := (List.getElem?_eq_some_iff.mp hy).1
        simpa using this
      subst hi
      cases hy
      obtain ⟨rfl, rfl, rfl⟩ := h0 rfl
      refine ⟨rfl, 0, z.dx, _, _, rfl, rfl, ⟨4, _, rfl⟩, 0, z.dx, _, _, rfl, rfl, ⟨S', .own 5 rfl⟩, S', p.c, .own 5 rfl, keyD_datK _, n2.key, ?_⟩
      refine ⟨4, _, rfl, by omega, ?_⟩
      refine ⟨fun ρ μ => ρ = [some (.ptr z.r), some (.dat (mrk p.d)), some (kv p.st), some (kv p.c), some (kv p.p), y5, y6] ∧ μ = plS CP z (plP (as ++ [p])) O (m.rows.map .dat) (B' ++ [(lookZ S' p.c).getD (.dat .none)]) S' ++ [(g, .lst [.dat p.D])] ∧ ¬ (off p.st = true ∧ p.st ≠ p.c), ?_, ?_⟩
      · refine ⟨0, z.dx, _, _, rfl, rfl, O, p.st, _, .own 2 rfl, keyD_datK _, n1.key, hO, ?_⟩
        refine ite2 (fun g1 => ?_) (fun g1 => ite2 (fun z => (Bool.false_ne_true z).elim) fun _ => ⟨rfl, rfl, fun z => absurd z.1 g1⟩)
        have s1 := n1.namo.shaped
        have s2 := n2.namo.shaped
        have ee := n1.eqv n2
        obtain ⟨ca, hca, ck, hck, ec0⟩ := n2.resolve_left n4
        have ec : datK p.c = .tuple [.str ca, .int ck] := by rw [ec0]; rfl
        rw [ec] at s2 ee ⊢
        refine ⟨s1, s2, ?_⟩
        rw [ee]
        refine ite2 (fun g2 => ?_) (fun g2 => ⟨by rw [← ec]; rfl, rfl, fun z => g2 (by simpa using z.2)⟩)
        have ne : p.st ≠ p.c := by simpa using g2
        refine ⟨0, z.dx, _, _, rfl, rfl, ⟨3, _, rfl⟩, (by show 3 ≤ sizeLine; decide), 3, _, rfl, by rw [List.length_map, hrw, ez]; omega, ?_⟩
        have es : stepP off m p = ⟨m.H, m.rows ++ [rowO p.st]⟩ := if_pos ⟨g1, ne⟩
        refine ⟨_, .refl _, _, _, _, _, _, _, _, _, _, rfl, rfl, fun h => (by cases h), fun _ => ⟨?_, ?_, ?_, ?_⟩⟩
        · rw [es, List.map_append]
          rfl
        · rw [List.length_append, hB]
          rfl
        · omega
        · rw [es]
          exact hS
      · rintro ρ μ ⟨rfl, rfl, no⟩
        have es : stepP off m p = if p.c ∈ l then ⟨m.H, m.rows ++ [rowD p.st "passed" (upto p.c l)]⟩ else ⟨fun x => if x = p.c then some (p.st, p.p) else m.H x, m.rows ++ [rowD p.st "done" l]⟩ := by
          unfold stepP
          rw [if_neg no, way_is wl]
        refine ⟨⟨0, z.dx, _, rfl, rfl⟩, [], plS CP z (plP (as ++ [p])) O (m.rows.map .dat) (B' ++ [(lookZ S' p.c).getD (.dat .none)]) S', [_], rfl, z, _, O, _, _, S', m.H, p.c, p.p, l, rfl, rfl, hS, wl, by omega, nl, n2, n4, fun g2 => ⟨plS CP z (plP (as ++ [p])) O (m.rows.map .dat) (B' ++ [(lookZ S' p.c).getD (.dat .none)]) S', [], (List.append_nil _).symm, ?_⟩, fun g2 => ⟨plS CP z (plP (as ++ [p])) O (m.rows.map .dat) (B' ++ [(lookZ S' p.c).getD (.dat .none)]) S', [], (List.append_nil _).symm, ?_⟩⟩
        · rw [if_pos g2] at es
          refine ⟨rfl, 0, z.dx, _, _, rfl, rfl, ⟨3, _, rfl⟩, (by show 3 ≤ sizeLine; decide), 3, _, rfl, by rw [List.length_map, hrw, ez]; omega, ?_⟩
          refine ⟨_, .refl _, _, _, _, _, _, _, _, _, _, rfl, rfl, fun h => (by cases h), fun _ => ⟨?_, ?_, ?_, ?_⟩⟩
          · rw [es, List.map_append]
            rfl
          · rw [List.length_append, hB]
            rfl
          · omega
          · rw [es]
            exact hS
        · rw [if_neg g2] at es
          refine ⟨rfl, (by show 2 ≤ sizeLine; decide), 0, z.dx, _, _, rfl, rfl, 5, S', p.c, rfl, keyD_datK _, n2.key, by omega, ?_⟩
          refine ⟨0, z.dx, _, _, rfl, rfl, ⟨3, _, rfl⟩, (by show 3 ≤ sizeLine; decide), 3, _, rfl, by rw [List.length_map, hrw, ez]; omega, ?_⟩
          refine ⟨_, .refl _, _, _, _, _, _, _, _, _, _, rfl, rfl, fun h => (by cases h), fun _ => ⟨?_, ?_, ?_, ?_⟩⟩
          · rw [es, List.map_append]
            rfl
          · rw [List.length_append, hB]
            rfl
          · exact Nat.le_trans (putZ_len S' p.c _) (by omega)
          · rw [es]
            intro x
            rw [lookZ_put]
            show _ = Option.map _ (if x = p.c then some (p.st, p.p) else m.H x)
            by_cases ex : p.c = x
            · rw [if_pos ex, if_pos ex.symm]
              rfl
            · rw [if_neg ex, if_neg (Ne.symm ex)]
              exact hS x
    · rintro ρ μ ⟨y1, y2, y3, y4, y5, y6, T', B', S', rfl, rfl, _, h1⟩
      obtain ⟨rfl, h2, h3, h4⟩ := h1 rfl
      exact ⟨_, List.take_sublist 6 _, q _ _ h2 h3 h4⟩
def fPPut (CP : Addr) : DSp := fun xs μ Q => ∃ (z : Ad) (off : NestedKey → Bool) (as : List Pl) (p : Pl) (m : Sm) (O : List (NestedKey × Val)) (B : List Val) (S : List (NestedKey × Val)), xs = [.ptr z.r, .dat p.D, .dat (.bool (off p.st))] ∧ μ = plS CP z (plP as) O (m.rows.map .dat) B S ∧
  as.length ≤ 64 ∧ m.rows.length = as.length ∧ B.length = as.length ∧ S.length ≤ as.length ∧ O.length ≤ as.length ∧ (∀ q ∈ as, q.d.h ∈ hands4 ∧ q.d.k < 64) ∧ (∀ q ∈ as, ml q.d p.d = true) ∧ Cond as p ∧ HOk m.H as ∧ StoodH S m.H ∧
  ∀ O' B' S', O'.length ≤ as.length + 1 → B'.length = as.length + 1 → S'.length ≤ as.length + 1 → StoodH S' (stepP off m p).H → Q (.dat .none) (plS CP z (plP (as ++ [p])) O' ((stepP off m p).rows.map .dat) B' S')
theorem scPPut : FnScope ["self", "place", "off", "at"] ["self", "place", "off"] (defScope (inClass sPl 1)) := ⟨rfl, rfl, rfl, by decide +kernel, rfl, by decide +kernel, by decide +kernel⟩
theorem ok_pput {f : Addr} {fd : FuncData} (F : Fun K "put" "Placing.put" (inClass sPl 1) f fd) (T : Ts K mg CP) (m_Placing__number_behind : MCalZ P w K mg base 1 CP "_number_behind" ["self", "mark"] (fPBehind CP))
    (m_Placing__go_back : MCalZ P w K mg base 1 CP "_go_back" ["self", "at"] (fPBack CP)) (m_Placing__go_on : MCalZ P w K mg base 2 CP "_go_on" ["self"] (fPOn CP)) : FnOk P w K mg base CX0 3 f fd ["self", "place", "off"] (spZ w K (fPPut CP)) := by
  refine Fun.okZ F scPPut (fun xs μ Q h => ?_) (fun cdv A outer s H E hr => ?_)
  · obtain ⟨z, off, as, p, m, O, B, S, rfl, _⟩ := h
    rfl
  · have nd := scPPut.nd
    refine ⟨_, (dss_cons (ds_dput hr.units (d_fld T.c_Placing T.n_Placing__off (dv 0)) (d_ix (dv 1) d_int (fun _ _ => rfl)) (dv 2) rfl)
  (dss_cons (ds_set (i := 3) nd rfl (Or.inl rfl) (d_meth (pl := _) m_Placing__number_behind T.c_Placing (hr.mono (by decide)) (dv 0) (da_cons (d_ix (dv 1) d_int (fun _ _ => rfl)) da_nil)))
  (dss_cons (ds_expr (d_meth (pl := _) m_Placing__go_back T.c_Placing (hr.mono (by decide)) (dv 0) (da_cons (dv 3) da_nil)))
  (dss_cons (ds_expr (d_lm PySem.F.slot_list_insert PySem.F.type_list_insert me_insert (d_fld T.c_Placing T.n_Placing__places (dv 0)) (da_cons (dv 3) (da_cons (dv 1) da_nil))))
  (dss_one (ds_expr (d_meth0 (pl := _) m_Placing__go_on T.c_Placing (hr.mono (by decide)) (dv 0)))))))), ?_⟩
    rintro xs μ Q ⟨z, off, as, p, m, O, B, S, rfl, rfl, hl, hrw, hB, hSl, hOl, hh, hm, co, ho, hS, q⟩
    have ez : sizeLine = 16777216 := by decide +kernel
    obtain ⟨n1, n2, n3, n4⟩ := co.nkp hh
    refine ⟨0, z.dx, _, _, rfl, rfl, _, rfl, 2, O, p.st, rfl, keyD_datK _, n1.key, by omega, ?_⟩
    refine ⟨⟨0, z.dx, _, rfl, rfl⟩, _, rfl, [], plS CP z (plP as) (putZ O p.st (.dat (.bool (off p.st)))) (m.rows.map .dat) B S, [], (List.append_nil _).symm, z, as, _, _, _, _, p.d, rfl, rfl, by omega, hm, plS CP z (plP as) (putZ O p.st (.dat (.bool (off p.st)))) (m.rows.map .dat) B S, [], (List.append_nil _).symm, ?_⟩
    have hP : (plP as).length = as.length := List.length_map _
    have hT : (m.rows.map Val.dat).length = as.length := by rw [List.length_map, hrw]
    refine ⟨⟨0, z.dx, _, rfl, rfl⟩, [], plS CP z (plP as) (putZ O p.st (.dat (.bool (off p.st)))) (m.rows.map .dat) B S, [], (List.append_nil _).symm, z, plP as, _, _, _, _, (by rw [hT]), rfl, by omega, plS CP z (plP as) (putZ O p.st (.dat (.bool (off p.st)))) (m.rows.map .dat) B S, [], (List.append_nil _).symm, ?_⟩
    refine ⟨0, z.dx, _, _, rfl, rfl, ⟨1, _, rfl⟩, 1, _, rfl, by omega, ⟨by omega, by omega⟩, ?_⟩
    have ei : (plP as).take ((as.length : Nat) : Int).toNat ++ [Val.dat p.D] ++ (plP as).drop ((as.length : Nat) : Int).toNat = plP (as ++ [p]) := by
      rw [Int.toNat_natCast, List.take_of_length_le (by omega), List.drop_of_length_le (by omega), List.append_nil]
      unfold plP
      rw [List.map_append]
      rfl
    rw [ei]
    refine ⟨⟨0, z.dx, _, rfl, rfl⟩, [], plS CP z (plP (as ++ [p])) (putZ O p.st (.dat (.bool (off p.st)))) (m.rows.map .dat) B S, [], (List.append_nil _).symm, z, off, as, p, m, _, _, _, rfl, rfl, hl, hrw, hB, hSl, hh, co, ho, hS, ?_, fun B' S' h1 h2 h3 => ⟨plS CP z (plP (as ++ [p])) (putZ O p.st (.dat (.bool (off p.st)))) ((stepP off m p).rows.map .dat) B' S', [], (List.append_nil _).symm, ?_⟩⟩
    · rw [lookZ_put, if_pos rfl]
    · exact ⟨_, .refl _, q _ _ _ (Nat.le_trans (putZ_len _ _ _) (by omega)) h1 h2 h3⟩
end
end Kr
namespace Kr
open PySem PySem.Spec PyProof.Rows L2 Lf Zl
local macro_rules | `(tactic| walk_at "sub") => `(tactic| first | exact List.nil_sublist _ | (refine .cons₂ _ ?_; walk_at "sub") | (refine .cons _ ?_; walk_at "sub"))
theorem kN_nam {h : Str} {k : Nat} : kN (nam h k) = nmK h k := rfl
theorem datK_kN {n : PyData} (h : NamO n) : datK (kN n) = n := by
  cases h <;> rfl
theorem act_cases {d : Deed} (h : AForm d.act) : (∃ x p, NamO x ∧ d.act = .tuple [.str "cell", x, p] ∧ toPl d = some ⟨d, nmK d.h d.k, kN x⟩) ∨ (∃ c x p, NamO c ∧ NamO x ∧ d.act = .tuple [.str "place", c, x, p] ∧ toPl d = some ⟨d, kN c, kN x⟩) ∨
    (∃ w r, d.act = .tuple (.str w :: r) ∧ w ≠ "cell" ∧ w ≠ "place" ∧ toPl d = none) := by
  obtain ⟨dh, dk, ds, dn, da⟩ := d
  dsimp only at h ⊢
  cases h with
  | cell h1 h2 => exact .inl ⟨_, _, h1, rfl, by unfold toPl; exact if_pos rfl⟩
  | place h1 h2 h3 => exact .inr (.inl ⟨_, _, _, h1, h2, rfl, by unfold toPl; exact if_pos rfl⟩)
  | write h1 h2 h3 => exact .inr (.inr ⟨_, _, rfl, by decide, by decide, by unfold toPl; exact if_neg (by decide)⟩)
  | strike h1 h2 => exact .inr (.inr ⟨_, _, rfl, by decide, by decide, rfl⟩)
  | drop h1 => exact .inr (.inr ⟨_, _, rfl, by decide, by decide, rfl⟩)
  | turn hw h1 => exact .inr (.inr ⟨_, _, rfl, by rcases hw with rfl | rfl <;> decide, by rcases hw with rfl | rfl <;> decide, rfl⟩)
theorem toPl_d {d : Deed} {p : Pl} (h : toPl d = some p) : p.d = d := by
  unfold toPl at h
  split at h
  · split at h
    · cases h
      rfl
    · cases h
  · split at h
    · cases h
      rfl
    · cases h
  · cases h
/-- a deed that makes the cell x -/
def Made (ds : List Deed) (d : Deed) (x : NestedKey) : Prop := ∃ e ∈ ds, ∃ q, toPl e = some q ∧ q.st = q.c ∧ q.c = x ∧ ml e d = true
structure Wf (ds : List Deed) : Prop extends Tk ds where
  par : ∀ d ∈ ds, ∀ p, toPl d = some p → p.p = .none ∨ Made ds d p.p
  cel : ∀ d ∈ ds, ∀ p, toPl d = some p → p.st = p.c ∨ Made ds d p.c
  plc : ∀ d ∈ ds, ∀ c x q, d.act = .tuple [.str "place", c, x, q] → Made ds d (kN c)
theorem Wf.perm {ds es : List Deed} (W : Wf ds) (p : es.Perm ds) : Wf es := by
  have m : ∀ {d x}, Made ds d x → Made es d x := fun ⟨e, he, q⟩ => ⟨e, p.mem_iff.mpr he, q⟩
  exact ⟨W.toTk.perm p, fun d hd q e => (W.par d (p.mem_iff.mp hd) q e).imp id m, fun d hd q e => (W.cel d (p.mem_iff.mp hd) q e).imp id m, fun d hd c x q e => m (W.plc d (p.mem_iff.mp hd) c x q e)⟩
theorem lt_ml {d e : Deed} (h : e.st < d.st) : ml e d = true := by
  rw [ml_is, if_neg (by omega)]
  exact decide_eq_true h
theorem Dr.wf {ds : List Deed} (D : Dr hs ds) (l : ds.length ≤ 64) : Wf ds := by
  refine ⟨D.tk l, fun d hd pl e => ?_, fun d hd pl e => ?_, fun d hd c x q0 e => ?_⟩
  rotate_left 2
  · obtain ⟨as, bs, q⟩ := List.append_of_mem hd
    obtain ⟨ks, h1, _, a⟩ := D.each as d bs q
    rw [e] at a
    generalize eq : (PyData.tuple [.str "place", c, x, q0]) = z at a
    cases a with
    | place c h p h2 h3 h4 =>
      cases eq
      obtain ⟨e, he, en, h', p', ea⟩ := h2
      refine ⟨e, by rw [q]; exact List.mem_append_left _ (h1 e he).1, ⟨e, nmK e.h e.k, kN h'⟩, ?_, rfl, ?_, lt_ml (h1 e he).2⟩
      · unfold toPl
        rw [ea]
        exact if_pos rfl
      · rw [← en]
        rfl
    | _ => cases eq
  all_goals
    obtain ⟨as, bs, q⟩ := List.append_of_mem hd
    obtain ⟨ks, h1, _, a⟩ := D.each as d bs q
    have made : ∀ {x}, Cell ks x → Made ds d (kN x) := fun {x} ⟨e, he, en, h', p', ea⟩ => by
      refine ⟨e, by rw [q]; exact List.mem_append_left _ (h1 e he).1, ⟨e, nmK e.h e.k, kN h'⟩, ?_, rfl, ?_, lt_ml (h1 e he).2⟩
      · unfold toPl
        rw [ea]
        exact if_pos rfl
      · rw [← en]
        rfl
    have o : ∀ {x}, (x = .none ∨ Cell ks x) → kN x = .none ∨ Made ds d (kN x) := fun {x} h => by
      rcases h with rfl | h
      · exact .inl rfl
      · exact .inr (made h)
    obtain ⟨dh, dk, dst, dsn, da⟩ := d
    dsimp only at a
    cases a with
    | cell h p h2 h3 =>
      have e' : some (⟨⟨dh, dk, dst, dsn, _⟩, nmK dh dk, kN h⟩ : Pl) = some pl := e
      cases e'
      first | exact o h2 | exact .inl rfl
    | place c h p h2 h3 h4 =>
      have e' : some (⟨⟨dh, dk, dst, dsn, _⟩, kN c, kN h⟩ : Pl) = some pl := e
      cases e'
      first | exact o h3 | exact .inr (made h2)
    | write c s t _ _ _ =>
      have e' : (if ("write" : Str) = "place" then some (⟨⟨dh, dk, dst, dsn, .tuple [.str "write", c, s, .str t]⟩, kN c, kN s⟩ : Pl) else none) = some pl := e
      rw [if_neg (by decide)] at e'
      cases e'
    | strike l _ _ => cases e
    | drop c _ => cases e
    | turn w n _ _ => cases e
/-- the deeds, by their marks -/
def Srt (ds S : List Deed) : Prop := S.Perm ds ∧ S.Pairwise fun d e => ml d e = true
theorem Srt.one {ds S S' : List Deed} (h : Srt ds S) (h' : Srt ds S') : S = S' :=
  List.Perm.eq_of_pairwise (le := fun d e => ml d e = true) (fun a b _ _ h1 h2 => by rw [ml_asym h1] at h2; cases h2) h.2 h'.2 (h.1.trans h'.1.symm)
theorem Srt.perm {ds es S : List Deed} (p : es.Perm ds) (h : Srt es S) : Srt ds S := ⟨h.1.trans p, h.2⟩
theorem le_iff' {kf : PyData → PyData} {x y : PyData} : PySem.W.dataLe false kf x y = true ↔ PySem.W.dataLt (kf y) (kf x) = false := by
  unfold PySem.W.dataLe PySem.W.sortLe PySem.W.dataLt
  simp
theorem sort_up' {kf : PyData → PyData} {L : List PyData} : (L.mergeSort (PySem.W.dataLe false kf)).Pairwise fun x y => PySem.W.dataLt (kf y) (kf x) = false := by
  have sw := Sa.swo_data (α := PyData) kf
  refine (List.pairwise_mergeSort (le := PySem.W.dataLe false kf) (fun a b c h1 h2 => ?_) (fun a b => ?_) L).imp fun h => le_iff'.mp h
  · rw [le_iff'] at *
    exact sw.2 a b c h1 h2
  · cases e : PySem.W.dataLe false kf a b with
    | true => rfl
    | false =>
      have : PySem.W.dataLt (kf b) (kf a) = true := by
        cases e2 : PySem.W.dataLt (kf b) (kf a) with
        | true => rfl
        | false => rw [le_iff'.mpr e2] at e; cases e
      rw [Bool.false_or]
      exact le_iff'.mpr (sw.1 b a this)
theorem perm_inv {α β : Type} {f : α → β} : ∀ {l : List β} {m : List α}, l.Perm (m.map f) → ∃ m' : List α, m'.Perm m ∧ l = m'.map f
  | [], m, h => by
    have : m.map f = [] := h.symm.eq_nil
    rw [List.map_eq_nil_iff] at this
    subst this
    exact ⟨[], .refl _, rfl⟩
  | y :: l, m, h => by
    have hy : y ∈ m.map f := h.mem_iff.mp (List.mem_cons_self ..)
    obtain ⟨x, hx, rfl⟩ := List.mem_map.mp hy
    obtain ⟨i, hi, rfl⟩ := List.mem_iff_getElem.mp hx
    have pm := perm_at (List.getElem?_eq_getElem hi)
    have h2 : l.Perm ((m.eraseIdx i).map f) := (h.trans (pm.map f)).cons_inv
    obtain ⟨m', p', rfl⟩ := perm_inv h2
    exact ⟨m[i] :: m', (p'.cons _).trans pm.symm, rfl⟩
theorem nodup_of_names {ds : List Deed} (h : (ds.map Deed.name).Nodup) : ds.Nodup := by
  rw [List.Nodup, List.pairwise_map] at h
  exact h.imp fun n e => n (by rw [e])
theorem srt_of {ds : List Deed} (u : Unl ds) (nd : ds.Nodup) {f : Deed → PyData} {kf : PyData → PyData} (hk : ∀ d ∈ ds, ∀ e ∈ ds, ¬ Alk d e → PySem.W.dataLt (kf (f d)) (kf (f e)) = ml d e) {L : List PyData} (pm : L.Perm (ds.map f)) (up : L.Pairwise fun x y => PySem.W.dataLt (kf y) (kf x) = false) :
    ∃ S, Srt ds S ∧ L = S.map f := by
  obtain ⟨S, pS, rfl⟩ := perm_inv pm
  refine ⟨S, ⟨pS, ?_⟩, rfl⟩
  rw [List.pairwise_map] at up
  have ns := pS.nodup_iff.mpr nd
  have both := List.Pairwise.and up ns
  refine List.Pairwise.imp_of_mem (fun {a b} ha hb h => ?_) both
  have na : ¬ Alk b a := fun z => h.2 (u b (pS.mem_iff.mp hb) a (pS.mem_iff.mp ha) z).symm
  have h1 := h.1
  rw [hk b (pS.mem_iff.mp hb) a (pS.mem_iff.mp ha) na] at h1
  exact (ml_tri na).resolve_left (by rw [h1]; simp)
theorem Made.cel {ds S as bs : List Deed} {d : Deed} {x : NestedKey} (h : Srt ds S) (e : S = as ++ d :: bs) (m : Made ds d x) : Cel (as.filterMap toPl) x := by
  subst e
  obtain ⟨e, he, q, e1, e2, e3, l⟩ := m
  refine ⟨q, List.mem_filterMap.mpr ⟨e, ?_, e1⟩, e2, e3⟩
  have up := h.2
  rw [List.pairwise_append] at up
  rcases List.mem_append.mp (h.1.mem_iff.mpr he) with z | z
  · exact z
  · exfalso
    rcases List.mem_cons.mp z with rfl | z
    · have := ml_asym l
      rw [l] at this
      cases this
    · have q := (List.pairwise_cons.mp up.2.1).1 e z
      rw [ml_asym q] at l
      cases l
theorem Wf.cond {ds S as bs : List Deed} {d : Deed} {p : Pl} (W : Wf ds) (h : Srt ds S) (e : S = as ++ d :: bs) (t : toPl d = some p) : Cond (as.filterMap toPl) p := by
  have mk : ∀ {x}, Made ds d x → Cel (as.filterMap toPl) x := fun m => m.cel h e
  subst e
  have hd : d ∈ ds := h.1.mem_iff.mp (by simp)
  have pd := toPl_d t
  refine ⟨(W.par d hd p t).imp id mk, (W.cel d hd p t).imp id mk, fun q hq z => ?_, by rw [pd]; exact (W.df d hd).hh, by rw [pd]; exact (W.df d hd).hk⟩
  obtain ⟨e, he, e1⟩ := List.mem_filterMap.mp hq
  have qd := toPl_d e1
  have nd := (h.1.map Deed.name).nodup_iff.mpr W.nd
  rw [List.map_append, List.nodup_append] at nd
  refine nd.2.2 e.name (List.mem_map_of_mem he) d.name (by simp) ?_
  have z : nmK q.d.h q.d.k = nmK p.d.h p.d.k := z
  rw [pd, qd] at z
  show datK (nmK e.h e.k) = datK (nmK d.h d.k)
  rw [z]
theorem run_okS {ds S : List Deed} {off : NestedKey → Bool} (W : Wf ds) (h : Srt ds S) : ∀ i, i ≤ S.length → HOk (runP off ((S.take i).filterMap toPl)).H ((S.take i).filterMap toPl) ∧ (runP off ((S.take i).filterMap toPl)).rows.length = ((S.take i).filterMap toPl).length
  | 0, _ => ⟨⟨fun x z e => (by cases e), fun x ⟨q, hq, _⟩ => (by cases hq)⟩, rfl⟩
  | i + 1, hi => by
    have hg : S[i]? = some S[i] := List.getElem?_eq_getElem hi
    have et : S.take (i + 1) = S.take i ++ [S[i]] := by rw [List.take_succ, hg]; rfl
    have ih := run_okS (off := off) W h i (by omega)
    rw [et, List.filterMap_append]
    cases t : toPl S[i] with
    | none =>
      rw [show [S[i]].filterMap toPl = [] by simp [t], List.append_nil]
      exact ih
    | some p =>
      rw [show [S[i]].filterMap toPl = [p] by simp [t], runP_snoc]
      refine ⟨ih.1.snoc (W.cond h (as := S.take i) (bs := S.drop (i + 1)) (by simp) t), ?_⟩
      rw [stepP_rows, ih.2, List.length_append, List.length_singleton]
noncomputable def offB (ds : List Deed) (x : NestedKey) : Bool := @decide (∃ n, keyD n = some x ∧ OffN ds n) (Classical.propDecidable _)
theorem offB_iff {ds : List Deed} {x : NestedKey} : offB ds x = true ↔ ∃ n, keyD n = some x ∧ OffN ds n := by
  unfold offB
  exact @decide_eq_true_iff _ (Classical.propDecidable _)
theorem offB_perm {ds es : List Deed} (p : es.Perm ds) : offB es = offB ds := by
  funext x
  rw [Bool.eq_iff_iff, offB_iff, offB_iff]
  exact ⟨fun ⟨n, e, h⟩ => ⟨n, e, h.perm p.symm⟩, fun ⟨n, e, h⟩ => ⟨n, e, h.perm p⟩⟩
noncomputable def rowsOf (ds S : List Deed) : List PyData := (runP (offB ds) (S.filterMap toPl)).rows
end Kr
namespace Kr
open PySem PySem.Spec PyProof.Rows L2 Lf Zl
local macro_rules | `(tactic| walk_at "sub") => `(tactic| first | exact List.nil_sublist _ | (refine .cons₂ _ ?_; walk_at "sub") | (refine .cons _ ?_; walk_at "sub"))
section
variable {P : Program} {w : World} {K : PySem.W.Frag} {mg : Str → Option Value} {base : Heap} {CP : Addr}
def fName : DSp := fun xs μ Q => ∃ d : Deed, xs = [.dat d.D] ∧ μ = [] ∧ Q (.dat d.name) []
abbrev sName : Stmt := topS 1
theorem scName : FnScope ["deed"] ["deed"] (defScope sName) := ⟨rfl, rfl, rfl, by decide +kernel, rfl, by decide +kernel, by decide +kernel⟩
theorem ok_name {f : Addr} {fd : FuncData} (F : Fun K "name_of" "name_of" sName f fd) (T : Bs mg) : FnOk P w K mg base CX0 1 f fd ["deed"] (spZ w K fName) := by
  refine Fun.okZ F scName (fun xs μ Q h => ?_) (fun cdv A outer s H E hr => ?_)
  · obtain ⟨d, rfl, _⟩ := h
    rfl
  · have nd := scName.nd
    refine ⟨_, (dss_one (ds_ret (d_tup (da_cons (d_ix (dv 0) d_int (fun _ _ => rfl)) (da_cons (d_ix (dv 0) d_int (fun _ _ => rfl)) da_nil))))), ?_⟩
    rintro xs μ Q ⟨d, rfl, rfl, q⟩
    exact ⟨_, rfl, _, rfl, (by decide : 2 ≤ sizeLine), _, .refl _, q⟩
def fStand : DSp := fun xs μ Q => ∃ d : Deed, xs = [.dat d.D] ∧ μ = [] ∧ AForm d.act ∧ Q (.dat (.bool (toPl d).isSome)) []
abbrev sStand : Stmt := topS 9
theorem scStand : FnScope ["deed"] ["deed"] (defScope sStand) := ⟨rfl, rfl, rfl, by decide +kernel, rfl, by decide +kernel, by decide +kernel⟩
theorem ok_stand {f : Addr} {fd : FuncData} (F : Fun K "makes_stand" "makes_stand" sStand f fd) (T : Bs mg) : FnOk P w K mg base CX0 1 f fd ["deed"] (spZ w K fStand) := by
  refine Fun.okZ F scStand (fun xs μ Q h => ?_) (fun cdv A outer s H E hr => ?_)
  · obtain ⟨d, rfl, _⟩ := h
    rfl
  · have nd := scStand.nd
    refine ⟨_, (dss_one (ds_ret (d_or (d_cmp (oz_eq hr.units) (d_ix (d_ix (dv 0) d_int (fun _ _ => rfl)) d_int (fun _ _ => rfl)) d_str (nomark _)) (d_one (d_cmp (oz_eq hr.units) (d_ix (d_ix (dv 0) d_int (fun _ _ => rfl)) d_int (fun _ _ => rfl)) d_str (nomark _)))))), ?_⟩
    rintro xs μ Q ⟨d, rfl, rfl, af, q⟩
    obtain ⟨dh, dk, ds, dn, da⟩ := d
    dsimp only at af
    rcases act_cases (d := ⟨dh, dk, ds, dn, da⟩) af with ⟨x, p, _, ea, et⟩ | ⟨c, x, p, _, _, ea, et⟩ | ⟨w0, r, ea, n1, n2, et⟩
    · rw [et] at q
      dsimp only at ea
      subst ea
      exact ⟨_, rfl, .str "cell", rfl, _, .refl _, q⟩
    · rw [et] at q
      dsimp only at ea
      subst ea
      exact ⟨_, rfl, .str "place", rfl, _, rfl, .str "place", rfl, _, .refl _, q⟩
    · rw [et] at q
      dsimp only at ea
      subst ea
      have q' : Q (.dat (.bool (decide (w0 = ("place" : Str))))) [] := by
        rw [decide_eq_false n2]
        exact q
      refine ⟨_, rfl, .str w0, at_head, ?_⟩
      refine ite2 (fun z => absurd (of_decide_eq_true z) n1) fun _ => ?_
      exact ⟨_, rfl, .str w0, at_head, _, .refl _, q'⟩
def fPlOf : DSp := fun xs μ Q => ∃ (d : Deed) (p : Pl), xs = [.dat d.D] ∧ μ = [] ∧ AForm d.act ∧ toPl d = some p ∧ Q (.dat p.D) []
abbrev sPlOf : Stmt := topS 10
theorem scPlOf : FnScope ["deed", "act", "cell"] ["deed"] (defScope sPlOf) := ⟨rfl, rfl, rfl, by decide +kernel, rfl, by decide +kernel, by decide +kernel⟩
theorem ok_plof {f : Addr} {fd : FuncData} (F : Fun K "place_of" "place_of" sPlOf f fd) (T : Bs mg) (c_name_of : CalZ P w K mg base 1 "name_of" ["deed"] fName) (c_mark_of : CalZ P w K mg base 1 "mark_of" ["deed"] fMark) : FnOk P w K mg base CX0 2 f fd ["deed"] (spZ w K fPlOf) := by
  refine Fun.okZ F scPlOf (fun xs μ Q h => ?_) (fun cdv A outer s H E hr => ?_)
  · obtain ⟨d, p, rfl, _⟩ := h
    rfl
  · have nd := scPlOf.nd
    refine ⟨_, (dss_cons (ds_set (i := 1) nd rfl (Or.inl rfl) (d_ix (dv 0) d_int (fun _ _ => rfl)))
  (dss_cons (ds_set (i := 2) nd rfl (Or.inl rfl) (d_ifExp (dt_cmp (oz_eq hr.units) (d_ix (dv 1) d_int (fun _ _ => rfl)) d_str (nomark _)) (d_own0 c_name_of (hr.mono (by decide)) (by rfl) (da_cons (dv 0) da_nil)) (d_ix (dv 1) d_int (fun _ _ => rfl))))
  (dss_one (ds_ret (d_tup (da_cons (d_own0 c_mark_of (hr.mono (by decide)) (by rfl) (da_cons (dv 0) da_nil)) (da_cons (d_own0 c_name_of (hr.mono (by decide)) (by rfl) (da_cons (dv 0) da_nil)) (da_cons (dv 2) (da_cons (d_ix (dv 1) (d_neg d_int) (fun _ _ => rfl)) da_nil))))))))), ?_⟩
    rintro xs μ Q ⟨d, p, rfl, rfl, af, tp, q⟩
    obtain ⟨dh, dk, ds, dn, da⟩ := d
    dsimp only at af
    rcases act_cases (d := ⟨dh, dk, ds, dn, da⟩) af with ⟨x, p0, nx, ea, et⟩ | ⟨c, x, p0, nc, nx, ea, et⟩ | ⟨w0, r, ea, n1, n2, et⟩
    · rw [et] at tp
      cases tp
      dsimp only at ea
      subst ea
      have q' : Q (.dat (.tuple [mrk ⟨dh, dk, ds, dn, .tuple [.str "cell", x, p0]⟩, nam dh dk, nam dh dk, x])) [] := by
        have h := datK_kN nx
        unfold Pl.D at q
        rw [h] at q
        exact q
      exact ⟨_, rfl, .str "cell", rfl, ⟨⟨dh, dk, ds, dn, _⟩, rfl, rfl, ⟨⟨dh, dk, ds, dn, _⟩, rfl, rfl, ⟨⟨dh, dk, ds, dn, _⟩, rfl, rfl, x, rfl, (by show 4 ≤ sizeLine; decide), _, .refl _, q'⟩⟩⟩⟩
    · rw [et] at tp
      cases tp
      dsimp only at ea
      subst ea
      have q' : Q (.dat (.tuple [mrk ⟨dh, dk, ds, dn, .tuple [.str "place", c, x, p0]⟩, nam dh dk, c, x])) [] := by
        have h := datK_kN nx
        have h' := datK_kN nc
        unfold Pl.D at q
        rw [h, h'] at q
        exact q
      exact ⟨_, rfl, .str "place", rfl, c, rfl, ⟨⟨dh, dk, ds, dn, _⟩, rfl, rfl, ⟨⟨dh, dk, ds, dn, _⟩, rfl, rfl, x, rfl, (by show 4 ≤ sizeLine; decide), _, .refl _, q'⟩⟩⟩
    · rw [et] at tp
      cases tp
/-! ### all of them -/
def kM : PyData → PyData
  | .tuple (a :: _ :: c :: _) => .tuple [c, a]
  | _ => .none
def PdD (d : PyData) : Prop := ∃ e : Deed, d = e.D
theorem key_mark {X : Cx} {k : Nat} (hr : Room k X.A) {fm : Addr} {fdm : FuncData} (Fm : Fun X.K "mark_of" "mark_of" sMark fm fdm) (bm : L2.Binds X.K fdm ["deed"] []) : ∀ s : Shared, X.K.In s.heap → s.heap.NoLimit → KeyTells X fm kM PdD s := by
  intro s kin lim s' kp v d ⟨e, ed⟩ r
  subst ed
  have ez : sizeLine = 16777216 := by decide +kernel
  refine Zq.key_def Fm scMark bm (by rfl) (by decide +kernel) (fun A env s0 nm => ?_) (by decide) (kin.keeps kp.mem) (lim.keeps kp.mem) hr.depth r
  exact Zq.pu_tup (Zq.pu_cons (Zq.pu_ix (nm _) Zq.pu_int rfl (by show 5 ≤ sizeLine; decide) (fun _ _ => rfl)) (Zq.pu_cons (Zq.pu_ix (nm _) Zq.pu_int rfl (by show 5 ≤ sizeLine; decide) (fun _ _ => rfl)) Zq.pu_nil)) (by show 2 ≤ sizeLine; decide)
def fPlaced (CP : Addr) : DSp := fun xs μ Q => ∃ (ds : List Deed) (o : Addr) (kvs : List (NestedKey × Val)), xs = [.dat (.list (ds.map Deed.D)), .ptr o] ∧ μ = [(o, .dv kvs)] ∧ Wf ds ∧ (∀ d ∈ ds, noList d.D = true) ∧
  ∀ (z : Ad) P O B S St, Srt ds St → Q (.ptr z.r) ([(o, .dv kvs)] ++ plS CP z P O ((runP (fun x => (lookZ kvs x).isSome) (St.filterMap toPl)).rows.map .dat) B S)
abbrev sPlaced : Stmt := topS 8
theorem scPlaced : FnScope ["deeds", "off", "placing", "deed"] ["deeds", "off"] (defScope sPlaced) := ⟨rfl, rfl, rfl, by decide +kernel, rfl, by decide +kernel, by decide +kernel⟩
theorem ok_placed {f : Addr} {fd : FuncData} (F : Fun K "placed" "placed" sPlaced f fd) (T : Ts K mg CP) {fm : Addr} {fdm : FuncData} (g_mark_of : mg "mark_of" = some (.ref fm)) (Fm : Fun K "mark_of" "mark_of" sMark fm fdm) (bm : L2.Binds K fdm ["deed"] [])
    (k_Placing : KCalZ P w K mg base 1 CP ["self"] (fPInit CP)) (m_Placing_put : MCalZ P w K mg base 3 CP "put" ["self", "place", "off"] (fPPut CP))
    (c_makes_stand : CalZ P w K mg base 1 "makes_stand" ["deed"] fStand) (c_place_of : CalZ P w K mg base 2 "place_of" ["deed"] fPlOf) (c_name_of : CalZ P w K mg base 1 "name_of" ["deed"] fName) : FnOk P w K mg base CX0 4 f fd ["deeds", "off"] (spZ w K (fPlaced CP)) := by
  refine Fun.okZ F scPlaced (fun xs μ Q h => ?_) (fun cdv A outer s H E hr => ?_)
  · obtain ⟨ds, o, kvs, rfl, _⟩ := h
    rfl
  · have nd := scPlaced.nd
    have key_mark_of := key_mark (X := (cxOf CX0 P w K mg base ["deeds", "off", "placing", "deed"] "placed" (defScope sPlaced) f cdv A outer s H E).nox) hr Fm bm
    refine ⟨_, (dss_cons (ds_set (i := 2) nd rfl (Or.inl rfl) (d_make0 k_Placing (hr.mono (by decide)) (by rfl) T.g_Placing))
  (dss_cons (ds_for PassesOwn.never rfl (di_seq (d_sortK hr.units (by rfl) T.sorted (by rfl) g_mark_of (by decide) key_mark_of (da_cons (dv 0) da_nil))) (dg_name (i := 3) nd rfl (Or.inl rfl))
  (dss_one (ds_if (dt_truth (d_own0 c_makes_stand (hr.mono (by decide)) (by rfl) (da_cons (dv 3) da_nil)))
  (dss_one (ds_expr (d_meth (pl := _) m_Placing_put T.c_Placing (hr.mono (by decide)) (dv 2) (da_cons (d_own0 c_place_of (hr.mono (by decide)) (by rfl) (da_cons (dv 3) da_nil)) (da_cons (d_din hr.units (d_own0 c_name_of (hr.mono (by decide)) (by rfl) (da_cons (dv 3) da_nil)) (dv 1)) da_nil)))))
  dss_nil)))
  (dss_one (ds_ret (dv 2))))), ?_⟩
    rintro xs μ Q ⟨ds, o, kvs, rfl, rfl, wf, nl, q⟩
    have ez : sizeLine = 16777216 := by decide +kernel
    have dm : ∀ x ∈ ds.map Deed.D, ∃ e ∈ ds, e.D = x := fun x hx => List.mem_map.mp hx
    obtain ⟨St, hS, eS⟩ := srt_of wf.un (nodup_of_names wf.nd) (f := Deed.D) (kf := kM) (fun _ _ _ _ _ => rfl) (List.mergeSort_perm (ds.map Deed.D) (PySem.W.dataLe false kM)) sort_up'
    have lS : St.length ≤ 64 := by rw [hS.1.length_eq]; exact wf.len
    refine fun r dx => ⟨[_], [_], [], rfl, r, dx, rfl, rfl, fun a b c d e => ⟨_, [], (List.append_nil _).symm, rfl, ?_⟩⟩
    refine ⟨trivial, ds.map Deed.D, datOf_map _, fun x hx y hy => ?_, .inl fun x hx => ?_, fun x hx => ?_, fun g => ?_⟩
    · obtain ⟨x', hx', rfl⟩ := List.mem_map.mp hx
      obtain ⟨y', hy', rfl⟩ := List.mem_map.mp hy
      obtain ⟨d1, _, rfl⟩ := dm x' hx'
      obtain ⟨d2, _, rfl⟩ := dm y' hy'
      rfl
    · obtain ⟨x', hx', rfl⟩ := List.mem_map.mp hx
      obtain ⟨d1, _, rfl⟩ := dm x' hx'
      exact ⟨_, _, rfl⟩
    · obtain ⟨d1, h1, rfl⟩ := dm x hx
      exact ⟨(by show 1 ≤ 50; decide), nl d1 h1, d1, rfl⟩
    rw [eS]
    have off := fun x : NestedKey => (lookZ kvs x).isSome
    refine ⟨7, _, rfl, fun i ρ μ => ∃ (y3 : Option Val) (O : List (NestedKey × Val)) (B : List Val) (S : List (NestedKey × Val)), ρ = [some (.dat (.list (ds.map Deed.D))), some (.ptr o), some (.ptr r), y3] ∧
      μ = [(o, .dv kvs)] ++ plS CP ⟨r, dx, a, b, c, d, e⟩ (plP ((St.take i).filterMap toPl)) O ((runP (fun x => (lookZ kvs x).isSome) ((St.take i).filterMap toPl)).rows.map .dat) B S ++ [(g, .lst ((St.map Deed.D).map .dat))] ∧
      O.length ≤ ((St.take i).filterMap toPl).length ∧ B.length = ((St.take i).filterMap toPl).length ∧ S.length ≤ ((St.take i).filterMap toPl).length ∧ StoodH S (runP (fun x => (lookZ kvs x).isSome) ((St.take i).filterMap toPl)).H, ⟨_, [], [], [], rfl, rfl, Nat.le_refl _, rfl, Nat.le_refl _, fun _ => rfl⟩, fun i ρ μ _ h => ?_, ?_, ?_⟩
    · obtain ⟨_, _, _, _, _, e, _⟩ := h
      rw [e]
      exact ⟨7, rfl⟩
    · rintro i y ρ μ hy ⟨y3, O, B, S, rfl, rfl, hO, hB, hSl, hSt⟩
      rw [List.map_map] at hy
      obtain ⟨d0, hd, rfl⟩ := Option.map_eq_some_iff.mp (by rw [← List.getElem?_map]; exact hy)
      have hi := (List.getElem?_eq_some_iff.mp hd).1
      have et : St.take (i + 1) = St.take i ++ [d0] := by rw [List.take_succ, hd]; rfl
      have es : St = St.take i ++ d0 :: St.drop (i + 1) := by
        have := List.getElem?_eq_some_iff.mp hd
        rw [← this.2]
        simp
      have df := wf.df d0 (hS.1.mem_iff.mp (List.mem_of_getElem? hd))
      have ok := run_okS (off := fun x => (lookZ kvs x).isSome) wf hS i (by omega)
      refine ⟨d0, rfl, rfl, df.act, ?_⟩
      have la : ((St.take i).filterMap toPl).length ≤ 64 := Nat.le_trans (List.length_filterMap_le _ _) (by rw [List.length_take]; omega)
      cases tp : toPl d0 with
      | none =>
        have ea : (St.take (i + 1)).filterMap toPl = (St.take i).filterMap toPl := by
          rw [et, List.filterMap_append, show [d0].filterMap toPl = [] by simp [tp], List.append_nil]
        refine ⟨_, .refl _, _, O, B, S, rfl, ?_⟩
        rw [ea]
        exact ⟨rfl, hO, hB, hSl, hSt⟩
      | some p =>
        have co := wf.cond hS es tp
        have pd := toPl_d tp
        obtain ⟨pd0, pc, pp⟩ := p
        obtain rfl : pd0 = d0 := pd
        have ea : (St.take (i + 1)).filterMap toPl = (St.take i).filterMap toPl ++ [⟨pd0, pc, pp⟩] := by
          rw [et, List.filterMap_append, show [pd0].filterMap toPl = [⟨pd0, pc, pp⟩] by simp [tp]]
        have mem : ∀ q ∈ (St.take i).filterMap toPl, q.d ∈ St.take i := fun q hq => by
          obtain ⟨e1, h1, h2⟩ := List.mem_filterMap.mp hq
          rw [toPl_d h2]
          exact h1
        have hh : ∀ q ∈ (St.take i).filterMap toPl, q.d.h ∈ hands4 ∧ q.d.k < 64 := fun q hq => by
          have := wf.df q.d (hS.1.mem_iff.mp (List.mem_of_mem_take (mem q hq)))
          exact ⟨this.hh, this.hk⟩
        have hm : ∀ q ∈ (St.take i).filterMap toPl, ml q.d pd0 = true := fun q hq => by
          have up := hS.2
          rw [es, List.pairwise_append] at up
          exact up.2.2 q.d (mem q hq) pd0 (List.mem_cons_self ..)
        have kn : Vd.KeyOk (nmK pd0.h pd0.k) := (show Nk (nmK pd0.h pd0.k) from .inr ⟨_, df.hh, _, df.hk, rfl⟩).key
        refine ⟨⟨1, dx, _, rfl, rfl⟩, pd0, _, rfl, rfl, df.act, tp, pd0, rfl, rfl, kvs, nmK pd0.h pd0.k, .own 0 rfl, rfl, kn, ?_⟩
        refine ⟨[_], plS CP ⟨r, dx, a, b, c, d, e⟩ (plP ((St.take i).filterMap toPl)) O ((runP (fun x => (lookZ kvs x).isSome) ((St.take i).filterMap toPl)).rows.map .dat) B S, [_], rfl, ⟨r, dx, a, b, c, d, e⟩, fun x => (lookZ kvs x).isSome, (St.take i).filterMap toPl, ⟨pd0, pc, pp⟩, runP (fun x => (lookZ kvs x).isSome) ((St.take i).filterMap toPl), O, B, S, rfl, rfl, la, ok.2, hB, hSl, hO, hh, hm, co, ok.1, hSt, fun O' B' S' h1 h2 h3 h4 => ⟨plS CP ⟨r, dx, a, b, c, d, e⟩ (plP ((St.take i).filterMap toPl ++ [⟨pd0, pc, pp⟩])) O' ((stepP (fun x => (lookZ kvs x).isSome) (runP (fun x => (lookZ kvs x).isSome) ((St.take i).filterMap toPl)) ⟨pd0, pc, pp⟩).rows.map .dat) B' S', [], (List.append_nil _).symm, ?_⟩⟩
        refine ⟨_, .refl _, _, O', B', S', rfl, ?_⟩
        rw [ea, runP_snoc, List.length_append, List.length_singleton]
        exact ⟨rfl, h1, h2, h3, h4⟩
    · rintro ρ μ ⟨y3, O, B, S, rfl, rfl, _, _, _, _⟩
      rw [List.length_map, List.length_map, List.take_length]
      exact ⟨_, List.take_sublist 7 _, q ⟨r, dx, a, b, c, d, e⟩ _ _ _ _ _ hS⟩
def fPlaces : DSp := fun xs μ Q => ∃ ds : List Deed, xs = [.dat (.list (ds.map Deed.D))] ∧ μ = [] ∧ Wf ds ∧ (∀ d ∈ ds, noList d.D = true) ∧ ∀ p S, Srt ds S → Q (.ptr p) [(p, .lst ((rowsOf ds S).map .dat))]
abbrev sPlaces : Stmt := topS 7
theorem scPlaces : FnScope ["deeds"] ["deeds"] (defScope sPlaces) := ⟨rfl, rfl, rfl, by decide +kernel, rfl, by decide +kernel, by decide +kernel⟩
theorem run_len {off : NestedKey → Bool} {ps : List Pl} : (runP off ps).rows.length = ps.length := by
  have := run_rows (off := off) (ps := ps) ps.length (Nat.le_refl _)
  rwa [List.take_length] at this
theorem ok_places {f : Addr} {fd : FuncData} (F : Fun K "places" "places" sPlaces f fd) (T : Ts K mg CP) (c_off_table : CalZ P w K mg base 2 "off_table" ["deeds"] fTable) (c_placed : CalZ P w K mg base 4 "placed" ["deeds", "off"] (fPlaced CP)) (m_Placing_told : MCalZ P w K mg base 1 CP "told" ["self"] (fPTold CP)) :
    FnOk P w K mg base CX0 5 f fd ["deeds"] (spZ w K fPlaces) := by
  refine Fun.okZ F scPlaces (fun xs μ Q h => ?_) (fun cdv A outer s H E hr => ?_)
  · obtain ⟨ds, rfl, _⟩ := h
    rfl
  · have nd := scPlaces.nd
    refine ⟨_, (dss_one (ds_ret (d_meth0 (pl := _) m_Placing_told T.c_Placing (hr.mono (by decide)) (d_own1 c_placed (hr.mono (by decide)) (by rfl) (da_cons (dv 0) (da_cons (d_own0 c_off_table (hr.mono (by decide)) (by rfl) (da_cons (dv 0) da_nil)) da_nil)))))), ?_⟩
    rintro xs μ Q ⟨ds, rfl, rfl, wf, nl, q⟩
    have ez : sizeLine = 16777216 := by decide +kernel
    refine ⟨ds, rfl, rfl, wf.nam, wf.len, fun o kvs mem okk vals knd kl => ?_⟩
    have eo : (fun x => (lookZ kvs x).isSome) = offB ds := by
      funext x
      rw [Bool.eq_iff_iff, offB_iff, lz_mem, mem x, isOffB_iff]
      exact wf.offs
    refine ⟨0, o, _, rfl, ds, o, kvs, rfl, rfl, wf, nl, fun z P O B S St hS => ⟨.dv kvs, plS CP z P O ((rowsOf ds St).map .dat) B S, ?_, ?_⟩⟩
    · rw [eo]
      rfl
    have lr : (rowsOf ds St).length ≤ 64 := by
      unfold rowsOf
      rw [run_len]
      refine Nat.le_trans (List.length_filterMap_le _ _) ?_
      rw [hS.1.length_eq]
      exact wf.len
    exact ⟨⟨1, z.dx, _, rfl, rfl⟩, [(o, .dv kvs)], plS CP z P O ((rowsOf ds St).map .dat) B S, [], rfl, z, P, O, _, B, S, rfl, rfl, by rw [List.length_map]; omega, fun p => ⟨[], [_], rfl, [_], .cons _ (.refl _), q p St hS⟩⟩
end
end Kr
namespace Kr
open PySem PySem.Spec PyProof.Rows L2 Lf Zl
/-! ### what one more deed changes in the places told -/
theorem stepP_eq {off off' : NestedKey → Bool} {s : Sm} {p : Pl} (h : off' p.st = off p.st) : stepP off' s p = stepP off s p := by
  unfold stepP
  rw [h]
theorem fold_congr {off off' : NestedKey → Bool} : ∀ {ps : List Pl} {s : Sm}, (∀ q ∈ ps, off' q.st = off q.st) → ps.foldl (stepP off') s = ps.foldl (stepP off) s
  | [], _, _ => rfl
  | p :: ps, s, h => by
    rw [List.foldl_cons, List.foldl_cons, stepP_eq (h p (List.mem_cons_self ..)), fold_congr fun q hq => h q (List.mem_cons_of_mem _ hq)]
theorem run_congr {off off' : NestedKey → Bool} {ps : List Pl} (h : ∀ q ∈ ps, off' q.st = off q.st) : runP off' ps = runP off ps := fold_congr h
def headD : PyData → PyData
  | .tuple (x :: _) => x
  | x => x
theorem stepP_row {off : NestedKey → Bool} {s : Sm} {p : Pl} : ∃ r, (stepP off s p).rows = s.rows ++ [r] ∧ headD r = datK p.st := by
  unfold stepP
  split
  · exact ⟨_, rfl, rfl⟩
  · split <;> exact ⟨_, rfl, rfl⟩
theorem fold_rows {off : NestedKey → Bool} : ∀ {ps : List Pl} {s : Sm}, ∃ t, (ps.foldl (stepP off) s).rows = s.rows ++ t ∧ t.map headD = ps.map fun p => datK p.st
  | [], s => ⟨[], (List.append_nil _).symm, rfl⟩
  | p :: ps, s => by
    obtain ⟨r, h1, h2⟩ := stepP_row (off := off) (s := s) (p := p)
    obtain ⟨t, h3, h4⟩ := fold_rows (off := off) (ps := ps) (s := stepP off s p)
    refine ⟨r :: t, ?_, ?_⟩
    · rw [List.foldl_cons, h3, h1, List.append_assoc]
      rfl
    · rw [List.map_cons, List.map_cons, h2, h4]
theorem rows_heads {off : NestedKey → Bool} {ps : List Pl} : (runP off ps).rows.map headD = ps.map fun p => datK p.st := by
  obtain ⟨t, h1, h2⟩ := fold_rows (off := off) (ps := ps) (s := ⟨fun _ => none, []⟩)
  unfold runP
  rw [h1, List.nil_append, h2]
theorem run_pre {off : NestedKey → Bool} {ps qs : List Pl} : (runP off (ps ++ qs)).rows.take ps.length = (runP off ps).rows := by
  obtain ⟨t, h1, _⟩ := fold_rows (off := off) (ps := qs) (s := runP off ps)
  have : (runP off (ps ++ qs)).rows = (runP off ps).rows ++ t := by
    rw [← h1]
    unfold runP
    rw [List.foldl_append]
  rw [this, List.take_append_of_le_length (by rw [run_len]; exact Nat.le_refl _), List.take_of_length_le (by rw [run_len]; exact Nat.le_refl _)]
/-- a place that is off now: the rows before it stay, its own is off, there are as many -/
theorem run_off {off off' : NestedKey → Bool} {as bs : List Pl} {p : Pl} (h : ∀ q ∈ as, off' q.st = off q.st) (ho : off' p.st = true) (ne : p.st ≠ p.c) :
    (runP off' (as ++ p :: bs)).rows.take as.length = (runP off (as ++ p :: bs)).rows.take as.length ∧ (runP off' (as ++ p :: bs)).rows[as.length]? = some (rowO p.st) ∧ (runP off' (as ++ p :: bs)).rows.length = (runP off (as ++ p :: bs)).rows.length := by
  refine ⟨by rw [run_pre, run_pre, run_congr h], ?_, by rw [run_len, run_len]⟩
  have e : as ++ p :: bs = (as ++ [p]) ++ bs := by simp
  have h2 := run_pre (off := off') (ps := as ++ [p]) (qs := bs)
  rw [← e, runP_snoc] at h2
  have h3 : stepP off' (runP off' as) p = ⟨(runP off' as).H, (runP off' as).rows ++ [rowO p.st]⟩ := if_pos ⟨ho, ne⟩
  rw [h3] at h2
  have h4 : ((runP off' (as ++ p :: bs)).rows.take (as ++ [p]).length)[as.length]? = some (rowO p.st) := by
    rw [h2]
    show ((runP off' as).rows ++ [rowO p.st])[as.length]? = _
    rw [List.getElem?_append_right (by rw [run_len]; exact Nat.le_refl _), run_len, Nat.sub_self]
    rfl
  rw [List.getElem?_take_of_lt (by simp)] at h4
  exact h4
/-! ### one more deed, behind all -/
theorem ml_irr {d : Deed} : ml d d = false := by
  cases e : ml d d with
  | false => rfl
  | true => exact absurd (ml_asym e) (by rw [e]; simp)
theorem offN_turn {ds : List Deed} {d : Deed} {n0 n : PyData} {w : Str} (t : turnOf d = some (n0, w)) (up : ∀ e ∈ ds, ml e d = true) : OffN (ds ++ [d]) n ↔ (n = n0 ∧ w = "off") ∨ (n ≠ n0 ∧ OffN ds n) := by
  have cut : ∀ {e}, e ∈ ds ++ [d] → e ∈ ds ∨ e = d := fun h => (List.mem_append.mp h).imp id fun h => List.mem_singleton.mp h
  have ind : d ∈ ds ++ [d] := by simp
  constructor
  · rintro ⟨e, he, te, top⟩
    by_cases c : n = n0
    · subst c
      refine .inl ⟨rfl, ?_⟩
      rcases cut he with he' | rfl
      · rcases top d ind w t with q | q
        · rw [q] at t
          rw [te] at t
          cases t
          rfl
        · rw [ml_asym (up e he')] at q
          cases q
      · rw [te] at t
        cases t
        rfl
    · refine .inr ⟨c, ?_⟩
      rcases cut he with he' | rfl
      · exact ⟨e, he', te, fun e2 h2 w' t' => top e2 (List.mem_append_left _ h2) w' t'⟩
      · rw [te] at t
        cases t
        exact absurd rfl c
  · rintro (⟨rfl, rfl⟩ | ⟨c, e, he, te, top⟩)
    · exact ⟨d, ind, t, fun e he w' _ => (cut he).elim (fun z => .inr (up e z)) .inl⟩
    · refine ⟨e, List.mem_append_left _ he, te, fun e2 h2 w' t' => ?_⟩
      rcases cut h2 with h2 | rfl
      · exact top e2 h2 w' t'
      · rw [t] at t'
        cases t'
        exact absurd rfl c
theorem offN_none {ds : List Deed} {d : Deed} {n : PyData} (t : turnOf d = none) : OffN (ds ++ [d]) n ↔ OffN ds n := by
  have cut : ∀ {e}, e ∈ ds ++ [d] → e ∈ ds ∨ e = d := fun h => (List.mem_append.mp h).imp id fun h => List.mem_singleton.mp h
  constructor
  · rintro ⟨e, he, te, top⟩
    rcases cut he with he' | rfl
    · exact ⟨e, he', te, fun e2 h2 w' t' => top e2 (List.mem_append_left _ h2) w' t'⟩
    · rw [t] at te
      cases te
  · rintro ⟨e, he, te, top⟩
    refine ⟨e, List.mem_append_left _ he, te, fun e2 h2 w' t' => ?_⟩
    rcases cut h2 with h2 | rfl
    · exact top e2 h2 w' t'
    · rw [t] at t'
      cases t'
theorem srt_snoc {ds S : List Deed} {d : Deed} (h : Srt ds S) (up : ∀ e ∈ ds, ml e d = true) : Srt (ds ++ [d]) (S ++ [d]) := by
  refine ⟨h.1.append_right _, List.pairwise_append.mpr ⟨h.2, List.pairwise_singleton .., fun a ha b hb => ?_⟩⟩
  rw [List.mem_singleton.mp hb]
  exact up a (h.1.mem_iff.mp ha)
/-- a deed that makes no place, behind all the others -/
theorem Wf.snoc {ds : List Deed} {d : Deed} (W : Wf ds) (df : DF d) (tp : toPl d = none) (np : ∀ c x q, d.act ≠ .tuple [.str "place", c, x, q]) (up : ∀ e ∈ ds, ml e d = true) (nn : ∀ e ∈ ds, e.name ≠ d.name) (tr : ∀ n w, turnOf d = some (n, w) → ∃ e ∈ ds, e.name = n) (l : ds.length < 64) : Wf (ds ++ [d]) := by
  have cut : ∀ {e}, e ∈ ds ++ [d] → e ∈ ds ∨ e = d := fun h => (List.mem_append.mp h).imp id fun h => List.mem_singleton.mp h
  have alk : ∀ e ∈ ds, ¬ Alk e d := fun e he a => by
    have h := up e he
    rw [ml_is, if_pos a.1, if_pos a.2] at h
    cases h
  have mk : ∀ {e x}, Made ds e x → Made (ds ++ [d]) e x := fun ⟨f, hf, q⟩ => ⟨f, List.mem_append_left _ hf, q⟩
  refine ⟨⟨fun e he => (cut he).elim (W.df e) fun z => by rw [z]; exact df, fun e he n w t => ?_, fun e he f hf a => ?_, ?_, by rw [List.length_append, List.length_singleton]; omega⟩, fun e he p t => ?_, fun e he p t => ?_, fun e he c x q t => ?_⟩
  · rcases cut he with he | rfl
    · obtain ⟨f, hf, q⟩ := W.tr e he n w t
      exact ⟨f, List.mem_append_left _ hf, q⟩
    · obtain ⟨f, hf, q⟩ := tr n w t
      exact ⟨f, List.mem_append_left _ hf, q⟩
  · rcases cut he with he1 | he1
    · rcases cut hf with hf1 | hf1
      · exact W.un e he1 f hf1 a
      · rw [hf1] at a
        exact absurd a (alk e he1)
    · rcases cut hf with hf1 | hf1
      · rw [he1] at a
        exact absurd ⟨a.1.symm, a.2.symm⟩ (alk f hf1)
      · rw [he1, hf1]
  · rw [List.map_append, List.nodup_append]
    refine ⟨W.nd, by simp, fun a ha b hb => ?_⟩
    obtain ⟨e, he, rfl⟩ := List.mem_map.mp ha
    have hb : b = d.name := by simpa using hb
    rw [hb]
    exact nn e he
  · rcases cut he with he | rfl
    · exact (W.par e he p t).imp id mk
    · rw [tp] at t
      cases t
  · rcases cut he with he | rfl
    · exact (W.cel e he p t).imp id mk
    · rw [tp] at t
      cases t
  · rcases cut he with he | rfl
    · exact mk (W.plc e he c x q t)
    · exact absurd t (np c x q)
end Kr
namespace Kr
open PySem PySem.Spec PyProof.Rows L2 Lf Zl
/-! ### other hands' names, the order kept -/
def qH (h : Str) : Str := "q" ++ h
theorem qH_up : ∀ h ∈ hands0, qH h ∈ hands4 := by decide +kernel
theorem qH_inj : ∀ a ∈ hands0, ∀ b ∈ hands0, qH a = qH b → a = b := by decide +kernel
theorem qH_lt : ∀ a ∈ hands0, ∀ b ∈ hands0, decide ((qH a).cps.toList < (qH b).cps.toList) = decide (a.cps.toList < b.cps.toList) := by decide +kernel
def Nk0 (x : NestedKey) : Prop := x = .none ∨ ∃ h ∈ hands0, ∃ k : Nat, k < 64 ∧ x = nmK h k
def qK : NestedKey → NestedKey
  | .tup [.text h, .num k] => .tup [.text (qH h), .num k]
  | x => x
theorem qK_nam {h : Str} {k : Nat} : qK (nmK h k) = nmK (qH h) k := rfl
theorem qK_inj {x y : NestedKey} (hx : Nk0 x) (hy : Nk0 y) (e : qK x = qK y) : x = y := by
  rcases hx with rfl | ⟨a, ha, j, _, rfl⟩
  · rcases hy with rfl | ⟨b, hb, k, _, rfl⟩
    · rfl
    · cases e
  · rcases hy with rfl | ⟨b, hb, k, _, rfl⟩
    · cases e
    · rw [qK_nam, qK_nam] at e
      unfold nmK at e
      simp only [NestedKey.tup.injEq, List.cons.injEq, NestedKey.text.injEq, NestedKey.num.injEq, and_true] at e
      rw [qH_inj a ha b hb e.1, Int.ofNat.inj e.2]
theorem qK_none {x : NestedKey} (hx : Nk0 x) : qK x = .none ↔ x = .none := by
  rcases hx with rfl | ⟨a, ha, j, _, rfl⟩
  · exact ⟨fun _ => rfl, fun _ => rfl⟩
  · exact ⟨fun z => (by cases z), fun z => (by cases z)⟩
/-- what is laid down otherwise named -/
def HQ (H H' : Hm) : Prop := ∀ x, Nk0 x → H' (qK x) = (H x).map fun z => (qK z.1, qK z.2)
def H0 (H : Hm) : Prop := ∀ x z, H x = some z → Nk0 x ∧ Nk0 z.1 ∧ Nk0 z.2
theorem Way.nk0 {H : Hm} (h0 : H0 H) {x : NestedKey} {l : List NestedKey} (w : Way H x l) : ∀ y ∈ l, Nk0 y := fun y hy => by
  obtain ⟨_, z, e⟩ := w.mem y hy
  exact (h0 y z e).1
theorem Way.q {H H' : Hm} (h0 : H0 H) (hq : HQ H H') {x : NestedKey} {l : List NestedKey} (w : Way H x l) : Nk0 x → Way H' (qK x) (l.map qK) := by
  induction w with
  | stop => exact fun _ => .stop
  | @up x s q l n e w ih =>
    intro hx
    obtain ⟨_, _, h3⟩ := h0 _ _ e
    refine .up (s := qK s) (fun z => n ((qK_none hx).mp z)) ?_ (ih h3)
    rw [hq x hx, e]
    rfl
theorem mem_q {c : NestedKey} {l : List NestedKey} (hc : Nk0 c) (hl : ∀ y ∈ l, Nk0 y) : qK c ∈ l.map qK ↔ c ∈ l := by
  constructor
  · intro h
    obtain ⟨y, hy, e⟩ := List.mem_map.mp h
    rw [← qK_inj (hl y hy) hc e]
    exact hy
  · exact fun h => List.mem_map_of_mem h
theorem upto_q {c : NestedKey} : ∀ {l : List NestedKey}, Nk0 c → (∀ y ∈ l, Nk0 y) → upto (qK c) (l.map qK) = (upto c l).map qK
  | [], _, _ => rfl
  | x :: l, hc, hl => by
    have ih := upto_q (c := c) (l := l) hc fun y hy => hl y (List.mem_cons_of_mem _ hy)
    unfold upto at ih ⊢
    rw [List.map_cons, List.takeWhile_cons, List.takeWhile_cons]
    by_cases e : x = c
    · subst e
      simp
    · have e2 : qK x ≠ qK c := fun z => e (qK_inj (hl x (List.mem_cons_self ..)) hc z)
      rw [if_pos (decide_eq_true e2), if_pos (decide_eq_true e), List.cons_append, ih, List.cons_append, List.map_cons]
/-- a row otherwise named -/
def rowQ : PyData → PyData
  | .tuple [n, .str w, .tuple l] => .tuple [datK (qK (kN n)), .str w, .tuple (l.map fun y => datK (qK (kN y)))]
  | .tuple [n, w, x] => .tuple [datK (qK (kN n)), w, x]
  | x => x
theorem kN_datK {x : NestedKey} : kN (datK x) = x := by
  unfold kN
  rw [keyD_datK]
  rfl
theorem rowQ_D {st : NestedKey} {w : Str} {l : List NestedKey} : rowQ (rowD st w l) = rowD (qK st) w (l.map qK) := by
  show PyData.tuple [datK (qK (kN (datK st))), .str w, .tuple ((l.map datK).map fun y => datK (qK (kN y)))] = _
  rw [kN_datK, List.map_map]
  unfold rowD
  rw [List.map_map]
  have e : l.map ((fun y => datK (qK (kN y))) ∘ datK) = l.map (datK ∘ qK) := List.map_congr_left fun y _ => by
    show datK (qK (kN (datK y))) = _
    rw [kN_datK]
    rfl
  rw [e]
theorem rowQ_O {st : NestedKey} : rowQ (rowO st) = rowO (qK st) := by
  show PyData.tuple [datK (qK (kN (datK st))), .str "off", .none] = _
  rw [kN_datK]
  rfl
structure P0 (a b : Pl) : Prop where
  st : Nk0 a.st
  c : Nk0 a.c
  p : Nk0 a.p
  st' : b.st = qK a.st
  c' : b.c = qK a.c
  p' : b.p = qK a.p
theorem step_q {off off' : NestedKey → Bool} {s s' : Sm} {p p' : Pl} {as : List Pl} (ok : HOk s.H as) (co : Cond as p) (h0 : H0 s.H) (hq : HQ s.H s'.H) (hr : s'.rows = s.rows.map rowQ) (k : P0 p p') (ho : off' (qK p.st) = off p.st) :
    H0 (stepP off s p).H ∧ HQ (stepP off s p).H (stepP off' s' p').H ∧ (stepP off' s' p').rows = (stepP off s p).rows.map rowQ := by
  obtain ⟨l, wl⟩ := ok.ways co.par
  have wq := wl.q h0 hq k.p
  have nl := wl.nk0 h0
  unfold stepP
  rw [k.st', k.c', k.p', ho, way_is wl, way_is wq]
  have ne : (qK p.st ≠ qK p.c) ↔ p.st ≠ p.c := not_congr ⟨qK_inj k.st k.c, fun z => by rw [z]⟩
  by_cases c1 : off p.st = true ∧ p.st ≠ p.c
  · have c1' : off p.st = true ∧ qK p.st ≠ qK p.c := ⟨c1.1, ne.mpr c1.2⟩
    rw [if_pos c1, if_pos c1']
    refine ⟨h0, hq, ?_⟩
    rw [hr, List.map_append, List.map_singleton, rowQ_O]
  · have c1' : ¬ (off p.st = true ∧ qK p.st ≠ qK p.c) := fun z => c1 ⟨z.1, ne.mp z.2⟩
    rw [if_neg c1, if_neg c1']
    by_cases c2 : p.c ∈ l
    · have c2' : qK p.c ∈ l.map qK := (mem_q k.c nl).mpr c2
      rw [if_pos c2, if_pos c2']
      refine ⟨h0, hq, ?_⟩
      rw [hr, List.map_append, List.map_singleton, rowQ_D, upto_q k.c nl]
    · have c2' : ¬ qK p.c ∈ l.map qK := fun z => c2 ((mem_q k.c nl).mp z)
      rw [if_neg c2, if_neg c2']
      refine ⟨fun x z e => ?_, fun x hx => ?_, ?_⟩
      · have e : (if x = p.c then some (p.st, p.p) else s.H x) = some z := e
        by_cases ex : x = p.c
        · rw [if_pos ex] at e
          cases e
          rw [ex]
          exact ⟨k.c, k.st, k.p⟩
        · rw [if_neg ex] at e
          exact h0 x z e
      · show (if qK x = qK p.c then some (qK p.st, qK p.p) else s'.H (qK x)) = Option.map _ (if x = p.c then some (p.st, p.p) else s.H x)
        by_cases ex : x = p.c
        · rw [if_pos (by rw [ex]), if_pos ex]
          rfl
        · rw [if_neg fun z => ex (qK_inj hx k.c z), if_neg ex]
          exact hq x hx
      · rw [hr, List.map_append, List.map_singleton, rowQ_D]
end Kr
namespace Kr
open PySem PySem.Spec PyProof.Rows L2 Lf Zl
local macro_rules | `(tactic| walk_at "sub") => `(tactic| first | exact List.nil_sublist _ | (refine .cons₂ _ ?_; walk_at "sub") | (refine .cons _ ?_; walk_at "sub"))
def HeadH (S : List (NestedKey × Val)) (H : Hm) : Prop := ∀ x, lookZ S x = (H x).map fun z => kv z.2
section
variable {P : Program} {w : World} {K : PySem.W.Frag} {mg : Str → Option Value} {base : Heap}
/-- every way up ends -/
def fForest : DSp := fun xs μ Q => ∃ (h : Addr) (S : List (NestedKey × Val)) (H : Hm), xs = [.ptr h] ∧ μ = [(h, .dv S)] ∧ HeadH S H ∧ S.length ≤ 64 ∧ (∀ p ∈ S, ∃ l, Way H p.1 l ∧ l.length ≤ S.length ∧ ∀ y ∈ l, Nk y) ∧ Q (.dat (.bool true)) [(h, .dv S)]
abbrev sForest : Stmt := topS 23
theorem scForest : FnScope ["_law_heads", "_law_cell", "_law_many", "_law_spot"] ["_law_heads"] (defScope sForest) := ⟨rfl, rfl, rfl, by decide +kernel, rfl, by decide +kernel, by decide +kernel⟩
theorem ok_forest {f : Addr} {fd : FuncData} (F : Fun K "_law_forest" "_law_forest" sForest f fd) (T : Bs mg) : FnOk P w K mg base CX0 1 f fd ["_law_heads"] (spZ w K fForest) := by
  refine Fun.okZ F scForest (fun xs μ Q h => ?_) (fun cdv A outer s H E hr => ?_)
  · obtain ⟨h, S, H, rfl, _⟩ := h
    rfl
  · have nd := scForest.nd
    refine ⟨_, (dss_cons (ds_lock (ds_for PassesOwn.never rfl (di_keys (dv 0)) (dg_name (i := 1) nd rfl (Or.inl rfl))
  (dss_cons (ds_set (i := 2) nd rfl (Or.inl rfl) d_int)
  (dss_cons (ds_set (i := 3) nd rfl (Or.inl rfl) (dv 1))
  (dss_cons (ds_whileN PassesOwn.never (DW.dt (dw_and (dt_cmp oz_notN (dv 3) d_non (nomark _)) (dw_and1 (dt_cmp (oz_le hr.units) (dv 2) (d_callB (ca_dlen) (by rfl) T.len PySem.boot_len (da_cons (dv 0) da_nil)) (nomark _)))))
  (dss_cons (ds_set (i := 3) nd rfl (Or.inl rfl) (d_dix hr.units (dv 0) (dv 3) (fun _ _ => rfl)))
  (dss_one (ds_set (i := 2) nd rfl (Or.inl rfl) (d_bin oz_add (dv 2) d_int)))))
  (dss_one (ds_if (dt_cmp oz_notN (dv 3) d_non (nomark _))
  (dss_one (ds_ret d_bl))
  dss_nil)))))))
  (dss_one (ds_ret d_bl))), ?_⟩
    rintro xs μ Q ⟨h, S, H, rfl, rfl, hS, hl, hw, q⟩
    have ez : sizeLine = 16777216 := by decide +kernel
    refine ⟨h, 0, S, rfl, fun od ks => ?_⟩
    refine ⟨0, od, ks, S, rfl, fun n ρ μ => ∃ (y1 y2 y3 : Option Val), ρ = [some (.ptr h), y1, y2, y3] ∧ μ = [(h, .dvl od ks S)], ⟨_, _, _, rfl, rfl⟩, fun n ρ μ _ hh => ?_, ?_, ?_⟩
    · obtain ⟨_, _, _, _, e⟩ := hh
      rw [e]
      exact ⟨0, rfl⟩
    · rintro n y ρ μ hy ⟨y1, y2, y3, rfl, rfl⟩
      unfold keysZ at hy
      obtain ⟨q0, hkv, rfl⟩ := Option.map_eq_some_iff.mp (by rw [← List.getElem?_map]; exact hy)
      obtain ⟨l, wl, ll, nl⟩ := hw q0 (List.mem_of_getElem? hkv)
      refine ⟨fun m ρ μ => ∃ (k : Nat) (x : NestedKey) (r : List NestedKey), m = r.length ∧ k + r.length = l.length ∧ Way H x r ∧ (∀ y ∈ r, Nk y) ∧ ρ = [some (.ptr h), some (kv q0.1), some (.dat (.int (k : Nat))), some (kv x)] ∧ μ = [(h, .dvl od ks S)], ⟨_, 0, q0.1, l, rfl, Nat.zero_add _, wl, nl, rfl, rfl⟩, ?_⟩
      rintro m ρ μ ⟨k, x, r, rfl, el, wx, nr, rfl, rfl⟩
      refine is_kv (g := not) ?_
      refine ite2 (fun c0 => ?_) (fun c0 => ite2 (fun z => (Bool.false_ne_true z).elim) fun _ => ?_)
      · have c' : x ≠ .none := by simpa using c0
        rcases wx.inv with ⟨h, _⟩ | ⟨s1, q1, r, _, e1, w1, rfl⟩
        · exact absurd h c'
        have nx : Nk x := nr x (List.mem_cons_self ..)
        rw [List.length_cons] at el
        refine ⟨S, .lck 0 rfl, ?_⟩
        refine ite2 (fun _ => ?_) (fun z => absurd (decide_eq_true (by omega)) z)
        exact ⟨S, x, kv q1, .lck 0 rfl, keyD_datK _, nx.key, (by rw [hS, e1]; rfl), _, .refl _, r.length, Nat.lt_succ_self _, k + 1, q1, r, rfl, by omega, w1, fun y hy => nr y (List.mem_cons_of_mem _ hy), rfl, rfl⟩
      · have c' : x = .none := by simpa using c0
        subst c'
        exact ⟨_, .refl _, _, _, _, rfl, rfl⟩
    · rintro ρ μ ⟨y1, y2, y3, rfl, rfl⟩
      exact ⟨0, rfl, _, .refl _, q⟩
end
end Kr
namespace Kr
open PySem PySem.Spec PyProof.Rows L2 Lf Zl
local macro_rules | `(tactic| walk_at "sub") => `(tactic| first | exact List.nil_sublist _ | (refine .cons₂ _ ?_; walk_at "sub") | (refine .cons _ ?_; walk_at "sub"))
def cnt (ds : List Deed) (h : Str) : Nat := (ds.filter fun d => decide (d.h = h)).length
theorem cnt_snoc {ds : List Deed} {d : Deed} {h : Str} : cnt (ds ++ [d]) h = if d.h = h then cnt ds h + 1 else cnt ds h := by
  unfold cnt
  rw [List.filter_append, List.length_append, List.filter_cons]
  by_cases e : d.h = h
  · rw [if_pos (decide_eq_true e), if_pos e]
    rfl
  · rw [if_neg (by simpa using e), if_neg e]
    rfl
section
variable {P : Program} {w : World} {K : PySem.W.Frag} {mg : Str → Option Value} {base : Heap}
/-- one more deed of the hand m -/
def fNext : DSp := fun xs μ Q => ∃ (ds : List Deed) (act : PyData), xs = [.dat (.list (ds.map Deed.D)), .dat act] ∧ μ = [] ∧ ds.length ≤ 64 ∧ (∀ d ∈ ds, d.h ∈ hands4) ∧
  ∀ (st : Int) (seen : List (Str × Int)), 0 ≤ st → (∀ d ∈ ds, d.st < st) → (st = 0 ∨ ∃ d ∈ ds, st = d.st + 1) → (∀ p ∈ seen, ∃ d ∈ ds, d.h = p.1) → Q (.dat (Deed.D ⟨"m", cnt ds "m", st, seen, act⟩)) []
abbrev sNext : Stmt := topS 24
theorem scNext : FnScope ["_law_deeds_here", "_law_act_here", "_law_many", "_law_deed", "_law_stamp", "_law_seen", "_law_hand"] ["_law_deeds_here", "_law_act_here"] (defScope sNext) := ⟨rfl, rfl, rfl, by decide +kernel, rfl, by decide +kernel, by decide +kernel⟩
theorem ok_next {f : Addr} {fd : FuncData} (F : Fun K "_law_next" "_law_next" sNext f fd) (T : Bs mg) : FnOk P w K mg base CX0 1 f fd ["_law_deeds_here", "_law_act_here"] (spZ w K fNext) := by
  refine Fun.okZ F scNext (fun xs μ Q h => ?_) (fun cdv A outer s H E hr => ?_)
  · obtain ⟨ds, act, rfl, _⟩ := h
    rfl
  · have nd := scNext.nd
    refine ⟨_, (dss_cons (ds_set (i := 2) nd rfl (Or.inr rfl) d_dnew)
  (dss_cons (ds_for PassesOwn.never rfl (di_seq (dv 0)) (dg_name (i := 3) nd rfl (Or.inl rfl))
  (dss_one (ds_dput hr.units (dv 2) (d_ix (dv 3) d_int (fun _ _ => rfl)) (d_bin oz_add (d_dget hr.units (dv 2) (d_ix (dv 3) d_int (fun _ _ => rfl)) d_int ⟨by rfl, by rfl, by rfl, by rfl⟩) d_int) rfl)))
  (dss_cons (ds_set (i := 4) nd rfl (Or.inl rfl) (d_bin oz_add (d_callB (ca_maxL rfl) (by rfl) T.max (by decide +kernel) (da_cons (d_bin oz_add (d_lst (da_cons (d_neg d_int) da_nil)) (d_lc (own := [("_law_deed", 3)]) rfl nd (di_seq (dv 0)) (blkOk_by (own := [("_law_deed", 3)]) (N := ["_law_deeds_here", "_law_act_here", "_law_many", "_law_deed", "_law_stamp", "_law_seen", "_law_hand"]) (sc := defScope (topS 24)) (by decide +kernel)) (put_name (i := 3) (by decide)) (fun _ _ _ _ _ => (pg_name (i := 3) nd rfl (Or.inl rfl))) (fun _ _ _ _ _ => dts_nil) (fun _ _ _ _ _ => (d_ix (dv 3) d_int (fun _ _ => rfl))))) da_nil)) d_int))
  (dss_cons (ds_set (i := 5) nd rfl (Or.inl rfl) (d_callTy ca_tuple (by rfl) T.tuple (by decide +kernel) (da_cons (d_lc (own := [("_law_hand", 6)]) rfl nd (di_seq (d_callB (ca_sortT rfl) (by rfl) T.sorted (by decide +kernel) (da_cons (dv 2) da_nil))) (blkOk_by (own := [("_law_hand", 6)]) (N := ["_law_deeds_here", "_law_act_here", "_law_many", "_law_deed", "_law_stamp", "_law_seen", "_law_hand"]) (sc := defScope (topS 24)) (by decide +kernel)) (put_name (i := 6) (by decide)) (fun _ _ _ _ _ => (pg_name (i := 6) nd rfl (Or.inl rfl))) (fun _ _ _ _ _ => dts_nil) (fun _ _ _ _ _ => (d_tup (da_cons (dv 6) (da_cons (d_dix hr.units (dv 2) (dv 6) (fun _ _ => rfl)) da_nil))))) da_nil)))
  (dss_one (ds_ret (d_tup (da_cons d_str (da_cons (d_dget hr.units (dv 2) d_str d_int ⟨by rfl, by rfl, by rfl, by rfl⟩) (da_cons (dv 4) (da_cons (dv 5) (da_cons (dv 1) da_nil)))))))))))), ?_⟩
    rintro xs μ Q ⟨ds, act, rfl, rfl, hl, h4, q⟩
    have ez : sizeLine = 16777216 := by decide +kernel
    refine fun md => ?_
    refine ⟨fun i ρ μ => ∃ (y3 y4 y5 y6 : Option Val) (k : Heard), ρ = [some (.dat (.list (ds.map Deed.D))), some (.dat act), some (.ptr md), y3, y4, y5, y6] ∧ μ = [(md, .dv (hzV k))] ∧ (k.map (·.1)).Nodup ∧ k.length ≤ i ∧ (∀ h, num k h = (cnt (ds.take i) h : Nat)) ∧ ∀ p ∈ k, ∃ d ∈ ds, d.h = p.1, ⟨_, _, _, _, [], rfl, rfl, .nil, Nat.le_refl _, fun _ => rfl, fun _ h => by cases h⟩, fun _ _ _ _ _ => trivial, ?_, ?_⟩
    · rintro i y ρ μ hy ⟨y3, y4, y5, y6, k, rfl, rfl, knd, kl, kn, km⟩
      rw [List.map_map] at hy
      obtain ⟨d, hd, rfl⟩ := Option.map_eq_some_iff.mp (by rw [← List.getElem?_map]; exact hy)
      have hlt := (List.getElem?_eq_some_iff.mp hd).1
      have et : ds.take (i + 1) = ds.take i ++ [d] := by rw [List.take_succ, hd]; rfl
      have dg : (lookZ (hzV k) (.text d.h)).getD (.dat (.int 0)) = .dat (.int (num k d.h)) := by
        rw [look_hz]
        unfold num
        cases gi k d.h <;> rfl
      refine ⟨⟨hzV k, .own 0 rfl⟩, .str d.h, rfl, hzV k, .text d.h, .own 0 rfl, rfl, key_text _, ?_⟩
      rw [dg]
      refine ⟨.str d.h, rfl, 0, hzV k, .text d.h, rfl, rfl, key_text _, by unfold hzV txtZ; rw [List.length_map, List.length_map, ez]; omega, ?_⟩
      refine ⟨_, .refl _, _, _, _, _, pi k d.h (num k d.h + 1), rfl, by rw [put_hz]; rfl, pi_nd knd, Nat.le_trans pi_len (by omega), fun h => ?_, fun p hp => ?_⟩
      · rw [num_pi, et, cnt_snoc]
        by_cases e : d.h = h
        · rw [if_pos e, if_pos e, kn d.h, e]
          omega
        · rw [if_neg e, if_neg e]
          exact kn h
      · rcases pi_keys.mp (List.mem_map_of_mem (f := (·.1)) hp) with h | h
        · obtain ⟨p', hp', e⟩ := List.mem_map.mp h
          obtain ⟨d', hd', e'⟩ := km p' hp'
          exact ⟨d', hd', e'.trans e⟩
        · exact ⟨d, List.mem_of_getElem? hd, h.symm⟩
    · rintro ρ μ ⟨y3, y4, y5, y6, k, rfl, rfl, knd, kl, kn, km⟩
      rw [List.length_map, List.length_map] at kl
      rw [List.length_map, List.length_map, List.take_length] at kn
      refine ⟨(by decide : 1 ≤ sizeLine), fun p1 => ?_⟩
      refine ⟨fun n acc μ => μ = [(md, .dv (hzV k)), (p1, .lst [.dat (.int (-1))])] ∧ acc = (ds.take n).map fun d => Val.dat (.int d.st), ⟨rfl, rfl⟩, fun _ _ _ _ _ => trivial, ?_, ?_⟩
      · rintro n y acc μ hy ⟨rfl, rfl⟩
        obtain ⟨d, hd, rfl⟩ := Option.map_eq_some_iff.mp (by rw [List.map_map, List.getElem?_map] at hy; exact hy)
        have et : ds.take (n + 1) = ds.take n ++ [d] := by rw [List.take_succ, hd]; rfl
        refine ⟨_, rfl, _, rfl, by rw [List.length_map, List.length_take, ez]; omega, _, .refl _, rfl, ?_⟩
        rw [et, List.map_append]
        rfl
      rintro acc μ ⟨rfl, rfl⟩ p2
      rw [List.length_map, List.length_map, List.take_length]
      refine ⟨_, _, .p 1 rfl, .p 2 rfl, by rw [List.length_map, ez]; show 1 + _ ≤ _; omega, fun p3 => ?_⟩
      refine ⟨3, _, rfl, ⟨3, _, rfl⟩, -1 :: ds.map (·.st), by rw [List.map_cons, List.map_map]; rfl, Nat.succ_pos _, fun m hm hle => ?_⟩
      have mst : ∀ d ∈ ds, d.st < m + 1 := fun d hd => by
        have := hle d.st (List.mem_cons_of_mem _ (List.mem_map_of_mem (f := Deed.st) hd))
        omega
      have m0 : 0 ≤ m + 1 := by
        have := hle (-1) (List.mem_cons_self ..)
        omega
      have mex : m + 1 = 0 ∨ ∃ d ∈ ds, m + 1 = d.st + 1 := by
        rcases List.mem_cons.mp hm with h | h
        · left
          omega
        · obtain ⟨d, hd, e⟩ := List.mem_map.mp h
          right
          exact ⟨d, hd, by rw [e]⟩
      have k9 : k.length ≤ 9 := by
        have := len_sub (l2 := hands4) knd fun x hx => by
          obtain ⟨p, hp, rfl⟩ := List.mem_map.mp hx
          obtain ⟨d, hd, e⟩ := km p hp
          rw [← e]
          exact h4 d hd
        rw [List.length_map] at this
        exact this
      refine ⟨k.map (fun p => (p.1, Val.dat (.int p.2))), .own 0 rfl, by rw [List.length_map]; omega, fun ys so hys _ => ?_⟩
      rw [List.map_map] at hys
      have mys : ∀ y ∈ ys, y ∈ k.map (·.1) := fun y hy => hys.mem_iff.mp hy
      have lys : ys.length ≤ 64 := by
        rw [hys.length_eq, List.length_map]
        omega
      refine ⟨4, _, rfl, fun n acc μ => μ = [(md, .dv (hzV k)), (p1, .lst [.dat (.int (-1))]), (p2, .lst (ds.map fun d => Val.dat (.int d.st))), (p3, .lst ([.dat (.int (-1))] ++ ds.map fun d => Val.dat (.int d.st))), (so, .lst (ys.map fun y => Val.dat (.str y)))] ∧ acc = (ys.take n).map (fun y => Val.dat (.tuple [.str y, .int (num k y)])), ⟨rfl, rfl⟩, fun _ _ _ _ h => ⟨4, by rw [h.1]; rfl⟩, ?_, ?_⟩
      · rintro n y acc μ hy ⟨rfl, rfl⟩
        obtain ⟨yy, hyy, rfl⟩ := Option.map_eq_some_iff.mp (by rw [← List.getElem?_map]; exact hy)
        have et : ys.take (n + 1) = ys.take n ++ [yy] := by rw [List.take_succ, hyy]; rfl
        obtain ⟨pp, hpp, rfl⟩ := List.mem_map.mp (mys yy (List.mem_of_getElem? hyy))
        have gp : gi k pp.1 = some pp.2 := gi_mem knd hpp
        have np : num k pp.1 = pp.2 := by unfold num; rw [gp]; rfl
        refine ⟨_, rfl, hzV k, .text pp.1, .dat (.int pp.2), .own 0 rfl, rfl, key_text _, by rw [look_hz, gp]; rfl, ?_⟩
        refine ⟨(by decide : 2 ≤ sizeLine), by rw [List.length_map, List.length_take, ez]; omega, _, .refl _, rfl, ?_⟩
        rw [et, List.map_append, ← np]
        rfl
      rintro acc μ ⟨rfl, rfl⟩ lq
      rw [List.length_map, List.take_length]
      let sl : List (Str × Int) := ys.map fun y => (y, num k y)
      have esl : datOf (ys.map (fun y => Val.dat (.tuple [.str y, .int (num k y)]))) = some (sl.map fun p => PyData.tuple [.str p.1, .int p.2]) := by
        rw [← datOf_map (sl.map fun p => PyData.tuple [.str p.1, .int p.2]), List.map_map, List.map_map]
        rfl
      refine ⟨5, _, rfl, _, esl, ?_⟩
      have dg : (lookZ (hzV k) (.text "m")).getD (.dat (.int 0)) = .dat (.int (num k "m")) := by
        rw [look_hz]
        unfold num
        cases gi k "m" <;> rfl
      refine ⟨⟨hzV k, .own 0 rfl⟩, hzV k, .text "m", .own 0 rfl, rfl, key_text _, ?_⟩
      rw [dg, kn]
      refine ⟨(by show 5 ≤ sizeLine; decide), [], List.nil_sublist _, q (m + 1) sl m0 mst mex fun p hp => ?_⟩
      obtain ⟨y, hy, rfl⟩ := List.mem_map.mp hp
      obtain ⟨pp, hpp, e⟩ := List.mem_map.mp (mys y hy)
      obtain ⟨d, hd, e2⟩ := km pp hpp
      exact ⟨d, hd, e2.trans e⟩
end
end Kr
namespace Kr
open PySem PySem.Spec PyProof.Rows L2 Lf Zl
local macro_rules | `(tactic| walk_at "sub") => `(tactic| first | exact List.nil_sublist _ | (refine .cons₂ _ ?_; walk_at "sub") | (refine .cons _ ?_; walk_at "sub"))
def notName : List PyData → Bool
  | .str _ :: .int _ :: _ => false
  | .str _ :: .bool _ :: _ => false
  | _ => true
/-- data otherwise named, n deep -/
inductive Cal : Nat → PyData → PyData → Prop
  | name {n : Nat} {h : Str} {k : Int} {r : List PyData} : h.length ≤ 100 → r.length ≤ 1000 → Cal (n + 1) (.tuple (.str h :: .int k :: r)) (.tuple (.str (qH h) :: .int k :: r))
  | tup {n : Nat} {ds es : List PyData} : notName ds = true → ds.length ≤ 1000 → ds.length = es.length → (∀ (i : Nat) (d e : PyData), ds[i]? = some d → es[i]? = some e → Cal n d e) → Cal (n + 1) (.tuple ds) (.tuple es)
  | other {n : Nat} {d : PyData} : (∀ ds, d ≠ .tuple ds) → (∀ ds, d ≠ .dict ds) → Cal (n + 1) d d
theorem kTT : kitB "tuple" "tuple" = some true := by decide +kernel
theorem kSS : kitB "str" "str" = some true := by decide +kernel
theorem kII : kitB "int" "int" = some true := by decide +kernel
theorem kBI : kitB "bool" "int" = some true := by decide +kernel
theorem k_no : kitB "NoneType" "tuple" = some false ∧ kitB "bool" "tuple" = some false ∧ kitB "int" "tuple" = some false ∧ kitB "str" "tuple" = some false ∧ kitB "list" "tuple" = some false := by decide +kernel
theorem k_str : kitB "NoneType" "str" = some false ∧ kitB "bool" "str" = some false ∧ kitB "int" "str" = some false ∧ kitB "tuple" "str" = some false ∧ kitB "list" "str" = some false ∧ kitB "dict" "str" = some false := by decide +kernel
theorem k_int : kitB "NoneType" "int" = some false ∧ kitB "str" "int" = some false ∧ kitB "tuple" "int" = some false ∧ kitB "list" "int" = some false ∧ kitB "dict" "int" = some false := by decide +kernel
theorem cut_one {α : Type} {x : α} {l : List α} : cutG (x :: l) (some 1) none = l := by
  have e1 : HT.sIx (x :: l).length 0 (some 1) = 1 := by
    show (if (1 : Int) < 0 then ((1 : Int) + ((x :: l).length : Nat)).toNat else min (1 : Int).toNat (x :: l).length) = 1
    rw [if_neg (by omega), List.length_cons]
    omega
  have e2 : HT.sIx (x :: l).length (x :: l).length none = (x :: l).length := rfl
  unfold cutG
  rw [e1, e2, List.length_cons]
  simp
theorem at_two {α : Type} {x y : α} {r : List α} : atI (x :: y :: r) 1 = some y := atI_nat (j := 1) rfl
theorem dss_never {X : Cx} {ss : List Stmt} : DSs X ss (fun _ _ _ => False) := ⟨fun B => ⟨fun pins s σ H D I h => by
  obtain ⟨_, _, _, _, h, _⟩ := h
  exact h.elim⟩⟩
section
variable {P : Program} {w : World} {K : PySem.W.Frag} {mg : Str → Option Value} {base : Heap}
def fCalled (n : Nat) : DSp := fun xs μ Q => ∃ d e, xs = [.dat d] ∧ μ = [] ∧ Cal n d e ∧ Q (.dat e) []
abbrev sCalled : Stmt := topS 26
theorem scCalled : FnScope ["_law_thing", "_law_part"] ["_law_thing"] (defScope sCalled) := ⟨rfl, rfl, rfl, by decide +kernel, rfl, by decide +kernel, by decide +kernel⟩
theorem ok_called0 {f : Addr} {fd : FuncData} (F : Fun K "_law_called" "_law_called" sCalled f fd) : FnOk P w K mg base CX0 1 f fd ["_law_thing"] (spZ w K (fCalled 0)) := by
  refine Fun.okZ F scCalled (fun xs μ Q h => ?_) (fun cdv A outer s H E hr => ?_)
  · obtain ⟨d, e, _, _, h, _⟩ := h
    cases h
  · exact ⟨_, dss_never, fun xs μ Q ⟨d, e, _, _, h, _⟩ => by cases h⟩
theorem ok_called1 {n k : Nat} {f : Addr} {fd : FuncData} (F : Fun K "_law_called" "_law_called" sCalled f fd) (T : Bs mg) (c__law_called : CalZ P w K mg base (k + 1) "_law_called" ["_law_thing"] (fCalled n)) : FnOk P w K mg base CX0 (k + 2) f fd ["_law_thing"] (spZ w K (fCalled (n + 1))) := by
  refine Fun.okZ F scCalled (fun xs μ Q h => ?_) (fun cdv A outer s H E hr => ?_)
  · obtain ⟨d, e, rfl, _⟩ := h
    rfl
  · have nd := scCalled.nd
    refine ⟨_, (dss_cut (ds_if (DW.dt (dw_and (dt_truth (d_isi (T := "tuple") (by rfl) T.isinstance (by rfl) T.tuple (by decide +kernel) (dv 0))) (dw_and (dt_cmp (oz_gt hr.units) (d_callB ca_len (by rfl) T.len PySem.boot_len (da_cons (dv 0) da_nil)) d_int (nomark _)) (dw_and (dt_truth (d_isi (T := "str") (by rfl) T.isinstance (by rfl) T.str (by decide +kernel) (d_ix (dv 0) d_int (fun _ _ => rfl)))) (dw_and1 (dt_truth (d_isi (T := "int") (by rfl) T.isinstance (by rfl) T.int (by decide +kernel) (d_ix (dv 0) d_int (fun _ _ => rfl)))))))))
  (dss_one (ds_ret (d_bin oz_add2 (d_tup (da_cons (d_bin oz_add2 d_str (d_ix (dv 0) d_int (fun _ _ => rfl))) da_nil)) (d_slice (dv 0) (do_some d_int) do_none))))
  dss_nil)
  (dss_cons (ds_if (dt_truth (d_isi (T := "tuple") (by rfl) T.isinstance (by rfl) T.tuple (by decide +kernel) (dv 0)))
  (dss_one (ds_ret (d_callTy ca_tuple (by rfl) T.tuple (by decide +kernel) (da_cons (d_lc (own := [("_law_part", 1)]) rfl nd (di_seq (dv 0)) (blkOk_by (own := [("_law_part", 1)]) (N := ["_law_thing", "_law_part"]) (sc := defScope (topS 26)) (by decide +kernel)) (put_name (i := 1) (by decide)) (fun _ _ _ _ _ => (pg_name (i := 1) nd rfl (Or.inl rfl))) (fun _ _ _ _ _ => dts_nil) (fun _ _ _ _ _ => (d_own0 c__law_called (hr.mono (Nat.le_refl _)) (by rfl) (da_cons (dv 1) da_nil)))) da_nil))))
  dss_nil)
  (dss_one (ds_ret (dv 0))))), ?_⟩
    rintro xs μ Q ⟨d, e, rfl, rfl, hc, q⟩
    have ez : sizeLine = 16777216 := by decide +kernel
    refine ⟨fun ρ μ => ρ = [some (.dat d), none] ∧ μ = [] ∧ (∀ ds, d = .tuple ds → notName ds = true), ?_, ?_⟩
    · cases hc with
      | @name _ h k r h1 h2 =>
        refine ⟨_, true, .dat _, kTT, ?_⟩
        refine ite2 (fun _ => ?_) (fun z => absurd (decide_eq_true (by rw [List.length_cons, List.length_cons]; omega)) z)
        refine ⟨.str h, at_head, _, true, .dat (.str h), kSS, .int k, at_two, _, true, .dat (.int k), kII, ?_⟩
        refine ⟨.str h, at_head, by rw [ez]; show 1 + _ ≤ _; omega, (by decide : 1 ≤ sizeLine), ?_⟩
        show zAdd2 (.dat (.tuple [.str ("q" ++ h)])) (.dat (.tuple (cutG (.str h :: .int k :: r) (some 1) none))) [] _
        rw [cut_one]
        refine ⟨by rw [ez]; show 1 + (r.length + 1) ≤ _; omega, _, .refl _, q⟩
      | @tup _ ds es h1 h2 h3 h4 =>
        refine ⟨_, true, .dat _, kTT, ?_⟩
        have fin : ∀ ds', PyData.tuple ds = .tuple ds' → notName ds' = true := fun ds' e => by
          cases e
          exact h1
        match ds, h1, fin with
        | [], _, fin => exact ⟨rfl, rfl, fin⟩
        | [x], _, fin => exact ⟨rfl, rfl, fin⟩
        | x :: y :: r, h1, fin =>
          refine ite2 (fun _ => ?_) (fun z => ⟨rfl, rfl, fin⟩)
          refine ⟨x, at_head, ?_⟩
          cases x with
          | none => exact ⟨_, false, .dat _, k_str.1, rfl, rfl, fin⟩
          | bool b => exact ⟨_, false, .dat _, k_str.2.1, rfl, rfl, fin⟩
          | int i => exact ⟨_, false, .dat _, k_str.2.2.1, rfl, rfl, fin⟩
          | tuple l => exact ⟨_, false, .dat _, k_str.2.2.2.1, rfl, rfl, fin⟩
          | list l => exact ⟨_, false, .dat _, k_str.2.2.2.2.1, rfl, rfl, fin⟩
          | dict l => exact ⟨_, false, .dat _, k_str.2.2.2.2.2, rfl, rfl, fin⟩
          | str z =>
            refine ⟨_, true, .dat _, kSS, y, at_two, ?_⟩
            cases y with
            | none => exact ⟨_, false, .dat _, k_int.1, rfl, rfl, fin⟩
            | bool b => cases h1
            | int i => cases h1
            | str z => exact ⟨_, false, .dat _, k_int.2.1, rfl, rfl, fin⟩
            | tuple l => exact ⟨_, false, .dat _, k_int.2.2.1, rfl, rfl, fin⟩
            | list l => exact ⟨_, false, .dat _, k_int.2.2.2.1, rfl, rfl, fin⟩
            | dict l => exact ⟨_, false, .dat _, k_int.2.2.2.2, rfl, rfl, fin⟩
      | other h1 h2 =>
        have fin : ∀ ds', d = .tuple ds' → notName ds' = true := fun ds' e => absurd e (h1 ds')
        cases d with
        | none => exact ⟨_, false, .dat _, k_no.1, rfl, rfl, fin⟩
        | bool b => exact ⟨_, false, .dat _, k_no.2.1, rfl, rfl, fin⟩
        | int i => exact ⟨_, false, .dat _, k_no.2.2.1, rfl, rfl, fin⟩
        | str z => exact ⟨_, false, .dat _, k_no.2.2.2.1, rfl, rfl, fin⟩
        | list l => exact ⟨_, false, .dat _, k_no.2.2.2.2, rfl, rfl, fin⟩
        | tuple l => exact absurd rfl (h1 l)
        | dict l => exact absurd rfl (h2 l)
    · rintro ρ μ ⟨rfl, rfl, nn⟩
      cases hc with
      | @name _ h k r h1 h2 => cases nn _ rfl
      | @tup _ ds es h1 h2 h3 h4 =>
        refine ⟨_, true, .dat _, kTT, ?_⟩
        refine ⟨fun i acc μ => μ = [] ∧ acc = (es.take i).map Val.dat, ⟨rfl, rfl⟩, fun _ _ _ _ _ => trivial, ?_, ?_⟩
        · rintro i y acc μ hy ⟨rfl, rfl⟩
          obtain ⟨d, hd, rfl⟩ := Option.map_eq_some_iff.mp (by rw [List.getElem?_map] at hy; exact hy)
          have hi := (List.getElem?_eq_some_iff.mp hd).1
          have he : es[i]? = some (es[i]'(by omega)) := List.getElem?_eq_getElem (by omega)
          have et : es.take (i + 1) = es.take i ++ [es[i]'(by omega)] := by rw [List.take_succ, he]; rfl
          refine ⟨_, rfl, d, es[i]'(by omega), rfl, rfl, h4 i d _ hd he, by rw [List.length_map, List.length_take, ez]; omega, _, .refl _, rfl, ?_⟩
          rw [et, List.map_append]
          rfl
        · rintro acc μ ⟨rfl, rfl⟩ p
          rw [List.length_map, h3, List.take_length]
          exact ⟨0, _, rfl, es, datOf_map es, [], List.nil_sublist _, q⟩
      | other h1 h2 =>
        cases d with
        | none => exact ⟨_, false, .dat _, k_no.1, _, .refl _, q⟩
        | bool b => exact ⟨_, false, .dat _, k_no.2.1, _, .refl _, q⟩
        | int i => exact ⟨_, false, .dat _, k_no.2.2.1, _, .refl _, q⟩
        | str z => exact ⟨_, false, .dat _, k_no.2.2.2.1, _, .refl _, q⟩
        | list l => exact ⟨_, false, .dat _, k_no.2.2.2.2, _, .refl _, q⟩
        | tuple l => exact absurd rfl (h1 l)
        | dict l => exact absurd rfl (h2 l)
end
end Kr
namespace Kr
open PySem PySem.Spec PyProof.Rows L2 Lf Zl
/-! ### the deeds otherwise named -/
def sigQ : PyData → PyData
  | .tuple (.str h :: .int k :: r) => .tuple (.str (qH h) :: .int k :: r)
  | x => x
def partQ : PyData → PyData
  | .tuple (.str h :: .int k :: r) => .tuple (.str (qH h) :: .int k :: r)
  | .tuple l => .tuple (l.map sigQ)
  | x => x
def actQ : PyData → PyData
  | .tuple l => .tuple (l.map partQ)
  | x => x
def dQ (d : Deed) : Deed := ⟨qH d.h, d.k, d.st, d.seen.map fun p => (qH p.1, p.2), actQ d.act⟩
theorem partQ_str {x : PyData} {w : Str} (h : partQ x = .str w) : x = .str w := by
  unfold partQ at h
  split at h
  · cases h
  · cases h
  · exact h
theorem actQ_turn {a : PyData} (h : isTurn (actQ a)) : isTurn a := by
  obtain ⟨w, n, hw, e⟩ := h
  unfold actQ at e
  split at e
  · rename_i l
    injection e with e
    obtain ⟨x, l', rfl, e1, e2⟩ := List.map_eq_cons_iff.mp e
    obtain ⟨y, l3, rfl, e3, e4⟩ := List.map_eq_cons_iff.mp e2
    obtain rfl := List.map_eq_nil_iff.mp e4
    exact ⟨w, y, hw, by rw [partQ_str e1]⟩
  · exact ⟨w, n, hw, e⟩
theorem name_q {d : Deed} : (dQ d).name = partQ d.name := rfl
theorem Cell.q {ks : List Deed} {c : PyData} (h : Cell ks c) : Cell (ks.map dQ) (partQ c) := by
  obtain ⟨e, he, rfl, x, p, ea⟩ := h
  refine ⟨dQ e, List.mem_map_of_mem he, rfl, partQ x, partQ p, ?_⟩
  unfold dQ
  rw [ea]
  rfl
theorem Stood.q {ks : List Deed} {x p : PyData} (h : Stood ks x p) : Stood (ks.map dQ) (partQ x) (partQ p) := by
  obtain ⟨e, he, rfl, ⟨q, ea⟩ | ⟨c, q, ea⟩⟩ := h
  · refine ⟨dQ e, List.mem_map_of_mem he, rfl, .inl ⟨partQ q, ?_⟩⟩
    unfold dQ
    rw [ea]
    rfl
  · refine ⟨dQ e, List.mem_map_of_mem he, rfl, .inr ⟨partQ c, partQ q, ?_⟩⟩
    unfold dQ
    rw [ea]
    rfl
theorem Spelt.q {ks : List Deed} {c s : PyData} (h : Spelt ks c s) : Spelt (ks.map dQ) (partQ c) (partQ s) ∧ sigQ s = partQ s := by
  obtain ⟨e, he, s0, t, a, ea, ha, rfl⟩ := h
  refine ⟨⟨dQ e, List.mem_map_of_mem he, partQ s0, t, a, ?_, ha, rfl⟩, rfl⟩
  unfold dQ
  rw [ea]
  rfl
theorem strike_q {ks : List Deed} {l : List PyData} (h1 : ∀ x ∈ l, ∃ c, Spelt ks c x) : actQ (.tuple [.str "strike", .tuple l]) = .tuple [.str "strike", .tuple (l.map sigQ)] := by
  have : partQ (.tuple l) = .tuple (l.map sigQ) := by
    cases l with
    | nil => rfl
    | cons x r =>
      obtain ⟨c, e, he, s0, t, a, ea, ha, rfl⟩ := h1 x (List.mem_cons_self ..)
      rfl
  show PyData.tuple [.str "strike", partQ (.tuple l)] = _
  rw [this]
theorem Act.q {ks : List Deed} {a : PyData} (h : Act ks a) : Act (ks.map dQ) (actQ a) := by
  have o : ∀ {x} {C : PyData → Prop} {C' : PyData → Prop}, (∀ {y}, C y → C' (partQ y)) → (x = .none ∨ C x) → (partQ x = .none ∨ C' (partQ x)) := fun f h => h.elim (fun z => by rw [z]; exact .inl rfl) fun z => .inr (f z)
  cases h with
  | cell x p h1 h2 => exact .cell _ _ (o (C := Cell ks) Cell.q h1) (o (C := Stood ks x) Stood.q h2)
  | place c x p h1 h2 h3 => exact .place _ _ _ h1.q (o (C := Cell ks) Cell.q h2) (o (C := Stood ks x) Stood.q h3)
  | write c s t h1 h2 h3 => exact .write _ _ _ h1.q (o (C := Spelt ks c) (fun z => z.q.1) h2) h3
  | strike l h1 h2 =>
    rw [strike_q h1]
    refine .strike _ (fun x hx => ?_) (by rw [List.length_map]; exact h2)
    obtain ⟨y, hy, rfl⟩ := List.mem_map.mp hx
    obtain ⟨c, z⟩ := h1 y hy
    rw [z.q.2]
    exact ⟨_, z.q.1⟩
  | drop c h1 => exact .drop _ h1.q
  | turn w n hw h1 =>
    refine .turn w _ hw ?_
    obtain ⟨e, he, rfl, nt⟩ := h1
    refine ⟨dQ e, List.mem_map_of_mem he, rfl, fun z => nt (actQ_turn z)⟩
theorem hands0_inj {a b : Str} (ha : a ∈ hands0) (hb : b ∈ hands0) : qH a = qH b ↔ a = b := ⟨qH_inj a ha b hb, fun e => by rw [e]⟩
theorem ml_q {d e : Deed} (hd : d.h ∈ hands0) (he : e.h ∈ hands0) : ml (dQ d) (dQ e) = ml d e := by
  rw [ml_is, ml_is]
  show (if d.st = e.st then (if qH d.h = qH e.h then false else decide ((qH d.h).cps.toList < (qH e.h).cps.toList)) else decide (d.st < e.st)) = _
  rw [qH_lt _ hd _ he]
  have e2 : (if qH d.h = qH e.h then false else decide (d.h.cps.toList < e.h.cps.toList)) = if d.h = e.h then false else decide (d.h.cps.toList < e.h.cps.toList) := by
    by_cases c : d.h = e.h
    · rw [if_pos c, if_pos (by rw [c])]
    · rw [if_neg c, if_neg fun z => c (qH_inj _ hd _ he z)]
  rw [e2]
theorem map_cut {ds as bs : List Deed} {d : Deed} (h : ds.map dQ = as ++ d :: bs) : ∃ as' d' bs', ds = as' ++ d' :: bs' ∧ as = as'.map dQ ∧ d = dQ d' ∧ bs = bs'.map dQ := by
  obtain ⟨l1, l2, e1, e2, e3⟩ := List.map_eq_append_iff.mp h
  obtain ⟨x, l3, e4, e5, e6⟩ := List.map_eq_cons_iff.mp e3
  exact ⟨l1, x, l3, by rw [e1, e4], e2.symm, e5.symm, e6.symm⟩
/-- the deeds drawn, otherwise named, are such deeds too -/
theorem Dr.q {ds : List Deed} (D : Dr hands0 ds) : Dr hands4 (ds.map dQ) := by
  have st : ∀ d ∈ ds.map dQ, d.st < (ds.map dQ).length := fun d hd => by
    obtain ⟨e, he, rfl⟩ := List.mem_map.mp hd
    rw [List.length_map]
    exact D.st e he
  have each : ∀ as d bs, ds.map dQ = as ++ d :: bs → ∃ ks, (∀ e ∈ ks, e ∈ as ∧ e.st < d.st) ∧ (∀ e ∈ as, e.h = d.h → e ∈ ks) ∧ Act ks d.act := fun as d bs q => by
    obtain ⟨as', d', bs', q', rfl, rfl, rfl⟩ := map_cut q
    obtain ⟨ks, h1, h2, a⟩ := D.each as' d' bs' q'
    refine ⟨ks.map dQ, fun e he => ?_, fun e he eh => ?_, a.q⟩
    · obtain ⟨f, hf, rfl⟩ := List.mem_map.mp he
      exact ⟨List.mem_map_of_mem (h1 f hf).1, (h1 f hf).2⟩
    · obtain ⟨f, hf, rfl⟩ := List.mem_map.mp he
      exact List.mem_map_of_mem (h2 f hf (qH_inj _ (D.h0 f (by rw [q']; simp [hf])) _ (D.h0 d' (by rw [q']; simp)) eh))
  refine ⟨fun d hd => ?_, st, each, fun as d bs q => ?_, fun d hd => ?_, fun d hd => ?_⟩
  · obtain ⟨e, he, rfl⟩ := List.mem_map.mp hd
    obtain ⟨as, bs, q⟩ := List.append_of_mem he
    obtain ⟨ks, h1, _, a⟩ := D.each as e bs q
    have de := D.df e he
    have ke : ∀ f ∈ ks, f ∈ ds := fun f hf => by rw [q]; exact List.mem_append_left _ (h1 f hf).1
    have nf : ∀ f ∈ ks, NamO (partQ f.name) := fun f hf => .nam (qH_up _ (D.h0 f (ke f hf))) (D.df f (ke f hf)).hk
    have cl : ∀ {c}, Cell ks c → NamO (partQ c) := fun ⟨f, hf, en, _⟩ => by rw [← en]; exact nf f hf
    have sd : ∀ {x p}, Stood ks x p → NamO (partQ p) := fun ⟨f, hf, en, _⟩ => by rw [← en]; exact nf f hf
    have sp : ∀ {c s}, Spelt ks c s → NamO (partQ s) := fun {c s} z => by
      have n := spelt_namo (fun f hf => ⟨⟨(D.df f (ke f hf)).hh, (D.df f (ke f hf)).hk⟩, (D.df f (ke f hf)).act⟩) z
      obtain ⟨f, hf, s0, t, a, ea, ha, rfl⟩ := z
      have a64 : a < 64 := by
        generalize e : sig f.h f.k a = y at n
        cases n with
        | none => cases e
        | nam _ _ =>
          unfold sig nam at e
          simp at e
        | sig _ _ h3 =>
          unfold sig at e
          simp at e
          omega
      exact .sig (qH_up _ (D.h0 f (ke f hf))) (D.df f (ke f hf)).hk a64
    have o : ∀ {x} {C : PyData → Prop}, (∀ {y}, C y → NamO (partQ y)) → (x = .none ∨ C x) → NamO (partQ x) := fun f h => h.elim (fun z => by rw [z]; exact .none) f
    refine ⟨qH_up _ (D.h0 e he), de.hk, de.st, ?_⟩
    show AForm (actQ e.act)
    generalize e.act = a0 at a
    cases a with
    | cell x p h2 h3 => exact .cell (o (C := Cell ks) cl h2) (o (C := Stood ks x) sd h3)
    | place c x p h2 h3 h4 => exact .place (cl h2) (o (C := Cell ks) cl h3) (o (C := Stood ks x) sd h4)
    | write c s t h2 h3 h4 => exact .write (cl h2) (o (C := Spelt ks c) sp h3) h4
    | strike l h2 h3 =>
      rw [strike_q h2]
      refine .strike (fun x hx => ?_) (by rw [List.length_map]; exact h3)
      obtain ⟨y, hy, rfl⟩ := List.mem_map.mp hx
      obtain ⟨c, z⟩ := h2 y hy
      rw [z.q.2]
      exact sp z
    | drop c h2 => exact .drop (cl h2)
    | turn w n hw h2 =>
      obtain ⟨f, hf, en, _⟩ := h2
      exact .turn hw (by rw [← en]; exact nf f hf)
  · obtain ⟨as', d', bs', q', rfl, rfl, rfl⟩ := map_cut q
    have := D.num as' d' bs' q'
    show d'.k = _
    rw [this, List.filter_map, List.length_map]
    congr 1
    refine List.filter_congr fun e he => ?_
    show decide (e.h = d'.h) = decide (qH e.h = qH d'.h)
    rw [decide_eq_decide]
    exact (hands0_inj (D.h0 e (by rw [q']; simp [he])) (D.h0 d' (by rw [q']; simp))).symm
  · obtain ⟨e, he, rfl⟩ := List.mem_map.mp hd
    obtain ⟨s1, s2⟩ := D.seen e he
    refine ⟨by show (e.seen.map _).length ≤ 4; rw [List.length_map]; exact s1, fun p hp => ?_⟩
    obtain ⟨p', hp', rfl⟩ := List.mem_map.mp hp
    exact ⟨qH_up _ (s2 p' hp').1, (s2 p' hp').2⟩
  · obtain ⟨e, he, rfl⟩ := List.mem_map.mp hd
    exact qH_up _ (D.h0 e he)
end Kr
namespace Kr
open PySem PySem.Spec PyProof.Rows L2 Lf Zl
theorem Srt.q {ds S : List Deed} (D : Dr hands0 ds) (h : Srt ds S) : Srt (ds.map dQ) (S.map dQ) := by
  refine ⟨h.1.map dQ, ?_⟩
  rw [List.pairwise_map]
  refine h.2.imp_of_mem fun {a b} ha hb l => ?_
  rw [ml_q (D.h0 a (h.1.mem_iff.mp ha)) (D.h0 b (h.1.mem_iff.mp hb))]
  exact l
theorem toPl_q {ds : List Deed} (D : Dr hands0 ds) {d : Deed} (hd : d ∈ ds) : (toPl d = none ∧ toPl (dQ d) = none) ∨ ∃ p p', toPl d = some p ∧ toPl (dQ d) = some p' ∧ P0 p p' := by
  obtain ⟨as, bs, q⟩ := List.append_of_mem hd
  obtain ⟨ks, h1, _, a⟩ := D.each as d bs q
  have ke : ∀ f ∈ ks, f ∈ ds := fun f hf => by rw [q]; exact List.mem_append_left _ (h1 f hf).1
  have hh := D.h0 d hd
  have hk := (D.df d hd).hk
  have nn : ∀ {x}, Cell ks x → Nk0 (kN x) ∧ kN (partQ x) = qK (kN x) := fun ⟨f, hf, en, _⟩ => by
    rw [← en]
    exact ⟨.inr ⟨f.h, D.h0 f (ke f hf), f.k, (D.df f (ke f hf)).hk, rfl⟩, rfl⟩
  have o : ∀ {x}, (x = .none ∨ Cell ks x) → Nk0 (kN x) ∧ kN (partQ x) = qK (kN x) := fun h => by
    rcases h with rfl | h
    · exact ⟨.inl rfl, rfl⟩
    · exact nn h
  obtain ⟨dh, dk, dst, dsn, da⟩ := d
  dsimp only at a hh hk
  have st0 : Nk0 (nmK dh dk) := .inr ⟨dh, hh, dk, hk, rfl⟩
  cases a with
  | cell x p h2 h3 => exact .inr ⟨⟨⟨dh, dk, dst, dsn, _⟩, nmK dh dk, kN x⟩, ⟨dQ ⟨dh, dk, dst, dsn, _⟩, nmK (qH dh) dk, kN (partQ x)⟩, by unfold toPl; exact if_pos rfl, by unfold toPl; exact if_pos rfl, ⟨st0, st0, (o h2).1, rfl, rfl, (o h2).2⟩⟩
  | place c x p h2 h3 h4 => exact .inr ⟨⟨⟨dh, dk, dst, dsn, _⟩, kN c, kN x⟩, ⟨dQ ⟨dh, dk, dst, dsn, _⟩, kN (partQ c), kN (partQ x)⟩, by unfold toPl; exact if_pos rfl, by unfold toPl; exact if_pos rfl, ⟨st0, (nn h2).1, (o h3).1, rfl, (nn h2).2, (o h3).2⟩⟩
  | write c s t _ _ _ => exact .inl ⟨by unfold toPl; exact if_neg (by decide), by unfold toPl; exact if_neg (by decide)⟩
  | strike l _ _ => exact .inl ⟨rfl, rfl⟩
  | drop c _ => exact .inl ⟨rfl, rfl⟩
  | turn w n _ _ => exact .inl ⟨rfl, rfl⟩
theorem turnOf_iff {d : Deed} {n : PyData} {w : Str} : turnOf d = some (n, w) ↔ d.act = .tuple [.str w, n] ∧ (w = "off" ∨ w = "on") := by
  constructor
  · intro h
    unfold turnOf at h
    split at h
    · rename_i w0 n0 ea
      split at h
      · rename_i hw
        cases h
        exact ⟨ea, hw⟩
      · cases h
    · cases h
  · rintro ⟨ea, hw⟩
    unfold turnOf
    rw [ea]
    exact if_pos hw
theorem turnOf_q {d : Deed} {n' : PyData} {w : Str} : turnOf (dQ d) = some (n', w) ↔ ∃ n, turnOf d = some (n, w) ∧ n' = partQ n := by
  constructor
  · intro h
    obtain ⟨ea, hw⟩ := turnOf_iff.mp h
    have ea : actQ d.act = .tuple [.str w, n'] := ea
    unfold actQ at ea
    split at ea
    · rename_i l el
      injection ea with e
      obtain ⟨x, l', rfl, e1, e2⟩ := List.map_eq_cons_iff.mp e
      obtain ⟨y, l3, rfl, e3, e4⟩ := List.map_eq_cons_iff.mp e2
      obtain rfl := List.map_eq_nil_iff.mp e4
      exact ⟨y, turnOf_iff.mpr ⟨by rw [el, partQ_str e1], hw⟩, e3.symm⟩
    · rename_i x hx
      exact absurd ea (hx _)
  · rintro ⟨n, h, rfl⟩
    obtain ⟨ea, hw⟩ := turnOf_iff.mp h
    refine turnOf_iff.mpr ⟨?_, hw⟩
    show actQ d.act = _
    rw [ea]
    rfl
theorem offB_q {ds : List Deed} (D : Dr hands0 ds) (l : ds.length ≤ 64) {x : NestedKey} (hx : Nk0 x) : offB (ds.map dQ) (qK x) = offB ds x := by
  have T := D.tk l
  -- what is turned is a name drawn
  have nm : ∀ {d}, d ∈ ds → ∀ {n w}, turnOf d = some (n, w) → ∃ h ∈ hands0, ∃ k : Nat, k < 64 ∧ n = nam h k := fun {d} hd {n w} t => by
    obtain ⟨e, he, en⟩ := T.tr d hd n w t
    exact ⟨e.h, D.h0 e he, e.k, (D.df e he).hk, en.symm⟩
  have inj : ∀ {a b : Str} {j k : Nat}, a ∈ hands0 → b ∈ hands0 → partQ (nam a j) = partQ (nam b k) → nam a j = nam b k := fun {a b j k} ha hb e => by
    have e : nam (qH a) j = nam (qH b) k := e
    unfold nam at e ⊢
    simp at e
    rw [qH_inj a ha b hb e.1, e.2]
  have off : ∀ {n}, OffN ds n → OffN (ds.map dQ) (partQ n) := fun {n} ⟨d, hd, t, top⟩ => by
    obtain ⟨a, ha, j, _, rfl⟩ := nm hd t
    refine ⟨dQ d, List.mem_map_of_mem hd, turnOf_q.mpr ⟨_, t, rfl⟩, fun e he w' t' => ?_⟩
    obtain ⟨f, hf, rfl⟩ := List.mem_map.mp he
    obtain ⟨n1, t1, e1⟩ := turnOf_q.mp t'
    obtain ⟨b, hb, k, _, rfl⟩ := nm hf t1
    have := inj ha hb e1
    rw [← this] at t1
    rcases top f hf w' t1 with rfl | q
    · exact .inl rfl
    · exact .inr (by rw [ml_q (D.h0 f hf) (D.h0 d hd)]; exact q)
  have back : ∀ {n'}, OffN (ds.map dQ) n' → ∃ n, n' = partQ n ∧ OffN ds n := fun {n'} ⟨d', hd', t', top⟩ => by
    obtain ⟨d, hd, rfl⟩ := List.mem_map.mp hd'
    obtain ⟨n, t, rfl⟩ := turnOf_q.mp t'
    refine ⟨n, rfl, d, hd, t, fun e he w' t1 => ?_⟩
    rcases top (dQ e) (List.mem_map_of_mem he) w' (turnOf_q.mpr ⟨n, t1, rfl⟩) with q | q
    · have hname : d.h = e.h := qH_inj _ (D.h0 d hd) _ (D.h0 e he) (by show (dQ d).h = (dQ e).h; rw [q])
      have hst : d.st = e.st := by
        show (dQ d).st = (dQ e).st
        rw [q]
      exact .inl (T.un e he d hd ⟨hst.symm, hname.symm⟩)
    · rw [ml_q (D.h0 e he) (D.h0 d hd)] at q
      exact .inr q
  rw [Bool.eq_iff_iff, offB_iff, offB_iff]
  constructor
  · rintro ⟨n', e, o'⟩
    obtain ⟨n, rfl, o⟩ := back o'
    have o2 := o
    obtain ⟨d, hd, t, _⟩ := o
    obtain ⟨a, ha, j, hj, rfl⟩ := nm hd t
    refine ⟨_, ?_, o2⟩
    have e : some (qK (nmK a j)) = some (qK x) := e
    have e2 := qK_inj (.inr ⟨a, ha, j, hj, rfl⟩) hx (Option.some.inj e)
    rw [← e2]
    rfl
  · rintro ⟨n, e, o⟩
    have o2 := o
    obtain ⟨d, hd, t, _⟩ := o
    obtain ⟨a, ha, j, hj, rfl⟩ := nm hd t
    have e : some (nmK a j) = some x := e
    cases e
    exact ⟨_, rfl, off o2⟩
/-- the places told of the deeds otherwise named: the rows otherwise named -/
theorem run_q {ds S : List Deed} (D : Dr hands0 ds) (l : ds.length ≤ 64) (h : Srt ds S) : ∀ i, i ≤ S.length →
    H0 (runP (offB ds) ((S.take i).filterMap toPl)).H ∧ HQ (runP (offB ds) ((S.take i).filterMap toPl)).H (runP (offB (ds.map dQ)) (((S.take i).map dQ).filterMap toPl)).H ∧
    (runP (offB (ds.map dQ)) (((S.take i).map dQ).filterMap toPl)).rows = (runP (offB ds) ((S.take i).filterMap toPl)).rows.map rowQ
  | 0, _ => ⟨fun x z e => (by cases e), fun x _ => rfl, rfl⟩
  | i + 1, hi => by
    have hg : S[i]? = some S[i] := List.getElem?_eq_getElem hi
    have et : S.take (i + 1) = S.take i ++ [S[i]] := by rw [List.take_succ, hg]; rfl
    have wf := D.wf l
    have ih := run_q D l h i (by omega)
    have ok := run_okS (off := offB ds) wf h i (by omega)
    have hd : S[i] ∈ ds := h.1.mem_iff.mp (List.getElem_mem hi)
    rw [et, List.map_append, List.filterMap_append, List.filterMap_append]
    rcases toPl_q D hd with ⟨t1, t2⟩ | ⟨p, p', t1, t2, k⟩
    · rw [show [S[i]].filterMap toPl = [] by simp [t1], show ([S[i]].map dQ).filterMap toPl = [] by simp [t2], List.append_nil, List.append_nil]
      exact ih
    · rw [show [S[i]].filterMap toPl = [p] by simp [t1], show ([S[i]].map dQ).filterMap toPl = [p'] by simp [t2], runP_snoc, runP_snoc]
      have co := wf.cond h (as := S.take i) (bs := S.drop (i + 1)) (by simp) t1
      exact step_q ok.1 co ih.1 ih.2.1 ih.2.2 k (offB_q D l k.st)
theorem rowsOf_q {ds S : List Deed} (D : Dr hands0 ds) (l : ds.length ≤ 64) (h : Srt ds S) : rowsOf (ds.map dQ) (S.map dQ) = (rowsOf ds S).map rowQ := by
  have := (run_q D l h S.length (Nat.le_refl _)).2.2
  rw [List.take_length] at this
  exact this
end Kr
namespace Kr
open PySem PySem.Spec PyProof.Rows L2 Lf Zl
/-! ### off, on, drop, told behind all -/
theorem offB_turn {ds : List Deed} {d : Deed} {h : Str} {k : Nat} {w : Str} (T : Tk ds) (t : turnOf d = some (nam h k, w)) (up : ∀ e ∈ ds, ml e d = true) (x : NestedKey) : offB (ds ++ [d]) x = if x = nmK h k then decide (w = "off") else offB ds x := by
  rw [Bool.eq_iff_iff, offB_iff]
  constructor
  · rintro ⟨n, e, o⟩
    rcases (offN_turn t up).mp o with ⟨rfl, rfl⟩ | ⟨ne, o⟩
    · have e : some (nmK h k) = some x := e
      rw [if_pos (Option.some.inj e).symm]
      rfl
    · have o2 := o
      obtain ⟨e1, he, te, _⟩ := o
      obtain ⟨a, ha, j, hj, rfl⟩ := (T.nam e1 he).2 _ _ te
      have ex : nmK a j = x := Option.some.inj e
      rw [if_neg fun z => ne (by
        have z : datK (nmK a j) = datK (nmK h k) := by rw [ex, z]
        exact z)]
      exact offB_iff.mpr ⟨_, e, o2⟩
  · intro h1
    by_cases c : x = nmK h k
    · rw [if_pos c] at h1
      subst c
      exact ⟨nam h k, rfl, (offN_turn t up).mpr (.inl ⟨rfl, of_decide_eq_true h1⟩)⟩
    · rw [if_neg c] at h1
      obtain ⟨n, e, o⟩ := offB_iff.mp h1
      refine ⟨n, e, (offN_turn t up).mpr (.inr ⟨fun z => c ?_, o⟩)⟩
      rw [z] at e
      exact (Option.some.inj e).symm
theorem rowsOf_more {ds S : List Deed} {d : Deed} (tp : toPl d = none) : rowsOf (ds ++ [d]) (S ++ [d]) = (runP (offB (ds ++ [d])) (S.filterMap toPl)).rows := by
  unfold rowsOf
  rw [List.filterMap_append, show [d].filterMap toPl = [] by simp [tp], List.append_nil]
theorem toPl_turn {d : Deed} {n : PyData} {w : Str} (t : turnOf d = some (n, w)) : toPl d = none := by
  obtain ⟨ea, _⟩ := turnOf_iff.mp t
  unfold toPl
  rw [ea]
/-- a place that wasn't off is told to be off -/
theorem off_rows {ds S : List Deed} {d : Deed} {h : Str} {k : Nat} {as bs : List Pl} {p : Pl} (T : Tk ds) (e : S.filterMap toPl = as ++ p :: bs) (hp : p.st = nmK h k) (ne : p.st ≠ p.c) (dj : ∀ q ∈ as, q.st ≠ p.st) (t : turnOf d = some (nam h k, ("off" : Str))) (up : ∀ e ∈ ds, ml e d = true) :
    (rowsOf (ds ++ [d]) (S ++ [d])).take as.length = (rowsOf ds S).take as.length ∧ (rowsOf (ds ++ [d]) (S ++ [d]))[as.length]? = some (rowO p.st) ∧ (rowsOf (ds ++ [d]) (S ++ [d])).length = (rowsOf ds S).length := by
  rw [rowsOf_more (toPl_turn t)]
  unfold rowsOf
  rw [e]
  refine run_off (fun q hq => ?_) ?_ ne
  · rw [offB_turn T t up, if_neg fun z => dj q hq (by rw [z, hp])]
  · rw [offB_turn T t up, if_pos hp]
    exact decide_eq_true rfl
/-- a row that isn't off speaks of a place that isn't off -/
theorem row_word {off : NestedKey → Bool} {as bs : List Pl} {p : Pl} {r : PyData} (hr : (runP off (as ++ p :: bs)).rows[as.length]? = some r) (nr : r ≠ rowO p.st) (ne : p.st ≠ p.c) : off p.st = false := by
  cases e : off p.st with
  | false => rfl
  | true =>
    have := (run_off (off := off) (off' := off) (as := as) (bs := bs) (fun _ _ => rfl) e ne).2.1
    rw [hr] at this
    exact absurd (Option.some.inj this) nr
/-- off and on again: as before -/
theorem on_rows {ds S : List Deed} {d d2 : Deed} {h : Str} {k : Nat} {w : Str} (T : Tk ds) (T2 : Tk (ds ++ [d])) (h0 : offB ds (nmK h k) = false) (t : turnOf d = some (nam h k, w)) (up : ∀ e ∈ ds, ml e d = true) (t2 : turnOf d2 = some (nam h k, ("on" : Str))) (up2 : ∀ e ∈ ds ++ [d], ml e d2 = true) :
    rowsOf (ds ++ [d] ++ [d2]) (S ++ [d] ++ [d2]) = rowsOf ds S ∧ offB (ds ++ [d] ++ [d2]) = offB ds := by
  have eo : offB (ds ++ [d] ++ [d2]) = offB ds := by
    funext x
    rw [offB_turn T2 t2 up2, offB_turn T t up]
    by_cases c : x = nmK h k
    · rw [if_pos c, c, h0]
      decide
    · rw [if_neg c, if_neg c]
  refine ⟨?_, eo⟩
  rw [rowsOf_more (toPl_turn t2), eo, List.filterMap_append, show [d].filterMap toPl = [] by simp [toPl_turn t], List.append_nil]
  rfl
theorem drop_rows {ds S : List Deed} {d : Deed} (t : turnOf d = none) (tp : toPl d = none) : rowsOf (ds ++ [d]) (S ++ [d]) = rowsOf ds S := by
  have eo : offB (ds ++ [d]) = offB ds := by
    funext x
    rw [Bool.eq_iff_iff, offB_iff, offB_iff]
    exact ⟨fun ⟨n, e, o⟩ => ⟨n, e, (offN_none t).mp o⟩, fun ⟨n, e, o⟩ => ⟨n, e, (offN_none t).mpr o⟩⟩
  rw [rowsOf_more tp, eo]
  rfl
end Kr
namespace Kr
open PySem PySem.Spec PyProof.Rows L2 Lf Zl
/-! ### what _law_called tells of a drawn deed's parts -/
theorem hand_len : ∀ h ∈ hands0, h.length ≤ 100 := by decide +kernel
theorem cal_none {n : Nat} : Cal (n + 1) .none .none := .other (fun _ h => by cases h) (fun _ h => by cases h)
theorem cal_str {n : Nat} {w : Str} : Cal (n + 1) (.str w) (.str w) := .other (fun _ h => by cases h) (fun _ h => by cases h)
theorem cal_nam {n : Nat} {h : Str} {k : Nat} (hh : h ∈ hands0) : Cal (n + 1) (nam h k) (nam (qH h) k) := .name (hand_len h hh) (Nat.zero_le _)
theorem cal_sig {n : Nat} {h : Str} {k a : Nat} (hh : h ∈ hands0) : Cal (n + 1) (sig h k a) (sig (qH h) k a) := .name (hand_len h hh) (by show 1 ≤ 1000; decide)
theorem cal_nk {n : Nat} {x : NestedKey} (h : Nk0 x) : Cal (n + 1) (datK x) (datK (qK x)) := by
  rcases h with rfl | ⟨a, ha, k, _, rfl⟩
  · exact cal_none
  · exact cal_nam ha
theorem cal_map {α : Type} {n : Nat} {f g : α → PyData} {l : List α} (nn : notName (l.map f) = true) (hl : l.length ≤ 1000) (h : ∀ x ∈ l, Cal n (f x) (g x)) : Cal (n + 1) (.tuple (l.map f)) (.tuple (l.map g)) := by
  refine .tup nn (by rw [List.length_map]; exact hl) (by rw [List.length_map, List.length_map]) fun i d e hd he => ?_
  rw [List.getElem?_map] at hd he
  cases hx : l[i]? with
  | none =>
    rw [hx] at hd
    cases hd
  | some x =>
    rw [hx] at hd he
    cases hd
    cases he
    exact h x (List.mem_of_getElem? hx)
theorem cal_way {n : Nat} {l : List NestedKey} (h : ∀ x ∈ l, Nk0 x) (hl : l.length ≤ 1000) : Cal (n + 2) (.tuple (l.map datK)) (.tuple ((l.map qK).map datK)) := by
  rw [List.map_map]
  refine cal_map ?_ hl fun x hx => cal_nk (h x hx)
  cases l with
  | nil => rfl
  | cons x r =>
    rcases h x (List.mem_cons_self ..) with rfl | ⟨a, _, k, _, rfl⟩ <;> rfl
theorem cal_seen {n : Nat} {seen : List (Str × Int)} (h : ∀ p ∈ seen, p.1 ∈ hands0) (hl : seen.length ≤ 1000) :
    Cal (n + 2) (.tuple (seen.map fun p => .tuple [.str p.1, .int p.2])) (.tuple ((seen.map fun p => (qH p.1, p.2)).map fun p => .tuple [.str p.1, .int p.2])) := by
  rw [List.map_map]
  refine cal_map ?_ hl fun p hp => .name (hand_len _ (h p hp)) (Nat.zero_le _)
  cases seen <;> rfl
theorem cal_list {n : Nat} {l : List PyData} (nn : notName l = true) (hl : l.length ≤ 1000) (h : ∀ x ∈ l, Cal n x (partQ x)) : Cal (n + 1) (.tuple l) (actQ (.tuple l)) := by
  have := cal_map (f := id) (g := partQ) (n := n) (l := l) (by rw [List.map_id]; exact nn) hl h
  rw [List.map_id] at this
  exact this
/-- an act -/
theorem cal_act {ds : List Deed} (D : Dr hands0 ds) {d : Deed} (hd : d ∈ ds) {n : Nat} : Cal (n + 3) d.act (actQ d.act) := by
  obtain ⟨as, bs, q⟩ := List.append_of_mem hd
  obtain ⟨ks, h1, _, a⟩ := D.each as d bs q
  have ke : ∀ f ∈ ks, f ∈ ds := fun f hf => by rw [q]; exact List.mem_append_left _ (h1 f hf).1
  have nf : ∀ f ∈ ks, Cal (n + 2) f.name (partQ f.name) := fun f hf => cal_nam (D.h0 f (ke f hf))
  have tupN : ∀ f : Deed, ∃ l, f.name = .tuple l := fun f => ⟨_, rfl⟩
  have cl : ∀ {c}, Cell ks c → Cal (n + 2) c (partQ c) := fun ⟨f, hf, en, _⟩ => by rw [← en]; exact nf f hf
  have sd : ∀ {x p}, Stood ks x p → Cal (n + 2) p (partQ p) := fun ⟨f, hf, en, _⟩ => by rw [← en]; exact nf f hf
  have sp : ∀ {m c s}, Spelt ks c s → Cal (m + 1) s (partQ s) := fun ⟨f, hf, s0, t, a, ea, ha, e⟩ => by
    rw [e]
    exact cal_sig (D.h0 f (ke f hf))
  have o : ∀ {x} {C : PyData → Prop}, (∀ {y}, C y → Cal (n + 2) y (partQ y)) → (x = .none ∨ C x) → Cal (n + 2) x (partQ x) := fun f h => h.elim (fun z => by rw [z]; exact cal_none) f
  have ws : ∀ {w : Str}, Cal (n + 2) (.str w) (partQ (.str w)) := cal_str
  have c3 : ∀ {w : Str} {x y : PyData}, Cal (n + 2) x (partQ x) → Cal (n + 2) y (partQ y) → ∀ z ∈ [PyData.str w, x, y], Cal (n + 2) z (partQ z) := fun hx hy z hz => by
    rcases List.mem_cons.mp hz with rfl | hz
    · exact ws
    rcases List.mem_cons.mp hz with rfl | hz
    · exact hx
    · rw [List.mem_singleton.mp hz]
      exact hy
  have nC : ∀ {w : Str} {x : PyData} {r}, (x = .none ∨ ∃ l, x = .tuple l) → notName (.str w :: x :: r) = true := fun h => by
    rcases h with rfl | ⟨l, rfl⟩ <;> rfl
  have isT : ∀ {c}, Cell ks c → ∃ l, c = .tuple l := fun ⟨f, hf, en, _⟩ => ⟨_, en.symm⟩
  generalize d.act = a0 at a
  cases a with
  | cell x p h2 h3 => exact cal_list (nC (h2.imp id isT)) (by show 3 ≤ 1000; decide) (c3 (o (C := Cell ks) cl h2) (o (C := Stood ks x) sd h3))
  | place c x p h2 h3 h4 =>
    refine cal_list (nC (.inr (isT h2))) (by show 4 ≤ 1000; decide) fun z hz => ?_
    rcases List.mem_cons.mp hz with rfl | hz
    · exact ws
    rcases List.mem_cons.mp hz with rfl | hz
    · exact cl h2
    rcases List.mem_cons.mp hz with rfl | hz
    · exact o (C := Cell ks) cl h3
    · rw [List.mem_singleton.mp hz]
      exact o (C := Stood ks x) sd h4
  | write c s t h2 h3 h4 =>
    refine cal_list (nC (.inr (isT h2))) (by show 4 ≤ 1000; decide) fun z hz => ?_
    rcases List.mem_cons.mp hz with rfl | hz
    · exact ws
    rcases List.mem_cons.mp hz with rfl | hz
    · exact cl h2
    rcases List.mem_cons.mp hz with rfl | hz
    · exact o (C := Spelt ks c) sp h3
    · rw [List.mem_singleton.mp hz]
      exact ws
  | strike l h2 h3 =>
    refine cal_list (nC (.inr ⟨l, rfl⟩)) (by show 2 ≤ 1000; decide) fun z hz => ?_
    rcases List.mem_cons.mp hz with rfl | hz
    · exact ws
    · rw [List.mem_singleton.mp hz]
      have e : partQ (.tuple l) = .tuple (l.map partQ) := by
        have h := strike_q h2
        have h : PyData.tuple [.str "strike", partQ (.tuple l)] = _ := h
        injection h with h
        injection h with _ h
        injection h with h _
        rw [h]
        congr 1
        exact List.map_congr_left fun x hx => by
          obtain ⟨c, z⟩ := h2 x hx
          exact z.q.2
      rw [e]
      have := cal_map (f := id) (g := partQ) (n := n + 1) (l := l) ?_ (by omega) fun x hx => by
        obtain ⟨c, z⟩ := h2 x hx
        exact sp z
      · rw [List.map_id] at this
        exact this
      · rw [List.map_id]
        cases l with
        | nil => rfl
        | cons x r =>
          obtain ⟨c, f, hf, s0, t, a, ea, ha, rfl⟩ := h2 x (List.mem_cons_self ..)
          rfl
  | drop c h2 =>
    refine cal_list (nC (.inr (isT h2))) (by show 2 ≤ 1000; decide) fun z hz => ?_
    rcases List.mem_cons.mp hz with rfl | hz
    · exact ws
    · rw [List.mem_singleton.mp hz]
      exact cl h2
  | turn w m hw h2 =>
    obtain ⟨f, hf, en, _⟩ := h2
    refine cal_list (nC (.inr ⟨_, en.symm⟩)) (by show 2 ≤ 1000; decide) fun z hz => ?_
    rcases List.mem_cons.mp hz with rfl | hz
    · exact ws
    · rw [List.mem_singleton.mp hz, ← en]
      exact nf f hf
end Kr
namespace Kr
open PySem PySem.Spec PyProof.Rows L2 Lf Zl
/-! ### data that can be laid, shown -/
theorem lay_l {n : Nat} : ∀ {ds : List PyData}, (∀ d ∈ ds, d.canLay0 = true ∧ d.depth ≤ n) → PyData.canLayAll0 ds = true ∧ PyData.depthAll ds ≤ n
  | [], _ => ⟨rfl, Nat.zero_le _⟩
  | d :: ds, h => by
    obtain ⟨a1, a2⟩ := lay_l fun e he => h e (List.mem_cons_of_mem _ he)
    obtain ⟨b1, b2⟩ := h d (List.mem_cons_self ..)
    refine ⟨?_, ?_⟩
    · rw [PyData.canLayAll0.eq_2, a1, b1]
      rfl
    · rw [PyData.depthAll.eq_2]
      exact Nat.max_le.mpr ⟨b2, a2⟩
theorem lay_t {n : Nat} {ds : List PyData} (h : ∀ d ∈ ds, d.canLay0 = true ∧ d.depth ≤ n) : (PyData.tuple ds).canLay0 = true ∧ (PyData.tuple ds).depth ≤ n + 1 := by
  obtain ⟨a1, a2⟩ := lay_l h
  exact ⟨by rw [PyData.canLay0]; exact a1, by rw [PyData.depth]; omega⟩
theorem lay_word : ∀ w ∈ (["cell", "place", "write", "strike", "drop", "on", "off"] : List Str), (PyData.str w).canLay0 = true := by decide +kernel
theorem lay_str {w : Str} {n : Nat} (h : (PyData.str w).canLay0 = true) : (PyData.str w).canLay0 = true ∧ (PyData.str w).depth ≤ n := ⟨h, Nat.zero_le _⟩
theorem lay_int {i : Int} {n : Nat} : (PyData.int i).canLay0 = true ∧ (PyData.int i).depth ≤ n := ⟨rfl, Nat.zero_le _⟩
theorem lay_mono {d : PyData} {m n : Nat} (h : d.canLay0 = true ∧ d.depth ≤ m) (l : m ≤ n) : d.canLay0 = true ∧ d.depth ≤ n := ⟨h.1, Nat.le_trans h.2 l⟩
theorem namo_lay2 {d : PyData} {n : Nat} (h : NamO d) (l : 1 ≤ n) : d.canLay0 = true ∧ d.depth ≤ n := lay_mono ⟨h.lay.1, h.lay.2.1⟩ l
theorem aform_lay {a : PyData} (h : AForm a) : a.canLay0 = true ∧ a.depth ≤ 3 := by
  have in2 : ∀ {p : PyData → Prop} {x y : PyData}, p x → p y → ∀ d ∈ [x, y], p d := fun hx hy d hd => by
    rcases List.mem_cons.mp hd with rfl | hd
    · exact hx
    · rw [List.mem_singleton.mp hd]
      exact hy
  have in3 : ∀ {p : PyData → Prop} {x y z : PyData}, p x → p y → p z → ∀ d ∈ [x, y, z], p d := fun hx hy hz d hd => by
    rcases List.mem_cons.mp hd with rfl | hd
    · exact hx
    · exact in2 hy hz d hd
  have in4 : ∀ {p : PyData → Prop} {x y z w : PyData}, p x → p y → p z → p w → ∀ d ∈ [x, y, z, w], p d := fun hx hy hz hw d hd => by
    rcases List.mem_cons.mp hd with rfl | hd
    · exact hx
    · exact in3 hy hz hw d hd
  have wd : ∀ {w : Str}, w ∈ (["cell", "place", "write", "strike", "drop", "on", "off"] : List Str) → (PyData.str w).canLay0 = true ∧ (PyData.str w).depth ≤ 2 := fun h => lay_str (lay_word _ h)
  cases h with
  | cell h1 h2 => exact lay_t (n := 2) (in3 (wd (by decide)) (namo_lay2 h1 (by decide)) (namo_lay2 h2 (by decide)))
  | place h1 h2 h3 => exact lay_t (n := 2) (in4 (wd (by decide)) (namo_lay2 h1 (by decide)) (namo_lay2 h2 (by decide)) (namo_lay2 h3 (by decide)))
  | write h1 h2 h3 => exact lay_t (n := 2) (in4 (wd (by decide)) (namo_lay2 h1 (by decide)) (namo_lay2 h2 (by decide)) (lay_str (text_len _ h3).2))
  | strike h1 _ => exact lay_t (n := 2) (in2 (wd (by decide)) (lay_t (n := 1) fun d hd => namo_lay2 (h1 d hd) (by decide)))
  | drop h1 => exact lay_t (n := 2) (in2 (wd (by decide)) (namo_lay2 h1 (by decide)))
  | turn hw h1 =>
    refine lay_t (n := 2) (in2 (wd ?_) (namo_lay2 h1 (by decide)))
    rcases hw with rfl | rfl <;> decide
theorem lay_hand : ∀ h ∈ hands4, (PyData.str h).canLay0 = true := by decide +kernel
theorem deed_lay {d : Deed} (h : DF d) (hs : ∀ p ∈ d.seen, p.1 ∈ hands4) : d.D.canLay0 = true ∧ d.D.depth ≤ 4 := by
  refine lay_t (n := 3) fun x hx => ?_
  rcases List.mem_cons.mp hx with rfl | hx
  · exact lay_str (lay_hand _ h.hh)
  rcases List.mem_cons.mp hx with rfl | hx
  · exact lay_int
  rcases List.mem_cons.mp hx with rfl | hx
  · exact lay_int
  rcases List.mem_cons.mp hx with rfl | hx
  · refine lay_mono (lay_t (n := 1) fun y hy => ?_) (by decide : 2 ≤ 3)
    obtain ⟨p, hp, rfl⟩ := List.mem_map.mp hy
    refine lay_t (n := 0) fun z hz => ?_
    rcases List.mem_cons.mp hz with rfl | hz
    · exact lay_str (lay_hand _ (hs p hp))
    · rw [List.mem_singleton.mp hz]
      exact lay_int
  rw [List.mem_singleton.mp hx]
  exact aform_lay h.act
theorem deeds_shaped {ds : List Deed} (h : ∀ d ∈ ds, DF d ∧ ∀ p ∈ d.seen, p.1 ∈ hands4) : SeqAt.shaped (.list (ds.map Deed.D)) = true ∧ (PyData.list (ds.map Deed.D)).eqv (.list (ds.map Deed.D)) = true := by
  obtain ⟨a1, a2⟩ := lay_l (n := 4) (ds := ds.map Deed.D) fun x hx => by
    obtain ⟨d, hd, rfl⟩ := List.mem_map.mp hx
    exact deed_lay (h d hd).1 (h d hd).2
  have c1 : (PyData.list (ds.map Deed.D)).canLay0 = true := by rw [PyData.canLay0.eq_5]; exact a1
  refine ⟨?_, SeqAt.eqv_refl _ c1⟩
  unfold SeqAt.shaped
  rw [c1, Bool.true_and, decide_eq_true_eq, PyData.depth]
  omega
/-- small data without dicts -/
structure NiceW (W : Nat) (d : PyData) : Prop where
  dep : d.depth ≤ 8
  sho : d.showable = true
  nod : d.hasDict = false
  lea : PyData.leavesShort 20 d = true
  wei : d.weight ≤ W
theorem nice_all {W : Nat} : ∀ {ds : List PyData}, (∀ d ∈ ds, NiceW W d) → PyData.depthAll ds ≤ 8 ∧ PyData.showableAll ds = true ∧ PyData.hasDictAll ds = false ∧ PyData.leavesShortAll 20 ds = true ∧ PyData.weightAll ds ≤ (W + 1) * ds.length
  | [], _ => ⟨Nat.zero_le _, rfl, rfl, rfl, Nat.zero_le _⟩
  | d :: ds, h => by
    obtain ⟨a2, a3, a4, a5, a6⟩ := nice_all fun e he => h e (List.mem_cons_of_mem _ he)
    obtain ⟨b2, b3, b4, b5, b6⟩ := h d (List.mem_cons_self ..)
    refine ⟨?_, ?_, ?_, ?_, ?_⟩
    · rw [PyData.depthAll.eq_2]
      exact Nat.max_le.mpr ⟨b2, a2⟩
    · rw [PyData.showableAll, a3, b3]
      rfl
    · rw [PyData.hasDictAll, a4, b4]
      rfl
    · rw [PyData.leavesShortAll.eq_2, a5, b5]
      rfl
    · rw [PyData.weightAll.eq_2, List.length_cons, Nat.mul_succ]
      omega
theorem nice_shown {W : Nat} {ds : List PyData} (h : ∀ d ∈ ds, NiceW W d) (l : (W + 1) * ds.length ≤ 100000) : (PyData.list ds).showable = true ∧ (PyData.list ds).hasDict = false ∧ (PyData.list ds).depth ≤ 60 ∧ (PyData.list ds).shown.length ≤ sizeLine := by
  obtain ⟨a2, a3, a4, a5, a6⟩ := nice_all h
  have ez : sizeLine = 16777216 := by decide +kernel
  refine ⟨by rw [PyData.showable.eq_5]; exact a3, by rw [PyData.hasDict.eq_5]; exact a4, by rw [PyData.depth]; omega, ?_⟩
  have := PyData.shown_le 20 (by decide) (.list ds) (by rw [PyData.leavesShort.eq_5]; exact a5)
  have e : (PyData.list ds).weight = PyData.weightAll ds := by rw [PyData.weight]
  rw [e] at this
  rw [ez]
  omega
theorem nice_nam {h : Str} {k : Nat} (hh : h ∈ hands4) (hk : k < 64) : NiceW 60 (nam h k) := by
  have a : ∀ h ∈ hands4, ∀ k : Nat, k < 64 → (nam h k).depth ≤ 8 ∧ (nam h k).showable = true ∧ (nam h k).hasDict = false ∧ PyData.leavesShort 20 (nam h k) = true ∧ (nam h k).weight ≤ 60 := by decide +kernel
  obtain ⟨a1, a2, a3, a4, a5⟩ := a h hh k hk
  exact ⟨a1, a2, a3, a4, a5⟩
end Kr
namespace Kr
open PySem PySem.Spec PyProof.Rows L2 Lf Zl
/-! ### the rows told -/
def RowF (r : PyData) : Prop := ∃ st, Nk st ∧ st ≠ .none ∧ (r = rowO st ∨ ∃ w l, (w = ("passed" : Str) ∨ w = "done") ∧ r = rowD st w l ∧ (∀ x ∈ l, Nk x) ∧ l.length ≤ 65)
theorem rows_form {ds S : List Deed} {off : NestedKey → Bool} (W : Wf ds) (h : Srt ds S) : ∀ i, i ≤ S.length → ∀ r ∈ (runP off ((S.take i).filterMap toPl)).rows, RowF r
  | 0, _ => fun r hr => (by cases hr)
  | i + 1, hi => by
    have hg : S[i]? = some S[i] := List.getElem?_eq_getElem hi
    have et : S.take (i + 1) = S.take i ++ [S[i]] := by rw [List.take_succ, hg]; rfl
    have ih := rows_form (off := off) W h i (by omega)
    have ok := run_okS (off := off) W h i (by omega)
    have hn : ∀ q ∈ (S.take i).filterMap toPl, q.d.h ∈ hands4 ∧ q.d.k < 64 := fun q hq => by
      obtain ⟨e1, h1, h2⟩ := List.mem_filterMap.mp hq
      have := W.df e1 (h.1.mem_iff.mp (List.mem_of_mem_take h1))
      rw [toPl_d h2]
      exact ⟨this.hh, this.hk⟩
    have la : ((S.take i).filterMap toPl).length ≤ 64 := Nat.le_trans (List.length_filterMap_le _ _) (by rw [List.length_take, h.1.length_eq]; have := W.len; omega)
    rw [et, List.filterMap_append]
    cases t : toPl S[i] with
    | none =>
      rw [show [S[i]].filterMap toPl = [] by simp [t], List.append_nil]
      exact ih
    | some p =>
      rw [show [S[i]].filterMap toPl = [p] by simp [t], runP_snoc]
      have co := W.cond h (as := S.take i) (bs := S.drop (i + 1)) (by simp) t
      obtain ⟨n1, n2, n3, n4⟩ := co.nkp hn
      obtain ⟨l, wl⟩ := ok.1.ways co.par
      obtain ⟨ll, lc⟩ := ok.1.len wl
      have nl : ∀ x ∈ l, Nk x := fun x hx => by
        obtain ⟨q, hq, e1, e2⟩ := lc x hx
        refine .inr ⟨q.d.h, (hn q hq).1, q.d.k, (hn q hq).2, ?_⟩
        rw [← e2, ← e1]
        rfl
      unfold stepP
      rw [way_is wl]
      have cut : ∀ {y r : PyData} {rs : List PyData}, r ∈ rs ++ [y] → r ∈ rs ∨ r = y := fun h => (List.mem_append.mp h).imp id fun h => List.mem_singleton.mp h
      split
      · intro r hr
        rcases cut hr with hr | rfl
        · exact ih r hr
        · exact ⟨p.st, n1, p.nn, .inl rfl⟩
      · split
        · intro r hr
          rcases cut hr with hr | rfl
          · exact ih r hr
          · refine ⟨p.st, n1, p.nn, .inr ⟨_, _, .inl rfl, rfl, fun x hx => ?_, ?_⟩⟩
            · rcases List.mem_append.mp hx with hx | hx
              · exact nl x ((List.takeWhile_sublist _).subset hx)
              · rw [List.mem_singleton.mp hx]
                exact n2
            · unfold upto
              rw [List.length_append, List.length_singleton]
              have := (List.takeWhile_sublist (l := l) fun x => decide (x ≠ p.c)).length_le
              omega
        · intro r hr
          rcases cut hr with hr | rfl
          · exact ih r hr
          · exact ⟨p.st, n1, p.nn, .inr ⟨_, _, .inr rfl, rfl, nl, by omega⟩⟩
theorem Nk.nice {x : NestedKey} (h : Nk x) : NiceW 60 (datK x) ∧ noList (datK x) = true := by
  rcases h with rfl | ⟨a, ha, k, hk, rfl⟩
  · exact ⟨⟨by decide, by decide, by decide, by decide +kernel, by decide +kernel⟩, rfl⟩
  · exact ⟨nice_nam ha hk, rfl⟩
theorem noLists_all : ∀ {ds : List PyData}, (∀ d ∈ ds, noList d = true) → noLists ds = true
  | [], _ => rfl
  | d :: ds, h => by
    rw [noLists, h d (List.mem_cons_self ..), noLists_all fun e he => h e (List.mem_cons_of_mem _ he)]
    rfl
theorem word_nice : ∀ w ∈ (["passed", "done", "off"] : List Str), NiceW 20 (.str w) := by
  have a : ∀ w ∈ (["passed", "done", "off"] : List Str), (PyData.str w).depth ≤ 8 ∧ (PyData.str w).showable = true ∧ (PyData.str w).hasDict = false ∧ PyData.leavesShort 20 (.str w) = true ∧ (PyData.str w).weight ≤ 20 := by decide +kernel
  intro w hw
  obtain ⟨a1, a2, a3, a4, a5⟩ := a w hw
  exact ⟨a1, a2, a3, a4, a5⟩
theorem RowF.nice {r : PyData} (h : RowF r) : NiceW 4200 r ∧ noList r = true := by
  have three : ∀ {x y z : PyData} {W : Nat}, NiceW 60 x → NiceW 20 y → NiceW W z → noList x = true → noList y = true → noList z = true → x.depth ≤ 3 → y.depth ≤ 3 → z.depth ≤ 3 → W ≤ 4080 → NiceW 4200 (.tuple [x, y, z]) ∧ noList (.tuple [x, y, z]) = true := fun {x y z W} hx hy hz nx ny nz dx dy dz hW => by
    refine ⟨⟨?_, ?_, ?_, ?_, ?_⟩, ?_⟩
    · rw [PyData.depth, PyData.depthAll.eq_2, PyData.depthAll.eq_2, PyData.depthAll.eq_2, PyData.depthAll.eq_1]
      omega
    · rw [PyData.showable, PyData.showableAll, PyData.showableAll, PyData.showableAll, PyData.showableAll, hx.sho, hy.sho, hz.sho]
      rfl
    · rw [PyData.hasDict, PyData.hasDictAll, PyData.hasDictAll, PyData.hasDictAll, PyData.hasDictAll, hx.nod, hy.nod, hz.nod]
      rfl
    · rw [PyData.leavesShort, PyData.leavesShortAll.eq_2, PyData.leavesShortAll.eq_2, PyData.leavesShortAll.eq_2, PyData.leavesShortAll.eq_1, hx.lea, hy.lea, hz.lea]
      rfl
    · have := hx.wei
      have := hy.wei
      have := hz.wei
      rw [PyData.weight, PyData.weightAll.eq_2, PyData.weightAll.eq_2, PyData.weightAll.eq_2, PyData.weightAll.eq_1]
      omega
    · rw [noList, noLists, noLists, noLists, noLists, nx, ny, nz]
      rfl
  obtain ⟨st, ns, _, rfl | ⟨w, l, hw, rfl, nl, ll⟩⟩ := h
  · exact three ns.nice.1 (word_nice "off" (by decide)) (W := 20) ⟨by decide, by decide, by decide, by decide +kernel, by decide +kernel⟩ ns.nice.2 rfl rfl (Nat.le_trans ns.namo.lay.2.1 (by decide)) (by decide) (by decide) (by decide)
  · have nm : ∀ d ∈ l.map datK, NiceW 60 d := fun d hd => by
      obtain ⟨x, hx, rfl⟩ := List.mem_map.mp hd
      exact (nl x hx).nice.1
    obtain ⟨a2, a3, a4, a5, a6⟩ := nice_all nm
    rw [List.length_map] at a6
    have dp : (PyData.tuple (l.map datK)).depth ≤ 2 := (lay_t (n := 1) fun d hd => by
      obtain ⟨x, hx, rfl⟩ := List.mem_map.mp hd
      exact ⟨(nl x hx).namo.lay.1, (nl x hx).namo.lay.2.1⟩).2
    refine three ns.nice.1 (word_nice w (by rcases hw with rfl | rfl <;> decide)) (W := 4000) ⟨by omega, by rw [PyData.showable]; exact a3, by rw [PyData.hasDict]; exact a4, by rw [PyData.leavesShort]; exact a5, by rw [PyData.weight]; omega⟩ ns.nice.2 rfl ?_ (Nat.le_trans ns.namo.lay.2.1 (by decide)) (Nat.zero_le 3) (by omega) (by decide)
    rw [noList]
    exact noLists_all fun d hd => by
      obtain ⟨x, hx, rfl⟩ := List.mem_map.mp hd
      exact (nl x hx).nice.2
theorem rows_shown {ds : List PyData} (h : ∀ d ∈ ds, NiceW 4200 d) (l : ds.length ≤ 64) : (PyData.list ds).showable = true ∧ (PyData.list ds).hasDict = false ∧ (PyData.list ds).depth ≤ 60 ∧ (PyData.list ds).shown.length ≤ sizeLine := by
  obtain ⟨a2, a3, a4, a5, a6⟩ := nice_all h
  have ez : sizeLine = 16777216 := by decide +kernel
  refine ⟨by rw [PyData.showable.eq_5]; exact a3, by rw [PyData.hasDict.eq_5]; exact a4, by rw [PyData.depth]; omega, ?_⟩
  have := PyData.shown_le 20 (by decide) (.list ds) (by rw [PyData.leavesShort.eq_5]; exact a5)
  have e : (PyData.list ds).weight = PyData.weightAll ds := by rw [PyData.weight]
  rw [e] at this
  rw [ez]
  omega
end Kr
namespace Kr
open PySem PySem.Spec PyProof.Rows L2 Lf Zl
theorem datOf_ds' (ds : List Deed) : datOf ((ds.map Deed.D).map Val.dat) = some (ds.map Deed.D) := datOf_map _
theorem rows_len {ds S : List Deed} (W : Wf ds) (h : Srt ds S) : (rowsOf ds S).length ≤ 64 := by
  unfold rowsOf
  rw [run_len]
  refine Nat.le_trans (List.length_filterMap_le _ _) ?_
  rw [h.1.length_eq]
  exact W.len
theorem rows_all {ds S : List Deed} (W : Wf ds) (h : Srt ds S) : ∀ r ∈ rowsOf ds S, RowF r := fun r hr => rows_form (off := offB ds) W h S.length (Nat.le_refl _) r (by rw [List.take_length]; exact hr)
theorem RowF.lay {r : PyData} (h : RowF r) : r.canLay0 = true ∧ r.depth ≤ 3 := by
  have three : ∀ {x y z : PyData}, (x.canLay0 = true ∧ x.depth ≤ 2) → (y.canLay0 = true ∧ y.depth ≤ 2) → (z.canLay0 = true ∧ z.depth ≤ 2) → (PyData.tuple [x, y, z]).canLay0 = true ∧ (PyData.tuple [x, y, z]).depth ≤ 3 := fun hx hy hz => lay_t (n := 2) fun d hd => by
    rcases List.mem_cons.mp hd with rfl | hd
    · exact hx
    rcases List.mem_cons.mp hd with rfl | hd
    · exact hy
    · rw [List.mem_singleton.mp hd]
      exact hz
  have wl : ∀ w ∈ (["passed", "done", "off"] : List Str), (PyData.str w).canLay0 = true := by decide +kernel
  obtain ⟨st, ns, _, rfl | ⟨w, l, hw, rfl, nl, ll⟩⟩ := h
  · exact three ⟨ns.namo.lay.1, Nat.le_trans ns.namo.lay.2.1 (by decide)⟩ ⟨wl "off" (by decide), Nat.zero_le _⟩ ⟨rfl, Nat.zero_le _⟩
  · exact three ⟨ns.namo.lay.1, Nat.le_trans ns.namo.lay.2.1 (by decide)⟩ ⟨wl w (by rcases hw with rfl | rfl <;> decide), Nat.zero_le _⟩ (lay_t (n := 1) fun d hd => by
      obtain ⟨x, hx, rfl⟩ := List.mem_map.mp hd
      exact ⟨(nl x hx).namo.lay.1, (nl x hx).namo.lay.2.1⟩)
theorem rows_shaped {l : List PyData} (h : ∀ r ∈ l, RowF r) : SeqAt.shaped (.list l) = true ∧ (PyData.list l).eqv (.list l) = true := by
  obtain ⟨a1, a2⟩ := lay_l (n := 3) (ds := l) fun x hx => (h x hx).lay
  have c1 : (PyData.list l).canLay0 = true := by rw [PyData.canLay0.eq_5]; exact a1
  refine ⟨?_, SeqAt.eqv_refl _ c1⟩
  unfold SeqAt.shaped
  rw [c1, Bool.true_and, decide_eq_true_eq, PyData.depth]
  omega
theorem rows_flat {ds S : List Deed} (W : Wf ds) (h : Srt ds S) : flatN (.lst ((rowsOf ds S).map .dat)) := fun x hx => by
  obtain ⟨r, hr, rfl⟩ := List.mem_map.mp hx
  exact (rows_all W h r hr).nice.2
def RowF0 (r : PyData) : Prop := ∃ st, Nk0 st ∧ st ≠ .none ∧ (r = rowO st ∨ ∃ w l, (w = ("passed" : Str) ∨ w = "done") ∧ r = rowD st w l ∧ (∀ x ∈ l, Nk0 x) ∧ l.length ≤ 65)
theorem Cond.nkp0 {as : List Pl} {p : Pl} (c : Cond as p) (hh : ∀ q ∈ as, q.d.h ∈ hands0 ∧ q.d.k < 64) (hp : p.d.h ∈ hands0) : Nk0 p.st ∧ Nk0 p.c := by
  have s : Nk0 p.st := .inr ⟨_, hp, _, c.hk, rfl⟩
  refine ⟨s, ?_⟩
  rcases c.cel with e | ⟨q, hq, e1, e2⟩
  · rw [← e]
    exact s
  · refine .inr ⟨q.d.h, (hh q hq).1, q.d.k, (hh q hq).2, ?_⟩
    rw [← e2, ← e1]
    rfl
theorem rows_form0 {ds S : List Deed} {off : NestedKey → Bool} (D : Dr hands0 ds) (W : Wf ds) (h : Srt ds S) : ∀ i, i ≤ S.length → ∀ r ∈ (runP off ((S.take i).filterMap toPl)).rows, RowF0 r
  | 0, _ => fun r hr => (by cases hr)
  | i + 1, hi => by
    have hg : S[i]? = some S[i] := List.getElem?_eq_getElem hi
    have et : S.take (i + 1) = S.take i ++ [S[i]] := by rw [List.take_succ, hg]; rfl
    have ih := rows_form0 (off := off) D W h i (by omega)
    have ok := run_okS (off := off) W h i (by omega)
    have hn : ∀ q ∈ (S.take i).filterMap toPl, q.d.h ∈ hands0 ∧ q.d.k < 64 := fun q hq => by
      obtain ⟨e1, h1, h2⟩ := List.mem_filterMap.mp hq
      have hm := h.1.mem_iff.mp (List.mem_of_mem_take h1)
      rw [toPl_d h2]
      exact ⟨D.h0 e1 hm, (W.df e1 hm).hk⟩
    have la : ((S.take i).filterMap toPl).length ≤ 64 := Nat.le_trans (List.length_filterMap_le _ _) (by rw [List.length_take, h.1.length_eq]; have := W.len; omega)
    rw [et, List.filterMap_append]
    cases t : toPl S[i] with
    | none =>
      rw [show [S[i]].filterMap toPl = [] by simp [t], List.append_nil]
      exact ih
    | some p =>
      rw [show [S[i]].filterMap toPl = [p] by simp [t], runP_snoc]
      have co := W.cond h (as := S.take i) (bs := S.drop (i + 1)) (by simp) t
      obtain ⟨n1, n2⟩ := co.nkp0 hn (by rw [toPl_d t]; exact D.h0 _ (h.1.mem_iff.mp (List.getElem_mem hi)))
      obtain ⟨l, wl⟩ := ok.1.ways co.par
      obtain ⟨ll, lc⟩ := ok.1.len wl
      have nl : ∀ x ∈ l, Nk0 x := fun x hx => by
        obtain ⟨q, hq, e1, e2⟩ := lc x hx
        refine .inr ⟨q.d.h, (hn q hq).1, q.d.k, (hn q hq).2, ?_⟩
        rw [← e2, ← e1]
        rfl
      unfold stepP
      rw [way_is wl]
      have cut : ∀ {y r : PyData} {rs : List PyData}, r ∈ rs ++ [y] → r ∈ rs ∨ r = y := fun h => (List.mem_append.mp h).imp id fun h => List.mem_singleton.mp h
      split
      · intro r hr
        rcases cut hr with hr | rfl
        · exact ih r hr
        · exact ⟨p.st, n1, p.nn, .inl rfl⟩
      · split
        · intro r hr
          rcases cut hr with hr | rfl
          · exact ih r hr
          · refine ⟨p.st, n1, p.nn, .inr ⟨_, _, .inl rfl, rfl, fun x hx => ?_, ?_⟩⟩
            · rcases List.mem_append.mp hx with hx | hx
              · exact nl x ((List.takeWhile_sublist _).subset hx)
              · rw [List.mem_singleton.mp hx]
                exact n2
            · unfold upto
              rw [List.length_append, List.length_singleton]
              have := (List.takeWhile_sublist (l := l) fun x => decide (x ≠ p.c)).length_le
              omega
        · intro r hr
          rcases cut hr with hr | rfl
          · exact ih r hr
          · exact ⟨p.st, n1, p.nn, .inr ⟨_, _, .inr rfl, rfl, nl, by omega⟩⟩
section
variable {P : Program} {w : World} {K : PySem.W.Frag} {mg : Str → Option Value} {base : Heap}
def fWays : DSp := fun xs μ Q => ∃ ds S : List Deed, xs = [.dat (.list (ds.map Deed.D)), .dat (.list (rowsOf ds S))] ∧ μ = [] ∧ Dr hands0 ds ∧ ds.length ≤ 31 ∧ Srt ds S ∧ Q (.dat (.bool true)) []
def fTurned : DSp := fun xs μ Q => ∃ u d s c N, ∃ ds S : List Deed, xs = [.ptr u, .dat (.list (ds.map Deed.D)), .dat (.list (rowsOf ds S))] ∧ μ = [(u, urnN d s c)] ∧ UrnOk d s c N ∧ N ≤ 100000 ∧ Dr hands0 ds ∧ ds.length ≤ 31 ∧ Srt ds S ∧
  ∀ d' c', UrnOk d' s c' (N + 200) → Q (.dat (.bool true)) [(u, urnN d' s c')]
def fLaw : DSp := fun xs μ Q => ∃ ns, xs = [.scr ns] ∧ μ = [] ∧ Q (.dat (.bool true)) []
abbrev sLaw : Stmt := topS 27
theorem scLaw : FnScope ["_law_script", "_law_k", "_law_urn_here", "_law_deeds_here", "_law_told", "_law_others", "_law_hand", "_law_number", "_law_stamp", "_law_seen", "_law_act_here", "_law_name", "_law_word", "_law_way"] ["_law_script"] (defScope sLaw) := ⟨rfl, rfl, rfl, by decide +kernel, rfl, by decide +kernel, by decide +kernel⟩
set_option maxHeartbeats 1000000 in
theorem run_law {f : Addr} {fd : FuncData} (F : Fun K "law" "law" sLaw f fd) (T : Bs mg)
    (c__law_urn : CalZ P w K mg base 1 "_law_urn" ["_law_script", "_law_k"] fUrn) (c__law_lot : CalZ P w K mg base 1 "_law_lot" ["_law_urn_here", "_law_many"] fLot) (c__law_deeds : CalZ P w K mg base 4 "_law_deeds" ["_law_urn_here", "_law_many"] fDeeds) (c__law_mixed : CalZ P w K mg base 2 "_law_mixed" ["_law_urn_here", "_law_things"] fMixed)
    (c_places : CalZ P w K mg base 5 "places" ["deeds"] fPlaces) (c__law_ways_right : CalZ P w K mg base 2 "_law_ways_right" ["_law_deeds_here", "_law_told"] fWays) (c__law_turned_right : CalZ P w K mg base 6 "_law_turned_right" ["_law_urn_here", "_law_deeds_here", "_law_told"] fTurned)
    (c__law_called : CalZ P w K mg base 5 "_law_called" ["_law_thing"] (fCalled 4)) : Gd.RunAt callerA P w K mg base f fd ["_law_script"] (spZ w K fLaw) := by
  refine runZ (k := 7) F scLaw ⟨rfl, by decide, by decide⟩ (fun xs μ Q h => ?_) (fun cdv outer s H E hr => ?_)
  · obtain ⟨ns, rfl, _⟩ := h
    rfl
  · have nd := scLaw.nd
    refine ⟨_, (dss_cons (ds_for PassesOwn.never rfl (di_range1 (by rfl) T.range (da_cons (d_callB (ca_max2 rfl) (by rfl) T.max (by decide +kernel) (da_cons d_int (da_cons (d_callB (ca_min2 rfl) (by rfl) T.min (by decide +kernel) (da_cons d_int (da_cons (d_callB ca_len (by rfl) T.len PySem.boot_len (da_cons (dv 0) da_nil)) da_nil))) da_nil))) da_nil)) (dg_name (i := 1) nd rfl (Or.inl rfl))
  (dss_cons (ds_set (i := 2) nd rfl (Or.inl rfl) (d_own0 c__law_urn (hr.mono (by decide)) (by rfl) (da_cons (dv 0) (da_cons (dv 1) da_nil))))
  (dss_cons (ds_set (i := 3) nd rfl (Or.inl rfl) (d_fz (d_own1 c__law_deeds (hr.mono (by decide)) (by rfl) (da_cons (dv 2) (da_cons (d_own1 c__law_lot (hr.mono (by decide)) (by rfl) (da_cons (dv 2) (da_cons d_int da_nil))) da_nil)))))
  (dss_cons (ds_set (i := 4) nd rfl (Or.inl rfl) (d_ownL c_places (hr.mono (by decide)) (by rfl) (da_cons (d_ownM c__law_mixed (hr.mono (by decide)) (by rfl) (da_cons (dv 2) (da_cons (dv 3) da_nil))) da_nil)))
  (dss_cons (ds_if (DW.dt (dw_or (dt_not (dt_truth (d_ownL c__law_ways_right (hr.mono (by decide)) (by rfl) (da_cons (dv 3) (da_cons (dv 4) da_nil))))) (dw_or1 (dt_not (dt_truth (d_ownM c__law_turned_right (hr.mono (by decide)) (by rfl) (da_cons (dv 2) (da_cons (dv 3) (da_cons (dv 4) da_nil)))))))))
  (dss_one (ds_ret d_bl))
  dss_nil)
  (dss_cons (ds_set (i := 5) nd rfl (Or.inl rfl) (d_lst da_nil))
  (dss_cons (ds_for PassesOwn.never rfl (di_seq (dv 3)) (dg_tup rfl (dgs_cons (dg_name (i := 6) nd rfl (Or.inl rfl)) (dgs_cons (dg_name (i := 7) nd rfl (Or.inl rfl)) (dgs_cons (dg_name (i := 8) nd rfl (Or.inl rfl)) (dgs_cons (dg_name (i := 9) nd rfl (Or.inl rfl)) (dgs_cons (dg_name (i := 10) nd rfl (Or.inl rfl)) dgs_nil))))))
  (dss_one (ds_expr (d_lm PySem.F.slot_list_append PySem.F.type_list_append me_append (dv 5) (da_cons (d_tup (da_cons (d_bin oz_add d_str (dv 6)) (da_cons (dv 7) (da_cons (dv 8) (da_cons (d_own0 c__law_called (hr.mono (by decide)) (by rfl) (da_cons (dv 9) da_nil)) (da_cons (d_own0 c__law_called (hr.mono (by decide)) (by rfl) (da_cons (dv 10) da_nil)) da_nil)))))) da_nil)))))
  (dss_one (ds_if (dt_cmp (oz_ne hr.units) (d_ownL c_places (hr.mono (by decide)) (by rfl) (da_cons (dv 5) da_nil)) (d_lc (own := [("_law_name", 11), ("_law_word", 12), ("_law_way", 13)]) rfl nd (di_seq (dv 4)) (blkOk_by (own := [("_law_name", 11), ("_law_word", 12), ("_law_way", 13)]) (N := ["_law_script", "_law_k", "_law_urn_here", "_law_deeds_here", "_law_told", "_law_others", "_law_hand", "_law_number", "_law_stamp", "_law_seen", "_law_act_here", "_law_name", "_law_word", "_law_way"]) (sc := defScope (topS 27)) (by decide +kernel)) (put_tup (is := [11, 12, 13]) rfl (by decide)) (fun _ _ _ _ _ => (pg_tup rfl (pgs_cons (pg_name (i := 11) nd rfl (Or.inl rfl)) (pgs_cons (pg_name (i := 12) nd rfl (Or.inl rfl)) (pgs_cons (pg_name (i := 13) nd rfl (Or.inl rfl)) pgs_nil))))) (fun _ _ _ _ _ => dts_nil) (fun _ _ _ _ _ => (d_tup (da_cons (d_own0 c__law_called (hr.mono (by decide)) (by rfl) (da_cons (dv 11) da_nil)) (da_cons (dv 12) (da_cons (d_own0 c__law_called (hr.mono (by decide)) (by rfl) (da_cons (dv 13) da_nil)) da_nil)))))) (nomark _))
  (dss_one (ds_ret d_bl))
  dss_nil)))))))))
  (dss_one (ds_ret d_bl))), ?_⟩
    rintro xs μ Q ⟨ns, rfl, rfl, q⟩
    have ez : sizeLine = 16777216 := by decide +kernel
    obtain ⟨j, j0, j1, ej⟩ : ∃ j : Int, 2 ≤ j ∧ j ≤ 4 ∧ (if (if ((ns.length : Nat) : Int) < 4 then ((ns.length : Nat) : Int) else 4) > 2 then (if ((ns.length : Nat) : Int) < 4 then ((ns.length : Nat) : Int) else 4) else 2) = j := ⟨_, by split <;> omega, by split <;> split <;> omega, rfl⟩
    show -(2 ^ 62) ≤ (if (if ((ns.length : Nat) : Int) < 4 then ((ns.length : Nat) : Int) else 4) > 2 then (if ((ns.length : Nat) : Int) < 4 then ((ns.length : Nat) : Int) else 4) else 2) ∧ _
    rw [ej]
    refine ⟨by omega, by omega, fun i ρ μ => ∃ y1 y2 y3 y4 y5 y6 y7 y8 y9 y10 y11 y12 y13, ρ = [some (.scr ns), y1, y2, y3, y4, y5, y6, y7, y8, y9, y10, y11, y12, y13] ∧ μ = [], ⟨_, _, _, _, _, _, _, _, _, _, _, _, _, rfl, rfl⟩, fun _ _ _ _ _ => trivial, ?_, ?_⟩
    · rintro i y ρ μ hy ⟨y1, y2, y3, y4, y5, y6, y7, y8, y9, y10, y11, y12, y13, rfl, rfl⟩
      have hlt : i < j.toNat := by
        have := (List.getElem?_eq_some_iff.mp hy).1
        rwa [rangeZ_len] at this
      rw [rangeZ_get hlt] at hy
      cases hy
      rw [Int.zero_add]
      refine ⟨ns, i, rfl, rfl, by omega, by omega, fun u d s d0 s0 s1 => ?_⟩
      refine ⟨0, u, _, rfl, u, d, s, 0, 0, 31, rfl, rfl, ⟨d0, s0, s1, Int.le_refl _, Int.le_refl _⟩, by decide, by decide, by decide, fun m d1 c1 m0 m1 ok1 => ⟨_, [], rfl, ?_⟩⟩
      obtain ⟨m, rfl⟩ := Int.eq_ofNat_of_zero_le m0
      rw [List.append_nil]
      refine ⟨0, u, _, rfl, u, d1, s, c1, _, m, rfl, rfl, ok1, by decide, by omega, fun p ds d2 c2 D dl ok2 => ⟨_, [_], rfl, ?_⟩⟩
      have wf := D.wf (by omega : ds.length ≤ 64)
      have nlD : ∀ d ∈ ds, noList d.D = true := fun d hd => deed_flat (D.df d hd)
      refine ⟨1, _, ds.map Deed.D, rfl, datOf_ds ds, ?_⟩
      refine ⟨0, u, _, [.ptr u, .dat (.list (ds.map Deed.D))], rfl, .cons (.keep _) (.cons (.keep _) .nil), u, d2, s, c2, _, ds.map Deed.D, rfl, rfl, ok2, by rw [List.length_map]; omega, fun pm es d' c' perm ok' => ⟨_, [(pm, _)], rfl, ⟨trivial, flat_urn _ _ _, ?_⟩, ?_⟩⟩
      · intro r hr
        rw [List.mem_singleton.mp hr]
        intro x hx
        obtain ⟨d, hd, rfl⟩ := List.mem_map.mp hx
        obtain ⟨d, hd2, rfl⟩ := List.mem_map.mp (perm.mem_iff.mp hd)
        exact deed_flat (D.df d hd2)
      obtain ⟨qs, pq, rfl⟩ := perm_inv perm
      have wq := wf.perm pq
      refine ⟨[_], .cons (.p 1 rfl (datOf_ds' qs)) .nil, qs, rfl, rfl, wq, fun d hd => nlD d (pq.mem_iff.mp hd), fun pt S hS => ⟨⟨trivial, fun r hr => by rw [List.mem_singleton.mp hr]; exact rows_flat wq hS⟩, ?_⟩⟩
      have hSd : Srt ds S := hS.perm pq
      have er : rowsOf qs S = rowsOf ds S := by
        unfold rowsOf
        rw [offB_perm pq]
      rw [er]
      have rl := rows_len wf hSd
      have rf := rows_all wf hSd
      refine ⟨[.dat (.list (ds.map Deed.D)), .dat (.list (rowsOf ds S))], .cons (.keep _) (.cons (.p 2 rfl (datOf_map _)) .nil), ds, S, rfl, rfl, D, by omega, hSd, ⟨rfl, fun r hr => (by cases hr)⟩, ?_⟩
      refine ⟨0, u, _, [.ptr u, .dat (.list (ds.map Deed.D)), .dat (.list (rowsOf ds S))], rfl, .cons (.keep _) (.cons (.keep _) (.cons (.p 2 (by decide) rfl (datOf_map _)) .nil)), u, d', s, c', _, ds, S, rfl, rfl, ok', by rw [List.length_map]; omega, D, by omega, hSd, fun d5 c5 ok5 => ⟨_, [], rfl, ⟨rfl, flat_urn _ _ _, by simp⟩, ?_⟩⟩
      refine ⟨Nat.zero_le _, fun po => ?_⟩
      refine ⟨fun n ρ μ => ∃ y6 y7 y8 y9 y10 y11 y12 y13, ρ = [some (.scr ns), some (.dat (.int i)), some (.ptr u), some (.dat (.list (ds.map Deed.D))), some (.ptr pt), some (.ptr po), y6, y7, y8, y9, y10, y11, y12, y13] ∧ μ = [(u, urnN d5 s c5), (pm, .lst ((qs.map Deed.D).map .dat)), (pt, .lst ((rowsOf ds S).map .dat)), (po, .lst ((ds.take n).map fun d => .dat (dQ d).D))], ⟨_, _, _, _, _, _, _, _, rfl, rfl⟩, fun _ _ _ _ _ => trivial, ?_, ?_⟩
      · rintro n y ρ μ hy ⟨y6, y7, y8, y9, y10, y11, y12, y13, rfl, rfl⟩
        rw [List.map_map] at hy
        obtain ⟨d0, hd, rfl⟩ := Option.map_eq_some_iff.mp (by rw [← List.getElem?_map]; exact hy)
        have hm := List.mem_of_getElem? hd
        have et : ds.take (n + 1) = ds.take n ++ [d0] := by rw [List.take_succ, hd]; rfl
        have sn := D.seen d0 hm
        refine ⟨rfl, ⟨3, _, rfl⟩, by have := hand_len _ (D.h0 d0 hm); rw [ez]; show 1 + _ ≤ _; omega, ?_⟩
        refine ⟨_, _, rfl, rfl, cal_seen (n := 2) (fun p hp => (sn.2 p hp).1) (by omega), ?_⟩
        refine ⟨_, _, rfl, rfl, cal_act (n := 1) D hm, ?_⟩
        refine ⟨(by show 5 ≤ sizeLine; decide), 3, _, rfl, by rw [List.length_map, List.length_take, ez]; omega, _, .refl _, _, _, _, _, _, _, _, _, rfl, ?_⟩
        rw [et, List.map_append]
        rfl
      · rintro ρ μ ⟨y6, y7, y8, y9, y10, y11, y12, y13, rfl, rfl⟩
        rw [List.length_map, List.length_map, List.take_length]
        have dq : datOf (ds.map fun d => Val.dat (dQ d).D) = some ((ds.map dQ).map Deed.D) := by
          rw [← datOf_map ((ds.map dQ).map Deed.D), List.map_map, List.map_map]
          rfl
        have wfQ : Wf (ds.map dQ) := D.q.wf (by rw [List.length_map]; omega)
        refine ⟨[_], .cons (.p 3 rfl dq) .nil, ds.map dQ, rfl, rfl, wfQ, fun d hd => deed_flat (D.q.df d hd), fun pr S' hS' => ⟨⟨trivial, fun r hr => by rw [List.mem_singleton.mp hr]; exact rows_flat wfQ hS'⟩, ?_⟩⟩
        have shp : SeqAt.shaped (.list (rowsOf (ds.map dQ) S')) = true ∧ (PyData.list (rowsOf (ds.map dQ) S')).eqv (.list (rowsOf (ds.map dQ) S')) = true := rows_shaped (rows_all wfQ hS')
        obtain rfl := hS'.one (hSd.q D)
        rw [rowsOf_q D (by omega) hSd] at shp ⊢
        have rf0 : ∀ r ∈ rowsOf ds S, RowF0 r := fun r hr => rows_form0 (off := offB ds) D wf hSd S.length (Nat.le_refl _) r (by rw [List.take_length]; exact hr)
        refine ⟨2, _, rfl, fun n acc μ => μ = [(u, urnN d5 s c5), (pm, .lst ((qs.map Deed.D).map .dat)), (pt, .lst ((rowsOf ds S).map .dat)), (po, .lst (ds.map fun d => .dat (dQ d).D)), (pr, .lst (((rowsOf ds S).map rowQ).map .dat))] ∧ acc = ((rowsOf ds S).take n).map fun r => Val.dat (rowQ r), ⟨rfl, rfl⟩, fun _ _ _ _ h => ⟨2, by rw [h.1]; rfl⟩, ?_, ?_⟩
        · rintro n y acc μ hy ⟨rfl, rfl⟩
          obtain ⟨r, hr, rfl⟩ := Option.map_eq_some_iff.mp (by rw [← List.getElem?_map]; exact hy)
          have et : (rowsOf ds S).take (n + 1) = (rowsOf ds S).take n ++ [r] := by rw [List.take_succ, hr]; rfl
          obtain ⟨st, ns, _, e | ⟨w, l, _, e, nl, ll⟩⟩ := rf0 r (List.mem_of_getElem? hr)
          · subst e
            refine ⟨_, rfl, _, _, rfl, rfl, cal_nk (n := 3) ns, ?_⟩
            refine ⟨_, _, rfl, rfl, cal_none (n := 3), (by show 3 ≤ sizeLine; decide), by rw [List.length_map, List.length_take, ez]; omega, _, .refl _, rfl, ?_⟩
            rw [et, List.map_append, List.map_singleton, rowQ_O]
            rfl
          · subst e
            refine ⟨_, rfl, _, _, rfl, rfl, cal_nk (n := 3) ns, ?_⟩
            refine ⟨_, _, rfl, rfl, cal_way (n := 2) nl (by omega), (by show 3 ≤ sizeLine; decide), by rw [List.length_map, List.length_take, ez]; omega, _, .refl _, rfl, ?_⟩
            rw [et, List.map_append, List.map_singleton, rowQ_D]
            rfl
        · rintro acc μ ⟨rfl, rfl⟩ pl
          rw [List.length_map, List.take_length]
          have d5' : datOf ((rowsOf ds S).map fun r => Val.dat (rowQ r)) = some ((rowsOf ds S).map rowQ) := by
            rw [← datOf_map ((rowsOf ds S).map rowQ), List.map_map]
            rfl
          refine ptr_cmp (g := not) (.p 4 rfl (datOf_map _)) (.p 5 rfl d5') shp.1 shp.1 ?_
          rw [shp.2]
          exact ⟨_, List.nil_sublist _, _, _, _, _, _, _, _, _, _, _, _, _, _, rfl, rfl⟩
    · rintro ρ μ ⟨y1, y2, y3, y4, y5, y6, y7, y8, y9, y10, y11, y12, y13, rfl, rfl⟩
      exact ⟨_, .refl _, q⟩
end
end Kr
namespace Kr
open PySem PySem.Spec PyProof.Rows L2 Lf Zl
local macro_rules | `(tactic| walk_at "sub") => `(tactic| first | exact List.nil_sublist _ | (refine .cons₂ _ ?_; walk_at "sub") | (refine .cons _ ?_; walk_at "sub"))
theorem form_place {r : List PyData} (h : AForm (.tuple (.str "place" :: r))) : ∃ c x p, r = [c, x, p] := by
  generalize e : (PyData.tuple (.str "place" :: r)) = z at h
  cases h with
  | place _ _ _ =>
    cases e
    exact ⟨_, _, _, rfl⟩
  | turn hw _ =>
    exfalso
    rcases hw with rfl | rfl <;> cases e
  | _ => cases e
def PlcN (ds : List Deed) (x : PyData) : Prop := ∃ e ∈ ds, e.name = x ∧ ∃ c h p, e.act = .tuple [.str "place", c, h, p]
/-- a row that isn't off, of a place -/
def GoodN (ds S : List Deed) (x : PyData) : Prop := PlcN ds x ∧ ∃ r ∈ rowsOf ds S, headD r = x ∧ ∀ st, r ≠ rowO st
theorem names_inj {ds : List Deed} (nd : (ds.map Deed.name).Nodup) {a b : Deed} (ha : a ∈ ds) (hb : b ∈ ds) (e : a.name = b.name) : a = b := by
  obtain ⟨i, hi, rfl⟩ := List.mem_iff_getElem.mp ha
  obtain ⟨j, hj, rfl⟩ := List.mem_iff_getElem.mp hb
  have h1 : (ds.map Deed.name)[i]? = some ds[i].name := by rw [List.getElem?_map, List.getElem?_eq_getElem hi]; rfl
  have h2 : (ds.map Deed.name)[j]? = some ds[i].name := by rw [List.getElem?_map, List.getElem?_eq_getElem hj, e]; rfl
  have := (List.getElem?_inj (by rw [List.length_map]; exact hi) nd).mp (h1.trans h2.symm)
  subst this
  rfl
/-- the place that a row of a place not off speaks of -/
theorem GoodN.place {ds S : List Deed} (D : Dr hands0 ds) (l : ds.length ≤ 64) (hS : Srt ds S) {x : PyData} (g : GoodN ds S x) : ∃ (as bs : List Pl) (p : Pl) (h : Str) (k : Nat), S.filterMap toPl = as ++ p :: bs ∧ p.st = nmK h k ∧ x = nam h k ∧ h ∈ hands0 ∧ k < 64 ∧
    p.st ≠ p.c ∧ (∀ q ∈ as, q.st ≠ p.st) ∧ as.length < (rowsOf ds S).length ∧ offB ds p.st = false ∧ ∃ e ∈ ds, e.name = x := by
  have wf := D.wf l
  obtain ⟨⟨e0, he0, en0, c0, h0, p0, ea0⟩, r, hr, hh, no⟩ := g
  obtain ⟨j, hj, rfl⟩ := List.mem_iff_getElem.mp hr
  have rh := rows_heads (off := offB ds) (ps := S.filterMap toPl)
  have rh : (rowsOf ds S).map headD = (S.filterMap toPl).map fun p => datK p.st := rh
  have h1 : ((rowsOf ds S).map headD)[j]? = some x := by rw [List.getElem?_map, List.getElem?_eq_getElem hj]; exact congrArg some hh
  rw [rh, List.getElem?_map] at h1
  obtain ⟨p, hp, hx⟩ := Option.map_eq_some_iff.mp h1
  have jl := (List.getElem?_eq_some_iff.mp hp).1
  have ec : S.filterMap toPl = (S.filterMap toPl).take j ++ p :: (S.filterMap toPl).drop (j + 1) := by
    have := (List.getElem?_eq_some_iff.mp hp).2
    rw [← this]
    simp
  have el : ((S.filterMap toPl).take j).length = j := by rw [List.length_take]; omega
  obtain ⟨l1, l2, eS, f1, f2⟩ := List.filterMap_eq_append_iff.mp ec
  obtain ⟨l3, d0, l4, e2, f3, f4, f5⟩ := List.filterMap_eq_cons_iff.mp f2
  have eS2 : S = (l1 ++ l3) ++ d0 :: l4 := by rw [eS, e2, List.append_assoc]
  have co := wf.cond hS eS2 f4
  have ef : (l1 ++ l3).filterMap toPl = (S.filterMap toPl).take j := by
    rw [List.filterMap_append, f1, List.filterMap_eq_nil_iff.mpr f3, List.append_nil]
  have hd0 : d0 ∈ ds := hS.1.mem_iff.mp (by rw [eS2]; simp)
  have pd := toPl_d f4
  have hst : p.st = nmK d0.h d0.k := by
    unfold Pl.st
    rw [pd]
  have nx : x = nam d0.h d0.k := by
    rw [← hx]
    show datK p.st = _
    rw [hst]
    rfl
  have de : d0 = e0 := names_inj wf.nd hd0 he0 (by
    rw [en0, nx]
    rfl)
  subst de
  have cc := (wf.plc d0 hd0 _ _ _ ea0).cel hS eS2
  have pc : p.c = kN c0 := by
    have t : toPl d0 = some ⟨d0, kN c0, kN h0⟩ := by
      unfold toPl
      rw [ea0]
      exact if_pos rfl
    rw [f4] at t
    cases t
    rfl
  rw [← pc] at cc
  have ne := co.ne cc
  refine ⟨_, _, p, d0.h, d0.k, ec, hst, nx, D.h0 d0 hd0, (wf.df d0 hd0).hk, ne, fun q hq => co.new q (by rw [ef]; exact hq), by rw [el]; exact hj, ?_, d0, hd0, en0⟩
  refine row_word (as := (S.filterMap toPl).take j) (bs := (S.filterMap toPl).drop (j + 1)) (r := (rowsOf ds S)[j]) ?_ (no p.st) ne
  rw [← ec, el]
  exact List.getElem?_eq_getElem hj
section
variable {P : Program} {w : World} {K : PySem.W.Frag} {mg : Str → Option Value} {base : Heap}
abbrev sTurned : Stmt := topS 25
theorem scTurned : FnScope ["_law_urn_here", "_law_deeds_here", "_law_told", "_law_some", "_law_name", "_law_at", "_law_more", "_law_found", "_law_cells", "_law_deed", "_law_row"] ["_law_urn_here", "_law_deeds_here", "_law_told"] (defScope sTurned) := ⟨rfl, rfl, rfl, by decide +kernel, rfl, by decide +kernel, by decide +kernel⟩
set_option maxHeartbeats 1000000 in
theorem ok_turned {f : Addr} {fd : FuncData} (F : Fun K "_law_turned_right" "_law_turned_right" sTurned f fd) (T : Bs mg) (c__law_pick : CalZ P w K mg base 2 "_law_pick" ["_law_urn_here", "_law_things"] fPick) (c__law_next : CalZ P w K mg base 1 "_law_next" ["_law_deeds_here", "_law_act_here"] fNext)
    (c_places : CalZ P w K mg base 5 "places" ["deeds"] fPlaces) (c__law_mixed : CalZ P w K mg base 2 "_law_mixed" ["_law_urn_here", "_law_things"] fMixed) : FnOk P w K mg base CX0 6 f fd ["_law_urn_here", "_law_deeds_here", "_law_told"] (spZ w K fTurned) := by
  refine Fun.okZ F scTurned (fun xs μ Q h => ?_) (fun cdv A outer s H E hr => ?_)
  · obtain ⟨u, d, s, c, N, ds, S, rfl, _⟩ := h
    rfl
  · have nd := scTurned.nd
    refine ⟨_, (dss_cons (ds_set (i := 3) nd rfl (Or.inr rfl) (d_lc (own := [("_law_deed", 9)]) rfl nd (di_seq (dv 1)) (blkOk_by (own := [("_law_deed", 9)]) (N := ["_law_urn_here", "_law_deeds_here", "_law_told", "_law_some", "_law_name", "_law_at", "_law_more", "_law_found", "_law_cells", "_law_deed", "_law_row"]) (sc := defScope (topS 25)) (by decide +kernel)) (put_name (i := 9) (by decide)) (fun _ _ _ _ _ => (pg_name (i := 9) nd rfl (Or.inl rfl))) (fun _ _ _ _ _ => (dts_one (dt_cmp (oz_eq hr.units) (d_ix (d_ix (dv 9) d_int (fun _ _ => rfl)) d_int (fun _ _ => rfl)) d_str (nomark _)))) (fun _ _ _ _ _ => (d_slice (dv 9) do_none (do_some d_int)))))
  (dss_cons (ds_set (i := 3) nd rfl (Or.inr rfl) (d_lc (own := [("_law_row", 10)]) rfl nd (di_seq (dv 2)) (blkOk_by (own := [("_law_row", 10)]) (N := ["_law_urn_here", "_law_deeds_here", "_law_told", "_law_some", "_law_name", "_law_at", "_law_more", "_law_found", "_law_cells", "_law_deed", "_law_row"]) (sc := defScope (topS 25)) (by decide +kernel)) (put_name (i := 10) (by decide)) (fun _ _ _ _ _ => (pg_name (i := 10) nd rfl (Or.inl rfl))) (fun _ _ _ _ _ => (dts_one (DW.dt (dw_and (dt_cmp (oz_ne hr.units) (d_ix (dv 10) d_int (fun _ _ => rfl)) d_str (nomark _)) (dw_and1 (dt_cmp (oz_in (room65 hr)) (d_ix (dv 10) d_int (fun _ _ => rfl)) (dv 3) (by rfl))))))) (fun _ _ _ _ _ => (d_ix (dv 10) d_int (fun _ _ => rfl)))))
  (dss_cons (ds_if (dt_cmp (oz_eq hr.units) (dv 3) (d_lst da_nil) (nomark _))
  (dss_one (ds_ret d_bl))
  dss_nil)
  (dss_cons (ds_set (i := 4) nd rfl (Or.inl rfl) (d_ownM c__law_pick (hr.mono (by decide)) (by rfl) (da_cons (dv 0) (da_cons (dv 3) da_nil))))
  (dss_cons (ds_set (i := 5) nd rfl (Or.inl rfl) (d_lm PySem.F.slot_list_index PySem.F.type_list_index (me_index (room65 hr)) (d_lc (own := [("_law_row", 10)]) rfl nd (di_seq (dv 2)) (blkOk_by (own := [("_law_row", 10)]) (N := ["_law_urn_here", "_law_deeds_here", "_law_told", "_law_some", "_law_name", "_law_at", "_law_more", "_law_found", "_law_cells", "_law_deed", "_law_row"]) (sc := defScope (topS 25)) (by decide +kernel)) (put_name (i := 10) (by decide)) (fun _ _ _ _ _ => (pg_name (i := 10) nd rfl (Or.inl rfl))) (fun _ _ _ _ _ => dts_nil) (fun _ _ _ _ _ => (d_ix (dv 10) d_int (fun _ _ => rfl)))) (da_cons (dv 4) da_nil)))
  (dss_cons (ds_set (i := 6) nd rfl (Or.inl rfl) (d_bin oz_add (dv 1) (d_lst (da_cons (d_ownL c__law_next (hr.mono (by decide)) (by rfl) (da_cons (dv 1) (da_cons (d_tup (da_cons d_str (da_cons (dv 4) da_nil))) da_nil))) da_nil))))
  (dss_cons (ds_set (i := 7) nd rfl (Or.inl rfl) (d_ownL c_places (hr.mono (by decide)) (by rfl) (da_cons (dv 6) da_nil)))
  (dss_cons (ds_if (DW.dt (dw_or (dt_cmp (oz_ne hr.units) (d_slice (dv 7) do_none (do_some (dv 5))) (d_slice (dv 2) do_none (do_some (dv 5))) (nomark _)) (dw_or (dt_cmp (oz_ne hr.units) (d_ix (dv 7) (dv 5) (fun _ _ => rfl)) (d_tup (da_cons (dv 4) (da_cons d_str (da_cons d_non da_nil)))) (nomark _)) (dw_or1 (dt_cmp (oz_ne hr.units) (d_callB ca_len (by rfl) T.len PySem.boot_len (da_cons (dv 7) da_nil)) (d_callB ca_len (by rfl) T.len PySem.boot_len (da_cons (dv 2) da_nil)) (nomark _))))))
  (dss_one (ds_ret d_bl))
  dss_nil)
  (dss_cons (ds_expr (d_lm PySem.F.slot_list_append PySem.F.type_list_append me_append (dv 6) (da_cons (d_ownL c__law_next (hr.mono (by decide)) (by rfl) (da_cons (dv 6) (da_cons (d_tup (da_cons d_str (da_cons (dv 4) da_nil))) da_nil))) da_nil)))
  (dss_cons (ds_if (dt_cmp (oz_ne hr.units) (d_ownL c_places (hr.mono (by decide)) (by rfl) (da_cons (d_ownM c__law_mixed (hr.mono (by decide)) (by rfl) (da_cons (dv 0) (da_cons (dv 6) da_nil))) da_nil)) (dv 2) (nomark _))
  (dss_one (ds_ret d_bl))
  dss_nil)
  (dss_cons (ds_setLc (i := 8) (own := [("_law_deed", 9)]) rfl nd rfl rfl (sw_true rfl rfl rfl (by decide +kernel)) (di_seq (dv 1)) (blkOk_by (own := [("_law_deed", 9)]) (N := ["_law_urn_here", "_law_deeds_here", "_law_told", "_law_some", "_law_name", "_law_at", "_law_more", "_law_found", "_law_cells", "_law_deed", "_law_row"]) (sc := defScope (topS 25)) (by decide +kernel)) (put_name (i := 9) (by decide)) (fun _ _ _ _ _ => (pg_name (i := 9) nd rfl (Or.inl rfl))) (fun _ _ _ _ _ => (dts_one (dt_cmp (oz_eq hr.units) (d_ix (d_ix (dv 9) d_int (fun _ _ => rfl)) d_int (fun _ _ => rfl)) d_str (nomark _)))) (fun _ _ _ _ _ => (d_slice (dv 9) do_none (do_some d_int))))
  (dss_cons (ds_expr (d_lm PySem.F.slot_list_append PySem.F.type_list_append me_append (dv 6) (da_cons (d_ownL c__law_next (hr.mono (by decide)) (by rfl) (da_cons (dv 6) (da_cons (d_tup (da_cons d_str (da_cons (d_ownM c__law_pick (hr.mono (by decide)) (by rfl) (da_cons (dv 0) (da_cons (dv 8) da_nil))) da_nil))) da_nil))) da_nil)))
  (dss_one (ds_ret (d_cmp (oz_eq hr.units) (d_ownL c_places (hr.mono (by decide)) (by rfl) (da_cons (dv 6) da_nil)) (dv 2) (nomark _)))))))))))))))), ?_⟩
    rintro xs μ Q ⟨u, d, s, c, N, ds, S, rfl, rfl, ok, hN, D, hl, hS, q⟩
    have ez : sizeLine = 16777216 := by decide +kernel
    have wf := D.wf (by omega : ds.length ≤ 64)
    have rl := rows_len wf hS
    have rf := rows_all wf hS
    refine ⟨fun n acc μ => μ = [(u, urnN d s c)] ∧ ∃ cs : List PyData, acc = cs.map Val.dat ∧ (∀ x ∈ cs, PlcN ds x) ∧ cs.length ≤ n, ⟨rfl, [], rfl, fun _ h => (by cases h), Nat.le_refl _⟩, fun _ _ _ _ _ => trivial, ?_, ?_⟩
    · rintro n y acc μ hy ⟨rfl, cs, rfl, hc, hn⟩
      obtain ⟨e, he, rfl⟩ := Option.map_eq_some_iff.mp (by rw [List.map_map, List.getElem?_map] at hy; exact hy)
      have hm := List.mem_of_getElem? he
      have hlt := (List.getElem?_eq_some_iff.mp he).1
      have af := (wf.df e hm).act
      obtain ⟨w0, r0, ea, _⟩ := act_head af
      refine ⟨_, rfl, e.act, rfl, ?_⟩
      rw [ea]
      refine ⟨.str w0, at_head, str_cmp (ite2 (fun g => ?_) (fun g => ⟨_, .refl _, rfl, cs, rfl, hc, by omega⟩))⟩
      have ew : w0 = "place" := of_decide_eq_true g
      subst ew
      rw [ea] at af
      obtain ⟨a, b, p, rfl⟩ := form_place af
      refine ⟨by rw [List.length_map, ez]; omega, _, .refl _, rfl, cs ++ [e.name], by rw [List.map_append]; rfl, fun x hx => ?_, by simp; omega⟩
      rcases List.mem_append.mp hx with hx | hx
      · exact hc x hx
      · rw [List.mem_singleton.mp hx]
        exact ⟨e, hm, rfl, _, _, _, ea⟩
    rintro acc μ ⟨rfl, cs, rfl, hc, hn⟩ p1
    rw [List.length_map, List.length_map] at hn
    have nmP : ∀ {x}, PlcN ds x → NamO x := fun ⟨e, he, en, _⟩ => by rw [← en]; exact .nam (wf.df e he).hh (wf.df e he).hk
    refine ⟨fun n acc μ => μ = [(u, urnN d s c), (p1, .lst (cs.map .dat))] ∧ ∃ ms : List PyData, acc = ms.map Val.dat ∧ (∀ x ∈ ms, GoodN ds S x) ∧ ms.length ≤ n, ⟨rfl, [], rfl, fun _ h => (by cases h), Nat.le_refl _⟩, fun _ _ _ _ _ => trivial, ?_, ?_⟩
    · rintro n y acc μ hy ⟨rfl, ms, rfl, hg, hm⟩
      obtain ⟨r, hr, rfl⟩ := Option.map_eq_some_iff.mp (by rw [← List.getElem?_map]; exact hy)
      have hrm := List.mem_of_getElem? hr
      have hlt := (List.getElem?_eq_some_iff.mp hr).1
      obtain ⟨st, ns, _, e | ⟨w0, l, hw, e, nl, ll⟩⟩ := rf r hrm
      · subst e
        exact ⟨_, rfl, .str "off", rfl, _, .refl _, rfl, ms, rfl, hg, by omega⟩
      · have no : ∀ st', r ≠ rowO st' := fun st' z => by
          rw [e] at z
          unfold rowD rowO at z
          rcases hw with rfl | rfl <;> simp at z
        subst e
        have go : ∀ g : Bool, ((cs.any fun z => PyData.eqv z (datK st)) = g) → g = true → PlcN ds (datK st) := fun g h1 h2 => by
          rw [h2, List.any_eq_true] at h1
          obtain ⟨z, hz, ez⟩ := h1
          rw [← namo_eqv (nmP (hc z hz)) ns.namo ez]
          exact hc z hz
        rcases hw with rfl | rfl
        all_goals
          refine ⟨_, rfl, .str _, rfl, datK st, rfl, datK st, cs, .d _, .p 1 rfl (datOf_d cs), ns.namo.shaped, namo_list fun x hx => nmP (hc x hx), ?_⟩
          refine ite2 (fun g => ?_) (fun g => ⟨_, .refl _, rfl, ms, rfl, hg, by omega⟩)
          refine ⟨datK st, rfl, by rw [List.length_map, ez]; omega, _, .refl _, rfl, ms ++ [datK st], by rw [List.map_append]; rfl, fun x hx => ?_, by simp; omega⟩
          rcases List.mem_append.mp hx with hx | hx
          · exact hg x hx
          · rw [List.mem_singleton.mp hx]
            exact ⟨go _ rfl g, _, hrm, rfl, no⟩
    rintro acc μ ⟨rfl, ms, rfl, hg, hm⟩ p2
    rw [List.length_map] at hm
    have nmG : ∀ x ∈ ms, NamO x := fun x hx => nmP (hg x hx).1
    refine ⟨Nat.zero_le _, fun pe => ptr_cmp (g := id) (.p 2 rfl (datOf_d ms)) (.p 3 rfl rfl) (namo_list nmG) rfl ?_⟩
    rw [eqv_nil]
    refine ite2 (fun g => ⟨_, List.take_sublist 1 _, q d c (ok.more (by omega))⟩) (fun g => ?_)
    have ne : ms ≠ [] := of_decide_eq_false (by simpa using g)
    refine ⟨0, u, _, [.ptr u, .dat (.list ms)], rfl, .cons (.keep _) (.cons (.p 2 (by decide) rfl (datOf_d ms)) .nil), u, d, s, c, _, ms, rfl, rfl, ok, by omega, ne, by omega, fun x hx d1 c1 ok1 => ⟨_, [], rfl, ⟨(nmG x hx).lay.2.2, flat_urn _ _ _, by simp⟩, ?_⟩⟩
    obtain ⟨as, bs, p, hn, kn, ec, hst, nx, hh0, hk0, ne0, dj, jl, of0, e0, he0, en0⟩ := (hg x hx).place D (by omega) hS
    have rh : (rowsOf ds S).map headD = (S.filterMap toPl).map fun p => datK p.st := rows_heads
    have nk : ∀ q ∈ S.filterMap toPl, Nk q.st := fun q hq => by
      obtain ⟨e1, h1, h2⟩ := List.mem_filterMap.mp hq
      have m := hS.1.mem_iff.mp h1
      have pd := toPl_d h2
      refine .inr ⟨q.d.h, ?_, q.d.k, ?_, rfl⟩
      · rw [pd]
        exact (wf.df e1 m).hh
      · rw [pd]
        exact (wf.df e1 m).hk
    have dx : datK p.st = x := by rw [hst, nx]; rfl
    refine ⟨fun n acc μ => μ = [(u, urnN d1 s c1), (p1, .lst (cs.map .dat)), (p2, .lst (ms.map .dat)), (pe, .lst [])] ∧ acc = ((rowsOf ds S).take n).map fun r => Val.dat (headD r), ⟨rfl, rfl⟩, fun _ _ _ _ _ => trivial, ?_, ?_⟩
    · rintro n y acc μ hy ⟨rfl, rfl⟩
      obtain ⟨r, hr, rfl⟩ := Option.map_eq_some_iff.mp (by rw [← List.getElem?_map]; exact hy)
      have et : (rowsOf ds S).take (n + 1) = (rowsOf ds S).take n ++ [r] := by rw [List.take_succ, hr]; rfl
      have hd : ∃ z w y, r = .tuple [z, w, y] := by
        obtain ⟨st, _, _, e | ⟨w0, l, _, e, _⟩⟩ := rf r (List.mem_of_getElem? hr)
        · exact ⟨_, _, _, e⟩
        · exact ⟨_, _, _, e⟩
      obtain ⟨z, w1, y1, rfl⟩ := hd
      refine ⟨_, rfl, z, rfl, by rw [List.length_map, List.length_take, ez]; omega, _, .refl _, rfl, ?_⟩
      rw [et, List.map_append]
      rfl
    rintro acc μ ⟨rfl, rfl⟩ p5
    rw [List.length_map, List.take_length]
    have dh : datOf ((rowsOf ds S).map fun r => Val.dat (headD r)) = some ((rowsOf ds S).map headD) := by
      rw [← datOf_map ((rowsOf ds S).map headD), List.map_map]
      rfl
    have nkp : Nk p.st := nk p (by rw [ec]; simp)
    have hsh : SeqAt.shaped (.list ((rowsOf ds S).map headD)) = true := by
      rw [rh]
      exact namo_list fun y hy => by
        obtain ⟨q, hq, rfl⟩ := List.mem_map.mp hy
        exact (nk q hq).namo
    refine ⟨⟨4, _, rfl⟩, x, (rowsOf ds S).map headD, as.length, x, .p 4 rfl dh, .d _, hsh, (nmG x hx).shaped, ?_, SeqAt.eqv_refl _ (nmG x hx).lay.1, ?_, ?_⟩
    · rw [rh, ec, List.map_append, List.getElem?_append_right (by rw [List.length_map]; omega), List.length_map, Nat.sub_self]
      exact congrArg some dx
    · intro m z' hm' hz
      rw [rh, ec, List.map_append, List.getElem?_append_left (by rw [List.length_map]; exact hm'), List.getElem?_map] at hz
      obtain ⟨y, hy, rfl⟩ := Option.map_eq_some_iff.mp hz
      have hya := List.mem_of_getElem? hy
      rw [← dx, (nk y (by rw [ec]; simp [hya])).eqv nkp]
      exact decide_eq_false (dj y hya)
    have h4 : ∀ d ∈ ds, d.h ∈ hands4 := fun d hd => hands_up _ (D.h0 d hd)
    refine ⟨(by show 2 ≤ sizeLine; decide), [.dat (.list (ds.map Deed.D)), .dat (.tuple [.str "off", x])], .cons (.keep _) (.cons (.keep _) .nil), ds, .tuple [.str "off", x], rfl, rfl, by omega, h4, fun st1 seen1 s10 s11 s12 s13 => ?_⟩
    have cm : cnt ds "m" = 0 := by
      unfold cnt
      rw [List.length_eq_zero_iff, List.filter_eq_nil_iff]
      intro e he z
      have e1 := of_decide_eq_true z
      have := D.h0 e he
      rw [e1] at this
      exact absurd this (by decide)
    generalize hd1 : (⟨"m", cnt ds "m", st1, seen1, .tuple [.str "off", x]⟩ : Deed) = dd1
    have b1 : st1 ≤ 1000 := by
      rcases s12 with h | ⟨e, he, h⟩
      · omega
      · have := D.st e he
        omega
    have df1 : DF dd1 := by
      rw [← hd1]
      exact ⟨(show ("m" : Str) ∈ hands4 by decide), by show cnt ds "m" < 64; omega, ⟨s10, b1⟩, .turn (.inr rfl) (nmG x hx)⟩
    have t1 : turnOf dd1 = some (nam hn kn, ("off" : Str)) := by
      rw [← hd1, ← nx]
      exact turnOf_iff.mpr ⟨rfl, .inl rfl⟩
    have up1 : ∀ e ∈ ds, ml e dd1 = true := fun e he => lt_ml (by rw [← hd1]; exact s11 e he)
    have nn1 : ∀ e ∈ ds, e.name ≠ dd1.name := fun e he z => by
      have h := (name_eq z).1
      rw [← hd1] at h
      have h5 := D.h0 e he
      have h : e.h = "m" := h
      rw [h] at h5
      exact absurd h5 (by decide)
    have wf1 : Wf (ds ++ [dd1]) := wf.snoc df1 (toPl_turn t1) (fun c y q z => by rw [← hd1] at z; simp at z) up1 nn1 (fun n w t => by rw [t1] at t; cases t; exact ⟨e0, he0, by rw [en0, nx]⟩) (by omega)
    have flD : ∀ d ∈ ds, noList d.D = true := fun d hd => deed_flat (wf.df d hd)
    refine ⟨⟨deed_flat df1, fun r hr => (by cases hr)⟩, ?_⟩
    refine ⟨(by decide : 1 ≤ sizeLine), fun p6 => ?_⟩
    refine ⟨(ds.map Deed.D).map .dat, [.dat dd1.D], .d _, .p 5 rfl, by rw [List.length_map, List.length_map, ez]; show _ + 1 ≤ _; omega, fun p7 => ?_⟩
    have e7 : (ds.map Deed.D).map Val.dat ++ [.dat dd1.D] = ((ds ++ [dd1]).map Deed.D).map Val.dat := by
      rw [List.map_append, List.map_append]
      rfl
    rw [e7]
    have fl1 : ∀ d ∈ ds ++ [dd1], noList d.D = true := fun d hd => deed_flat (wf1.df d hd)
    refine ⟨[_], .cons (.p 6 rfl (datOf_ds' (ds ++ [dd1]))) .nil, ds ++ [dd1], rfl, rfl, wf1, fl1, fun p8 S8 hS8 => ⟨⟨trivial, fun r hr => by rw [List.mem_singleton.mp hr]; exact rows_flat wf1 hS8⟩, ?_⟩⟩
    obtain rfl := hS8.one (srt_snoc hS up1)
    obtain ⟨o1, o2, o3⟩ := off_rows wf.toTk ec hst ne0 dj t1 up1
    have rf1 := rows_all wf1 hS8
    have sh1 := rows_shaped (l := (rowsOf ds S).take as.length) fun r hr => rf r (List.mem_of_mem_take hr)
    have lo : RowF (rowO p.st) := rf1 _ (List.mem_of_getElem? o2)
    have shO : SeqAt.shaped (rowO p.st) = true := by
      unfold SeqAt.shaped
      rw [lo.lay.1, Bool.true_and, decide_eq_true_eq]
      have := lo.lay.2
      omega
    have eO : rowO p.st = .tuple [x, .str "off", .none] := by
      unfold rowO
      rw [dx]
    refine ⟨7, _, rfl, fun p9 p10 => ?_⟩
    rw [cutG_map, cutG_take, cutG_take, o1]
    refine ptr_cmp (g := not) (.p 8 rfl (datOf_map _)) (.p 9 rfl (datOf_map _)) sh1.1 sh1.1 ?_
    rw [sh1.2]
    refine ⟨7, _, .dat (.tuple [x, .str "off", .none]), rfl, atI_nat (by rw [List.getElem?_map, o2, eO]; rfl), (by show 3 ≤ sizeLine; decide), by rw [← eO]; exact shO, by rw [← eO]; exact shO, ?_⟩
    rw [← eO, SeqAt.eqv_refl _ lo.lay.1]
    refine ⟨7, _, rfl, ?_⟩
    rw [List.length_map, o3]
    refine ite2 (fun z => absurd z (by simp)) fun _ => ?_
    have h41 : ∀ d ∈ ds ++ [dd1], d.h ∈ hands4 := fun d hd => (wf1.df d hd).hh
    have dd7 : datOf (((ds ++ [dd1]).map Deed.D).map Val.dat) = some ((ds ++ [dd1]).map Deed.D) := datOf_map _
    refine ⟨⟨6, _, rfl⟩, (by show 2 ≤ sizeLine; decide), [.dat (.list ((ds ++ [dd1]).map Deed.D)), .dat (.tuple [.str "on", x])], .cons (.p 6 rfl dd7) (.cons (.keep _) .nil), ds ++ [dd1], .tuple [.str "on", x], rfl, rfl, by rw [List.length_append, List.length_singleton]; omega, h41, fun st2 seen2 s20 s21 s22 s23 => ?_⟩
    have c2 : cnt (ds ++ [dd1]) "m" = 1 := by
      rw [cnt_snoc, if_pos (by rw [← hd1]), cm]
    have b2 : st2 ≤ 1000 := by
      rcases s22 with h | ⟨e, he, h⟩
      · omega
      · rcases List.mem_append.mp he with he | he
        · have := D.st e he
          omega
        · rw [List.mem_singleton.mp he, ← hd1] at h
          have h : st2 = st1 + 1 := h
          rcases s12 with h6 | ⟨e', he', h6⟩
          · omega
          · have := D.st e' he'
            omega
    generalize hd2 : (⟨"m", cnt (ds ++ [dd1]) "m", st2, seen2, .tuple [.str "on", x]⟩ : Deed) = dd2
    have df2 : DF dd2 := by
      rw [← hd2]
      exact ⟨(show ("m" : Str) ∈ hands4 by decide), by show cnt (ds ++ [dd1]) "m" < 64; omega, ⟨s20, b2⟩, .turn (.inl rfl) (nmG x hx)⟩
    have t2 : turnOf dd2 = some (nam hn kn, ("on" : Str)) := by
      rw [← hd2, ← nx]
      exact turnOf_iff.mpr ⟨rfl, .inr rfl⟩
    have up2 : ∀ e ∈ ds ++ [dd1], ml e dd2 = true := fun e he => lt_ml (by rw [← hd2]; exact s21 e he)
    have nn2 : ∀ e ∈ ds ++ [dd1], e.name ≠ dd2.name := fun e he z => by
      obtain ⟨z1, z2⟩ := name_eq z
      have k1 : dd1.k = cnt ds "m" := by rw [← hd1]
      have k2 : dd2.k = cnt (ds ++ [dd1]) "m" := by rw [← hd2]
      rw [← hd2] at z1
      rcases List.mem_append.mp he with he | he
      · have h5 := D.h0 e he
        have z1 : e.h = "m" := z1
        rw [z1] at h5
        exact absurd h5 (by decide)
      · rw [List.mem_singleton.mp he, k1, k2] at z2
        omega
    have wf2 : Wf (ds ++ [dd1] ++ [dd2]) := wf1.snoc df2 (toPl_turn t2) (fun c y q z => by rw [← hd2] at z; simp at z) up2 nn2 (fun n w t => by rw [t2] at t; cases t; exact ⟨e0, List.mem_append_left _ he0, by rw [en0, nx]⟩) (by rw [List.length_append, List.length_singleton]; omega)
    refine ⟨⟨deed_flat df2, fun r hr => (by cases hr)⟩, 6, _, rfl, by rw [List.length_map, List.length_map, List.length_append, ez]; show _ + 1 < _; omega, ?_⟩
    have e8 : ((ds ++ [dd1]).map Deed.D).map Val.dat ++ [.dat dd2.D] = ((ds ++ [dd1] ++ [dd2]).map Deed.D).map Val.dat := by
      simp
    rw [e8]
    have h0n : offB ds (nmK hn kn) = false := by rw [← hst]; exact of0
    obtain ⟨rw2, _⟩ := on_rows (S := S) wf.toTk wf1.toTk h0n t1 up1 t2 up2
    have hS9 : Srt (ds ++ [dd1] ++ [dd2]) (S ++ [dd1] ++ [dd2]) := srt_snoc hS8 up2
    have dd8 : datOf (((ds ++ [dd1] ++ [dd2]).map Deed.D).map Val.dat) = some ((ds ++ [dd1] ++ [dd2]).map Deed.D) := datOf_map _
    have l8 : ((ds ++ [dd1] ++ [dd2]).map Deed.D).length = ds.length + 2 := by simp
    refine ⟨0, u, _, [.ptr u, .dat (.list ((ds ++ [dd1] ++ [dd2]).map Deed.D))], rfl, .cons (.keep _) (.cons (.p 6 (by decide) rfl dd8) .nil), u, d1, s, c1, _, (ds ++ [dd1] ++ [dd2]).map Deed.D, rfl, rfl, ok1, by rw [l8]; omega, fun pm es d3 c3 perm ok3 => ⟨_, [(pm, _)], rfl, ⟨trivial, flat_urn _ _ _, ?_⟩, ?_⟩⟩
    · intro r hr
      rw [List.mem_singleton.mp hr]
      intro y hy
      obtain ⟨z, hz, rfl⟩ := List.mem_map.mp hy
      obtain ⟨e, he, rfl⟩ := List.mem_map.mp (perm.mem_iff.mp hz)
      exact deed_flat (wf2.df e he)
    obtain ⟨qs, pq, rfl⟩ := perm_inv perm
    have wq := wf2.perm pq
    refine ⟨[_], .cons (.p 10 rfl (datOf_ds' qs)) .nil, qs, rfl, rfl, wq, fun e he => deed_flat (wq.df e he), fun p11 S9 h9 => ⟨⟨trivial, fun r hr => by rw [List.mem_singleton.mp hr]; exact rows_flat wq h9⟩, ?_⟩⟩
    obtain rfl := (h9.perm pq).one hS9
    have er : rowsOf qs (S ++ [dd1] ++ [dd2]) = rowsOf ds S := by
      rw [← rw2]
      unfold rowsOf
      rw [offB_perm pq]
    rw [er]
    have sh := rows_shaped rf
    refine ⟨_, _, .p 11 rfl (datOf_map _), .d _, sh.1, sh.1, ?_⟩
    rw [sh.2]
    have cell0 : ∃ f ∈ ds, ∃ h' p', f.act = .tuple [.str "cell", h', p'] := by
      obtain ⟨e, he, _, c, h', p', ea⟩ := (hg x hx).1
      obtain ⟨as', bs', qd⟩ := List.append_of_mem he
      obtain ⟨ks, h1, _, a⟩ := D.each as' e bs' qd
      rw [ea] at a
      generalize eq : (PyData.tuple [.str "place", c, h', p']) = z at a
      cases a with
      | place c2 h2 p2 k2 k3 k4 =>
        obtain ⟨f, hf, _, h3, p3, fa⟩ := k2
        exact ⟨f, by rw [qd]; exact List.mem_append_left _ (h1 f hf).1, h3, p3, fa⟩
      | _ => cases eq
    refine ⟨fun n acc μ => μ = [(u, urnN d3 s c3), (p1, .lst (cs.map .dat)), (p2, .lst (ms.map .dat)), (pe, .lst []), (p5, .lst ((rowsOf ds S).map fun r => .dat (headD r))), (p6, .lst [.dat dd1.D]), (p7, .lst (((ds ++ [dd1] ++ [dd2]).map Deed.D).map .dat)), (p8, .lst ((rowsOf (ds ++ [dd1]) (S ++ [dd1])).map .dat)), (p9, .lst (((rowsOf ds S).take as.length).map .dat)), (p10, .lst (((rowsOf ds S).take as.length).map .dat)), (pm, .lst ((qs.map Deed.D).map .dat)), (p11, .lst ((rowsOf ds S).map .dat))] ∧
      ∃ gs : List PyData, acc = gs.map Val.dat ∧ (∀ y ∈ gs, ∃ e ∈ ds, e.name = y) ∧ gs.length ≤ n ∧ ∀ e ∈ ds.take n, (∃ h' p', e.act = .tuple [.str "cell", h', p']) → e.name ∈ gs, ⟨rfl, [], rfl, fun _ h => (by cases h), Nat.le_refl _, fun _ h => (by cases h)⟩, fun _ _ _ _ _ => trivial, ?_, ?_⟩
    · rintro n y acc μ hy ⟨rfl, gs, rfl, hgs, hgl, hgc⟩
      obtain ⟨e, he, rfl⟩ := Option.map_eq_some_iff.mp (by rw [List.map_map, List.getElem?_map] at hy; exact hy)
      have hm' := List.mem_of_getElem? he
      have hlt := (List.getElem?_eq_some_iff.mp he).1
      have et : ds.take (n + 1) = ds.take n ++ [e] := by rw [List.take_succ, he]; rfl
      have af := (wf.df e hm').act
      obtain ⟨w0, r0, ea, _⟩ := act_head af
      refine ⟨_, rfl, e.act, rfl, ?_⟩
      rw [ea]
      refine ⟨.str w0, at_head, str_cmp (ite2 (fun g => ?_) (fun g => ⟨_, .refl _, rfl, gs, rfl, hgs, by omega, fun f hf hc' => ?_⟩))⟩
      · refine ⟨by rw [List.length_map, ez]; omega, _, .refl _, rfl, gs ++ [e.name], by rw [List.map_append]; rfl, fun z hz => ?_, by simp; omega, fun f hf hc' => ?_⟩
        · rcases List.mem_append.mp hz with hz | hz
          · exact hgs z hz
          · rw [List.mem_singleton.mp hz]
            exact ⟨e, hm', rfl⟩
        · rw [et] at hf
          rcases List.mem_append.mp hf with hf | hf
          · exact List.mem_append_left _ (hgc f hf hc')
          · rw [List.mem_singleton.mp hf]
            simp
      · rw [et] at hf
        rcases List.mem_append.mp hf with hf | hf
        · exact hgc f hf hc'
        · rw [List.mem_singleton.mp hf] at hc'
          obtain ⟨h', p', fa⟩ := hc'
          rw [ea] at fa
          cases fa
          exact absurd (decide_eq_true rfl) g
    rintro acc μ ⟨rfl, gs, rfl, hgs, hgl, hgc⟩ p12
    rw [List.length_map, List.length_map] at hgl
    rw [List.length_map, List.length_map, List.take_length] at hgc
    have neg : gs ≠ [] := fun z => by
      obtain ⟨f, hf, h', p', fa⟩ := cell0
      have := hgc f hf ⟨h', p', fa⟩
      rw [z] at this
      cases this
    have nmg : ∀ y ∈ gs, NamO y := fun y hy => by
      obtain ⟨e, he, en⟩ := hgs y hy
      rw [← en]
      exact .nam (wf.df e he).hh (wf.df e he).hk
    have b1' : st1 ≤ 100 := by
      rcases s12 with h | ⟨e, he, h⟩
      · omega
      · have := D.st e he
        omega
    have b2' : st2 ≤ 200 := by
      rcases s22 with h | ⟨e, he, h⟩
      · omega
      · rcases List.mem_append.mp he with he | he
        · have := D.st e he
          omega
        · rw [List.mem_singleton.mp he, ← hd1] at h
          have h : st2 = st1 + 1 := h
          omega
    have h42 : ∀ d ∈ ds ++ [dd1] ++ [dd2], d.h ∈ hands4 := fun d hd => (wf2.df d hd).hh
    refine ⟨⟨6, _, rfl⟩, 0, u, _, [.ptr u, .dat (.list gs)], rfl, .cons (.keep _) (.cons (.p 12 (by decide) rfl (datOf_d gs)) .nil), u, d3, s, c3, _, gs, rfl, rfl, ok3, by rw [l8]; omega, neg, by omega, fun y hy d4 c4 ok4 => ⟨_, [], rfl, ⟨(nmg y hy).lay.2.2, flat_urn _ _ _, by simp⟩, ?_⟩⟩
    refine ⟨(by show 2 ≤ sizeLine; decide), [.dat (.list ((ds ++ [dd1] ++ [dd2]).map Deed.D)), .dat (.tuple [.str "drop", y])], .cons (.p 6 rfl dd8) (.cons (.keep _) .nil), ds ++ [dd1] ++ [dd2], .tuple [.str "drop", y], rfl, rfl, by rw [List.length_append, List.length_append, List.length_singleton, List.length_singleton]; omega, h42, fun st3 seen3 s30 s31 s32 s33 => ?_⟩
    have c3' : cnt (ds ++ [dd1] ++ [dd2]) "m" = 2 := by
      rw [cnt_snoc, if_pos (by rw [← hd2]), c2]
    have b3 : st3 ≤ 1000 := by
      rcases s32 with h | ⟨e, he, h⟩
      · omega
      · rcases List.mem_append.mp he with he | he
        · rcases List.mem_append.mp he with he | he
          · have := D.st e he
            omega
          · rw [List.mem_singleton.mp he, ← hd1] at h
            have h : st3 = st1 + 1 := h
            omega
        · rw [List.mem_singleton.mp he, ← hd2] at h
          have h : st3 = st2 + 1 := h
          omega
    generalize hd3 : (⟨"m", cnt (ds ++ [dd1] ++ [dd2]) "m", st3, seen3, .tuple [.str "drop", y]⟩ : Deed) = dd3
    have df3 : DF dd3 := by
      rw [← hd3]
      exact ⟨(show ("m" : Str) ∈ hands4 by decide), by show cnt (ds ++ [dd1] ++ [dd2]) "m" < 64; omega, ⟨s30, b3⟩, .drop (nmg y hy)⟩
    have t3 : turnOf dd3 = none := by
      rw [← hd3]
      unfold turnOf
      exact if_neg (by decide)
    have tp3 : toPl dd3 = none := by
      rw [← hd3]
      rfl
    have up3 : ∀ e ∈ ds ++ [dd1] ++ [dd2], ml e dd3 = true := fun e he => lt_ml (by rw [← hd3]; exact s31 e he)
    have nn3 : ∀ e ∈ ds ++ [dd1] ++ [dd2], e.name ≠ dd3.name := fun e he z => by
      obtain ⟨z1, z2⟩ := name_eq z
      have k1 : dd1.k = cnt ds "m" := by rw [← hd1]
      have k2 : dd2.k = cnt (ds ++ [dd1]) "m" := by rw [← hd2]
      have k3 : dd3.k = cnt (ds ++ [dd1] ++ [dd2]) "m" := by rw [← hd3]
      rw [← hd3] at z1
      rcases List.mem_append.mp he with he | he
      · rcases List.mem_append.mp he with he | he
        · have h5 := D.h0 e he
          have z1 : e.h = "m" := z1
          rw [z1] at h5
          exact absurd h5 (by decide)
        · rw [List.mem_singleton.mp he, k1, k3] at z2
          omega
      · rw [List.mem_singleton.mp he, k2, k3] at z2
        omega
    have wf3 : Wf (ds ++ [dd1] ++ [dd2] ++ [dd3]) := wf2.snoc df3 tp3 (fun c y q z => by rw [← hd3] at z; simp at z) up3 nn3 (fun n w t => by rw [t3] at t; cases t) (by rw [List.length_append, List.length_append, List.length_singleton, List.length_singleton]; omega)
    refine ⟨⟨deed_flat df3, fun r hr => (by cases hr)⟩, 6, _, rfl, by rw [List.length_map, l8, ez]; omega, ?_⟩
    have e9 : ((ds ++ [dd1] ++ [dd2]).map Deed.D).map Val.dat ++ [.dat dd3.D] = ((ds ++ [dd1] ++ [dd2] ++ [dd3]).map Deed.D).map Val.dat := by
      simp
    rw [e9]
    refine ⟨[_], .cons (.p 6 rfl (datOf_ds' (ds ++ [dd1] ++ [dd2] ++ [dd3]))) .nil, ds ++ [dd1] ++ [dd2] ++ [dd3], rfl, rfl, wf3, fun e he => deed_flat (wf3.df e he), fun p13 S10 h10 => ⟨⟨trivial, fun r hr => by rw [List.mem_singleton.mp hr]; exact rows_flat wf3 h10⟩, ?_⟩⟩
    obtain rfl := h10.one (srt_snoc hS9 up3)
    rw [drop_rows t3 tp3, rw2]
    refine ⟨_, _, .p 13 rfl (datOf_map _), .d _, sh.1, sh.1, ?_⟩
    rw [sh.2]
    exact ⟨_, List.take_sublist 1 _, q d4 c4 (ok4.more (by rw [l8]; omega))⟩
end
end Kr
namespace Kr
open PySem PySem.Spec PyProof.Rows L2 Lf Zl
local macro_rules | `(tactic| walk_at "sub") => `(tactic| first | exact List.nil_sublist _ | (refine .cons₂ _ ?_; walk_at "sub") | (refine .cons _ ?_; walk_at "sub"))
def getH (S : List (NestedKey × Val)) (y : NestedKey) : Val := (lookZ S y).getD (.dat .none)
theorem heads_row {S : List (NestedKey × Val)} {H : Hm} (hS : HeadH S H) {x : NestedKey} {l : List NestedKey} (w : Way H x l) : ∀ t r, l = t ++ r → kv x :: t.map (getH S) = t.map kv ++ [kv (r.headD .none)] := by
  induction w with
  | stop =>
    intro t r e
    obtain ⟨rfl, rfl⟩ := List.nil_eq_append_iff.mp e
    rfl
  | @up x s q l n0 e w ih =>
    intro t r et
    cases t with
    | nil =>
      rw [List.nil_append] at et
      subst et
      rfl
    | cons y t =>
      rw [List.cons_append] at et
      injection et with e1 e2
      subst e1
      have g : getH S x = kv q := by
        unfold getH
        rw [hS, e]
        rfl
      rw [List.map_cons, List.map_cons, g, ih t r e2]
      rfl
theorem fm_cut {α β : Type} {f : α → Option β} {S : List α} {i : Nat} {p : β} (h : (S.filterMap f)[i]? = some p) : ∃ as d bs, S = as ++ d :: bs ∧ f d = some p ∧ as.filterMap f = (S.filterMap f).take i := by
  have hi := (List.getElem?_eq_some_iff.mp h).1
  have ec : S.filterMap f = (S.filterMap f).take i ++ p :: (S.filterMap f).drop (i + 1) := by
    have := (List.getElem?_eq_some_iff.mp h).2
    rw [← this]
    simp
  obtain ⟨l1, l2, eS, f1, f2⟩ := List.filterMap_eq_append_iff.mp ec
  obtain ⟨l3, d0, l4, e2, f3, f4, f5⟩ := List.filterMap_eq_cons_iff.mp f2
  refine ⟨l1 ++ l3, d0, l4, by rw [eS, e2, List.append_assoc], f4, ?_⟩
  rw [List.filterMap_append, f1, List.filterMap_eq_nil_iff.mpr f3, List.append_nil]
theorem pls_ok {ds S : List Deed} (W : Wf ds) (h : Srt ds S) : PlsOk (S.filterMap toPl) := fun i p hp => by
  obtain ⟨as, d, bs, eS, t, ef⟩ := fm_cut hp
  have := W.cond h eS t
  rw [ef] at this
  exact this
theorem row_is {off : NestedKey → Bool} {ps : List Pl} {i : Nat} {p : Pl} {r : PyData} (hp : ps[i]? = some p) (h : (stepP off (runP off (ps.take i)) p).rows = (runP off (ps.take i)).rows ++ [r]) : (runP off ps).rows[i]? = some r := by
  have hi := (List.getElem?_eq_some_iff.mp hp).1
  have et : ps.take (i + 1) = ps.take i ++ [p] := by rw [List.take_succ, hp]; rfl
  have h1 := run_pre (off := off) (ps := ps.take (i + 1)) (qs := ps.drop (i + 1))
  have hl : (runP off (ps.take i)).rows.length = i := by rw [run_len, List.length_take]; omega
  rw [List.take_append_drop, et, runP_snoc, h] at h1
  have h2 : ((runP off ps).rows.take (ps.take i ++ [p]).length)[i]? = some r := by
    rw [h1, List.getElem?_append_right (by omega), hl, Nat.sub_self]
    rfl
  rw [List.getElem?_take_of_lt (by rw [List.length_append, List.length_take, List.length_singleton]; omega)] at h2
  exact h2
theorem any_nk {c : NestedKey} {t : List NestedKey} (hc : Nk c) (ht : ∀ x ∈ t, Nk x) : (t.map datK).any (fun z => PyData.eqv z (datK c)) = decide (c ∈ t) := by
  induction t with
  | nil => rfl
  | cons x t ih =>
    rw [List.map_cons, List.any_cons, ih fun y hy => ht y (List.mem_cons_of_mem _ hy), (ht x (List.mem_cons_self ..)).eqv hc]
    by_cases e : x = c
    · subst e
      simp
    · have : c ≠ x := Ne.symm e
      simp [e, this]
theorem lay_nk {t : List NestedKey} (ht : ∀ x ∈ t, Nk x) : PyData.canLayAll0 (t.map datK) = true := by
  induction t with
  | nil => rfl
  | cons x t ih =>
    rw [List.map_cons, PyData.canLayAll0, (ht x (List.mem_cons_self ..)).namo.lay.1, ih fun y hy => ht y (List.mem_cons_of_mem _ hy)]
    rfl
theorem at_lastK {t : List NestedKey} {c : NestedKey} : atI ((t ++ [c]).map datK) (-1) = some (datK c) := by
  unfold atI
  have e : ixN ((t ++ [c]).map datK).length (-1) = some t.length := by
    unfold ixN
    rw [List.length_map, List.length_append, List.length_singleton]
    simp
    omega
  rw [e]
  show ((t ++ [c]).map datK)[t.length]? = _
  simp
theorem cut_butlast {t : List NestedKey} {c : NestedKey} : cutG ((t ++ [c]).map datK) none (some (-1)) = t.map datK := by
  have e1 : HT.sIx ((t ++ [c]).map datK).length 0 none = 0 := rfl
  have e2 : HT.sIx ((t ++ [c]).map datK).length ((t ++ [c]).map datK).length (some (-1)) = t.length := by
    show (if (-1 : Int) < 0 then ((-1 : Int) + (((t ++ [c]).map datK).length : Nat)).toNat else min (-1 : Int).toNat ((t ++ [c]).map datK).length) = _
    rw [if_pos (by omega), List.length_map, List.length_append, List.length_singleton]
    omega
  unfold cutG
  rw [e1, e2, List.map_append]
  simp
theorem look_in {z : List (NestedKey × Val)} {k : NestedKey} {x : Val} (h : lookZ z k = some x) : k ∈ z.map (·.1) := by
  induction z with
  | nil => cases h
  | cons q z ih =>
    unfold lookZ at h
    split at h
    · rename_i e
      rw [← e]
      exact List.mem_cons_self ..
    · exact List.mem_cons_of_mem _ (ih h)
def actZ (ds : List Deed) : List (NestedKey × Val) := putsZ [] (ds.map fun d => (nmK d.h d.k, d.act))
theorem act_look {ds : List Deed} (W : Wf ds) {d : Deed} (hd : d ∈ ds) : lookZ (actZ ds) (nmK d.h d.k) = some (.dat d.act) := by
  have nd : ((ds.map fun d => (nmK d.h d.k, d.act)).map (·.1)).Nodup := by
    rw [List.map_map]
    have h := W.nd
    have e : ds.map Deed.name = (ds.map fun d => nmK d.h d.k).map datK := by
      rw [List.map_map]
      rfl
    rw [e] at h
    have h2 : (ds.map fun d => nmK d.h d.k).Nodup := h.of_map (f := datK) fun a b z e => z (by rw [e])
    exact h2
  unfold actZ
  rw [putsZ_new (by rw [List.map_nil, List.nil_append]; exact nd), List.nil_append]
  refine lookZ_mem ?_ ?_
  · rw [List.map_map] at nd ⊢
    rw [List.map_map]
    exact nd
  · exact List.mem_map.mpr ⟨_, List.mem_map.mpr ⟨d, hd, rfl⟩, rfl⟩
section
variable {P : Program} {w : World} {K : PySem.W.Frag} {mg : Str → Option Value} {base : Heap}
abbrev sWays : Stmt := topS 22
theorem scWays : FnScope ["_law_deeds_here", "_law_told", "_law_acts", "_law_heads", "_law_name", "_law_word", "_law_way", "_law_act_here", "_law_cell", "_law_head", "_law_at", "_law_one", "_law_top", "_law_deed", "_law_spot"] ["_law_deeds_here", "_law_told"] (defScope sWays) := ⟨rfl, rfl, rfl, by decide +kernel, rfl, by decide +kernel, by decide +kernel⟩
theorem ok_ways {f : Addr} {fd : FuncData} (F : Fun K "_law_ways_right" "_law_ways_right" sWays f fd) (T : Bs mg) (c__law_forest : CalZ P w K mg base 1 "_law_forest" ["_law_heads"] fForest) : FnOk P w K mg base CX0 2 f fd ["_law_deeds_here", "_law_told"] (spZ w K fWays) := by
  refine Fun.okZ F scWays (fun xs μ Q h => ?_) (fun cdv A outer s H E hr => ?_)
  · obtain ⟨ds, S, rfl, _⟩ := h
    rfl
  · have nd := scWays.nd
    refine ⟨_, (dss_cons (ds_set (i := 2) nd rfl (Or.inl rfl) (d_callTy (ca_dictN hr.units rfl) (by rfl) T.dict (by decide +kernel) (da_cons (d_lc (own := [("_law_deed", 13)]) rfl nd (di_seq (dv 0)) (blkOk_by (own := [("_law_deed", 13)]) (N := ["_law_deeds_here", "_law_told", "_law_acts", "_law_heads", "_law_name", "_law_word", "_law_way", "_law_act_here", "_law_cell", "_law_head", "_law_at", "_law_one", "_law_top", "_law_deed", "_law_spot"]) (sc := defScope (topS 22)) (by decide +kernel)) (put_name (i := 13) (by decide)) (fun _ _ _ _ _ => (pg_name (i := 13) nd rfl (Or.inl rfl))) (fun _ _ _ _ _ => dts_nil) (fun _ _ _ _ _ => (d_tup (da_cons (d_slice (dv 13) do_none (do_some d_int)) (da_cons (d_ix (dv 13) d_int (fun _ _ => rfl)) da_nil))))) da_nil)))
  (dss_cons (ds_set (i := 3) nd rfl (Or.inr rfl) d_dnew)
  (dss_cons (ds_for PassesOwn.never rfl (di_seq (dv 1)) (dg_tup rfl (dgs_cons (dg_name (i := 4) nd rfl (Or.inl rfl)) (dgs_cons (dg_name (i := 5) nd rfl (Or.inl rfl)) (dgs_cons (dg_name (i := 6) nd rfl (Or.inl rfl)) dgs_nil))))
  (dss_cons (ds_set (i := 7) nd rfl (Or.inl rfl) (d_dix hr.units (dv 2) (dv 4) (fun _ _ => rfl)))
  (dss_cut (ds_asg (d_ix (d_tup (da_cons (d_fz (d_lst (da_cons (dv 4) (da_cons (d_ix (dv 7) d_int (fun _ _ => rfl)) da_nil)))) (da_cons (d_fz (d_lst (da_cons (d_ix (dv 7) d_int (fun _ _ => rfl)) (da_cons (d_ix (dv 7) (d_neg d_int) (fun _ _ => rfl)) da_nil)))) da_nil))) (d_callTy ca_int (by rfl) T.int (by decide +kernel) (da_cons (d_cmp (oz_eq hr.units) (d_ix (dv 7) d_int (fun _ _ => rfl)) d_str (nomark _)) da_nil)) (fun _ _ => rfl)) (dg_lst rfl (dgs_cons (dg_name (i := 8) nd rfl (Or.inl rfl)) (dgs_cons (dg_name (i := 9) nd rfl (Or.inl rfl)) dgs_nil))))
  (dss_cons (ds_if (dt_cmp (oz_eq hr.units) (dv 5) d_str (nomark _))
  (dss_cons (ds_if (DW.dt (dw_or (dt_cmp (oz_eq hr.units) (d_ix (dv 7) d_int (fun _ _ => rfl)) d_str (nomark _)) (dw_or1 (dt_cmp oz_notN (dv 6) d_non (nomark _)))))
  (dss_one (ds_ret d_bl))
  dss_nil)
  (dss_one ds_continue))
  dss_nil)
  (dss_cons (ds_for PassesOwn.never rfl (di_enumT (by rfl) T.enumerate (dv 6)) (dg_tup rfl (dgs_cons (dg_name (i := 10) nd rfl (Or.inl rfl)) (dgs_cons (dg_name (i := 11) nd rfl (Or.inl rfl)) dgs_nil)))
  (dss_one (ds_if (dt_cmp (oz_ne hr.units) (dv 11) (d_ix (d_bin oz_add (d_lst (da_cons (dv 9) da_nil)) (d_lc (own := [("_law_spot", 14)]) rfl nd (di_seq (dv 6)) (blkOk_by (own := [("_law_spot", 14)]) (N := ["_law_deeds_here", "_law_told", "_law_acts", "_law_heads", "_law_name", "_law_word", "_law_way", "_law_act_here", "_law_cell", "_law_head", "_law_at", "_law_one", "_law_top", "_law_deed", "_law_spot"]) (sc := defScope (topS 22)) (by decide +kernel)) (put_name (i := 14) (by decide)) (fun _ _ _ _ _ => (pg_name (i := 14) nd rfl (Or.inl rfl))) (fun _ _ _ _ _ => dts_nil) (fun _ _ _ _ _ => (d_dget1 hr.units (dv 3) (dv 14) ⟨by rfl, by rfl, by rfl, by rfl⟩)))) (dv 10) (fun _ _ => rfl)) (nomark _))
  (dss_one (ds_ret d_bl))
  dss_nil)))
  (dss_cons (ds_set (i := 12) nd rfl (Or.inl rfl) (d_ix (d_bin oz_add (d_lst (da_cons (dv 9) da_nil)) (d_lc (own := [("_law_spot", 14)]) rfl nd (di_seq (dv 6)) (blkOk_by (own := [("_law_spot", 14)]) (N := ["_law_deeds_here", "_law_told", "_law_acts", "_law_heads", "_law_name", "_law_word", "_law_way", "_law_act_here", "_law_cell", "_law_head", "_law_at", "_law_one", "_law_top", "_law_deed", "_law_spot"]) (sc := defScope (topS 22)) (by decide +kernel)) (put_name (i := 14) (by decide)) (fun _ _ _ _ _ => (pg_name (i := 14) nd rfl (Or.inl rfl))) (fun _ _ _ _ _ => dts_nil) (fun _ _ _ _ _ => (d_dget1 hr.units (dv 3) (dv 14) ⟨by rfl, by rfl, by rfl, by rfl⟩)))) (d_callB ca_len (by rfl) T.len PySem.boot_len (da_cons (dv 6) da_nil)) (fun _ _ => rfl)))
  (dss_cons (ds_if (DW.dt (dw_and (dt_cmp (oz_eq hr.units) (dv 5) d_str (nomark _)) (dw_and1 (DW.dt (dw_or (dt_cmp (oz_eq hr.units) (d_ix (dv 7) d_int (fun _ _ => rfl)) d_str (nomark _)) (dw_or (dt_cmp (oz_ne hr.units) (d_ix (dv 6) (d_neg d_int) (fun _ _ => rfl)) (dv 8) (nomark _)) (dw_or1 (dt_cmp (oz_inT (room65 hr)) (dv 8) (d_slice (dv 6) do_none (do_some (d_neg d_int))) (by rfl)))))))))
  (dss_one (ds_ret d_bl))
  dss_nil)
  (dss_cons (ds_if (DW.dt (dw_and (dt_cmp (oz_eq hr.units) (dv 5) d_str (nomark _)) (dw_and1 (DW.dt (dw_or (dt_cmp oz_notN (dv 12) d_non (nomark _)) (dw_or1 (dt_cmp (oz_inT (room65 hr)) (dv 8) (dv 6) (by rfl))))))))
  (dss_one (ds_ret d_bl))
  dss_nil)
  (dss_one (ds_if (dt_cmp (oz_eq hr.units) (dv 5) d_str (nomark _))
  (dss_one (ds_dput hr.units (dv 3) (dv 8) (dv 9) rfl))
  dss_nil))))))))))
  (dss_one (ds_ret (d_own1 c__law_forest (hr.mono (by decide)) (by rfl) (da_cons (dv 3) da_nil))))))), ?_⟩
    rintro xs μ Q ⟨ds, S, rfl, rfl, D, hl, hS, q⟩
    have ez : sizeLine = 16777216 := by decide +kernel
    have wf := D.wf (by omega : ds.length ≤ 64)
    refine ⟨fun n acc μ => μ = [] ∧ acc = (ds.take n).map fun d => Val.dat (.tuple [d.name, d.act]), ⟨rfl, rfl⟩, fun _ _ _ _ _ => trivial, ?_, ?_⟩
    · rintro n y acc μ hy ⟨rfl, rfl⟩
      rw [List.map_map] at hy
      obtain ⟨d, hd, rfl⟩ := Option.map_eq_some_iff.mp (by rw [← List.getElem?_map]; exact hy)
      have et : ds.take (n + 1) = ds.take n ++ [d] := by rw [List.take_succ, hd]; rfl
      refine ⟨_, rfl, d.act, rfl, (by show 2 ≤ sizeLine; decide), by rw [List.length_map, List.length_take, ez]; omega, _, .refl _, rfl, ?_⟩
      rw [et, List.map_append]
      rfl
    rintro acc μ ⟨rfl, rfl⟩ p1
    rw [List.length_map, List.length_map, List.take_length]
    refine ⟨0, ds.map fun d => (nmK d.h d.k, d.act), ?_, ?_, fun pa => ?_⟩
    · rw [List.map_map]
      rfl
    · intro p hp
      obtain ⟨d, hd, rfl⟩ := List.mem_map.mp hp
      exact (Nk.key (.inr ⟨d.h, (wf.df d hd).hh, d.k, (wf.df d hd).hk, rfl⟩))
    intro ph
    have el : (S.filterMap toPl).length ≤ 64 := Nat.le_trans (List.length_filterMap_le _ _) (by rw [hS.1.length_eq]; omega)
    have ok := pls_ok wf hS
    let L1 : Node := .lst (ds.map fun d => Val.dat (.tuple [d.name, d.act]))
    let I : Nat → DR → Store → Prop := fun i ρ μ => ∃ (z : List (NestedKey × Val)) (y4 y5 y6 y7 y8 y9 y10 y11 y12 y13 y14 : Option Val), ρ = [some (.dat (.list (ds.map Deed.D))), some (.dat (.list (rowsOf ds S))), some (.ptr pa), some (.ptr ph), y4, y5, y6, y7, y8, y9, y10, y11, y12, y13, y14] ∧ μ = [(p1, L1), (pa, .dv (actZ ds)), (ph, .dv z)] ∧
      HeadH z (runP (offB ds) ((S.filterMap toPl).take i)).H ∧ (z.map (·.1)).Nodup ∧ z.length ≤ i
    refine ⟨I, ⟨[], _, _, _, _, _, _, _, _, _, _, _, rfl, rfl, fun x => rfl, .nil, Nat.le_refl _⟩, fun _ _ _ _ _ => trivial, ?_, ?_⟩
    · rintro i y ρ μ hy ⟨z, y4, y5, y6, y7, y8, y9, y10, y11, y12, y13, y14, rfl, rfl, hz, nz, lz⟩
      obtain ⟨r, hr, rfl⟩ := Option.map_eq_some_iff.mp (by rw [← List.getElem?_map]; exact hy)
      have il : i < (S.filterMap toPl).length := by
        have := (List.getElem?_eq_some_iff.mp hr).1
        unfold rowsOf at this
        rwa [run_len] at this
      obtain ⟨p, hp⟩ : ∃ p, (S.filterMap toPl)[i]? = some p := ⟨_, List.getElem?_eq_getElem il⟩
      obtain ⟨as, e, bs, eS, te, ef⟩ := fm_cut hp
      have he : e ∈ ds := hS.1.mem_iff.mp (by rw [eS]; simp)
      have co := ok i p hp
      have pd := toPl_d te
      have hst : p.st = nmK e.h e.k := by
        unfold Pl.st
        rw [pd]
      have hok := run_ok (off := offB ds) ok i (by omega)
      obtain ⟨l, wl⟩ := hok.ways co.par
      obtain ⟨ll, lc⟩ := hok.len wl
      have nks : ∀ q ∈ (S.filterMap toPl).take i, q.d.h ∈ hands4 ∧ q.d.k < 64 := fun q hq => by
        obtain ⟨e1, h1, h2⟩ := List.mem_filterMap.mp (List.mem_of_mem_take hq)
        have m := hS.1.mem_iff.mp h1
        rw [toPl_d h2]
        exact ⟨(wf.df e1 m).hh, (wf.df e1 m).hk⟩
      obtain ⟨n1, n2, n3, n4⟩ := co.nkp nks
      have nl : ∀ x ∈ l, Nk x := fun x hx => by
        obtain ⟨q, hq, e1, e2⟩ := lc x hx
        refine .inr ⟨q.d.h, (nks q hq).1, q.d.k, (nks q hq).2, ?_⟩
        rw [← e2, ← e1]
        rfl
      have l64 : l.length ≤ 64 := by rw [List.length_take] at ll; omega
      have et : (S.filterMap toPl).take (i + 1) = (S.filterMap toPl).take i ++ [p] := by rw [List.take_succ, hp]; rfl
      obtain ⟨wd, wy, er, ew⟩ : ∃ (wd : Str) (wy : PyData), r = .tuple [datK p.st, .str wd, wy] ∧ ((wd = "off" ∧ wy = .none ∧ p.st ≠ p.c ∧ (stepP (offB ds) (runP (offB ds) ((S.filterMap toPl).take i)) p).H = (runP (offB ds) ((S.filterMap toPl).take i)).H) ∨
          (wd = "passed" ∧ p.st ≠ p.c ∧ (∃ t u, l = t ++ p.c :: u ∧ p.c ∉ t ∧ wy = .tuple ((t ++ [p.c]).map datK)) ∧ (stepP (offB ds) (runP (offB ds) ((S.filterMap toPl).take i)) p).H = (runP (offB ds) ((S.filterMap toPl).take i)).H) ∨
          (wd = "done" ∧ p.c ∉ l ∧ wy = .tuple (l.map datK) ∧ (stepP (offB ds) (runP (offB ds) ((S.filterMap toPl).take i)) p).H = fun x => if x = p.c then some (p.st, p.p) else (runP (offB ds) ((S.filterMap toPl).take i)).H x)) := by
        have one : ∀ {r'}, (stepP (offB ds) (runP (offB ds) ((S.filterMap toPl).take i)) p).rows = (runP (offB ds) ((S.filterMap toPl).take i)).rows ++ [r'] → r = r' := fun {r'} h => by
          have h2 := row_is hp h
          rw [show (runP (offB ds) (S.filterMap toPl)).rows[i]? = some r from hr] at h2
          exact Option.some.inj h2
        unfold stepP at one ⊢
        rw [way_is wl] at one ⊢
        by_cases g1 : offB ds p.st = true ∧ p.st ≠ p.c
        · rw [if_pos g1] at one ⊢
          exact ⟨_, _, one rfl, .inl ⟨rfl, rfl, g1.2, rfl⟩⟩
        · rw [if_neg g1] at one ⊢
          by_cases g2 : p.c ∈ l
          · rw [if_pos g2] at one ⊢
            obtain ⟨t, u, etu⟩ := List.append_of_mem g2
            have nt : p.c ∉ t := fun z => by
              have nd := wl.nodup
              rw [etu, List.nodup_append] at nd
              exact nd.2.2 _ z _ (List.mem_cons_self ..) rfl
            refine ⟨_, _, one rfl, .inr (.inl ⟨rfl, co.ne (lc _ g2), ⟨t, u, etu, nt, ?_⟩, rfl⟩)⟩
            rw [etu, upto_at nt]
          · rw [if_neg g2] at one ⊢
            exact ⟨_, _, one rfl, .inr (.inr ⟨rfl, g2, rfl, rfl⟩)⟩
      subst er
      have af := (wf.df e he).act
      have stay : (stepP (offB ds) (runP (offB ds) ((S.filterMap toPl).take i)) p).H = (runP (offB ds) ((S.filterMap toPl).take i)).H → HeadH z (runP (offB ds) ((S.filterMap toPl).take (i + 1))).H := fun h => by
        rw [et, runP_snoc, h]
        exact hz
      refine ⟨rfl, _, p.st, _, .own 1 rfl, keyD_datK _, n1.key, (by rw [hst]; exact act_look wf he), ?_⟩
      refine ⟨fun ρ μ => (∃ (w0 : Str) (rest : List PyData), e.act = .tuple (.str w0 :: rest) ∧ ((w0 = "cell" ∧ p.st = p.c) ∨ w0 = "place")) ∧ ρ = [some (.dat (.list (ds.map Deed.D))), some (.dat (.list (rowsOf ds S))), some (.ptr pa), some (.ptr ph), some (kv p.st), some (.dat (.str wd)), some (.dat wy), some (.dat e.act), some (kv p.c), some (kv p.p), y10, y11, y12, y13, y14] ∧ μ = [(p1, L1), (pa, .dv (actZ ds)), (ph, .dv z)], ?_, ?_⟩
      · rcases act_cases af with ⟨x, q0, nx, ea, tp⟩ | ⟨c, x, q0, nc, nx, ea, tp⟩ | ⟨_, _, _, _, _, tp⟩
        · rw [te] at tp
          have ep := Option.some.inj tp
          have e1 : kv p.c = kv p.st := by rw [ep]; rfl
          have e2 : kv p.p = .dat x := by
            rw [ep]
            exact congrArg Val.dat (datK_kN nx)
          rw [e1, e2, ea]
          refine ⟨x, rfl, (by decide : 2 ≤ sizeLine), fun pz => ⟨3, _, [_, _], rfl, rfl, ?_⟩⟩
          refine ⟨x, rfl, x, rfl, (by decide : 2 ≤ sizeLine), fun pz2 => ⟨3, _, [_, _], rfl, rfl, ?_⟩⟩
          refine ⟨(by decide : 2 ≤ sizeLine), .str "cell", rfl, ?_⟩
          refine ⟨_, rfl, rfl, ⟨_, _, rfl, .inl ⟨rfl, by rw [ep]; rfl⟩⟩, rfl, rfl⟩
        · rw [te] at tp
          have ep := Option.some.inj tp
          have e1 : kv p.c = .dat c := by
            rw [ep]
            exact congrArg Val.dat (datK_kN nc)
          have e2 : kv p.p = .dat x := by
            rw [ep]
            exact congrArg Val.dat (datK_kN nx)
          rw [e1, e2, ea]
          refine ⟨c, rfl, (by decide : 2 ≤ sizeLine), fun pz => ⟨3, _, [_, _], rfl, rfl, ?_⟩⟩
          refine ⟨c, rfl, x, rfl, (by decide : 2 ≤ sizeLine), fun pz2 => ⟨3, _, [_, _], rfl, rfl, ?_⟩⟩
          refine ⟨(by decide : 2 ≤ sizeLine), .str "place", rfl, ?_⟩
          refine ⟨_, rfl, rfl, ⟨_, _, rfl, .inr rfl⟩, rfl, rfl⟩
        · rw [te] at tp
          cases tp
      · rintro ρ μ ⟨⟨w0, rest, ea, hw0⟩, rfl, rfl⟩
        have ncell : p.st ≠ p.c → w0 = "place" := fun h => hw0.resolve_left fun z => h z.2
        rcases ew with ⟨rfl, rfl, g, hH⟩ | ew
        · rw [ea, ncell g]
          refine ⟨.str "place", at_head, ?_⟩
          exact ⟨_, .refl _, z, _, _, _, _, _, _, _, _, _, _, _, rfl, rfl, stay hH, nz, by omega⟩
        obtain ⟨v, nxt, rfl, hrow, nv, lv, noff, hd⟩ : ∃ (v : List NestedKey) (nxt : NestedKey), wy = .tuple (v.map datK) ∧ kv p.p :: v.map (getH z) = v.map kv ++ [kv nxt] ∧ (∀ x ∈ v, Nk x) ∧ v.length ≤ 65 ∧ wd ≠ "off" ∧
            ((wd = "passed" ∧ p.st ≠ p.c ∧ (∃ t, v = t ++ [p.c] ∧ p.c ∉ t) ∧ (stepP (offB ds) (runP (offB ds) ((S.filterMap toPl).take i)) p).H = (runP (offB ds) ((S.filterMap toPl).take i)).H) ∨
            (wd = "done" ∧ p.c ∉ v ∧ nxt = .none ∧ (stepP (offB ds) (runP (offB ds) ((S.filterMap toPl).take i)) p).H = fun x => if x = p.c then some (p.st, p.p) else (runP (offB ds) ((S.filterMap toPl).take i)).H x)) := by
          rcases ew with ⟨rfl, g, ⟨t, u, el2, nt, rfl⟩, hH⟩ | ⟨rfl, g, rfl, hH⟩
          · refine ⟨t ++ [p.c], _, rfl, heads_row hz wl (t ++ [p.c]) u (by rw [el2]; simp), fun x hx => nl x ?_, ?_, by decide, .inl ⟨rfl, g, ⟨t, rfl, nt⟩, hH⟩⟩
            · rw [el2]
              rcases List.mem_append.mp hx with h | h
              · exact List.mem_append_left _ h
              · rw [List.mem_singleton.mp h]
                simp
            · have := congrArg List.length el2
              rw [List.length_append, List.length_cons] at this
              rw [List.length_append, List.length_singleton]
              omega
          · exact ⟨l, _, rfl, heads_row hz wl l [] (List.append_nil _).symm, nl, by omega, by decide, .inr ⟨rfl, g, rfl, hH⟩⟩
        have vlen : (v.map datK).length = v.length := List.length_map _
        refine str_cmp (ite2 (fun c => absurd (of_decide_eq_true c) noff) fun _ => ?_)
        refine ⟨fun n ρ μ => ∃ y10 y11 y12 y13 y14 : Option Val, ρ = [some (.dat (.list (ds.map Deed.D))), some (.dat (.list (rowsOf ds S))), some (.ptr pa), some (.ptr ph), some (kv p.st), some (.dat (.str wd)), some (.dat (.tuple (v.map datK))), some (.dat e.act), some (kv p.c), some (kv p.p), y10, y11, y12, y13, y14] ∧ μ = [(p1, L1), (pa, .dv (actZ ds)), (ph, .dv z)], ⟨_, _, _, _, _, rfl, rfl⟩, fun _ _ _ _ _ => trivial, ?_, ?_⟩
        · rintro n y ρ μ hy ⟨y10, y11, y12, y13, y14, rfl, rfl⟩
          have hn : n < v.length := by
            have := (List.getElem?_eq_some_iff.mp hy).1
            rwa [enumZ_len, List.length_map, List.length_map] at this
          have hv : v[n]? = some v[n] := List.getElem?_eq_getElem hn
          rw [enumZ_get (x := kv v[n]) (by rw [List.getElem?_map, List.getElem?_map, hv]; rfl)] at hy
          cases hy
          refine ⟨rfl, ?_⟩
          refine ⟨(by decide : 1 ≤ sizeLine), fun pA => ⟨fun k acc μ => μ = [(p1, L1), (pa, .dv (actZ ds)), (ph, .dv z), (pA, .lst [kv p.p])] ∧ acc = (v.take k).map (getH z), ⟨rfl, rfl⟩, fun _ _ _ _ _ => trivial, ?_, ?_⟩⟩
          · rintro k y acc μ hy ⟨rfl, rfl⟩
            obtain ⟨x, hx, rfl⟩ := Option.map_eq_some_iff.mp (by rw [List.map_map, List.getElem?_map] at hy; exact hy)
            have et2 : v.take (k + 1) = v.take k ++ [x] := by rw [List.take_succ, hx]; rfl
            refine ⟨_, rfl, ⟨_, .own 2 rfl⟩, z, x, .own 2 rfl, keyD_datK _, (nv x (List.mem_of_getElem? hx)).key, by rw [List.length_map, List.length_take, ez]; omega, _, .refl _, rfl, ?_⟩
            rw [et2, List.map_append]
            rfl
          rintro acc μ ⟨rfl, rfl⟩ pB
          rw [List.length_map, List.length_map, List.take_length]
          refine ⟨[kv p.p], v.map (getH z), .p 3 rfl, .p 4 rfl, by rw [List.length_map, ez]; show 1 + _ ≤ _; omega, fun pC => ?_⟩
          rw [List.singleton_append, hrow]
          have ea2 : atI (v.map kv ++ [kv nxt]) ((0 + n : Nat) : Int) = some (kv v[n]) := atI_nat (j := 0 + n) (by rw [Nat.zero_add, List.getElem?_append_left (by rw [List.length_map]; exact hn), List.getElem?_map, hv]; rfl)
          refine ⟨5, _, _, rfl, ea2, namo_cmp (nv _ (List.getElem_mem hn)).namo (nv _ (List.getElem_mem hn)).namo ?_⟩
          rw [SeqAt.eqv_refl _ (nv _ (List.getElem_mem hn)).namo.lay.1]
          exact ⟨_, List.take_sublist 3 _, _, _, _, _, _, rfl, rfl⟩
        · rintro ρ μ ⟨y10, y11, y12, y13, y14, rfl, rfl⟩
          refine ⟨(by decide : 1 ≤ sizeLine), fun pA => ⟨fun k acc μ => μ = [(p1, L1), (pa, .dv (actZ ds)), (ph, .dv z), (pA, .lst [kv p.p])] ∧ acc = (v.take k).map (getH z), ⟨rfl, rfl⟩, fun _ _ _ _ _ => trivial, ?_, ?_⟩⟩
          · rintro k y acc μ hy ⟨rfl, rfl⟩
            obtain ⟨x, hx, rfl⟩ := Option.map_eq_some_iff.mp (by rw [List.map_map, List.getElem?_map] at hy; exact hy)
            have et2 : v.take (k + 1) = v.take k ++ [x] := by rw [List.take_succ, hx]; rfl
            refine ⟨_, rfl, ⟨_, .own 2 rfl⟩, z, x, .own 2 rfl, keyD_datK _, (nv x (List.mem_of_getElem? hx)).key, by rw [List.length_map, List.length_take, ez]; omega, _, .refl _, rfl, ?_⟩
            rw [et2, List.map_append]
            rfl
          rintro acc μ ⟨rfl, rfl⟩ pB
          rw [List.length_map, List.length_map, List.take_length]
          refine ⟨[kv p.p], v.map (getH z), .p 3 rfl, .p 4 rfl, by rw [List.length_map, ez]; show 1 + _ ≤ _; omega, fun pC => ?_⟩
          rw [List.singleton_append, hrow]
          have ea2 : atI (v.map kv ++ [kv nxt]) ((v.map datK).length : Nat) = some (kv nxt) := atI_nat (j := (v.map datK).length) (by rw [List.length_map, List.getElem?_append_right (by rw [List.length_map]; exact Nat.le_refl _), List.length_map, Nat.sub_self]; rfl)
          refine ⟨5, _, _, rfl, ea2, ?_⟩
          rcases hd with ⟨rfl, g, ⟨t, rfl, nt⟩, hH⟩ | ⟨rfl, g, rfl, hH⟩
          · rw [ea, ncell g]
            refine ⟨.str "place", at_head, datK p.c, at_lastK, namo_cmp n2.namo n2.namo ?_⟩
            rw [SeqAt.eqv_refl _ n2.namo.lay.1]
            refine ⟨datK p.c, .d _, n2.namo.lay.1, ?_, by have := n2.namo.lay.2.1; omega, ?_⟩
            · rw [cut_butlast]
              exact lay_nk fun x hx => nv x (List.mem_append_left _ hx)
            rw [cut_butlast, any_nk n2 fun x hx => nv x (List.mem_append_left _ hx), decide_eq_false nt]
            exact ⟨_, List.take_sublist 3 _, z, _, _, _, _, _, _, _, _, _, _, _, rfl, rfl, stay hH, nz, by omega⟩
          · refine ⟨datK p.c, .d _, n2.namo.lay.1, lay_nk nv, by have := n2.namo.lay.2.1; omega, ?_⟩
            rw [any_nk n2 nv, decide_eq_false g]
            refine ⟨2, z, p.c, rfl, keyD_datK _, n2.key, by omega, ?_⟩
            refine ⟨_, List.take_sublist 3 _, putZ z p.c (kv p.p), _, _, _, _, _, _, _, _, _, _, _, rfl, rfl, ?_, ?_, Nat.le_trans (putZ_len _ _ _) (by omega)⟩
            · rw [et, runP_snoc, hH]
              intro x
              rw [lookZ_put]
              show _ = Option.map _ (if x = p.c then some (p.st, p.p) else _)
              by_cases ex : p.c = x
              · rw [if_pos ex, if_pos ex.symm]
                rfl
              · rw [if_neg ex, if_neg (Ne.symm ex)]
                exact hz x
            · rw [putZ_keys]
              split
              · exact nz
              · rename_i m
                refine List.nodup_append.mpr ⟨nz, by simp, fun x hx y hy => ?_⟩
                rw [List.mem_singleton.mp hy]
                exact fun e => m (e ▸ hx)
    · rintro ρ μ ⟨z, y4, y5, y6, y7, y8, y9, y10, y11, y12, y13, y14, rfl, rfl, hz, nz, lz⟩
      have rl : (rowsOf ds S).length = (S.filterMap toPl).length := run_len
      rw [List.length_map, rl] at hz lz
      rw [List.take_length] at hz
      have hok := run_ok (off := offB ds) ok (S.filterMap toPl).length (Nat.le_refl _)
      rw [List.take_length] at hok
      refine ⟨2, ph, _, rfl, ph, z, _, rfl, rfl, hz, by omega, fun kp hkp => ?_, ⟨_, [], rfl, ?_⟩⟩
      · have h1 := lookZ_mem nz (show (kp.1, kp.2) ∈ z from hkp)
        rw [hz] at h1
        obtain ⟨w1, h2, _⟩ := Option.map_eq_some_iff.mp h1
        obtain ⟨l, wl⟩ := hok.way _ (hok.dom _ _ h2)
        refine ⟨l, wl, ?_, fun y hy => ?_⟩
        · have := nodup_le' (b := z.map (·.1)) wl.nodup fun y hy => by
            obtain ⟨_, q1, e1⟩ := wl.mem y hy
            refine look_in (x := kv q1.2) ?_
            rw [hz, e1]
            rfl
          rwa [List.length_map] at this
        · obtain ⟨q, hq, e1, e2⟩ := (hok.len wl).2 y hy
          obtain ⟨e3, h1, h2⟩ := List.mem_filterMap.mp hq
          have m := hS.1.mem_iff.mp h1
          have pd := toPl_d h2
          refine .inr ⟨q.d.h, ?_, q.d.k, ?_, ?_⟩
          · rw [pd]
            exact (wf.df e3 m).hh
          · rw [pd]
            exact (wf.df e3 m).hk
          · rw [← e2, ← e1]
            rfl
      · exact ⟨_, List.nil_sublist _, q⟩
end
end Kr
namespace Kr
open PySem PySem.Spec PyProof.Rows L2 Lf Zl
section
set_option maxHeartbeats 4000000 in
theorem all_mk {l : PySem.W.OpenLaw} {w : World} {K : PySem.W.Frag} {h : Heap} {mg : Str → Option Value} {fa CP : Addr} (X : K.In h) (G : h.Ns mainGlobals mg) (hfa : mg "law" = some (.ref fa))
    {od0 an0 : Option Addr} {sl0 : Array (Option Value)} {oc0 kV0 dc0 pm0 cd0 ct0 : Value} {f0 : Addr}
    {od1 an1 : Option Addr} {sl1 : Array (Option Value)} {oc1 kV1 dc1 pm1 cd1 ct1 : Value} {f1 : Addr}
    {od2 an2 : Option Addr} {sl2 : Array (Option Value)} {oc2 kV2 dc2 pm2 cd2 ct2 : Value} {f2 : Addr}
    {od3 an3 : Option Addr} {sl3 : Array (Option Value)} {oc3 kV3 dc3 pm3 cd3 ct3 : Value} {f3 : Addr}
    {od4 an4 : Option Addr} {sl4 : Array (Option Value)} {oc4 kV4 dc4 pm4 cd4 ct4 : Value} {f4 : Addr}
    {od5 an5 : Option Addr} {sl5 : Array (Option Value)} {oc5 kV5 dc5 pm5 cd5 ct5 : Value} {f5 : Addr}
    {od6 an6 : Option Addr} {sl6 : Array (Option Value)} {oc6 kV6 dc6 pm6 cd6 ct6 : Value} {f6 : Addr}
    {od7 an7 : Option Addr} {sl7 : Array (Option Value)} {oc7 kV7 dc7 pm7 cd7 ct7 : Value} {f7 : Addr}
    {od8 an8 : Option Addr} {sl8 : Array (Option Value)} {oc8 kV8 dc8 pm8 cd8 ct8 : Value} {f8 : Addr}
    {od9 an9 : Option Addr} {sl9 : Array (Option Value)} {oc9 kV9 dc9 pm9 cd9 ct9 : Value} {f9 : Addr}
    {od10 an10 : Option Addr} {sl10 : Array (Option Value)} {oc10 kV10 dc10 pm10 cd10 ct10 : Value} {f10 : Addr}
    {od11 an11 : Option Addr} {sl11 : Array (Option Value)} {oc11 kV11 dc11 pm11 cd11 ct11 : Value} {f11 : Addr}
    {od12 an12 : Option Addr} {sl12 : Array (Option Value)} {oc12 kV12 dc12 pm12 cd12 ct12 : Value} {f12 : Addr}
    {od13 an13 : Option Addr} {sl13 : Array (Option Value)} {oc13 kV13 dc13 pm13 cd13 ct13 : Value} {f13 : Addr}
    {od14 an14 : Option Addr} {sl14 : Array (Option Value)} {oc14 kV14 dc14 pm14 cd14 ct14 : Value} {f14 : Addr}
    {od15 an15 : Option Addr} {sl15 : Array (Option Value)} {oc15 kV15 dc15 pm15 cd15 ct15 : Value} {f15 : Addr}
    {od16 an16 : Option Addr} {sl16 : Array (Option Value)} {oc16 kV16 dc16 pm16 cd16 ct16 : Value} {f16 : Addr}
    {od17 an17 : Option Addr} {sl17 : Array (Option Value)} {oc17 kV17 dc17 pm17 cd17 ct17 : Value} {f17 : Addr}
    {od18 an18 : Option Addr} {sl18 : Array (Option Value)} {oc18 kV18 dc18 pm18 cd18 ct18 : Value} {f18 : Addr}
    {od19 an19 : Option Addr} {sl19 : Array (Option Value)} {oc19 kV19 dc19 pm19 cd19 ct19 : Value} {f19 : Addr}
    {od20 an20 : Option Addr} {sl20 : Array (Option Value)} {oc20 kV20 dc20 pm20 cd20 ct20 : Value} {f20 : Addr}
    {od21 an21 : Option Addr} {sl21 : Array (Option Value)} {oc21 kV21 dc21 pm21 cd21 ct21 : Value} {f21 : Addr}
    {od22 an22 : Option Addr} {sl22 : Array (Option Value)} {oc22 kV22 dc22 pm22 cd22 ct22 : Value} {f22 : Addr}
    {od23 an23 : Option Addr} {sl23 : Array (Option Value)} {oc23 kV23 dc23 pm23 cd23 ct23 : Value} {f23 : Addr}
    {od24 an24 : Option Addr} {sl24 : Array (Option Value)} {oc24 kV24 dc24 pm24 cd24 ct24 : Value} {f24 : Addr}
    {od25 an25 : Option Addr} {sl25 : Array (Option Value)} {oc25 kV25 dc25 pm25 cd25 ct25 : Value} {f25 : Addr}
    {od26 an26 : Option Addr} {sl26 : Array (Option Value)} {oc26 kV26 dc26 pm26 cd26 ct26 : Value} {f26 : Addr}
    {od27 an27 : Option Addr} {sl27 : Array (Option Value)} {oc27 kV27 dc27 pm27 cd27 ct27 : Value} {f27 : Addr}
    {od28 an28 : Option Addr} {sl28 : Array (Option Value)} {oc28 kV28 dc28 pm28 cd28 ct28 : Value} {f28 : Addr}
    {od29 an29 : Option Addr} {sl29 : Array (Option Value)} {oc29 kV29 dc29 pm29 cd29 ct29 : Value} {f29 : Addr}
    (aC0 : PySem.W.nsIn K mainGlobals "Placing" = some (some (.ref CP)))
    (pg0 : PySem.W.plainGet K CP Str.empty = true)
    (hd0 : PySem.W.hasDictIn K CP = true)
    (po0 : PySem.W.plainOver K CP = true)
    (sa0 : PySem.W.findIn K (.ref CP) "__setattr__" = some (some (.builtin "object.__setattr__")))
    (mk0 : PySem.W.makesIn K CP = true)
    (kc0 : PySem.W.keepIn K (.ref CP) = true)
    (na0_0 : PySem.W.findIn K (.ref CP) "_places" = some none)
    (na0_1 : PySem.W.findIn K (.ref CP) "_off" = some none)
    (na0_2 : PySem.W.findIn K (.ref CP) "_told" = some none)
    (na0_3 : PySem.W.findIn K (.ref CP) "_before" = some none)
    (na0_4 : PySem.W.findIn K (.ref CP) "stood" = some none)
    (a0 : PySem.W.nsIn K mainGlobals "name_of" = some (some (.ref f0)))
    (l0 : K.lookup f0 = some ⟨oc0, od0, .func (PySem.W.fnOf "name_of" "name_of" (defArgs (topS 1)) (defBody (topS 1)) (defScope (topS 1)) .none kV0 dc0 pm0 an0 cd0 ct0), sl0⟩)
    (c0 : PySem.W.codeIn K cd0 "name_of" = true)
    (k0 : PySem.W.keepIn K (.ref f0) = true)
    (a1 : PySem.W.nsIn K mainGlobals "mark_of" = some (some (.ref f1)))
    (l1 : K.lookup f1 = some ⟨oc1, od1, .func (PySem.W.fnOf "mark_of" "mark_of" (defArgs (topS 2)) (defBody (topS 2)) (defScope (topS 2)) .none kV1 dc1 pm1 an1 cd1 ct1), sl1⟩)
    (c1 : PySem.W.codeIn K cd1 "mark_of" = true)
    (k1 : PySem.W.keepIn K (.ref f1) = true)
    (a2 : PySem.W.nsIn K mainGlobals "off_table" = some (some (.ref f2)))
    (l2 : K.lookup f2 = some ⟨oc2, od2, .func (PySem.W.fnOf "off_table" "off_table" (defArgs (topS 6)) (defBody (topS 6)) (defScope (topS 6)) .none kV2 dc2 pm2 an2 cd2 ct2), sl2⟩)
    (c2 : PySem.W.codeIn K cd2 "off_table" = true)
    (k2 : PySem.W.keepIn K (.ref f2) = true)
    (a3 : PySem.W.nsIn K mainGlobals "places" = some (some (.ref f3)))
    (l3 : K.lookup f3 = some ⟨oc3, od3, .func (PySem.W.fnOf "places" "places" (defArgs (topS 7)) (defBody (topS 7)) (defScope (topS 7)) .none kV3 dc3 pm3 an3 cd3 ct3), sl3⟩)
    (c3 : PySem.W.codeIn K cd3 "places" = true)
    (k3 : PySem.W.keepIn K (.ref f3) = true)
    (a4 : PySem.W.nsIn K mainGlobals "placed" = some (some (.ref f4)))
    (l4 : K.lookup f4 = some ⟨oc4, od4, .func (PySem.W.fnOf "placed" "placed" (defArgs (topS 8)) (defBody (topS 8)) (defScope (topS 8)) .none kV4 dc4 pm4 an4 cd4 ct4), sl4⟩)
    (c4 : PySem.W.codeIn K cd4 "placed" = true)
    (k4 : PySem.W.keepIn K (.ref f4) = true)
    (a5 : PySem.W.nsIn K mainGlobals "makes_stand" = some (some (.ref f5)))
    (l5 : K.lookup f5 = some ⟨oc5, od5, .func (PySem.W.fnOf "makes_stand" "makes_stand" (defArgs (topS 9)) (defBody (topS 9)) (defScope (topS 9)) .none kV5 dc5 pm5 an5 cd5 ct5), sl5⟩)
    (c5 : PySem.W.codeIn K cd5 "makes_stand" = true)
    (k5 : PySem.W.keepIn K (.ref f5) = true)
    (a6 : PySem.W.nsIn K mainGlobals "place_of" = some (some (.ref f6)))
    (l6 : K.lookup f6 = some ⟨oc6, od6, .func (PySem.W.fnOf "place_of" "place_of" (defArgs (topS 10)) (defBody (topS 10)) (defScope (topS 10)) .none kV6 dc6 pm6 an6 cd6 ct6), sl6⟩)
    (c6 : PySem.W.codeIn K cd6 "place_of" = true)
    (k6 : PySem.W.keepIn K (.ref f6) = true)
    (a7 : PySem.W.findIn K (.ref CP) "__init__" = some (some (.ref f7)))
    (i7 : PySem.W.isFn K (.ref f7) = true)
    (l7 : K.lookup f7 = some ⟨oc7, od7, .func (PySem.W.fnOf "__init__" "Placing.__init__" (defArgs (inClass (topS 4) 0)) (defBody (inClass (topS 4) 0)) (defScope (inClass (topS 4) 0)) .none kV7 dc7 pm7 an7 cd7 ct7), sl7⟩)
    (c7 : PySem.W.codeIn K cd7 "Placing.__init__" = true)
    (k7 : PySem.W.keepIn K (.ref f7) = true)
    (a8 : PySem.W.findIn K (.ref CP) "put" = some (some (.ref f8)))
    (i8 : PySem.W.isFn K (.ref f8) = true)
    (l8 : K.lookup f8 = some ⟨oc8, od8, .func (PySem.W.fnOf "put" "Placing.put" (defArgs (inClass (topS 4) 1)) (defBody (inClass (topS 4) 1)) (defScope (inClass (topS 4) 1)) .none kV8 dc8 pm8 an8 cd8 ct8), sl8⟩)
    (c8 : PySem.W.codeIn K cd8 "Placing.put" = true)
    (k8 : PySem.W.keepIn K (.ref f8) = true)
    (a9 : PySem.W.findIn K (.ref CP) "told" = some (some (.ref f9)))
    (i9 : PySem.W.isFn K (.ref f9) = true)
    (l9 : K.lookup f9 = some ⟨oc9, od9, .func (PySem.W.fnOf "told" "Placing.told" (defArgs (inClass (topS 4) 3)) (defBody (inClass (topS 4) 3)) (defScope (inClass (topS 4) 3)) .none kV9 dc9 pm9 an9 cd9 ct9), sl9⟩)
    (c9 : PySem.W.codeIn K cd9 "Placing.told" = true)
    (k9 : PySem.W.keepIn K (.ref f9) = true)
    (a10 : PySem.W.findIn K (.ref CP) "_number_behind" = some (some (.ref f10)))
    (i10 : PySem.W.isFn K (.ref f10) = true)
    (l10 : K.lookup f10 = some ⟨oc10, od10, .func (PySem.W.fnOf "_number_behind" "Placing._number_behind" (defArgs (inClass (topS 4) 4)) (defBody (inClass (topS 4) 4)) (defScope (inClass (topS 4) 4)) .none kV10 dc10 pm10 an10 cd10 ct10), sl10⟩)
    (c10 : PySem.W.codeIn K cd10 "Placing._number_behind" = true)
    (k10 : PySem.W.keepIn K (.ref f10) = true)
    (a11 : PySem.W.findIn K (.ref CP) "_go_back" = some (some (.ref f11)))
    (i11 : PySem.W.isFn K (.ref f11) = true)
    (l11 : K.lookup f11 = some ⟨oc11, od11, .func (PySem.W.fnOf "_go_back" "Placing._go_back" (defArgs (inClass (topS 4) 5)) (defBody (inClass (topS 4) 5)) (defScope (inClass (topS 4) 5)) .none kV11 dc11 pm11 an11 cd11 ct11), sl11⟩)
    (c11 : PySem.W.codeIn K cd11 "Placing._go_back" = true)
    (k11 : PySem.W.keepIn K (.ref f11) = true)
    (a12 : PySem.W.findIn K (.ref CP) "_go_on" = some (some (.ref f12)))
    (i12 : PySem.W.isFn K (.ref f12) = true)
    (l12 : K.lookup f12 = some ⟨oc12, od12, .func (PySem.W.fnOf "_go_on" "Placing._go_on" (defArgs (inClass (topS 4) 6)) (defBody (inClass (topS 4) 6)) (defScope (inClass (topS 4) 6)) .none kV12 dc12 pm12 an12 cd12 ct12), sl12⟩)
    (c12 : PySem.W.codeIn K cd12 "Placing._go_on" = true)
    (k12 : PySem.W.keepIn K (.ref f12) = true)
    (a13 : PySem.W.findIn K (.ref CP) "_way_up" = some (some (.ref f13)))
    (i13 : PySem.W.isFn K (.ref f13) = true)
    (l13 : K.lookup f13 = some ⟨oc13, od13, .func (PySem.W.fnOf "_way_up" "Placing._way_up" (defArgs (inClass (topS 4) 7)) (defBody (inClass (topS 4) 7)) (defScope (inClass (topS 4) 7)) .none kV13 dc13 pm13 an13 cd13 ct13), sl13⟩)
    (c13 : PySem.W.codeIn K cd13 "Placing._way_up" = true)
    (k13 : PySem.W.keepIn K (.ref f13) = true)
    (a14 : PySem.W.nsIn K mainGlobals "_law_urn" = some (some (.ref f14)))
    (l14 : K.lookup f14 = some ⟨oc14, od14, .func (PySem.W.fnOf "_law_urn" "_law_urn" (defArgs (topS 12)) (defBody (topS 12)) (defScope (topS 12)) .none kV14 dc14 pm14 an14 cd14 ct14), sl14⟩)
    (c14 : PySem.W.codeIn K cd14 "_law_urn" = true)
    (k14 : PySem.W.keepIn K (.ref f14) = true)
    (a15 : PySem.W.nsIn K mainGlobals "_law_lot" = some (some (.ref f15)))
    (l15 : K.lookup f15 = some ⟨oc15, od15, .func (PySem.W.fnOf "_law_lot" "_law_lot" (defArgs (topS 13)) (defBody (topS 13)) (defScope (topS 13)) .none kV15 dc15 pm15 an15 cd15 ct15), sl15⟩)
    (c15 : PySem.W.codeIn K cd15 "_law_lot" = true)
    (k15 : PySem.W.keepIn K (.ref f15) = true)
    (a16 : PySem.W.nsIn K mainGlobals "_law_joined" = some (some (.ref f16)))
    (l16 : K.lookup f16 = some ⟨oc16, od16, .func (PySem.W.fnOf "_law_joined" "_law_joined" (defArgs (topS 14)) (defBody (topS 14)) (defScope (topS 14)) .none kV16 dc16 pm16 an16 cd16 ct16), sl16⟩)
    (c16 : PySem.W.codeIn K cd16 "_law_joined" = true)
    (k16 : PySem.W.keepIn K (.ref f16) = true)
    (a17 : PySem.W.nsIn K mainGlobals "_law_known" = some (some (.ref f17)))
    (l17 : K.lookup f17 = some ⟨oc17, od17, .func (PySem.W.fnOf "_law_known" "_law_known" (defArgs (topS 15)) (defBody (topS 15)) (defScope (topS 15)) .none kV17 dc17 pm17 an17 cd17 ct17), sl17⟩)
    (c17 : PySem.W.codeIn K cd17 "_law_known" = true)
    (k17 : PySem.W.keepIn K (.ref f17) = true)
    (a18 : PySem.W.nsIn K mainGlobals "_law_pick" = some (some (.ref f18)))
    (l18 : K.lookup f18 = some ⟨oc18, od18, .func (PySem.W.fnOf "_law_pick" "_law_pick" (defArgs (topS 16)) (defBody (topS 16)) (defScope (topS 16)) .none kV18 dc18 pm18 an18 cd18 ct18), sl18⟩)
    (c18 : PySem.W.codeIn K cd18 "_law_pick" = true)
    (k18 : PySem.W.keepIn K (.ref f18) = true)
    (a19 : PySem.W.nsIn K mainGlobals "_law_stood" = some (some (.ref f19)))
    (l19 : K.lookup f19 = some ⟨oc19, od19, .func (PySem.W.fnOf "_law_stood" "_law_stood" (defArgs (topS 17)) (defBody (topS 17)) (defScope (topS 17)) .none kV19 dc19 pm19 an19 cd19 ct19), sl19⟩)
    (c19 : PySem.W.codeIn K cd19 "_law_stood" = true)
    (k19 : PySem.W.keepIn K (.ref f19) = true)
    (a20 : PySem.W.nsIn K mainGlobals "_law_spelt" = some (some (.ref f20)))
    (l20 : K.lookup f20 = some ⟨oc20, od20, .func (PySem.W.fnOf "_law_spelt" "_law_spelt" (defArgs (topS 18)) (defBody (topS 18)) (defScope (topS 18)) .none kV20 dc20 pm20 an20 cd20 ct20), sl20⟩)
    (c20 : PySem.W.codeIn K cd20 "_law_spelt" = true)
    (k20 : PySem.W.keepIn K (.ref f20) = true)
    (a21 : PySem.W.nsIn K mainGlobals "_law_act" = some (some (.ref f21)))
    (l21 : K.lookup f21 = some ⟨oc21, od21, .func (PySem.W.fnOf "_law_act" "_law_act" (defArgs (topS 19)) (defBody (topS 19)) (defScope (topS 19)) .none kV21 dc21 pm21 an21 cd21 ct21), sl21⟩)
    (c21 : PySem.W.codeIn K cd21 "_law_act" = true)
    (k21 : PySem.W.keepIn K (.ref f21) = true)
    (a22 : PySem.W.nsIn K mainGlobals "_law_deeds" = some (some (.ref f22)))
    (l22 : K.lookup f22 = some ⟨oc22, od22, .func (PySem.W.fnOf "_law_deeds" "_law_deeds" (defArgs (topS 20)) (defBody (topS 20)) (defScope (topS 20)) .none kV22 dc22 pm22 an22 cd22 ct22), sl22⟩)
    (c22 : PySem.W.codeIn K cd22 "_law_deeds" = true)
    (k22 : PySem.W.keepIn K (.ref f22) = true)
    (a23 : PySem.W.nsIn K mainGlobals "_law_mixed" = some (some (.ref f23)))
    (l23 : K.lookup f23 = some ⟨oc23, od23, .func (PySem.W.fnOf "_law_mixed" "_law_mixed" (defArgs (topS 21)) (defBody (topS 21)) (defScope (topS 21)) .none kV23 dc23 pm23 an23 cd23 ct23), sl23⟩)
    (c23 : PySem.W.codeIn K cd23 "_law_mixed" = true)
    (k23 : PySem.W.keepIn K (.ref f23) = true)
    (a24 : PySem.W.nsIn K mainGlobals "_law_ways_right" = some (some (.ref f24)))
    (l24 : K.lookup f24 = some ⟨oc24, od24, .func (PySem.W.fnOf "_law_ways_right" "_law_ways_right" (defArgs (topS 22)) (defBody (topS 22)) (defScope (topS 22)) .none kV24 dc24 pm24 an24 cd24 ct24), sl24⟩)
    (c24 : PySem.W.codeIn K cd24 "_law_ways_right" = true)
    (k24 : PySem.W.keepIn K (.ref f24) = true)
    (a25 : PySem.W.nsIn K mainGlobals "_law_forest" = some (some (.ref f25)))
    (l25 : K.lookup f25 = some ⟨oc25, od25, .func (PySem.W.fnOf "_law_forest" "_law_forest" (defArgs (topS 23)) (defBody (topS 23)) (defScope (topS 23)) .none kV25 dc25 pm25 an25 cd25 ct25), sl25⟩)
    (c25 : PySem.W.codeIn K cd25 "_law_forest" = true)
    (k25 : PySem.W.keepIn K (.ref f25) = true)
    (a26 : PySem.W.nsIn K mainGlobals "_law_next" = some (some (.ref f26)))
    (l26 : K.lookup f26 = some ⟨oc26, od26, .func (PySem.W.fnOf "_law_next" "_law_next" (defArgs (topS 24)) (defBody (topS 24)) (defScope (topS 24)) .none kV26 dc26 pm26 an26 cd26 ct26), sl26⟩)
    (c26 : PySem.W.codeIn K cd26 "_law_next" = true)
    (k26 : PySem.W.keepIn K (.ref f26) = true)
    (a27 : PySem.W.nsIn K mainGlobals "_law_turned_right" = some (some (.ref f27)))
    (l27 : K.lookup f27 = some ⟨oc27, od27, .func (PySem.W.fnOf "_law_turned_right" "_law_turned_right" (defArgs (topS 25)) (defBody (topS 25)) (defScope (topS 25)) .none kV27 dc27 pm27 an27 cd27 ct27), sl27⟩)
    (c27 : PySem.W.codeIn K cd27 "_law_turned_right" = true)
    (k27 : PySem.W.keepIn K (.ref f27) = true)
    (a28 : PySem.W.nsIn K mainGlobals "_law_called" = some (some (.ref f28)))
    (l28 : K.lookup f28 = some ⟨oc28, od28, .func (PySem.W.fnOf "_law_called" "_law_called" (defArgs (topS 26)) (defBody (topS 26)) (defScope (topS 26)) .none kV28 dc28 pm28 an28 cd28 ct28), sl28⟩)
    (c28 : PySem.W.codeIn K cd28 "_law_called" = true)
    (k28 : PySem.W.keepIn K (.ref f28) = true)
    (a29 : PySem.W.nsIn K mainGlobals "law" = some (some (.ref f29)))
    (l29 : K.lookup f29 = some ⟨oc29, od29, .func (PySem.W.fnOf "law" "law" (defArgs (topS 27)) (defBody (topS 27)) (defScope (topS 27)) .none kV29 dc29 pm29 an29 cd29 ct29), sl29⟩)
    (c29 : PySem.W.codeIn K cd29 "law" = true)
    (k29 : PySem.W.keepIn K (.ref f29) = true)
    (z0 : PySem.W.nsIn K mainGlobals "len" = some none)
    (z1 : PySem.W.nsIn K mainGlobals "range" = some none)
    (z2 : PySem.W.nsIn K mainGlobals "list" = some none)
    (z3 : PySem.W.nsIn K mainGlobals "tuple" = some none)
    (z4 : PySem.W.nsIn K mainGlobals "max" = some none)
    (z5 : PySem.W.nsIn K mainGlobals "min" = some none)
    (z6 : PySem.W.nsIn K mainGlobals "sorted" = some none)
    (z7 : PySem.W.nsIn K mainGlobals "repr" = some none)
    (z8 : PySem.W.nsIn K mainGlobals "dict" = some none)
    (z9 : PySem.W.nsIn K mainGlobals "int" = some none)
    (z10 : PySem.W.nsIn K mainGlobals "isinstance" = some none)
    (z11 : PySem.W.nsIn K mainGlobals "enumerate" = some none)
    (z12 : PySem.W.nsIn K mainGlobals "str" = some none)
    : ∃ fd : FuncData, (∀ (s : Shared) (v : Value), BindsTo s fd ⟨[v], []⟩ [("_law_script", v)]) ∧ ∀ base : Heap, K.In base → base.Ns mainGlobals mg → Gd.RunAt callerA l.prog w K mg base fa fd ["_law_script"] (spZ w K fLaw) := by
  have e := hfa.symm.trans (PySem.W.mg_of X G a29)
  cases e
  have TB : Bs mg := ⟨PySem.W.mg_none_of X G z0, PySem.W.mg_none_of X G z1, PySem.W.mg_none_of X G z2, PySem.W.mg_none_of X G z3, PySem.W.mg_none_of X G z4, PySem.W.mg_none_of X G z5, PySem.W.mg_none_of X G z6, PySem.W.mg_none_of X G z7, PySem.W.mg_none_of X G z8, PySem.W.mg_none_of X G z9, PySem.W.mg_none_of X G z10, PySem.W.mg_none_of X G z11, PySem.W.mg_none_of X G z12⟩
  have T : Ts K mg CP := { toBs := TB, c_Placing := ⟨pg0, hd0, po0, sa0⟩, g_Placing := PySem.W.mg_of X G aC0, n_Placing__places := na0_0, n_Placing__off := na0_1, n_Placing__told := na0_2, n_Placing__before := na0_3, n_Placing_stood := na0_4 }
  have F_name_of := fun_mk (st := topS 1) l0 c0 k0
  have b_name_of := F_name_of.binds (ps := ["deed"]) fun _ _ _ _ _ _ us hl => match us, hl with | [_], _ => rfl
  have g_name_of := PySem.W.mg_of X G a0
  have F_mark_of := fun_mk (st := topS 2) l1 c1 k1
  have b_mark_of := F_mark_of.binds (ps := ["deed"]) fun _ _ _ _ _ _ us hl => match us, hl with | [_], _ => rfl
  have g_mark_of := PySem.W.mg_of X G a1
  have F_off_table := fun_mk (st := topS 6) l2 c2 k2
  have b_off_table := F_off_table.binds (ps := ["deeds"]) fun _ _ _ _ _ _ us hl => match us, hl with | [_], _ => rfl
  have g_off_table := PySem.W.mg_of X G a2
  have F_places := fun_mk (st := topS 7) l3 c3 k3
  have b_places := F_places.binds (ps := ["deeds"]) fun _ _ _ _ _ _ us hl => match us, hl with | [_], _ => rfl
  have g_places := PySem.W.mg_of X G a3
  have F_placed := fun_mk (st := topS 8) l4 c4 k4
  have b_placed := F_placed.binds (ps := ["deeds", "off"]) fun _ _ _ _ _ _ us hl => match us, hl with | [_, _], _ => rfl
  have g_placed := PySem.W.mg_of X G a4
  have F_makes_stand := fun_mk (st := topS 9) l5 c5 k5
  have b_makes_stand := F_makes_stand.binds (ps := ["deed"]) fun _ _ _ _ _ _ us hl => match us, hl with | [_], _ => rfl
  have g_makes_stand := PySem.W.mg_of X G a5
  have F_place_of := fun_mk (st := topS 10) l6 c6 k6
  have b_place_of := F_place_of.binds (ps := ["deed"]) fun _ _ _ _ _ _ us hl => match us, hl with | [_], _ => rfl
  have g_place_of := PySem.W.mg_of X G a6
  have F_Placing___init__ := fun_mk (st := inClass (topS 4) 0) l7 c7 k7
  have b_Placing___init__ := F_Placing___init__.binds (ps := ["self"]) fun _ _ _ _ _ _ us hl => match us, hl with | [_], _ => rfl
  have M_Placing___init__ : Meth K CP "__init__" f7 := ⟨a7, i7, k7⟩
  have K_Placing : Mk K CP f7 := ⟨mk0, a7, i7, kc0⟩
  have F_Placing_put := fun_mk (st := inClass (topS 4) 1) l8 c8 k8
  have b_Placing_put := F_Placing_put.binds (ps := ["self", "place", "off"]) fun _ _ _ _ _ _ us hl => match us, hl with | [_, _, _], _ => rfl
  have M_Placing_put : Meth K CP "put" f8 := ⟨a8, i8, k8⟩
  have F_Placing_told := fun_mk (st := inClass (topS 4) 3) l9 c9 k9
  have b_Placing_told := F_Placing_told.binds (ps := ["self"]) fun _ _ _ _ _ _ us hl => match us, hl with | [_], _ => rfl
  have M_Placing_told : Meth K CP "told" f9 := ⟨a9, i9, k9⟩
  have F_Placing__number_behind := fun_mk (st := inClass (topS 4) 4) l10 c10 k10
  have b_Placing__number_behind := F_Placing__number_behind.binds (ps := ["self", "mark"]) fun _ _ _ _ _ _ us hl => match us, hl with | [_, _], _ => rfl
  have M_Placing__number_behind : Meth K CP "_number_behind" f10 := ⟨a10, i10, k10⟩
  have F_Placing__go_back := fun_mk (st := inClass (topS 4) 5) l11 c11 k11
  have b_Placing__go_back := F_Placing__go_back.binds (ps := ["self", "at"]) fun _ _ _ _ _ _ us hl => match us, hl with | [_, _], _ => rfl
  have M_Placing__go_back : Meth K CP "_go_back" f11 := ⟨a11, i11, k11⟩
  have F_Placing__go_on := fun_mk (st := inClass (topS 4) 6) l12 c12 k12
  have b_Placing__go_on := F_Placing__go_on.binds (ps := ["self"]) fun _ _ _ _ _ _ us hl => match us, hl with | [_], _ => rfl
  have M_Placing__go_on : Meth K CP "_go_on" f12 := ⟨a12, i12, k12⟩
  have F_Placing__way_up := fun_mk (st := inClass (topS 4) 7) l13 c13 k13
  have b_Placing__way_up := F_Placing__way_up.binds (ps := ["self", "cell", "parent"]) fun _ _ _ _ _ _ us hl => match us, hl with | [_, _, _], _ => rfl
  have M_Placing__way_up : Meth K CP "_way_up" f13 := ⟨a13, i13, k13⟩
  have F__law_urn := fun_mk (st := topS 12) l14 c14 k14
  have b__law_urn := F__law_urn.binds (ps := ["_law_script", "_law_k"]) fun _ _ _ _ _ _ us hl => match us, hl with | [_, _], _ => rfl
  have g__law_urn := PySem.W.mg_of X G a14
  have F__law_lot := fun_mk (st := topS 13) l15 c15 k15
  have b__law_lot := F__law_lot.binds (ps := ["_law_urn_here", "_law_many"]) fun _ _ _ _ _ _ us hl => match us, hl with | [_, _], _ => rfl
  have g__law_lot := PySem.W.mg_of X G a15
  have F__law_joined := fun_mk (st := topS 14) l16 c16 k16
  have b__law_joined := F__law_joined.binds (ps := ["_law_one", "_law_other"]) fun _ _ _ _ _ _ us hl => match us, hl with | [_, _], _ => rfl
  have g__law_joined := PySem.W.mg_of X G a16
  have F__law_known := fun_mk (st := topS 15) l17 c17 k17
  have b__law_known := F__law_known.binds (ps := ["_law_deeds_here", "_law_heard"]) fun _ _ _ _ _ _ us hl => match us, hl with | [_, _], _ => rfl
  have g__law_known := PySem.W.mg_of X G a17
  have F__law_pick := fun_mk (st := topS 16) l18 c18 k18
  have b__law_pick := F__law_pick.binds (ps := ["_law_urn_here", "_law_things"]) fun _ _ _ _ _ _ us hl => match us, hl with | [_, _], _ => rfl
  have g__law_pick := PySem.W.mg_of X G a18
  have F__law_stood := fun_mk (st := topS 17) l19 c19 k19
  have b__law_stood := F__law_stood.binds (ps := ["_law_known_here", "_law_head"]) fun _ _ _ _ _ _ us hl => match us, hl with | [_, _], _ => rfl
  have g__law_stood := PySem.W.mg_of X G a19
  have F__law_spelt := fun_mk (st := topS 18) l20 c20 k20
  have b__law_spelt := F__law_spelt.binds (ps := ["_law_known_here", "_law_cell"]) fun _ _ _ _ _ _ us hl => match us, hl with | [_, _], _ => rfl
  have g__law_spelt := PySem.W.mg_of X G a20
  have F__law_act := fun_mk (st := topS 19) l21 c21 k21
  have b__law_act := F__law_act.binds (ps := ["_law_urn_here", "_law_known_here"]) fun _ _ _ _ _ _ us hl => match us, hl with | [_, _], _ => rfl
  have g__law_act := PySem.W.mg_of X G a21
  have F__law_deeds := fun_mk (st := topS 20) l22 c22 k22
  have b__law_deeds := F__law_deeds.binds (ps := ["_law_urn_here", "_law_many"]) fun _ _ _ _ _ _ us hl => match us, hl with | [_, _], _ => rfl
  have g__law_deeds := PySem.W.mg_of X G a22
  have F__law_mixed := fun_mk (st := topS 21) l23 c23 k23
  have b__law_mixed := F__law_mixed.binds (ps := ["_law_urn_here", "_law_things"]) fun _ _ _ _ _ _ us hl => match us, hl with | [_, _], _ => rfl
  have g__law_mixed := PySem.W.mg_of X G a23
  have F__law_ways_right := fun_mk (st := topS 22) l24 c24 k24
  have b__law_ways_right := F__law_ways_right.binds (ps := ["_law_deeds_here", "_law_told"]) fun _ _ _ _ _ _ us hl => match us, hl with | [_, _], _ => rfl
  have g__law_ways_right := PySem.W.mg_of X G a24
  have F__law_forest := fun_mk (st := topS 23) l25 c25 k25
  have b__law_forest := F__law_forest.binds (ps := ["_law_heads"]) fun _ _ _ _ _ _ us hl => match us, hl with | [_], _ => rfl
  have g__law_forest := PySem.W.mg_of X G a25
  have F__law_next := fun_mk (st := topS 24) l26 c26 k26
  have b__law_next := F__law_next.binds (ps := ["_law_deeds_here", "_law_act_here"]) fun _ _ _ _ _ _ us hl => match us, hl with | [_, _], _ => rfl
  have g__law_next := PySem.W.mg_of X G a26
  have F__law_turned_right := fun_mk (st := topS 25) l27 c27 k27
  have b__law_turned_right := F__law_turned_right.binds (ps := ["_law_urn_here", "_law_deeds_here", "_law_told"]) fun _ _ _ _ _ _ us hl => match us, hl with | [_, _, _], _ => rfl
  have g__law_turned_right := PySem.W.mg_of X G a27
  have F__law_called := fun_mk (st := topS 26) l28 c28 k28
  have b__law_called := F__law_called.binds (ps := ["_law_thing"]) fun _ _ _ _ _ _ us hl => match us, hl with | [_], _ => rfl
  have g__law_called := PySem.W.mg_of X G a28
  have F_law := fun_mk (st := topS 27) l29 c29 k29
  have b_law := F_law.binds (ps := ["_law_script"]) fun _ _ _ _ _ _ us hl => match us, hl with | [_], _ => rfl
  have g_law := PySem.W.mg_of X G a29
  refine ⟨PySem.W.fnOf "law" "law" (defArgs (topS 27)) (defBody (topS 27)) (defScope (topS 27)) .none kV29 dc29 pm29 an29 cd29 ct29, fun s v => .of_eq rfl, fun base _ _ => ?_⟩
  have C_urn : CalZ l.prog w K mg base 1 "_law_urn" ["_law_script", "_law_k"] fUrn := ⟨_, _, ok_urn F__law_urn T.toBs, g__law_urn, F__law_urn.kp, b__law_urn⟩
  have C_lot : CalZ l.prog w K mg base 1 "_law_lot" ["_law_urn_here", "_law_many"] fLot := ⟨_, _, ok_lot F__law_lot T.toBs, g__law_lot, F__law_lot.kp, b__law_lot⟩
  have C_joined : CalZ l.prog w K mg base 1 "_law_joined" ["_law_one", "_law_other"] fJoined := ⟨_, _, ok_joined F__law_joined T.toBs, g__law_joined, F__law_joined.kp, b__law_joined⟩
  have C_known : CalZ l.prog w K mg base 1 "_law_known" ["_law_deeds_here", "_law_heard"] fKnown := ⟨_, _, ok_known F__law_known T.toBs, g__law_known, F__law_known.kp, b__law_known⟩
  have C_pick : CalZ l.prog w K mg base 2 "_law_pick" ["_law_urn_here", "_law_things"] fPick := ⟨_, _, ok_pick F__law_pick T.toBs C_lot, g__law_pick, F__law_pick.kp, b__law_pick⟩
  have C_stood : CalZ l.prog w K mg base 1 "_law_stood" ["_law_known_here", "_law_head"] fStood := ⟨_, _, ok_stood F__law_stood T.toBs, g__law_stood, F__law_stood.kp, b__law_stood⟩
  have C_spelt : CalZ l.prog w K mg base 1 "_law_spelt" ["_law_known_here", "_law_cell"] fSpelt := ⟨_, _, ok_spelt F__law_spelt T.toBs, g__law_spelt, F__law_spelt.kp, b__law_spelt⟩
  have C_act : CalZ l.prog w K mg base 3 "_law_act" ["_law_urn_here", "_law_known_here"] fAct := ⟨_, _, ok_act F__law_act T.toBs C_lot C_pick C_stood C_spelt, g__law_act, F__law_act.kp, b__law_act⟩
  have C_deeds : CalZ l.prog w K mg base 4 "_law_deeds" ["_law_urn_here", "_law_many"] fDeeds := ⟨_, _, ok_deeds F__law_deeds T.toBs C_lot C_pick C_joined C_known C_act, g__law_deeds, F__law_deeds.kp, b__law_deeds⟩
  have C_mixed : CalZ l.prog w K mg base 2 "_law_mixed" ["_law_urn_here", "_law_things"] fMixed := ⟨_, _, ok_mixed F__law_mixed T.toBs C_lot, g__law_mixed, F__law_mixed.kp, b__law_mixed⟩
  have C_mark : CalZ l.prog w K mg base 1 "mark_of" ["deed"] fMark := ⟨_, _, ok_mark F_mark_of T.toBs, g_mark_of, F_mark_of.kp, b_mark_of⟩
  have C_table : CalZ l.prog w K mg base 2 "off_table" ["deeds"] fTable := ⟨_, _, ok_table F_off_table T.toBs C_mark, g_off_table, F_off_table.kp, b_off_table⟩
  have C_name : CalZ l.prog w K mg base 1 "name_of" ["deed"] fName := ⟨_, _, ok_name F_name_of T.toBs, g_name_of, F_name_of.kp, b_name_of⟩
  have C_stand : CalZ l.prog w K mg base 1 "makes_stand" ["deed"] fStand := ⟨_, _, ok_stand F_makes_stand T.toBs, g_makes_stand, F_makes_stand.kp, b_makes_stand⟩
  have C_plof : CalZ l.prog w K mg base 2 "place_of" ["deed"] fPlOf := ⟨_, _, ok_plof F_place_of T.toBs C_name C_mark, g_place_of, F_place_of.kp, b_place_of⟩
  have P_make : KCalZ l.prog w K mg base 1 CP ["self"] (fPInit CP) := ⟨_, _, ok_pinit F_Placing___init__ T, K_Placing, b_Placing___init__⟩
  have P_told : MCalZ l.prog w K mg base 1 CP "told" ["self"] (fPTold CP) := ⟨_, _, ok_ptold F_Placing_told T, M_Placing_told, b_Placing_told⟩
  have P_behind : MCalZ l.prog w K mg base 1 CP "_number_behind" ["self", "mark"] (fPBehind CP) := ⟨_, _, ok_pbehind F_Placing__number_behind T, M_Placing__number_behind, b_Placing__number_behind⟩
  have P_back : MCalZ l.prog w K mg base 1 CP "_go_back" ["self", "at"] (fPBack CP) := ⟨_, _, ok_pback F_Placing__go_back T, M_Placing__go_back, b_Placing__go_back⟩
  have P_up : MCalZ l.prog w K mg base 1 CP "_way_up" ["self", "cell", "parent"] (fPUp CP) := ⟨_, _, ok_pup F_Placing__way_up T, M_Placing__way_up, b_Placing__way_up⟩
  have P_on : MCalZ l.prog w K mg base 2 CP "_go_on" ["self"] (fPOn CP) := ⟨_, _, ok_pon F_Placing__go_on T P_up, M_Placing__go_on, b_Placing__go_on⟩
  have P_put : MCalZ l.prog w K mg base 3 CP "put" ["self", "place", "off"] (fPPut CP) := ⟨_, _, ok_pput F_Placing_put T P_behind P_back P_on, M_Placing_put, b_Placing_put⟩
  have C_placed : CalZ l.prog w K mg base 4 "placed" ["deeds", "off"] (fPlaced CP) := ⟨_, _, ok_placed F_placed T g_mark_of F_mark_of b_mark_of P_make P_put C_stand C_plof C_name, g_placed, F_placed.kp, b_placed⟩
  have C_places : CalZ l.prog w K mg base 5 "places" ["deeds"] fPlaces := ⟨_, _, ok_places F_places T C_table C_placed P_told, g_places, F_places.kp, b_places⟩
  have C_forest : CalZ l.prog w K mg base 1 "_law_forest" ["_law_heads"] fForest := ⟨_, _, ok_forest F__law_forest T.toBs, g__law_forest, F__law_forest.kp, b__law_forest⟩
  have C_ways : CalZ l.prog w K mg base 2 "_law_ways_right" ["_law_deeds_here", "_law_told"] fWays := ⟨_, _, ok_ways F__law_ways_right T.toBs C_forest, g__law_ways_right, F__law_ways_right.kp, b__law_ways_right⟩
  have C_next : CalZ l.prog w K mg base 1 "_law_next" ["_law_deeds_here", "_law_act_here"] fNext := ⟨_, _, ok_next F__law_next T.toBs, g__law_next, F__law_next.kp, b__law_next⟩
  have C_turned : CalZ l.prog w K mg base 6 "_law_turned_right" ["_law_urn_here", "_law_deeds_here", "_law_told"] fTurned := ⟨_, _, ok_turned F__law_turned_right T.toBs C_pick C_next C_places C_mixed, g__law_turned_right, F__law_turned_right.kp, b__law_turned_right⟩
  have C_c0 : CalZ l.prog w K mg base 1 "_law_called" ["_law_thing"] (fCalled 0) := ⟨_, _, ok_called0 F__law_called, g__law_called, F__law_called.kp, b__law_called⟩
  have C_c1 : CalZ l.prog w K mg base 2 "_law_called" ["_law_thing"] (fCalled 1) := ⟨_, _, ok_called1 F__law_called T.toBs C_c0, g__law_called, F__law_called.kp, b__law_called⟩
  have C_c2 : CalZ l.prog w K mg base 3 "_law_called" ["_law_thing"] (fCalled 2) := ⟨_, _, ok_called1 F__law_called T.toBs C_c1, g__law_called, F__law_called.kp, b__law_called⟩
  have C_c3 : CalZ l.prog w K mg base 4 "_law_called" ["_law_thing"] (fCalled 3) := ⟨_, _, ok_called1 F__law_called T.toBs C_c2, g__law_called, F__law_called.kp, b__law_called⟩
  have C_c4 : CalZ l.prog w K mg base 5 "_law_called" ["_law_thing"] (fCalled 4) := ⟨_, _, ok_called1 F__law_called T.toBs C_c3, g__law_called, F__law_called.kp, b__law_called⟩
  exact run_law F_law T.toBs C_urn C_lot C_deeds C_mixed C_places C_ways C_turned C_c4
end
end Kr
open PySem PySem.W PyProof.Rows
set_option maxRecDepth 100000 in
set_option maxHeartbeats 0 in
theorem PySem.Challenge.cw_leafround_k16_whole_no_cell_beneath_itse_holds : PySem.Challenge.rw_leafround_k16_whole_no_cell_beneath_itse.Holds := by
  w_on; o_law; k_head; (case hw => w_witness2)
  k_fill
  refine Gd.walk_at (l := PySem.Challenge.rw_leafround_k16_whole_no_cell_beneath_itse) (n := 63) (x := "_law_script") (sp := fun w => Zl.spZ w (_) Kr.fLaw) rfl (by decide) rfl (fun w h Y => PySem.W.kIn_of Y) ?F (fun _ _ a ns _ _ hS => Zl.law_sp ⟨ns, rfl, rfl, rfl⟩ hS)
  case F =>
    intro w mg fa h KX G hmg
    refine' Kr.all_mk KX G hmg ?aC0 ?pg0 ?hd0 ?po0 ?sa0 ?mk0 ?kc0 ?na0_0 ?na0_1 ?na0_2 ?na0_3 ?na0_4 ?a0 ?l0 ?c0 ?k0 ?a1 ?l1 ?c1 ?k1 ?a2 ?l2 ?c2 ?k2 ?a3 ?l3 ?c3 ?k3 ?a4 ?l4 ?c4 ?k4 ?a5 ?l5 ?c5 ?k5 ?a6 ?l6 ?c6 ?k6 ?a7 ?i7 ?l7 ?c7 ?k7 ?a8 ?i8 ?l8 ?c8 ?k8 ?a9 ?i9 ?l9 ?c9 ?k9 ?a10 ?i10 ?l10 ?c10 ?k10 ?a11 ?i11 ?l11 ?c11 ?k11 ?a12 ?i12 ?l12 ?c12 ?k12 ?a13 ?i13 ?l13 ?c13 ?k13 ?a14 ?l14 ?c14 ?k14 ?a15 ?l15 ?c15 ?k15 ?a16 ?l16 ?c16 ?k16 ?a17 ?l17 ?c17 ?k17 ?a18 ?l18 ?c18 ?k18 ?a19 ?l19 ?c19 ?k19 ?a20 ?l20 ?c20 ?k20 ?a21 ?l21 ?c21 ?k21 ?a22 ?l22 ?c22 ?k22 ?a23 ?l23 ?c23 ?k23 ?a24 ?l24 ?c24 ?k24 ?a25 ?l25 ?c25 ?k25 ?a26 ?l26 ?c26 ?k26 ?a27 ?l27 ?c27 ?k27 ?a28 ?l28 ?c28 ?k28 ?a29 ?l29 ?c29 ?k29 ?z0 ?z1 ?z2 ?z3 ?z4 ?z5 ?z6 ?z7 ?z8 ?z9 ?z10 ?z11 ?z12
    (case aC0 => k_is); (case pg0 => k_is); (case hd0 => k_is); (case po0 => k_is); (case sa0 => k_is); (case mk0 => k_is); (case kc0 => k_is); (case na0_0 => k_is); (case na0_1 => k_is); (case na0_2 => k_is); (case na0_3 => k_is); (case na0_4 => k_is); (case a0 => k_is); (case l0 => k_is); (case c0 => k_is); (case k0 => k_is); (case a1 => k_is); (case l1 => k_is); (case c1 => k_is); (case k1 => k_is); (case a2 => k_is); (case l2 => k_is); (case c2 => k_is); (case k2 => k_is); (case a3 => k_is); (case l3 => k_is); (case c3 => k_is); (case k3 => k_is); (case a4 => k_is); (case l4 => k_is); (case c4 => k_is); (case k4 => k_is); (case a5 => k_is); (case l5 => k_is); (case c5 => k_is); (case k5 => k_is); (case a6 => k_is); (case l6 => k_is); (case c6 => k_is); (case k6 => k_is); (case a7 => k_is); (case i7 => k_is); (case l7 => k_is); (case c7 => k_is); (case k7 => k_is); (case a8 => k_is); (case i8 => k_is); (case l8 => k_is); (case c8 => k_is); (case k8 => k_is); (case a9 => k_is); (case i9 => k_is); (case l9 => k_is); (case c9 => k_is); (case k9 => k_is); (case a10 => k_is); (case i10 => k_is); (case l10 => k_is); (case c10 => k_is); (case k10 => k_is); (case a11 => k_is); (case i11 => k_is); (case l11 => k_is); (case c11 => k_is); (case k11 => k_is); (case a12 => k_is); (case i12 => k_is); (case l12 => k_is); (case c12 => k_is); (case k12 => k_is); (case a13 => k_is); (case i13 => k_is); (case l13 => k_is); (case c13 => k_is); (case k13 => k_is); (case a14 => k_is); (case l14 => k_is); (case c14 => k_is); (case k14 => k_is); (case a15 => k_is); (case l15 => k_is); (case c15 => k_is); (case k15 => k_is); (case a16 => k_is); (case l16 => k_is); (case c16 => k_is); (case k16 => k_is); (case a17 => k_is); (case l17 => k_is); (case c17 => k_is); (case k17 => k_is); (case a18 => k_is); (case l18 => k_is); (case c18 => k_is); (case k18 => k_is); (case a19 => k_is); (case l19 => k_is); (case c19 => k_is); (case k19 => k_is); (case a20 => k_is); (case l20 => k_is); (case c20 => k_is); (case k20 => k_is); (case a21 => k_is); (case l21 => k_is); (case c21 => k_is); (case k21 => k_is); (case a22 => k_is); (case l22 => k_is); (case c22 => k_is); (case k22 => k_is); (case a23 => k_is); (case l23 => k_is); (case c23 => k_is); (case k23 => k_is); (case a24 => k_is); (case l24 => k_is); (case c24 => k_is); (case k24 => k_is); (case a25 => k_is); (case l25 => k_is); (case c25 => k_is); (case k25 => k_is); (case a26 => k_is); (case l26 => k_is); (case c26 => k_is); (case k26 => k_is); (case a27 => k_is); (case l27 => k_is); (case c27 => k_is); (case k27 => k_is); (case a28 => k_is); (case l28 => k_is); (case c28 => k_is); (case k28 => k_is); (case a29 => k_is); (case l29 => k_is); (case c29 => k_is); (case k29 => k_is); (case z0 => k_is); (case z1 => k_is); (case z2 => k_is); (case z3 => k_is); (case z4 => k_is); (case z5 => k_is); (case z6 => k_is); (case z7 => k_is); (case z8 => k_is); (case z9 => k_is); (case z10 => k_is); (case z11 => k_is); (case z12 => k_is)
