import PyProof.Rows.All
import Wide.All
import OpenK.AllK
import Wide.FinOn
import PyProof.EqAt
import PyProof.EqKinds
import PyProof.TupleCall
import HandS.ForExc
import HandS.ForMost
import KE.DataEq
import KE.LtData
import HandS.Style
import HandS.TupAny
import HandS.Zip
import HandS.RaiseMore
import HandS.Wide
import HandS.IsInst
import HandS.StrMore
import HandS.Ends
import HandS.EndBits
import PyProof.ReprRoads
import HandS.DictComp
import HandS.SetBool
import HandS.SetKeys
import HandS.Strs
import HandS.More
import HandS.TupLe
import HandS.Deep
import PyProof.P3In
import KE.GoesEnum
import KE.KIndexOf
import KE.DataMinMax
import HandS.Star
import HandS.SortKw
import HandS.SetFor
import KE.SortData
import PyProof.AutoSeq1
import HandS.Conv
import KE.DataFind
import HandS.Sort
import KE.KDictList
import HandS.Dict
import HandS.TryMany
import HandS.ExcIs
import HandS.ExcValue
import HandS.FStr
import HandS.TupLen
import PyProof.Rows.TupDisplay
import KE.KDictDisplayH
import HandS.Iter
import PyProof.ListRange
import PyProof.Rows.Range3
import KE.DatumIndex
import HandS.HotCalls
import KE.GoesNew
import KE.GoesMore
import KE.DatumOrd
import HandS.Defaults
import PySem.Challenge.RW_roundpost_k45_best_home_backwards
set_option Elab.async false
set_option linter.all false
set_option maxRecDepth 100000
set_option maxHeartbeats 4000000
namespace Dl
open PySem PySem.Spec PyProof.Rows L2
/-- a tuple that is known to be nothing but a tuple -/
def SqN (K : PySem.W.Frag) (F : Hp) (a : Addr) (vs : List V) : Prop :=
  (∃ o : Obj, F a = some (.frz o (.tup vs)) ∧ o.dict = none) ∨
    ∃ (o : Obj) (its : Array Value) (n : Nat), K.lookup a = some o ∧ o.cls = .type "tuple" ∧ o.dict = none ∧ o.data = .seq its n ∧ its.size ≤ sizeLine ∧ Vals vs its.toList
theorem SqN.t {K : PySem.W.Frag} {F : Hp} {a : Addr} {vs : List V} (h : SqN K F a vs) : SqT K F a vs := by
  rcases h with ⟨o, h, _⟩ | ⟨o, its, n, h1, h2, _, h4, h5, h6⟩
  · exact .inl (.inr ⟨o, h⟩)
  · exact .inr ⟨o, its, n, h1, h2, h4, h5, h6⟩
theorem SqN.mono {K : PySem.W.Frag} {F F' : Hp} {a : Addr} {vs : List V} (s : Same F F') (h : SqN K F a vs) : SqN K F' a vs := by
  rcases h with ⟨o, h, x⟩ | h
  · exact .inl ⟨o, s _ _ h, x⟩
  · exact .inr h
mutual
inductive Dp (K : PySem.W.Frag) (F : Hp) : V → PyData → Prop
  | non : Dp K F .non .none
  | bl (b : Bool) : Dp K F (.bl b) (.bool b)
  | int (i : Int) : Dp K F (.int i) (.int i)
  | str (x : Str) : Dp K F (.str x) (.str x)
  | lst {a : Addr} {vs : List V} {ds : List PyData} : SqL K F a vs → DpAll K F vs ds → Dp K F (.ref a) (.list ds)
  | tup {a : Addr} {vs : List V} {ds : List PyData} : SqN K F a vs → DpAll K F vs ds → Dp K F (.ref a) (.tuple ds)
  | dct {a : Addr} {kvs : List (Key × V)} {l : List (PyData × PyData)} : F a = some (.dK kvs) → (l = [] → kvs = []) → Dp K F (.ref a) (.dict l)
inductive DpAll (K : PySem.W.Frag) (F : Hp) : List V → List PyData → Prop
  | nil : DpAll K F [] []
  | cons {v : V} {vs : List V} {d : PyData} {ds : List PyData} : Dp K F v d → DpAll K F vs ds → DpAll K F (v :: vs) (d :: ds)
end
theorem Dp.lib_aux {K : PySem.W.Frag} {F : Hp} : ∀ n : Nat, (∀ d v, sizeOf d ≤ n → d.plain = true → Dp K F v d → L2.Dp K F v d) ∧ (∀ ds vs, sizeOf ds ≤ n → PyData.plainAll ds = true → DpAll K F vs ds → L2.DpAll K F vs ds)
  | 0 => ⟨fun d v h => by cases d <;> simp at h, fun ds vs h => by cases ds <;> simp at h⟩
  | n + 1 => by
    obtain ⟨i1, i2⟩ := Dp.lib_aux (K := K) (F := F) n
    refine ⟨fun d v h n q => ?_, fun ds vs h n q => ?_⟩
    · cases q with
      | non => exact .non
      | bl b => exact .bl b
      | int i => exact .int i
      | str x => exact .str x
      | lst a b => exact .lst a (i2 _ _ (by simp at h; omega) n b)
      | tup a b => exact .tup a.t (i2 _ _ (by simp at h; omega) n b)
      | dct a b => cases n
    · cases q with
      | nil => exact .nil
      | cons a b =>
        rw [PyData.plainAll, Bool.and_eq_true] at n
        exact .cons (i1 _ _ (by simp at h; omega) n.1 a) (i2 _ _ (by simp at h; omega) n.2 b)
theorem Dp.lib {K : PySem.W.Frag} {F : Hp} {v : V} {d : PyData} (h : Dp K F v d) (n : d.plain = true) : L2.Dp K F v d := (Dp.lib_aux _).1 d v (Nat.le_refl _) n h
mutual
theorem plain_nd : ∀ d : PyData, d.hasDict = false → d.plain = true
  | .none, _ => rfl
  | .bool _, _ => rfl
  | .int _, _ => rfl
  | .str _, _ => rfl
  | .list xs, h => plain_ndAll xs h
  | .tuple xs, h => plain_ndAll xs h
  | .dict _, h => nomatch h
theorem plain_ndAll : ∀ xs : List PyData, PyData.hasDictAll xs = false → PyData.plainAll xs = true
  | [], _ => rfl
  | x :: xs, h => by
    rw [PyData.hasDictAll, Bool.or_eq_false_iff] at h
    rw [PyData.plainAll, plain_nd x h.1, plain_ndAll xs h.2]
    rfl
end
mutual
theorem plain_alike : ∀ d : PyData, PySem.W.alike d d = true → d.plain = true
  | .none, _ => rfl
  | .bool _, _ => rfl
  | .int _, _ => rfl
  | .str _, _ => rfl
  | .list xs, h => plain_alikeL xs (by simpa [PySem.W.alike] using h)
  | .tuple xs, h => plain_alikeL xs (by simpa [PySem.W.alike] using h)
  | .dict _, h => by simp [PySem.W.alike] at h
theorem plain_alikeL : ∀ xs : List PyData, PySem.W.alikeAll xs xs = true → PyData.plainAll xs = true
  | [], _ => rfl
  | x :: xs, h => by
    rw [PySem.W.alikeAll, Bool.and_eq_true] at h
    rw [PyData.plainAll, plain_alike x h.1, plain_alikeL xs h.2]
    rfl
end
theorem plain_sh {d : PyData} (h : SeqAt.shaped d = true) : d.plain = true := PyData.plain_of_canLay0 d (SeqAt.canLay_of_shaped h)
/-- what a name may stand for: data that is never changed again, a cell (a list or dict that may change), a value as it is -/
inductive A where
  | d (x : PyData)
  | c (i : Nat)
  | v (x : V)
  | x (a : Addr) (cls : Value) (d : Option Addr) (o : Option (List (Str × PyData)))
/-- what a cell holds -/
inductive O where
  | dead
  | lst (xs : List A)
  | dct (kvs : List (Key × A))
  | fdct (o : Obj) (vs : List (Key × V)) (kvs : List (Key × A))
  | dctT (P : Program) (w : World) (kvs : List (List Key × A))
/-- a dict whose keys are tuples of numbers and texts, told by its own object -/
def dtoP (P : Program) (w : World) (a : Addr) (xs : List (List Key × Addr × V)) : Heap → Prop := fun h => ∃ ys : List (List Key × Addr × Value), Paired (fun x y => x.1 = y.1 ∧ x.2.1 = y.2.1 ∧ RelV x.2.2 y.2.2) xs ys ∧
  ∃ o es ep, h.get? a = some o ∧ o.ExactDict ∧ o.data = .dict es ep ∧ es.toList = ys.map (entryOfKey (tupleKind (mixKind P w))) ∧ (ys.map (·.1)).Nodup
def DTO (P : Program) (w : World) (a : Addr) (xs : List (List Key × Addr × V)) : HO := .ext (dtoP P w a xs)
/-- an exception of the class cls that was caught, by its own object -/
def ExV (cls : Value) (d : Option Addr) (a : Addr) : HO := .ext fun h => ∃ (oe : Obj) (vs : Array Value), h.get? a = some oe ∧ Zc cls d oe ∧ oe.data = .fields vs
abbrev Mu := List O
abbrev Rho := List (Option A)
section
variable (K : PySem.W.Frag)
/-- an exception's fields -/
def XdOk (F : Hp) : Option (List (Str × PyData)) → Option Addr → Prop
  | none, none => True
  | some fs, some dd => ∃ vs, F dd = some (.xd vs) ∧ Paired (fun p q => p.1 = q.1 ∧ Dp K F p.2 q.2) vs fs
  | _, _ => False
def Ab (F : Hp) (al : List Addr) : V → A → Prop
  | v, .d x => Dp K F v x
  | v, .c i => ∃ a, al[i]? = some a ∧ v = .ref a
  | v, .v x => v = x
  | v, .x a c d o => v = .ref a ∧ XdOk K F o d ∧ F a = some (ExV c d a)
def AbO (F : Hp) (al : List Addr) : HO → O → Prop
  | _, .dead => True
  | .lst vs, .lst xs => Paired (Ab K F al) vs xs
  | .dK kvs, .dct ks => Paired (fun p q => p.1 = q.1 ∧ Ab K F al p.2 q.2) kvs ks
  | .frz o (.dK kvs), .fdct o' vs ks => (o = o' ∧ kvs = vs) ∧ Paired (fun p q => p.1 = q.1 ∧ Ab K F al p.2 q.2) kvs ks
  | ho, .dctT P w ks => ∃ (a : Addr) (xs : List (List Key × Addr × V)), ho = DTO P w a xs ∧ (a == sysModules) = false ∧ xs.length ≤ sizeLine ∧ Paired (fun (x : List Key × Addr × V) (q : List Key × A) => x.1 = q.1 ∧ SqN K F x.2.1 (x.1.map kV) ∧ Ab K F al x.2.2 q.2) xs ks
  | _, _ => False
/-- F: the part of the heap that stays; al: the cells' addresses; H: the heap -/
structure Sto (F : Hp) (al : List Addr) (mu : Mu) (H : Hp) : Prop where
  sub : Same F H
  nd : al.Nodup
  len : al.length = mu.length
  cell : ∀ (i : Nat) a o, al[i]? = some a → mu[i]? = some o → ∃ ho, H a = some ho ∧ (o ≠ .dead → F a = none ∧ AbO K F al ho o)
structure Slots (F : Hp) (al : List Addr) (σ : L2.St) (ρ : Rho) : Prop where
  len : σ.length = ρ.length
  at_ : ∀ (i : Nat) x, ρ[i]? = some (some x) → ∃ v, σ[i]? = some (some v) ∧ Ab K F al v x
end
structure Grow (F : Hp) (al : List Addr) (H F' : Hp) (al' : List Addr) (H' : Hp) : Prop where
  f : Same F F'
  px : al <+: al'
  fr : ∀ b o, H b = some o → b ∉ al → H' b = some o
  nw : ∀ a ∈ al', a ∈ al ∨ H a = none
  fz : ∀ b o, F' b = some o → F b = some o ∨ H b = none ∨ b ∈ al
section
variable {K : PySem.W.Frag} {F F1 F2 F' : Hp} {al al1 al2 al' : List Addr} {H H1 H2 H' : Hp} {μ μ' : Mu} {σ : L2.St} {ρ : Rho}
theorem Grow.refl : Grow F al H F al H := ⟨Same.refl _, List.prefix_refl _, fun _ _ h _ => h, fun _ h => .inl h, fun _ _ h => .inl h⟩
theorem Grow.trans (a : Grow F al H F1 al1 H1) (b : Grow F1 al1 H1 F2 al2 H2) : Grow F al H F2 al2 H2 where
  f := a.f.trans b.f
  px := List.IsPrefix.trans a.px b.px
  fr := fun x o h n => b.fr x o (a.fr x o h n) fun m => (a.nw x m).elim n fun z => by rw [z] at h; cases h
  nw := fun x m => (b.nw x m).elim (a.nw x) fun z => by
    by_cases q : x ∈ al
    · exact .inl q
    · refine .inr ?_
      cases e : H x with
      | none => rfl
      | some o =>
        rw [a.fr x o e q] at z
        cases z
  fz := fun x o h => (b.fz x o h).elim (a.fz x o) fun z => by
    by_cases q : x ∈ al
    · exact .inr (.inr q)
    · cases e : H x with
      | none => exact .inr (.inl rfl)
      | some u =>
        have z1 := a.fr x u e q
        rcases z with z | z
        · rw [z1] at z
          cases z
        · rcases a.nw x z with y | y
          · exact absurd y q
          · rw [e] at y
            cases y
theorem Dp.mono_aux (s : Same F F') : ∀ n : Nat, (∀ d v, sizeOf d ≤ n → Dp K F v d → Dp K F' v d) ∧ (∀ ds vs, sizeOf ds ≤ n → DpAll K F vs ds → DpAll K F' vs ds)
  | 0 => ⟨fun d v h => by cases d <;> simp at h, fun ds vs h => by cases ds <;> simp at h⟩
  | n + 1 => by
    obtain ⟨i1, i2⟩ := Dp.mono_aux s n
    refine ⟨fun d v h q => ?_, fun ds vs h q => ?_⟩
    · cases q with
      | non => exact .non
      | bl b => exact .bl b
      | int i => exact .int i
      | str x => exact .str x
      | lst a b => exact .lst (s.seq a) (i2 _ _ (by simp at h; omega) b)
      | tup a b => exact .tup (a.mono s) (i2 _ _ (by simp at h; omega) b)
      | dct a b => exact .dct (s _ _ a) b
    · cases q with
      | nil => exact .nil
      | cons a b => exact .cons (i1 _ _ (by simp at h; omega) a) (i2 _ _ (by simp at h; omega) b)
theorem Dp.mono {v : V} {d : PyData} (s : Same F F') (h : Dp K F v d) : Dp K F' v d := (Dp.mono_aux s _).1 d v (Nat.le_refl _) h
theorem DpAll.mono {vs : List V} {ds : List PyData} (s : Same F F') (h : DpAll K F vs ds) : DpAll K F' vs ds := (Dp.mono_aux s _).2 ds vs (Nat.le_refl _) h
theorem Paired.impl {α β : Type} {R R' : α → β → Prop} (f : ∀ a b, R a b → R' a b) : ∀ {l : List α} {m : List β}, Paired R l m → Paired R' l m
  | _, _, .nil => .nil
  | _, _, .cons a b => .cons (f _ _ a) (Paired.impl f b)
theorem XdOk.mono {o : Option (List (Str × PyData))} {d : Option Addr} (s : Same F F') (h : XdOk K F o d) : XdOk K F' o d := by
  cases o with
  | none => cases d <;> exact h
  | some fs =>
    cases d with
    | none => exact h.elim
    | some dd =>
      obtain ⟨vs, e, p⟩ := h
      exact ⟨vs, s _ _ e, Paired.impl (fun _ _ z => ⟨z.1, Dp.mono s z.2⟩) p⟩
theorem Ab.mono {v : V} {x : A} (s : Same F F') (p : al <+: al') (h : Ab K F al v x) : Ab K F' al' v x := by
  cases x with
  | d x => exact Dp.mono s h
  | c i =>
    obtain ⟨a, e, r⟩ := h
    obtain ⟨t, rfl⟩ := p
    exact ⟨a, by rw [List.getElem?_append_left (List.getElem?_eq_some_iff.mp e).1]; exact e, r⟩
  | v x => exact h
  | x a c d o => exact ⟨h.1, h.2.1.mono s, s _ _ h.2.2⟩
theorem abO_T {F : Hp} {al : List Addr} {ho : HO} {P : Program} {w : World} {ks : List (List Key × A)} : AbO K F al ho (.dctT P w ks) = ∃ (a : Addr) (xs : List (List Key × Addr × V)), ho = DTO P w a xs ∧ (a == sysModules) = false ∧ xs.length ≤ sizeLine ∧ Paired (fun (x : List Key × Addr × V) (q : List Key × A) => x.1 = q.1 ∧ SqN K F x.2.1 (x.1.map kV) ∧ Ab K F al x.2.2 q.2) xs ks := by
  cases ho <;> first | rfl | (rename_i o u; cases u <;> rfl)
theorem AbO.mono {ho : HO} {o : O} (s : Same F F') (p : al <+: al') (h : AbO K F al ho o) : AbO K F' al' ho o := by
  cases o with
  | dead => cases ho <;> trivial
  | lst xs =>
    cases ho with
    | lst vs => exact Paired.impl (fun _ _ => Ab.mono s p) h
    | _ => exact h.elim
  | dct ks =>
    cases ho with
    | dK kvs => exact Paired.impl (fun _ _ z => ⟨z.1, z.2.mono s p⟩) h
    | _ => exact h.elim
  | fdct oo vs ks =>
    cases ho with
    | frz o u =>
      cases u with
      | dK kvs => exact ⟨h.1, Paired.impl (fun _ _ z => ⟨z.1, z.2.mono s p⟩) h.2⟩
      | _ => exact h.elim
    | _ => exact h.elim
  | dctT P w ks =>
    rw [abO_T] at h ⊢
    obtain ⟨a, xs, e, h1, h2, r⟩ := h
    refine ⟨a, xs, e, h1, h2, Paired.impl (fun _ _ z => ⟨z.1, ?_, z.2.2.mono s p⟩) r⟩
    exact z.2.1.mono s
theorem Slots.mono (s : Same F F') (p : al <+: al') (h : Slots K F al σ ρ) : Slots K F' al' σ ρ :=
  ⟨h.len, fun i x e => let ⟨v, e1, a⟩ := h.at_ i x e; ⟨v, e1, a.mono s p⟩⟩
theorem Sto.has (S : Sto K F al μ H) {a : Addr} (h : a ∈ al) : ∃ ho, H a = some ho := by
  obtain ⟨i, e⟩ := List.mem_iff_getElem?.mp h
  have lt : i < μ.length := by
    rw [← S.len]
    exact (List.getElem?_eq_some_iff.mp e).1
  obtain ⟨ho, e1, _⟩ := S.cell i a _ e (List.getElem?_eq_getElem lt)
  exact ⟨ho, e1⟩
/-- a new thing that stays -/
theorem Sto.lay (S : Sto K F al μ H) {p : Addr} {o : HO} (hp : H p = none) : Sto K (upd F p o) al μ (upd H p o) ∧ Grow F al H (upd F p o) al (upd H p o) := by
  have fp : F p = none := by
    cases e : F p with
    | none => rfl
    | some u =>
      rw [S.sub _ _ e] at hp
      cases hp
  have sf : Same F (upd F p o) := fun b u e => by
    rw [upd_ne (ne_of_none e fp)]
    exact e
  have sh : Same H (upd H p o) := fun b u e => by
    rw [upd_ne (ne_of_none e hp)]
    exact e
  refine ⟨⟨fun b u e => ?_, S.nd, S.len, fun i a u e1 e2 => ?_⟩, ⟨sf, List.prefix_refl _, fun b u e _ => sh b u e, fun a h => .inl h, fun b u e => ?_⟩⟩
  · by_cases z : b = p
    · rw [z, upd_same] at e
      rw [z, upd_same]
      exact e
    · rw [upd_ne z] at e
      rw [upd_ne z]
      exact S.sub _ _ e
  · obtain ⟨ho, h1, h2⟩ := S.cell i a u e1 e2
    refine ⟨ho, sh _ _ h1, fun nd => ⟨?_, (h2 nd).2.mono sf (List.prefix_refl _)⟩⟩
    rw [upd_ne (ne_of_none h1 hp)]
    exact (h2 nd).1
  · by_cases z : b = p
    · rw [z]
      exact .inr (.inl hp)
    · rw [upd_ne z] at e
      exact .inl e
/-- a new cell -/
theorem Sto.cellNew (S : Sto K F al μ H) {p : Addr} {ho : HO} {o : O} (hp : H p = none) (h : AbO K F al ho o) : Sto K F (al ++ [p]) (μ ++ [o]) (upd H p ho) ∧ Grow F al H F (al ++ [p]) (upd H p ho) := by
  have fp : F p = none := by
    cases e : F p with
    | none => rfl
    | some u =>
      rw [S.sub _ _ e] at hp
      cases hp
  have np : p ∉ al := fun m => by
    obtain ⟨u, e⟩ := S.has m
    rw [e] at hp
    cases hp
  have sh : Same H (upd H p ho) := fun b u e => by
    rw [upd_ne (ne_of_none e hp)]
    exact e
  have px : al <+: al ++ [p] := ⟨[p], rfl⟩
  refine ⟨⟨fun b u e => sh _ _ (S.sub _ _ e), ?_, by rw [List.length_append, List.length_append, S.len] <;> rfl, fun i a u e1 e2 => ?_⟩, ⟨Same.refl _, px, fun b u e _ => sh b u e, fun a h => ?_, fun b u e => .inl e⟩⟩
  · rw [List.nodup_append]
    refine ⟨S.nd, by simp, fun a ha b hb e => ?_⟩
    rw [List.mem_singleton] at hb
    subst hb e
    exact np ha
  · rcases Nat.lt_or_ge i al.length with lt | ge
    · rw [List.getElem?_append_left lt] at e1
      rw [List.getElem?_append_left (by rw [← S.len]; exact lt)] at e2
      obtain ⟨w, h1, h2⟩ := S.cell i a u e1 e2
      exact ⟨w, sh _ _ h1, fun nd => ⟨(h2 nd).1, (h2 nd).2.mono (Same.refl _) px⟩⟩
    · rw [List.getElem?_append_right ge] at e1
      rw [List.getElem?_append_right (by rw [← S.len]; exact ge)] at e2
      have z : i - al.length = 0 := by
        have := (List.getElem?_eq_some_iff.mp e1).1
        simp at this
        omega
      rw [z] at e1
      rw [← S.len, z] at e2
      obtain rfl : p = a := Option.some.inj e1
      obtain rfl : o = u := Option.some.inj e2
      exact ⟨ho, upd_same, fun _ => ⟨fp, h.mono (Same.refl _) px⟩⟩
  · rcases List.mem_append.mp h with z | z
    · exact .inl z
    · rw [List.mem_singleton] at z
      subst z
      exact .inr hp
/-- a cell is written -/
theorem Sto.put (S : Sto K F al μ H) {i : Nat} {a : Addr} {ho : HO} {o o' : O} (hi : al[i]? = some a) (ho_ : μ[i]? = some o) (nd : o ≠ .dead) (h : AbO K F al ho o') : Sto K F al (μ.set i o') (upd H a ho) ∧ Grow F al H F al (upd H a ho) := by
  obtain ⟨u, h1, h2⟩ := S.cell i a o hi ho_
  have fa := (h2 nd).1
  refine ⟨⟨fun b x e => ?_, S.nd, by rw [List.length_set]; exact S.len, fun j b x e1 e2 => ?_⟩, ⟨Same.refl _, List.prefix_refl _, fun b x e n => ?_, fun _ m => .inl m, fun _ _ e => .inl e⟩⟩
  · rw [upd_ne (ne_of_none e fa)]
    exact S.sub _ _ e
  · by_cases z : j = i
    · subst z
      rw [hi] at e1
      obtain rfl : a = b := Option.some.inj e1
      rw [List.getElem?_set_self (List.getElem?_eq_some_iff.mp ho_).1] at e2
      obtain rfl : o' = x := Option.some.inj e2
      exact ⟨ho, upd_same, fun _ => ⟨fa, h⟩⟩
    · rw [List.getElem?_set_ne (Ne.symm z)] at e2
      obtain ⟨w, w1, w2⟩ := S.cell j b x e1 e2
      have nb : b ≠ a := fun e => by
        subst e
        exact z (nd_ix S.nd e1 hi)
      exact ⟨w, by rw [upd_ne nb]; exact w1, w2⟩
  · have nb : b ≠ a := fun e => n (by rw [e]; exact List.mem_of_getElem? hi)
    rw [upd_ne nb]
    exact e
end
end Dl
set_option Elab.async false
set_option linter.all false
set_option maxRecDepth 100000
set_option maxHeartbeats 4000000
namespace Dl
open PySem PySem.Spec PyProof.Rows L2
abbrev DK := A → Mu → Prop
abbrev DT := Rho → Mu → DK → Prop
abbrev DTT := Rho → Mu → (Bool → Mu → Prop) → Prop
abbrev DAT := Rho → Mu → (List A → Mu → Prop) → Prop
section
variable (K : PySem.W.Frag) (F : Hp) (al : List Addr) (H : Hp)
def Ko (P : DK) (Q : VK) : Prop := ∀ v x μ' F' al' H', P x μ' → Grow F al H F' al' H' → Sto K F' al' μ' H' → Ab K F' al' v x → Q v H'
def KoT (P : Bool → Mu → Prop) (Q : Bool → Hp → Prop) : Prop := ∀ b μ' F' al' H', P b μ' → Grow F al H F' al' H' → Sto K F' al' μ' H' → Q b H'
def KoA (P : List A → Mu → Prop) (Q : List V → Hp → Prop) : Prop := ∀ vs xs μ' F' al' H', P xs μ' → Grow F al H F' al' H' → Sto K F' al' μ' H' → Paired (Ab K F' al') vs xs → Q vs H'
end
def SimE (K : PySem.W.Frag) (t : TE) (d : DT) : Prop := ∀ ρ μ P, d ρ μ P → ∀ F al σ H, Sto K F al μ H → Slots K F al σ ρ → ∀ Q, Ko K F al H P Q → t σ H Q
def SimT (K : PySem.W.Frag) (t : TT) (d : DTT) : Prop := ∀ ρ μ P, d ρ μ P → ∀ F al σ H, Sto K F al μ H → Slots K F al σ ρ → ∀ Q, KoT K F al H P Q → t σ H Q
def SimA (K : PySem.W.Frag) (t : TA) (d : DAT) : Prop := ∀ ρ μ P, d ρ μ P → ∀ F al σ H, Sto K F al μ H → Slots K F al σ ρ → ∀ Q, KoA K F al H P Q → t σ H Q
def SimR2 (K : PySem.W.Frag) (r : R2) (rd : A → A → Mu → DK → Prop) : Prop := ∀ x y μ P, rd x y μ P → ∀ F al H v w, Sto K F al μ H → Ab K F al v x → Ab K F al w y → ∀ Q, Ko K F al H P Q → r v w H Q
def SimC (K : PySem.W.Frag) (r : List V → Hp → VK → Prop) (rd : List A → Mu → DK → Prop) : Prop := ∀ xs μ P, rd xs μ P → ∀ F al H vs, Sto K F al μ H → Paired (Ab K F al) vs xs → ∀ Q, Ko K F al H P Q → r vs H Q
def SimM (K : PySem.W.Frag) (T : String) (r : V → List V → Hp → VK → Prop) (rd : A → List A → Mu → DK → Prop) : Prop := ∀ x xs μ P, rd x xs μ P → ∀ F al H v vs, Sto K F al μ H → Ab K F al v x → Paired (Ab K F al) vs xs → ∀ Q, Ko K F al H P Q → r v vs H Q
structure DE (X : Cx) (e : Expr) (d : DT) : Prop where
  ex : ∃ t, PE X e t ∧ SimE X.K t d
structure DTest (X : Cx) (e : Expr) (d : DTT) : Prop where
  ex : ∃ t, PT X e t ∧ SimT X.K t d
structure DW (X : Cx) (e : Expr) (d : DTT) : Prop where
  ex : ∃ t, PW X e t ∧ SimT X.K t d
structure DA (X : Cx) (es : List Expr) (d : DAT) : Prop where
  ex : ∃ t, PA X es t ∧ SimA X.K t d
section
variable {K : PySem.W.Frag} {F F1 F' : Hp} {al al1 al' : List Addr} {H H1 H' : Hp} {μ μ' : Mu} {σ : L2.St} {ρ : Rho} {P : DK} {Q : VK}
theorem Ko.now {v : V} {x : A} (k : Ko K F al H P Q) (h : P x μ) (S : Sto K F al μ H) (a : Ab K F al v x) : Q v H := k v x μ F al H h Grow.refl S a
theorem Ko.fwd (k : Ko K F al H P Q) (g : Grow F al H F1 al1 H1) : Ko K F1 al1 H1 P Q := fun v x μ' F' al' H' h g' S a => k v x μ' F' al' H' h (g.trans g') S a
theorem KoT.fwd {P : Bool → Mu → Prop} {Q : Bool → Hp → Prop} (k : KoT K F al H P Q) (g : Grow F al H F1 al1 H1) : KoT K F1 al1 H1 P Q := fun b μ' F' al' H' h g' S => k b μ' F' al' H' h (g.trans g') S
theorem KoA.fwd {P : List A → Mu → Prop} {Q : List V → Hp → Prop} (k : KoA K F al H P Q) (g : Grow F al H F1 al1 H1) : KoA K F1 al1 H1 P Q := fun b xs μ' F' al' H' h g' S a => k b xs μ' F' al' H' h (g.trans g') S a
theorem Grow.ab (g : Grow F al H F1 al1 H1) {v : V} {x : A} (h : Ab K F al v x) : Ab K F1 al1 v x := h.mono g.f g.px
theorem Grow.abs (g : Grow F al H F1 al1 H1) {vs : List V} {xs : List A} (h : Paired (Ab K F al) vs xs) : Paired (Ab K F1 al1) vs xs := Paired.impl (fun _ _ => g.ab) h
theorem Grow.slots (g : Grow F al H F1 al1 H1) (h : Slots K F al σ ρ) : Slots K F1 al1 σ ρ := h.mono g.f g.px
theorem dp_int {v : V} {i : Int} (h : Dp K F v (.int i)) : v = .int i := by cases h; rfl
theorem dp_bl {v : V} {b : Bool} (h : Dp K F v (.bool b)) : v = .bl b := by cases h; rfl
theorem dp_str {v : V} {x : Str} (h : Dp K F v (.str x)) : v = .str x := by cases h; rfl
theorem dp_non {v : V} (h : Dp K F v .none) : v = .non := by cases h; rfl
theorem dp_lst {v : V} {ds : List PyData} (h : Dp K F v (.list ds)) : ∃ a vs, v = .ref a ∧ SqL K F a vs ∧ DpAll K F vs ds := by
  cases h with
  | lst a b => exact ⟨_, _, rfl, a, b⟩
theorem dp_tupN {v : V} {ds : List PyData} (h : Dp K F v (.tuple ds)) : ∃ a vs, v = .ref a ∧ SqN K F a vs ∧ DpAll K F vs ds := by
  cases h with
  | tup a b => exact ⟨_, _, rfl, a, b⟩
theorem dp_dct {v : V} {l : List (PyData × PyData)} (h : Dp K F v (.dict l)) : ∃ a kvs, v = .ref a ∧ F a = some (.dK kvs) ∧ (l = [] → kvs = []) := by
  cases h with
  | dct a b => exact ⟨_, _, rfl, a, b⟩
theorem dp_tup {v : V} {ds : List PyData} (h : Dp K F v (.tuple ds)) : ∃ a vs, v = .ref a ∧ SqT K F a vs ∧ DpAll K F vs ds := by
  obtain ⟨a, vs, e, q, r⟩ := dp_tupN h
  exact ⟨a, vs, e, q.t, r⟩
theorem sqT_mono {a : Addr} {xs : List V} (s : Same F F') (h : SqT K F a xs) : SqT K F' a xs := by
  rcases h with (h | ⟨o, h⟩) | h
  · exact .inl (.inl (s _ _ h))
  · exact .inl (.inr ⟨o, s _ _ h⟩)
  · exact .inr h
theorem DpAll.len : ∀ {vs : List V} {ds : List PyData}, DpAll K F vs ds → vs.length = ds.length
  | _, _, .nil => rfl
  | _, _, .cons _ b => congrArg Nat.succ (DpAll.len b)
theorem DpAll.get : ∀ {vs : List V} {ds : List PyData} {i : Nat} {d : PyData}, DpAll K F vs ds → ds[i]? = some d → ∃ v, vs[i]? = some v ∧ Dp K F v d
  | _, _, _, _, .nil, e => by simp at e
  | _, _, 0, _, .cons a b, e => ⟨_, rfl, by
    obtain rfl := Option.some.inj e
    exact a⟩
  | _, _, i + 1, _, .cons a b, e => DpAll.get (i := i) b e
theorem DpAll.app : ∀ {vs ws : List V} {ds es : List PyData}, DpAll K F vs ds → DpAll K F ws es → DpAll K F (vs ++ ws) (ds ++ es)
  | _, _, _, _, .nil, h => h
  | _, _, _, _, .cons a b, h => .cons a (DpAll.app b h)
theorem DpAll.drop : ∀ {vs : List V} {ds : List PyData} (n : Nat), DpAll K F vs ds → DpAll K F (vs.drop n) (ds.drop n)
  | _, _, 0, h => h
  | _, _, n + 1, .nil => .nil
  | _, _, n + 1, .cons _ b => DpAll.drop n b
theorem DpAll.take : ∀ {vs : List V} {ds : List PyData} (n : Nat), DpAll K F vs ds → DpAll K F (vs.take n) (ds.take n)
  | _, _, 0, h => .nil
  | _, _, n + 1, .nil => .nil
  | _, _, n + 1, .cons a b => .cons a (DpAll.take n b)
theorem DpAll.of : ∀ {vs : List V} {ds : List PyData}, Paired (Ab K F al) vs (ds.map A.d) → DpAll K F vs ds
  | [], [], _ => .nil
  | _ :: _, _ :: _, .cons a b => .cons a (DpAll.of b)
theorem DpAll.to : ∀ {vs : List V} {ds : List PyData}, DpAll K F vs ds → Paired (Ab K F al) vs (ds.map A.d)
  | _, _, .nil => .nil
  | _, _, .cons a b => .cons a (DpAll.to b)
theorem Sto.seq (S : Sto K F al μ H) {a : Addr} {xs : List V} (h : SqL K F a xs) : SqL K H a xs := S.sub.seq h
theorem Sto.seqT (S : Sto K F al μ H) {a : Addr} {xs : List V} (h : SqT K F a xs) : SqT K H a xs := sqT_mono S.sub h
theorem pair_get {vs : List V} {xs : List A} (h : Paired (Ab K F al) vs xs) : ∀ {i : Nat} {x : A}, xs[i]? = some x → ∃ v, vs[i]? = some v ∧ Ab K F al v x := by
  induction h with
  | nil => intro i x e; simp at e
  | cons a b ih =>
    intro i x e
    cases i with
    | zero =>
      obtain rfl := Option.some.inj e
      exact ⟨_, rfl, a⟩
    | succ i => exact ih e
theorem cell_lst (S : Sto K F al μ H) {i : Nat} {xs : List A} (h : μ[i]? = some (.lst xs)) : ∃ a vs, al[i]? = some a ∧ H a = some (.lst vs) ∧ Paired (Ab K F al) vs xs := by
  have lt : i < al.length := by
    rw [S.len]
    exact (List.getElem?_eq_some_iff.mp h).1
  obtain ⟨ho, h1, h2⟩ := S.cell i _ _ (List.getElem?_eq_getElem lt) h
  have h3 := (h2 (fun e => nomatch e)).2
  cases ho with
  | lst vs => exact ⟨_, vs, List.getElem?_eq_getElem lt, h1, h3⟩
  | _ => exact h3.elim
end
section
variable {X : Cx} {pos : Pos}
abbrev dVar (i : Nat) : DT := fun ρ μ P => ∃ x, ρ[i]? = some (some x) ∧ P x μ
abbrev dC (x : A) : DT := fun _ μ P => P x μ
theorem d_var (i : Nat) {x : Str} (hN : X.N[i]? = some x := by rfl) (hv : Vis X.env.scope x := by first | exact Or.inl rfl | exact Or.inr (Or.inl rfl) | exact Or.inr (Or.inr rfl)) (hd : (x == ("__debug__" : Str)) = false := by decide)
    (hcd : (x == ("__classdict__" : Str)) = false := by decide) : DE X (.Name x pos) (dVar i) := ⟨_, pe_var hN hv hd hcd, fun ρ μ P h F al σ H S L Q k => by
  obtain ⟨x, e, h⟩ := h
  obtain ⟨v, e1, a⟩ := L.at_ i x e
  exact ⟨v, e1, k.now h S a⟩⟩
theorem sim_c {K : PySem.W.Frag} {v : V} {x : A} (h : ∀ F al, Ab K F al v x) : SimE K (tC v) (dC x) := fun ρ μ P hp F al σ H S L Q k => k.now hp S (h F al)
theorem d_int {i : Int} {j : Nat} : DE X (.Constant (.int i) j pos) (dC (.d (.int i))) := ⟨_, pe_int, sim_c fun _ _ => .int i⟩
theorem d_bl {b : Bool} {j : Nat} : DE X (.Constant (.bool b) j pos) (dC (.d (.bool b))) := ⟨_, pe_bl, sim_c fun _ _ => .bl b⟩
theorem d_non {j : Nat} : DE X (.Constant .none j pos) (dC (.d .none)) := ⟨_, pe_non, sim_c fun _ _ => .non⟩
theorem d_str {x : Str} {j : Nat} : DE X (.Constant (.str x) j pos) (dC (.d (.str x))) := ⟨_, pe_str, sim_c fun _ _ => .str x⟩
/-- a module's constant, a class .. -/
theorem d_globI {x : Str} {i : Int} {t : Tok} (hg : Gl X x) (hm : X.mg x = some (.int i t)) (hd : (x == ("__debug__" : Str)) = false := by decide) : DE X (.Name x pos) (dC (.d (.int i))) := ⟨_, pe_glob hg hm (v := .int i) ⟨t, rfl⟩ hd, sim_c fun _ _ => .int i⟩
theorem d_bltV {x : Str} {v : V} {u : Value} (hg : Gl X x) (hm : X.mg x = none) (hv : bootBuiltins x = some u) (r : RelV v u) (hn : x ≠ "__name__" := by decide) (hd : (x == ("__debug__" : Str)) = false := by decide) : DE X (.Name x pos) (dC (.v v)) :=
  ⟨_, pe_bltn hg hm hv r hn hd, sim_c fun _ _ => rfl⟩
end
section
variable {X : Cx} {a b : Expr} {pos : Pos} {da db : DT} {r : R2} {rd : A → A → Mu → DK → Prop} {ta tb : TE} {K : PySem.W.Frag}
abbrev dOp (rd : A → A → Mu → DK → Prop) (da db : DT) : DT := fun ρ μ P => da ρ μ fun x μ1 => db ρ μ1 fun y μ2 => rd x y μ2 P
theorem sim_op (hs : SimR2 K r rd) (ha : SimE K ta da) (hb : SimE K tb db) : SimE K (tOp r ta tb) (dOp rd da db) := fun ρ μ P h F al σ H S L Q k => by
  refine ha ρ μ _ h F al σ H S L _ fun v x μ1 F1 al1 H1 h1 g1 S1 a1 => ?_
  refine hb ρ μ1 _ h1 F1 al1 σ H1 S1 (g1.slots L) _ fun w y μ2 F2 al2 H2 h2 g2 S2 a2 => ?_
  exact hs x y μ2 P h2 F2 al2 H2 v w S2 (g2.ab a1) a2 Q (k.fwd (g1.trans g2))
theorem d_op {op : Operator} (ho : OpR X (binaryOp op) r) (hs : SimR2 X.K r rd) (ha : DE X a da) (hb : DE X b db) : DE X (.BinOp a op b pos) (dOp rd da db) := by
  obtain ⟨_, pa, sa⟩ := ha.ex
  obtain ⟨_, pb, sb⟩ := hb.ex
  exact ⟨_, pe_op ho pa pb, sim_op hs sa sb⟩
theorem d_cmp {op : CmpOp} (ho : OpR X (compareOp op) r) (hs : SimR2 X.K r rd) (ha : DE X a da) (hb : DE X b db) (hm : behindInMarks op b = false) : DE X (.Compare a [op] [b] pos) (dOp rd da db) := by
  obtain ⟨_, pa, sa⟩ := ha.ex
  obtain ⟨_, pb, sb⟩ := hb.ex
  exact ⟨_, pe_cmpR ho pa pb hm, sim_op hs sa sb⟩
theorem d_ix (ho : IxR X r) (hs : SimR2 X.K r rd) (ha : DE X a da) (hb : DE X b db) (hp : PlainIx b := by exact fun _ _ => rfl) : DE X (.Subscript a b pos) (dOp rd da db) := by
  obtain ⟨_, pa, sa⟩ := ha.ex
  obtain ⟨_, pb, sb⟩ := hb.ex
  exact ⟨_, pe_ix ho pa pb hp, sim_op hs sa sb⟩
/-- a test of what a comparison gives -/
abbrev dB (d : DT) : DTT := fun ρ μ P => d ρ μ fun x μ1 => ∃ b, x = .d (.bool b) ∧ P b μ1
theorem sim_b {t : TE} {d : DT} (h : SimE K t d) : SimT K (tTest t) (dB d) := fun ρ μ P hp F al σ H S L Q k => by
  refine h ρ μ _ hp F al σ H S L _ fun v x μ1 F1 al1 H1 h1 g1 S1 a1 => ?_
  obtain ⟨b, rfl, h1⟩ := h1
  exact ⟨b, dp_bl a1, k b μ1 F1 al1 H1 h1 g1 S1⟩
theorem dt_cmp {op : CmpOp} (ho : OpR X (compareOp op) r) (hs : SimR2 X.K r rd) (ha : DE X a da) (hb : DE X b db) (hm : behindInMarks op b = false) : DTest X (.Compare a [op] [b] pos) (dB (dOp rd da db)) := by
  obtain ⟨_, pa, sa⟩ := ha.ex
  obtain ⟨_, pb, sb⟩ := hb.ex
  exact ⟨_, pt_cmpR ho pa pb hm, sim_b (sim_op hs sa sb)⟩
end
section
variable {K : PySem.W.Frag}
def rdI (C : Int → Int → Prop) (g : Int → Int → PyData) : A → A → Mu → DK → Prop := fun x y μ P => ∃ i j, x = .d (.int i) ∧ y = .d (.int j) ∧ C i j ∧ P (.d (g i j)) μ
def rdI0 (g : Int → Int → PyData) : A → A → Mu → DK → Prop := fun x y μ P => ∃ i j, x = .d (.int i) ∧ y = .d (.int j) ∧ P (.d (g i j)) μ
theorem sim_I {C : Int → Int → Prop} {g : Int → Int → V} {g' : Int → Int → PyData} (hg : ∀ F i j, Dp K F (g i j) (g' i j)) : SimR2 K (rI C g) (rdI C g') := fun x y μ P h F al H v w S a b Q k => by
  obtain ⟨i, j, rfl, rfl, c, h⟩ := h
  exact ⟨i, j, dp_int a, dp_int b, c, k.now h S (hg F i j)⟩
theorem sim_I0 {g : Int → Int → V} {g' : Int → Int → PyData} (hg : ∀ F i j, Dp K F (g i j) (g' i j)) : SimR2 K (rI0 g) (rdI0 g') := fun x y μ P h F al H v w S a b Q k => by
  obtain ⟨i, j, rfl, rfl, h⟩ := h
  exact ⟨i, j, dp_int a, dp_int b, k.now h S (hg F i j)⟩
end
section
variable {X : Cx} {a b : Expr} {pos : Pos} {da db : DT}
theorem d_sub (ha : DE X a da) (hb : DE X b db) : DE X (.BinOp a .Sub b pos) (dOp (rdI0 fun i j => .int (i - j)) da db) := d_op op_sub (sim_I0 fun _ _ _ => .int _) ha hb
theorem d_fdivW (ha : DE X a da) (hb : DE X b db) (ho : OpR X (binaryOp .FloorDiv) (rI C fun i j => .int (i / j))) : DE X (.BinOp a .FloorDiv b pos) (dOp (rdI C fun i j => .int (i / j)) da db) := d_op ho (sim_I fun _ _ _ => .int _) ha hb
theorem d_mod (ha : DE X a da) (hb : DE X b db) : DE X (.BinOp a .Mod b pos) (dOp (rdI (fun _ j => 0 < j) fun i j => .int (i % j)) da db) := d_op op_mod (sim_I fun _ _ _ => .int _) ha hb
theorem d_pow (ha : DE X a da) (hb : DE X b db) : DE X (.BinOp a .Pow b pos) (dOp (rdI CPow fun i j => .int (i ^ j.toNat)) da db) := d_op op_pow (sim_I fun _ _ _ => .int _) ha hb
abbrev rdLt := rdI0 fun i j => .bool (decide (i < j))
abbrev rdLe := rdI0 fun i j => .bool (decide (i ≤ j))
abbrev rdGt := rdI0 fun i j => .bool (decide (j < i))
theorem s_lt : SimR2 X.K (rI0 fun i j => .bl (decide (i < j))) rdLt := sim_I0 fun _ _ _ => .bl _
theorem s_le : SimR2 X.K (rI0 fun i j => .bl (decide (i ≤ j))) rdLe := sim_I0 fun _ _ _ => .bl _
theorem s_gt : SimR2 X.K (rI0 fun i j => .bl (decide (j < i))) rdGt := sim_I0 fun _ _ _ => .bl _
end
end Dl
set_option Elab.async false
set_option linter.all false
set_option maxRecDepth 100000
set_option maxHeartbeats 4000000
namespace Dl
open PySem PySem.Spec PyProof.Rows L2
section
variable {X : Cx} {e : Expr} {es : List Expr} {pos : Pos} {de : DT} {da : DAT} {K : PySem.W.Frag} {te : TE} {ta : TA}
abbrev daNil : DAT := fun _ μ P => P [] μ
abbrev daCons (de : DT) (da : DAT) : DAT := fun ρ μ P => de ρ μ fun x μ1 => da ρ μ1 fun xs μ2 => P (x :: xs) μ2
theorem sim_nil : SimA K tNil daNil := fun ρ μ P h F al σ H S L Q k => k [] [] μ F al H h Grow.refl S .nil
theorem sim_cons (h1 : SimE K te de) (h2 : SimA K ta da) : SimA K (tCons te ta) (daCons de da) := fun ρ μ P h F al σ H S L Q k => by
  refine h1 ρ μ _ h F al σ H S L _ fun v x μ1 F1 al1 H1 q1 g1 S1 a1 => ?_
  refine h2 ρ μ1 _ q1 F1 al1 σ H1 S1 (g1.slots L) _ fun vs xs μ2 F2 al2 H2 q2 g2 S2 a2 => ?_
  exact k (v :: vs) (x :: xs) μ2 F2 al2 H2 q2 (g1.trans g2) S2 (.cons (g2.ab a1) a2)
theorem da_nil : DA X [] daNil := ⟨_, pa_nil, sim_nil⟩
theorem da_cons (h1 : DE X e de) (h2 : DA X es da) (hs : starEach (e :: es) X.env = (false, eval e X.env) :: starEach es X.env := by rfl) : DA X (e :: es) (daCons de da) := by
  obtain ⟨_, p1, s1⟩ := h1.ex
  obtain ⟨_, p2, s2⟩ := h2.ex
  exact ⟨_, pa_cons p1 p2 hs, sim_cons s1 s2⟩
/-- (..), of data -/
abbrev dTup (da : DAT) : DT := fun ρ μ P => da ρ μ fun xs μ1 => ∃ ds : List PyData, xs = ds.map A.d ∧ ds.length ≤ sizeLine ∧ P (.d (.tuple ds)) μ1
theorem pair_len {α β : Type} {R : α → β → Prop} {l : List α} {m : List β} (h : Paired R l m) : l.length = m.length := Paired.length h
def tTupN (t : TA) : TE := fun σ H Q => t σ H fun xs H1 => xs.length ≤ sizeLine ∧ ∀ p ob, H1 p = none → ob.dict = none → Q (.ref p) (upd H1 p (.frz ob (.tup xs)))
theorem pe_tupN {t : TA} {x1} (h : PA X es t) : PE X (.Tuple es x1 pos) (tTupN t) := by
  constructor
  intro pins s σ H Q I hq
  refine wpAny_Tuple_spliced (thn (h.run pos pins s σ H _ I hq) ?_)
  rintro us s1 ⟨vs, H1, J, rv, small, q⟩
  refine ⟨by rw [← rv.length]; exact small, ?_⟩
  have fr := J.hok.fresh (Nat.le_refl s1.heap.objs.size)
  have at_ := Heap.get?_push_size s1.heap (o := { cls := .type "tuple", data := .seq us.toArray }) rfl
  refine ⟨.ref s1.heap.objs.size, upd H1 s1.heap.objs.size (.frz { cls := .type "tuple", data := .seq us.toArray } (.tup vs)), J.laid (t' := s1.toks) (fun b u e => Heap.get?_push_of_some _ e) (Nat.le_refl _) ?_, rfl, q _ _ fr rfl⟩
  exact ⟨at_, small, us, rv, ⟨_, at_, rfl, _, rfl⟩⟩
theorem d_tup {x1 : Nat} (h : DA X es da) : DE X (.Tuple es x1 pos) (dTup da) := by
  obtain ⟨_, p, s⟩ := h.ex
  refine ⟨_, pe_tupN p, fun ρ μ P h F al σ H S L Q k => s ρ μ _ h F al σ H S L _ fun vs xs μ1 F1 al1 H1 q g S1 a => ?_⟩
  obtain ⟨ds, rfl, hz, q⟩ := q
  have dp := DpAll.of a
  refine ⟨by rw [DpAll.len dp]; exact hz, fun p ob hp hd => ?_⟩
  obtain ⟨S2, g2⟩ := S1.lay (o := .frz ob (.tup vs)) hp
  exact k _ _ μ1 _ _ _ q (g.trans g2) S2 (.tup (.inl ⟨ob, upd_same, hd⟩) (DpAll.mono g2.f dp))
end
section
variable {X : Cx} {a b c : Expr} {rest : List Expr} {pos : Pos} {da db : DT} {dc du : DTT} {K : PySem.W.Frag}
abbrev dAnd (da db : DT) : DT := fun ρ μ P => da ρ μ fun x μ1 => ∃ c, x = .d (.bool c) ∧ if c = true then db ρ μ1 P else P (.d (.bool false)) μ1
abbrev dNot (da : DT) : DT := fun ρ μ P => da ρ μ fun x μ1 => ∃ c, x = .d (.bool c) ∧ P (.d (.bool !c)) μ1
abbrev dIf (dc : DTT) (da db : DT) : DT := fun ρ μ P => dc ρ μ fun c μ1 => if c = true then da ρ μ1 P else db ρ μ1 P
abbrev dtAnd (t u : DTT) : DTT := fun ρ μ P => t ρ μ fun c μ1 => if c = true then u ρ μ1 P else P false μ1
abbrev dtOr (t u : DTT) : DTT := fun ρ μ P => t ρ μ fun c μ1 => if c = true then P true μ1 else u ρ μ1 P
abbrev dtNot (t : DTT) : DTT := fun ρ μ P => t ρ μ fun c μ1 => P (!c) μ1
theorem d_one {op} (h : DE X a da) : DE X (.BoolOp op [a] pos) da := by
  obtain ⟨_, p, s⟩ := h.ex
  exact ⟨_, pe_one p, s⟩
theorem d_and (ha : DE X a da) (hb : DE X (.BoolOp .And (b :: rest) pos) db) : DE X (.BoolOp .And (a :: b :: rest) pos) (dAnd da db) := by
  obtain ⟨_, p1, s1⟩ := ha.ex
  obtain ⟨_, p2, s2⟩ := hb.ex
  refine ⟨_, pe_and p1 p2, fun ρ μ P h F al σ H S L Q k => s1 ρ μ _ h F al σ H S L _ fun v x μ1 F1 al1 H1 q g S1 a1 => ?_⟩
  obtain ⟨c, rfl, q⟩ := q
  refine ⟨c, dp_bl a1, ?_⟩
  cases c with
  | true => exact iteT (s2 ρ μ1 _ (by rw [if_pos rfl] at q; exact q) F1 al1 σ H1 S1 (g.slots L) _ (k.fwd g))
  | false => exact iteF ((k.fwd g).now (x := .d (.bool false)) (by rw [if_neg Bool.false_ne_true] at q; exact q) S1 (Dp.bl false))
theorem d_not (ha : DE X a da) : DE X (.UnaryOp .Not a pos) (dNot da) := by
  obtain ⟨_, p1, s1⟩ := ha.ex
  refine ⟨_, pe_not p1, fun ρ μ P h F al σ H S L Q k => s1 ρ μ _ h F al σ H S L _ fun v x μ1 F1 al1 H1 q g S1 a1 => ?_⟩
  obtain ⟨c, rfl, q⟩ := q
  exact ⟨c, dp_bl a1, (k.fwd g).now q S1 (Dp.bl _)⟩
theorem d_if (hc : DTest X c dc) (ha : DE X a da) (hb : DE X b db) : DE X (.IfExp c a b pos) (dIf dc da db) := by
  obtain ⟨_, p0, s0⟩ := hc.ex
  obtain ⟨_, p1, s1⟩ := ha.ex
  obtain ⟨_, p2, s2⟩ := hb.ex
  refine ⟨_, pe_ifExp p0 p1 p2, fun ρ μ P h F al σ H S L Q k => s0 ρ μ _ h F al σ H S L _ fun c μ1 F1 al1 H1 q g S1 => ?_⟩
  cases c with
  | true => exact iteT (s1 ρ μ1 _ (by rw [if_pos rfl] at q; exact q) F1 al1 σ H1 S1 (g.slots L) _ (k.fwd g))
  | false => exact iteF (s2 ρ μ1 _ (by rw [if_neg Bool.false_ne_true] at q; exact q) F1 al1 σ H1 S1 (g.slots L) _ (k.fwd g))
theorem dw_and1 (h : DTest X a dc) : DW X (.BoolOp .And [a] pos) dc := by
  obtain ⟨_, p, s⟩ := h.ex
  exact ⟨_, pw_and1 p, s⟩
theorem dw_or1 (h : DTest X a dc) : DW X (.BoolOp .Or [a] pos) dc := by
  obtain ⟨_, p, s⟩ := h.ex
  exact ⟨_, pw_or1 p, s⟩
theorem dw_and (ha : DTest X a dc) (hb : DW X (.BoolOp .And (b :: rest) pos) du) : DW X (.BoolOp .And (a :: b :: rest) pos) (dtAnd dc du) := by
  obtain ⟨_, p1, s1⟩ := ha.ex
  obtain ⟨_, p2, s2⟩ := hb.ex
  refine ⟨_, pw_and p1 p2, fun ρ μ P h F al σ H S L Q k => s1 ρ μ _ h F al σ H S L _ fun c μ1 F1 al1 H1 q g S1 => ?_⟩
  cases c with
  | true => exact iteT (s2 ρ μ1 _ (by rw [if_pos rfl] at q; exact q) F1 al1 σ H1 S1 (g.slots L) _ (k.fwd g))
  | false => exact iteF (k _ _ _ _ _ (by rw [if_neg Bool.false_ne_true] at q; exact q) g S1)
theorem dw_or (ha : DTest X a dc) (hb : DW X (.BoolOp .Or (b :: rest) pos) du) : DW X (.BoolOp .Or (a :: b :: rest) pos) (dtOr dc du) := by
  obtain ⟨_, p1, s1⟩ := ha.ex
  obtain ⟨_, p2, s2⟩ := hb.ex
  refine ⟨_, pw_or p1 p2, fun ρ μ P h F al σ H S L Q k => s1 ρ μ _ h F al σ H S L _ fun c μ1 F1 al1 H1 q g S1 => ?_⟩
  cases c with
  | true => exact iteT (k _ _ _ _ _ (by rw [if_pos rfl] at q; exact q) g S1)
  | false => exact iteF (s2 ρ μ1 _ (by rw [if_neg Bool.false_ne_true] at q; exact q) F1 al1 σ H1 S1 (g.slots L) _ (k.fwd g))
theorem dt_w (h : DW X a dc) : DTest X a dc := by
  obtain ⟨_, p, s⟩ := h.ex
  exact ⟨_, p.pt, s⟩
theorem dt_not (ha : DTest X a dc) : DTest X (.UnaryOp .Not a pos) (dtNot dc) := by
  obtain ⟨_, p1, s1⟩ := ha.ex
  exact ⟨_, pt_not p1, fun ρ μ P h F al σ H S L Q k => s1 ρ μ _ h F al σ H S L _ fun c μ1 F1 al1 H1 q g S1 => k _ _ _ _ _ q g S1⟩
/-- a value's truth -/
def TruD (x : A) (μ : Mu) (b : Bool) : Prop := match x with
  | .d .none => b = false
  | .d (.bool k) => b = k
  | .d (.int i) => b = (i != 0)
  | .d (.str y) => y.length ≤ sizeLine ∧ b = ((y.length : Int) != 0)
  | .d (.list ds) => b = !ds.isEmpty
  | .d (.tuple ds) => b = !ds.isEmpty
  | .c i => (∃ xs, μ[i]? = some (.lst xs) ∧ b = !xs.isEmpty) ∨ ∃ ks, μ[i]? = some (.dct ks) ∧ b = !ks.isEmpty
  | _ => False
theorem isE {α β : Type} {l : List α} {m : List β} (h : l.length = m.length) : (!l.isEmpty) = !m.isEmpty := by
  cases l <;> cases m <;> first | rfl | simp at h
theorem tru_ab {F : Hp} {al : List Addr} {μ : Mu} {H : Hp} {v : V} {x : A} {b : Bool} (S : Sto K F al μ H) (a : Ab K F al v x) (h : TruD x μ b) : TruV K v H b := by
  cases x with
  | d x =>
    cases x with
    | none => rw [dp_non a]; exact h
    | bool k => rw [dp_bl a]; exact h
    | int i => rw [dp_int a]; exact h
    | str y => rw [dp_str a]; exact h
    | list ds =>
      obtain ⟨p, vs, rfl, q, r⟩ := dp_lst a
      exact .inl ⟨vs, S.seq q, (show b = !ds.isEmpty from h).trans (isE (DpAll.len r).symm)⟩
    | tuple ds =>
      obtain ⟨p, vs, rfl, q, r⟩ := dp_tup a
      exact .inr (.inl ⟨vs, S.seqT q, (show b = !ds.isEmpty from h).trans (isE (DpAll.len r).symm)⟩)
    | dict _ => exact h.elim
  | c i =>
    obtain ⟨p, ep, rfl⟩ := a
    rcases h with ⟨xs, e, r⟩ | ⟨ks, e, r⟩
    · obtain ⟨q, vs, e1, e2, e3⟩ := cell_lst S e
      rw [ep] at e1
      obtain rfl := Option.some.inj e1
      exact .inl ⟨vs, .inl (.inl e2), r.trans (isE (pair_len e3).symm)⟩
    · obtain ⟨ho, h1, h2⟩ := S.cell i p _ ep e
      have h3 := (h2 (fun z => nomatch z)).2
      cases ho with
      | dK kvs => exact .inr (.inr ⟨kvs, h1, r.trans (isE (pair_len h3).symm)⟩)
      | _ => exact h3.elim
  | v _ => exact h.elim
  | x _ _ _ _ => exact h.elim
abbrev dTru (d : DT) : DTT := fun ρ μ P => d ρ μ fun x μ1 => ∃ b, TruD x μ1 b ∧ P b μ1
theorem dt_truth (ha : DE X a da) (he : ∀ whole, isTrue a X.env whole = (do let v ← whole; standAt a.pos; holding [v] (truthy v)) := by intro _; rfl) : DTest X a (dTru da) := by
  obtain ⟨_, p, s⟩ := ha.ex
  refine ⟨_, pt_truth p he, fun ρ μ P h F al σ H S L Q k => s ρ μ _ h F al σ H S L _ fun v x μ1 F1 al1 H1 q g S1 a1 => ?_⟩
  obtain ⟨b, t, q⟩ := q
  exact ⟨b, tru_ab S1 a1 t, k _ _ _ _ _ q g S1⟩
end
end Dl
set_option Elab.async false
set_option linter.all false
set_option maxRecDepth 100000
set_option maxHeartbeats 4000000
namespace Dl
open PySem PySem.Spec PyProof.Rows L2
section
variable {X : Cx} {K : PySem.W.Frag}
theorem vint_eq (i j : Int) : decide (V.int i = V.int j) = decide (i = j) := by simp
theorem vstr_eq (i j : Str) : decide (V.str i = V.str j) = decide (i = j) := by simp
/-- flat data -/
def flatD : PyData → Bool
  | .none => true | .bool _ => true | .int _ => true | .str _ => true | _ => false
def eqF : PyData → PyData → Bool
  | .none, .none => true
  | .bool a, .bool b => a == b
  | .bool a, .int b => (if a then 1 else 0) == b
  | .int a, .bool b => a == (if b then 1 else 0)
  | .int a, .int b => a == b
  | .str a, .str b => a == b
  | _, _ => false
theorem flat_v {F : Hp} {v : V} {d : PyData} (h : Dp K F v d) (f : flatD d = true) : flatV v = true := by
  cases h <;> first | rfl | cases f
theorem eqF_v {F : Hp} {v w : V} {d e : PyData} (h : Dp K F v d) (g : Dp K F w e) (f : flatD d = true) (f' : flatD e = true) : eqV v w = eqF d e := by
  cases h <;> cases g <;> first | rfl | cases f | cases f'
theorem flat_all {F : Hp} : ∀ {vs : List V} {ds : List PyData}, DpAll K F vs ds → ds.all flatD = true → vs.all flatV = true
  | _, _, .nil, _ => rfl
  | _, _, .cons a b, f => by
    rw [List.all_cons, Bool.and_eq_true] at f ⊢
    exact ⟨flat_v a f.1, flat_all b f.2⟩
theorem in_all {F : Hp} {v : V} {d : PyData} (h : Dp K F v d) (f : flatD d = true) : ∀ {vs : List V} {ds : List PyData}, DpAll K F vs ds → ds.all flatD = true → inV v vs = ds.any (fun e => eqF e d)
  | _, _, .nil, _ => rfl
  | _, _, .cons a b, g => by
    rw [List.all_cons, Bool.and_eq_true] at g
    have ih := in_all h f b g.2
    unfold inV at ih ⊢
    rw [List.any_cons, List.any_cons, eqF_v a h g.1 f, ih]
/-- the items of a list or tuple: data, or a cell of data -/
def ItemsD (x : A) (μ : Mu) (ds : List PyData) : Prop := x = .d (.list ds) ∨ x = .d (.tuple ds) ∨ ∃ i, x = .c i ∧ μ[i]? = some (.lst (ds.map A.d))
theorem items_ab {F : Hp} {al : List Addr} {μ : Mu} {H : Hp} {v : V} {x : A} {ds : List PyData} (S : Sto K F al μ H) (a : Ab K F al v x) (h : ItemsD x μ ds) : ∃ p vs, v = .ref p ∧ (SqL K H p vs ∨ SqT K H p vs) ∧ DpAll K F vs ds := by
  rcases h with rfl | rfl | ⟨i, rfl, e⟩
  · obtain ⟨p, vs, rfl, q, r⟩ := dp_lst a
    exact ⟨p, vs, rfl, .inl (S.seq q), r⟩
  · obtain ⟨p, vs, rfl, q, r⟩ := dp_tup a
    exact ⟨p, vs, rfl, .inr (S.seqT q), r⟩
  · obtain ⟨p, ep, rfl⟩ := a
    obtain ⟨q, vs, e1, e2, e3⟩ := cell_lst S e
    rw [ep] at e1
    obtain rfl := Option.some.inj e1
    exact ⟨p, vs, rfl, .inl (.inl (.inl e2)), DpAll.of e3⟩
def rdIn (neg : Bool) : A → A → Mu → DK → Prop := fun x y μ P => ∃ d ds, x = .d d ∧ ItemsD y μ ds ∧ flatD d = true ∧ ds.all flatD = true ∧ P (.d (.bool (if neg then !ds.any (fun e => eqF e d) else ds.any (fun e => eqF e d)))) μ
theorem s_in (neg : Bool) : SimR2 K (rIn K neg) (rdIn neg) := fun x y μ P h F al H v w S a b Q k => by
  obtain ⟨d, ds, rfl, hi, f, g, h⟩ := h
  obtain ⟨p, vs, rfl, hq, r⟩ := items_ab S b hi
  exact ⟨p, vs, rfl, hq, flat_v a f, flat_all r g, by rw [in_all a f r g]; exact k.now h S (.bl _)⟩
theorem ixN_len {α β : Type} {xs : List α} {ys : List β} (h : xs.length = ys.length) (i : Int) : ixN xs.length i = ixN ys.length i := by rw [h]
theorem dpall_at {F : Hp} {vs : List V} {ds : List PyData} (r : DpAll K F vs ds) {i : Int} {z : PyData} (h : atI ds i = some z) : ∃ v, atI vs i = some v ∧ Dp K F v z := by
  unfold atI at h ⊢
  rw [ixN_len (DpAll.len r) i]
  cases e : ixN ds.length i with
  | none => rw [e] at h; cases h
  | some j =>
    rw [e] at h
    exact DpAll.get r h
theorem pair_at {F : Hp} {al : List Addr} {vs : List V} {xs : List A} (r : Paired (Ab K F al) vs xs) {i : Int} {z : A} (h : atI xs i = some z) : ∃ v, atI vs i = some v ∧ Ab K F al v z := by
  unfold atI at h ⊢
  rw [ixN_len (pair_len r) i]
  cases e : ixN xs.length i with
  | none => rw [e] at h; cases h
  | some j =>
    rw [e] at h
    exact pair_get r h
/-- x[i]: of a list, a tuple, a text, a cell -/
def rdIx : A → A → Mu → DK → Prop := fun x y μ P => ∃ i, y = .d (.int i) ∧
  ((∃ ds z, (x = .d (.list ds) ∨ x = .d (.tuple ds)) ∧ atI ds i = some z ∧ P (.d z) μ) ∨ (∃ n xs z, x = .c n ∧ μ[n]? = some (.lst xs) ∧ atI xs i = some z ∧ P z μ) ∨ ∃ (s : Str) (c : Nat), x = .d (.str s) ∧ s.length ≤ sizeLine ∧ atI s.cps.toList i = some c ∧ P (.d (.str ⟨#[c]⟩)) μ)
theorem s_ix : SimR2 K (rIx K) rdIx := fun x y μ P h F al H v w S a b Q k => by
  obtain ⟨i, rfl, h⟩ := h
  rw [dp_int b]
  rcases h with ⟨ds, z, h1, h2, h3⟩ | ⟨n, xs, z, rfl, h1, h2, h3⟩ | ⟨s, c, rfl, h1, h2, h3⟩
  · rcases h1 with rfl | rfl
    · obtain ⟨p, vs, rfl, q, r⟩ := dp_lst a
      obtain ⟨u, e, dz⟩ := dpall_at r h2
      exact .inl ⟨p, vs, i, u, rfl, rfl, S.seq q, e, k.now h3 S dz⟩
    · obtain ⟨p, vs, rfl, q, r⟩ := dp_tup a
      obtain ⟨u, e, dz⟩ := dpall_at r h2
      exact .inr (.inl ⟨p, vs, i, u, rfl, rfl, S.seqT q, e, k.now h3 S dz⟩)
  · obtain ⟨p, ep, rfl⟩ := a
    obtain ⟨q, vs, e1, e2, e3⟩ := cell_lst S h1
    rw [ep] at e1
    obtain rfl := Option.some.inj e1
    obtain ⟨u, e, dz⟩ := pair_at e3 h2
    exact .inl ⟨p, vs, i, u, rfl, rfl, .inl (.inl e2), e, k.now h3 S dz⟩
  · rw [dp_str a]
    exact .inr (.inr ⟨s, i, c, rfl, rfl, h1, h2, k.now h3 S (.str _)⟩)
variable {e : Expr} {es : List Expr} {pos p : Pos} {da : DAT} {x : Str} {id T : String} {r : List V → Hp → VK → Prop} {rd : List A → Mu → DK → Prop}
abbrev dCall (rd : List A → Mu → DK → Prop) (da : DAT) : DT := fun ρ μ P => da ρ μ fun xs μ1 => rd xs μ1 P
theorem sim_call {ta : TA} (hs : SimC K r rd) (ha : SimA K ta da) : SimE K (tCB r ta) (dCall rd da) := fun ρ μ P h F al σ H S L Q k =>
  ha ρ μ _ h F al σ H S L _ fun vs xs μ1 F1 al1 H1 q g S1 a => hs xs μ1 P q F1 al1 H1 vs S1 a Q (k.fwd g)
theorem d_callB (hc : CallR X (.builtin id) r) (hs : SimC X.K r rd) (ha : DA X (e :: es) da) (hm : X.mg x = none) (hg : Gl X x := by rfl) (hv : bootBuiltins x = some (.builtin id) := by decide +kernel) (hn : x ≠ "__name__" := by decide) (hdb : (x == ("__debug__" : Str)) = false := by decide)
    (he : starEach (e :: es) X.env = (false, eval e X.env) :: starEach es X.env := by rfl) (hpl : (backTo pos (starEach es X.env)).any (·.1) = false := by rfl) : DE X (.Call (.Name x p) (e :: es) [] pos) (dCall rd da) := by
  obtain ⟨_, pa, sa⟩ := ha.ex
  exact ⟨_, pe_callB hc hg hm hv pa hn hdb he hpl, sim_call hs sa⟩
theorem d_callTy (hc : CallR X (.type T) r) (hs : SimC X.K r rd) (ha : DA X (e :: es) da) (hm : X.mg x = none) (hg : Gl X x := by rfl) (hv : bootBuiltins x = some (.type T) := by decide +kernel) (hn : x ≠ "__name__" := by decide) (hdb : (x == ("__debug__" : Str)) = false := by decide)
    (he : starEach (e :: es) X.env = (false, eval e X.env) :: starEach es X.env := by rfl) (hpl : (backTo pos (starEach es X.env)).any (·.1) = false := by rfl) : DE X (.Call (.Name x p) (e :: es) [] pos) (dCall rd da) := by
  obtain ⟨_, pa, sa⟩ := ha.ex
  exact ⟨_, pe_callTy hc hg hm hv pa hn hdb he hpl, sim_call hs sa⟩
/-- len -/
def LenD (x : A) (μ : Mu) (n : Nat) : Prop := (∃ ds, ItemsD x μ ds ∧ n = ds.length) ∨ (∃ i xs, x = .c i ∧ μ[i]? = some (.lst xs) ∧ n = xs.length) ∨ ∃ y : Str, x = .d (.str y) ∧ y.length ≤ sizeLine ∧ n = y.length
def rdLen : List A → Mu → DK → Prop := fun xs μ P => ∃ x n, xs = [x] ∧ LenD x μ n ∧ P (.d (.int n)) μ
theorem s_len : SimC K (fun xs H Q => ∃ x n, xs = [x] ∧ LenV K x H n ∧ Q (.int n) H) rdLen := fun xs μ P h F al H vs S a Q k => by
  obtain ⟨x, n, rfl, hl, h⟩ := h
  cases a with
  | cons a1 a2 =>
    rename_i v _
    cases a2
    refine ⟨v, n, rfl, ?_, k.now h S (.int _)⟩
    rcases hl with ⟨ds, hi, rfl⟩ | ⟨i, xs, rfl, hi, rfl⟩ | ⟨y, rfl, hz, rfl⟩
    · obtain ⟨p, vs, rfl, hq, r⟩ := items_ab S a1 hi
      rcases hq with hq | hq
      · exact .inl ⟨vs, hq, (DpAll.len r).symm⟩
      · exact .inr ⟨vs, hq, (DpAll.len r).symm⟩
    · obtain ⟨p, ep, rfl⟩ := a1
      obtain ⟨q, vs, e1, e2, e3⟩ := cell_lst S hi
      rw [ep] at e1
      obtain rfl := Option.some.inj e1
      exact .inl ⟨vs, .inl (.inl e2), (pair_len e3).symm⟩
    · rw [dp_str a1]
      exact ⟨hz, rfl⟩
/-- one or two whole numbers -/
def rd1I (g : Int → PyData) : List A → Mu → DK → Prop := fun xs μ P => ∃ i, xs = [.d (.int i)] ∧ P (.d (g i)) μ
def rd2I (g : Int → Int → PyData) : List A → Mu → DK → Prop := fun xs μ P => ∃ i j, xs = [.d (.int i), .d (.int j)] ∧ P (.d (g i j)) μ
theorem s_max2 : SimC K (fun xs H Q => ∃ i j, xs = [.int i, .int j] ∧ Q (.int (if j > i then j else i)) H) (rd2I fun i j => .int (if j > i then j else i)) := fun xs μ P h F al H vs S a Q k => by
  obtain ⟨i, j, rfl, h⟩ := h
  cases a with
  | cons a1 a2 =>
    cases a2 with
    | cons a2 a3 =>
      cases a3
      exact ⟨i, j, by rw [dp_int a1, dp_int a2], k.now h S (.int _)⟩
theorem s_min2 : SimC K (fun xs H Q => ∃ i j, xs = [.int i, .int j] ∧ Q (.int (if j < i then j else i)) H) (rd2I fun i j => .int (if j < i then j else i)) := fun xs μ P h F al H vs S a Q k => by
  obtain ⟨i, j, rfl, h⟩ := h
  cases a with
  | cons a1 a2 =>
    cases a2 with
    | cons a2 a3 =>
      cases a3
      exact ⟨i, j, by rw [dp_int a1, dp_int a2], k.now h S (.int _)⟩
theorem s_int1 : SimC K (fun xs H Q => (∃ i, xs = [.int i] ∧ Q (.int i) H) ∨ ∃ b, xs = [.bl b] ∧ Q (.int (if b then 1 else 0)) H) (rd1I fun i => .int i) := fun xs μ P h F al H vs S a Q k => by
  obtain ⟨i, rfl, h⟩ := h
  cases a with
  | cons a1 a2 =>
    cases a2
    exact .inl ⟨i, by rw [dp_int a1], k.now h S (.int _)⟩
theorem ints_of {F : Hp} : ∀ {vs : List V} {ns : List Int}, DpAll K F vs (ns.map PyData.int) → vs = ns.map V.int
  | [], [], _ => rfl
  | _ :: _, _ :: _, .cons a b => by
    rw [dp_int a, ints_of b]
    rfl
def rdSum : List A → Mu → DK → Prop := fun xs μ P => ∃ (x : A) (ns : List Int), xs = [x] ∧ (x = .d (.list (ns.map PyData.int)) ∨ ∃ i, x = .c i ∧ μ[i]? = some (.lst ((ns.map PyData.int).map A.d))) ∧ P (.d (.int ns.sum)) μ
theorem s_sum : SimC K (rSum K) rdSum := fun xs μ P h F al H vs S a Q k => by
  obtain ⟨x, ns, rfl, hx, h⟩ := h
  cases a with
  | cons a1 a2 =>
    cases a2
    rcases hx with rfl | ⟨i, rfl, hi⟩
    · obtain ⟨p, vs, rfl, q, r⟩ := dp_lst a1
      obtain rfl := ints_of r
      exact ⟨p, ns, rfl, S.seq q, k.now h S (.int _)⟩
    · obtain ⟨p, ep, rfl⟩ := a1
      obtain ⟨q, vs, e1, e2, e3⟩ := cell_lst S hi
      rw [ep] at e1
      obtain rfl := Option.some.inj e1
      obtain rfl := ints_of (DpAll.of e3)
      exact ⟨p, ns, rfl, .inl (.inl e2), k.now h S (.int _)⟩
/-- tuple(x) -/
def rdTuple : List A → Mu → DK → Prop := fun xs μ P => ∃ x ds, xs = [x] ∧ ItemsD x μ ds ∧ P (.d (.tuple ds)) μ
def rTupleN (K : PySem.W.Frag) : List V → Hp → VK → Prop := fun xs H Q => ∃ p ys, xs = [.ref p] ∧ ((SqL K H p ys ∧ ∀ l ob, H l = none → ob.dict = none → Q (.ref l) (upd H l (.frz ob (.tup ys)))) ∨ (SqT K H p ys ∧ Q (.ref p) H))
theorem call_tupleN {X : Cx} : CallR X (.type "tuple") (rTupleN X.K) := by
  intro pins s σ H vv us Q I rv h
  obtain ⟨p, ys, rfl, h⟩ := h
  obtain ⟨u, rfl, ru⟩ := vals1 rv
  cases ru
  rcases h with ⟨sq, q⟩ | ⟨sq, q⟩
  · obtain ⟨its, r1, pl, small⟩ := I.list sq
    have ln := r1.length
    refine call_tuple_list pl.isList (fun h1 kp => ?_) (by simp only [List.size_toArray] <;> omega)
    have J : Inv X pins σ H { s with heap := h1 } := I.kept (t' := s.toks) kp
    have at_ := Heap.get?_push_size h1 (o := { cls := .type "tuple", data := .seq its.toArray }) rfl
    have J2 : Inv X pins σ (upd H h1.objs.size (.frz { cls := .type "tuple", data := .seq its.toArray } (.tup ys))) { s with heap := h1.push { cls := .type "tuple", data := .seq its.toArray } } :=
      J.laid (t' := s.toks) (fun _ _ e => Heap.get?_push_of_some _ e) (Nat.le_refl _) ⟨at_, small, its, r1, IsTup.new _ _⟩
    exact ⟨.ref h1.objs.size, _, J2, rfl, q _ _ (J.hok.fresh (Nat.le_refl _)) rfl⟩
  · obtain ⟨its, _, pl, _⟩ := I.tuple sq
    exact call_tuple_same pl ⟨.ref p, H, I, rfl, q⟩
theorem s_tuple : SimC K (rTupleN K) rdTuple := fun xs μ P h F al H vs S a Q k => by
  obtain ⟨x, ds, rfl, hi, h⟩ := h
  cases a with
  | @cons v0 _ _ _ a1 a2 =>
    cases a2
    by_cases ht : x = .d (.tuple ds)
    · subst ht
      obtain ⟨p, vs, rfl, q, r⟩ := dp_tupN a1
      exact ⟨p, vs, rfl, .inr ⟨S.seqT q.t, k.now h S (.tup q r)⟩⟩
    · have go : ∃ p vs, v0 = V.ref p ∧ SqL K H p vs ∧ DpAll K F vs ds := by
        rcases hi with rfl | rfl | ⟨i, rfl, e⟩
        · obtain ⟨p, vs, rfl, q, r⟩ := dp_lst a1
          exact ⟨p, vs, rfl, S.seq q, r⟩
        · exact absurd rfl ht
        · obtain ⟨p, ep, rfl⟩ := a1
          obtain ⟨q, vs, e1, e2, e3⟩ := cell_lst S e
          rw [ep] at e1
          obtain rfl := Option.some.inj e1
          exact ⟨p, vs, rfl, .inl (.inl e2), DpAll.of e3⟩
      obtain ⟨p, vs, rfl, hq, r⟩ := go
      refine ⟨p, vs, rfl, .inl ⟨hq, fun l ob hl hd => ?_⟩⟩
      obtain ⟨S2, g2⟩ := S.lay (o := .frz ob (.tup vs)) hl
      exact k _ _ _ _ _ _ h g2 S2 (.tup (.inl ⟨ob, upd_same, hd⟩) (DpAll.mono g2.f r))
end
end Dl
set_option Elab.async false
set_option linter.all false
set_option maxRecDepth 100000
set_option maxHeartbeats 4000000
namespace Dl
open PySem PySem.Spec PyProof.Rows L2
section
variable {X : Cx} {K : PySem.W.Frag} {o e : Expr} {es : List Expr} {apos cpos : Pos} {do_ : DT} {da : DAT} {name : Str} {id T : String} {r : V → List V → Hp → VK → Prop} {rd : A → List A → Mu → DK → Prop}
def TyD (T : String) (x : A) (μ : Mu) : Prop := (T = "str" ∧ ∃ y, x = .d (.str y)) ∨ (T = "list" ∧ ((∃ ds, x = .d (.list ds)) ∨ ∃ i xs, x = .c i ∧ μ[i]? = some (.lst xs))) ∨ (T = "dict" ∧ ∃ i ks, x = .c i ∧ μ[i]? = some (.dct ks))
theorem tyD_ab {F : Hp} {al : List Addr} {μ : Mu} {H : Hp} {v : V} {x : A} (S : Sto K F al μ H) (a : Ab K F al v x) (h : TyD T x μ) : tyV K T v H := by
  rcases h with ⟨rfl, y, rfl⟩ | ⟨rfl, ⟨ds, rfl⟩ | ⟨i, xs, rfl, e⟩⟩ | ⟨rfl, i, ks, rfl, e⟩
  · rw [dp_str a]
    rfl
  · obtain ⟨p, vs, rfl, q, _⟩ := dp_lst a
    exact .inl ⟨rfl, vs, S.seq q⟩
  · obtain ⟨p, ep, rfl⟩ := a
    obtain ⟨q, vs, e1, e2, e3⟩ := cell_lst S e
    rw [ep] at e1
    obtain rfl := Option.some.inj e1
    exact .inl ⟨rfl, vs, .inl (.inl e2)⟩
  · obtain ⟨p, ep, rfl⟩ := a
    obtain ⟨ho, h1, h2⟩ := S.cell i p _ ep e
    have h3 := (h2 (fun z => nomatch z)).2
    cases ho with
    | dK kvs => exact .inr (.inr (.inl ⟨rfl, .inl ⟨kvs, h1⟩⟩))
    | _ => exact h3.elim
abbrev dBm (T : String) (rd : A → List A → Mu → DK → Prop) (do_ : DT) (da : DAT) : DT := fun ρ μ P => do_ ρ μ fun x μ1 => TyD T x μ1 ∧ da ρ μ1 fun xs μ2 => rd x xs μ2 P
theorem d_bm (pa : PlainAttrs T) (slot : Slot T name id) (hty : typeOf (.builtin id) = pure (.type "method_descriptor")) (hm : MtR X id r) (hs : SimM X.K T r rd) (ho : DE X o do_) (ha : DA X (e :: es) da)
    (hbase : attributeBase o name X.env (eval o X.env) = eval o X.env := by rfl)
    (hfew : ((backTo cpos (starEach (e :: es) X.env)).all (fun x => !x.1) && (backToKw cpos (keywordEach [] X.env)).all (fun x => x.1.isSome)
      && decide ((e :: es).length + ([] : List Keyword).length + (if ([] : List Keyword).isEmpty then 0 else 1) < 30)) = true := by rfl)
    (hline : (apos.endLine == cpos.line) = true := by rfl) (hst : starEach (e :: es) X.env = (false, eval e X.env) :: starEach es X.env := by rfl) (hplain : (backTo cpos (starEach es X.env)).any (·.1) = false := by rfl) :
    DE X (.Call (.Attribute o name apos) (e :: es) [] cpos) (dBm T rd do_ da) := by
  obtain ⟨_, p1, s1⟩ := ho.ex
  obtain ⟨_, p2, s2⟩ := ha.ex
  refine ⟨_, pe_bm pa slot hty hm p1 p2 hbase hfew hline hst hplain, fun ρ μ P h F al σ H S L Q k => s1 ρ μ _ h F al σ H S L _ fun v x μ1 F1 al1 H1 q g S1 a1 => ?_⟩
  obtain ⟨ty, q⟩ := q
  refine ⟨tyD_ab S1 a1 ty, s2 ρ μ1 _ q F1 al1 σ H1 S1 (g.slots L) _ fun vs xs μ2 F2 al2 H2 q2 g2 S2 a2 => ?_⟩
  exact hs x xs μ2 P q2 F2 al2 H2 v vs S2 (g2.ab a1) a2 Q (k.fwd (g.trans g2))
theorem d_bm0 (pa : PlainAttrs T) (slot : Slot T name id) (hty : typeOf (.builtin id) = pure (.type "method_descriptor")) (hm : MtR X id r) (hs : SimM X.K T r rd) (ho : DE X o do_)
    (hbase : attributeBase o name X.env (eval o X.env) = eval o X.env := by rfl) (hline : (apos.endLine == cpos.line) = true := by rfl) : DE X (.Call (.Attribute o name apos) [] [] cpos) (dBm T rd do_ daNil) := by
  obtain ⟨_, p1, s1⟩ := ho.ex
  refine ⟨_, pe_bm0 pa slot hty hm p1 hbase hline, fun ρ μ P h F al σ H S L Q k => s1 ρ μ _ h F al σ H S L _ fun v x μ1 F1 al1 H1 q g S1 a1 => ?_⟩
  obtain ⟨ty, q⟩ := q
  exact ⟨tyD_ab S1 a1 ty, hs x [] μ1 P q F1 al1 H1 v [] S1 a1 .nil Q (k.fwd g)⟩
theorem Paired.app {α β : Type} {R : α → β → Prop} : ∀ {l l' : List α} {m m' : List β}, Paired R l m → Paired R l' m' → Paired R (l ++ l') (m ++ m')
  | _, _, _, _, .nil, h => h
  | _, _, _, _, .cons a b, h => .cons a (Paired.app b h)
theorem Paired.takeP {α β : Type} {R : α → β → Prop} : ∀ {l : List α} {m : List β} (n : Nat), Paired R l m → Paired R (l.take n) (m.take n)
  | _, _, 0, _ => .nil
  | _, _, n + 1, .nil => .nil
  | _, _, n + 1, .cons a b => .cons a (Paired.takeP n b)
theorem Paired.dropP {α β : Type} {R : α → β → Prop} : ∀ {l : List α} {m : List β} (n : Nat), Paired R l m → Paired R (l.drop n) (m.drop n)
  | _, _, 0, h => h
  | _, _, n + 1, .nil => .nil
  | _, _, n + 1, .cons a b => Paired.dropP n b
theorem Paired.setP {α β : Type} {R : α → β → Prop} {x : α} {y : β} (h : R x y) : ∀ {l : List α} {m : List β} (n : Nat), Paired R l m → Paired R (l.set n x) (m.set n y)
  | _, _, _, .nil => .nil
  | _, _, 0, .cons a b => .cons h b
  | _, _, n + 1, .cons a b => .cons a (Paired.setP h n b)
theorem Paired.eraseP {α β : Type} {R : α → β → Prop} : ∀ {l : List α} {m : List β} (n : Nat), Paired R l m → Paired R (l.eraseIdx n) (m.eraseIdx n)
  | _, _, _, .nil => .nil
  | _, _, 0, .cons a b => b
  | _, _, n + 1, .cons a b => .cons a (Paired.eraseP n b)
/-- a cell's list is written -/
theorem cell_put {F : Hp} {al : List Addr} {μ : Mu} {H : Hp} {p : Addr} {i : Nat} {xs ys : List A} {vs : List V} (S : Sto K F al μ H) (hp : al[i]? = some p) (h : μ[i]? = some (.lst xs)) (r : Paired (Ab K F al) vs ys) :
    Sto K F al (μ.set i (.lst ys)) (upd H p (.lst vs)) ∧ Grow F al H F al (upd H p (.lst vs)) := S.put hp h (fun z => nomatch z) r
theorem one_of {F : Hp} {al : List Addr} {vs : List V} {y : A} (h : Paired (Ab K F al) vs [y]) : ∃ v, vs = [v] ∧ Ab K F al v y := by
  cases h with
  | cons a b =>
    cases b
    exact ⟨_, rfl, a⟩
theorem two_of {F : Hp} {al : List Addr} {vs : List V} {y z : A} (h : Paired (Ab K F al) vs [y, z]) : ∃ v w, vs = [v, w] ∧ Ab K F al v y ∧ Ab K F al w z := by
  cases h with
  | cons a b =>
    cases b with
    | cons b c =>
      cases c
      exact ⟨_, _, rfl, a, b⟩
def rdAppend : A → List A → Mu → DK → Prop := fun x xs μ P => ∃ i ys y, x = .c i ∧ xs = [y] ∧ μ[i]? = some (.lst ys) ∧ ys.length < sizeLine ∧ P (.d .none) (μ.set i (.lst (ys ++ [y])))
theorem s_append : SimM K "list" rAppend rdAppend := fun x xs μ P h F al H v vs S a as Q k => by
  obtain ⟨i, ys, y, rfl, rfl, e, hz, h⟩ := h
  obtain ⟨p, ep, rfl⟩ := a
  obtain ⟨q, ws, e1, e2, e3⟩ := cell_lst S e
  rw [ep] at e1
  obtain rfl := Option.some.inj e1
  obtain ⟨w, rfl, aw⟩ := one_of as
  obtain ⟨S2, g2⟩ := cell_put S ep e (Paired.app e3 (.cons aw .nil))
  exact ⟨p, ws, w, rfl, rfl, e2, by rw [pair_len e3]; exact hz, k _ _ _ _ _ _ h g2 S2 .non⟩
/-- xs.pop(i) -/
def rdPopAt : A → List A → Mu → DK → Prop := fun x xs μ P => ∃ (n : Nat) (ys : List A) (i : Int) (j : Nat) (y : A), x = .c n ∧ xs = [.d (.int i)] ∧ μ[n]? = some (.lst ys) ∧ i = (j : Int) ∧ j < 2 ^ 62 ∧ ys[j]? = some y ∧ P y (μ.set n (.lst (ys.eraseIdx j)))
theorem seq_nat {n j : Nat} (h : j < n) : seqIndex? (j : Int) n = some j := by
  have := seqIndex_of (k := (j : Int)) (n := n) (by omega) (by omega)
  simpa using this
theorem s_popAt : SimM K "list" rPopAt rdPopAt := fun x xs μ P h F al H v vs S a as Q k => by
  obtain ⟨n, ys, i, j, y, rfl, rfl, e, rfl, hj, hy, h⟩ := h
  obtain ⟨p, ep, rfl⟩ := a
  obtain ⟨q, ws, e1, e2, e3⟩ := cell_lst S e
  rw [ep] at e1
  obtain rfl := Option.some.inj e1
  obtain ⟨w, rfl, aw⟩ := one_of as
  obtain ⟨u, eu, au⟩ := pair_get e3 hy
  have lt := (List.getElem?_eq_some_iff.mp eu).1
  obtain ⟨S2, g2⟩ := cell_put S ep e (Paired.eraseP j e3)
  exact ⟨p, ws, j, j, u, rfl, by rw [dp_int aw], e2, by omega, by omega, seq_nat lt, eu, k _ _ _ _ _ _ h g2 S2 (g2.ab au)⟩
end
/-- an exception: its class, its fields -/
abbrev Flds := Option (List (Str × PyData))
abbrev DX := Value → Flds → Mu → Prop
def KoX (K : PySem.W.Frag) (F : Hp) (al : List Addr) (H : Hp) (Ex : DX) (E : XK) : Prop := ∀ C o μ' F' al' H' d, Ex C o μ' → Grow F al H F' al' H' → Sto K F' al' μ' H' → XdOk K F' o d → E C d H'
theorem KoX.fwd {K : PySem.W.Frag} {F F1 : Hp} {al al1 : List Addr} {H H1 : Hp} {Ex : DX} {E : XK} (k : KoX K F al H Ex E) (g : Grow F al H F1 al1 H1) : KoX K F1 al1 H1 Ex E := fun C o μ' F' al' H' d h g' S x => k C o μ' F' al' H' d h (g.trans g') S x
abbrev DR := List A → Mu → DK → DX → Prop
/-- a promise over data -/
def SpD (K : PySem.W.Frag) (R : DR) : Sp := fun vs H Q E => ∃ xs μ P Ex F al, Sto K F al μ H ∧ Paired (Ab K F al) vs xs ∧ R xs μ P Ex ∧ Ko K F al H P Q ∧ KoX K F al H Ex E
abbrev noX : DX := fun _ _ _ => False
section
variable {X : Cx} {CX : CXT} {k : Nat} {f : Addr} {fd : FuncData} {ps : List Str} {R : DR} {x : Str} {p pos : Pos} {e : Expr} {es : List Expr} {da : DAT}
abbrev dFn (R : DR) (da : DAT) : DT := fun ρ μ P => da ρ μ fun xs μ1 => R xs μ1 P noX
end
structure DEnds where
  nx : Rho → Mu → Prop
  rt : DK
  bk : Rho → Mu → Prop := fun _ _ => False
  ct : Rho → Mu → Prop := fun _ _ => False
  ex : Value → Flds → Rho → Mu → Prop := fun _ _ _ _ => False
abbrev DS := DEnds → Rho → Mu → Prop
structure KoS (K : PySem.W.Frag) (W : WX) (F : Hp) (al : List Addr) (H : Hp) (D : DEnds) (E : Ends) : Prop where
  nx : ∀ ρ' μ' F' al' σ' H', D.nx ρ' μ' → Grow F al H F' al' H' → Sto K F' al' μ' H' → Slots K F' al' σ' ρ' → E.nx σ' H'
  rt : Ko K F al H D.rt E.rt
  bk : ∀ ρ' μ' F' al' σ' H', D.bk ρ' μ' → Grow F al H F' al' H' → Sto K F' al' μ' H' → Slots K F' al' σ' ρ' → E.bk σ' H'
  ct : ∀ ρ' μ' F' al' σ' H', D.ct ρ' μ' → Grow F al H F' al' H' → Sto K F' al' μ' H' → Slots K F' al' σ' ρ' → E.ct σ' H'
  ex : ∀ C o ρ' μ' F' al' σ' H' d, D.ex C o ρ' μ' → Grow F al H F' al' H' → Sto K F' al' μ' H' → Slots K F' al' σ' ρ' → XdOk K F' o d → W C d σ' H'
theorem KoS.fwd {K : PySem.W.Frag} {W : WX} {F F1 : Hp} {al al1 : List Addr} {H H1 : Hp} {D : DEnds} {E : Ends} (k : KoS K W F al H D E) (g : Grow F al H F1 al1 H1) : KoS K W F1 al1 H1 D E :=
  ⟨fun a b c d e f h g' => k.nx a b c d e f h (g.trans g'), k.rt.fwd g, fun a b c d e f h g' => k.bk a b c d e f h (g.trans g'), fun a b c d e f h g' => k.ct a b c d e f h (g.trans g'), fun a b c d e f i j l h g' => k.ex a b c d e f i j l h (g.trans g')⟩
def SimS (K : PySem.W.Frag) (W : WX) (t : TS) (d : DS) : Prop := ∀ ρ μ D, d D ρ μ → ∀ F al σ H, Sto K F al μ H → Slots K F al σ ρ → ∀ E, KoS K W F al H D E → t E σ H
structure DSt (X : Cx) (W : WX) (st : Stmt) (d : DS) : Prop where
  ex : ∃ t, PS X st t ∧ SimS X.K W t d
structure DSs (X : Cx) (W : WX) (st : List Stmt) (d : DS) : Prop where
  ex : ∃ t, PSs X st t ∧ SimS X.K W t d
theorem Slots.set {K : PySem.W.Frag} {F : Hp} {al : List Addr} {σ : L2.St} {ρ : Rho} {i : Nat} {v : V} {x : A} (L : Slots K F al σ ρ) (a : Ab K F al v x) : Slots K F al (σ.set i (some v)) (ρ.set i (some x)) := by
  refine ⟨by rw [List.length_set, List.length_set]; exact L.len, fun j y e => ?_⟩
  by_cases z : j = i
  · subst z
    have lt : j < ρ.length := by
      have := (List.getElem?_eq_some_iff.mp e).1
      rw [List.length_set] at this
      exact this
    rw [List.getElem?_set_self lt] at e
    obtain rfl : x = y := Option.some.inj (Option.some.inj e)
    exact ⟨v, List.getElem?_set_self (by rw [L.len]; exact lt), a⟩
  · rw [List.getElem?_set_ne (Ne.symm z)] at e
    obtain ⟨w, e1, e2⟩ := L.at_ j y e
    exact ⟨w, by rw [List.getElem?_set_ne (Ne.symm z)]; exact e1, e2⟩
section
variable {X : Cx} {W : WX} {st : Stmt} {rest a b : List Stmt} {d d1 d2 : DS} {de : DT} {dc : DTT} {e c : Expr} {pos : Pos}
abbrev dsNext : DS := fun D ρ μ => D.nx ρ μ
abbrev dsSeq (t u : DS) : DS := fun D ρ μ => t { D with nx := u D } ρ μ
theorem dss_nil : DSs X W [] dsNext := ⟨_, pss_nil, fun ρ μ D h F al σ H S L E k => k.nx _ _ _ _ _ _ h Grow.refl S L⟩
theorem dss_one (h : DSt X W st d) : DSs X W [st] d := by
  obtain ⟨_, p, s⟩ := h.ex
  exact ⟨_, pss_one p, s⟩
theorem dss_cons (h1 : DSt X W st d1) (h2 : DSs X W rest d2) : DSs X W (st :: rest) (dsSeq d1 d2) := by
  obtain ⟨_, p1, s1⟩ := h1.ex
  obtain ⟨_, p2, s2⟩ := h2.ex
  refine ⟨_, pss_cons p1 p2, fun ρ μ D h F al σ H S L E k => s1 ρ μ _ h F al σ H S L _ ⟨fun ρ' μ' F' al' σ' H' h' g' S' L' => s2 ρ' μ' D h' F' al' σ' H' S' L' E (k.fwd g'), k.rt, k.bk, k.ct, k.ex⟩⟩
abbrev dsSet (i : Nat) (de : DT) : DS := fun D ρ μ => de ρ μ fun x μ1 => D.nx (ρ.set i (some x)) μ1
theorem ds_set {i : Nat} {x : Str} {pos' : Pos} (hN : X.N.Nodup) (he : DE X e de) (hi : X.N[i]? = some x := by rfl) (hx : Loc X.env.scope x := by first | exact Or.inl rfl | exact Or.inr rfl) (hs : swapsWith e (some (.Name x pos')) pos.line X.env = pure false := by rfl)
    (hf : X.fn x = true ∨ X.env.scope.names.lookup x = some .local := by first | exact .inl rfl | exact .inr rfl | assumption) : DSt X W (.Assign [.Name x pos'] e pos) (dsSet i de) := by
  obtain ⟨_, p, s⟩ := he.ex
  exact ⟨_, ps_set (i := i) hN hi hx p hs hf, fun ρ μ D h F al σ H S L E k => s ρ μ _ h F al σ H S L _ fun v x μ1 F1 al1 H1 q g S1 a => k.nx _ _ _ _ _ _ q g S1 ((g.slots L).set a)⟩
abbrev dsExpr (de : DT) : DS := fun D ρ μ => de ρ μ fun _ μ1 => D.nx ρ μ1
theorem ds_expr (he : DE X e de) (hs : swapsWith e none pos.line X.env = pure false := by rfl) : DSt X W (.Expr e pos) (dsExpr de) := by
  obtain ⟨_, p, s⟩ := he.ex
  exact ⟨_, ps_expr p hs, fun ρ μ D h F al σ H S L E k => s ρ μ _ h F al σ H S L _ fun v x μ1 F1 al1 H1 q g S1 a => k.nx _ _ _ _ _ _ q g S1 (g.slots L)⟩
abbrev dsRet (de : DT) : DS := fun D ρ μ => de ρ μ D.rt
theorem ds_ret (he : DE X e de) : DSt X W (.Return (some e) pos) (dsRet de) := by
  obtain ⟨_, p, s⟩ := he.ex
  exact ⟨_, ps_ret p, fun ρ μ D h F al σ H S L E k => s ρ μ _ h F al σ H S L _ k.rt⟩
abbrev dsIf (dc : DTT) (t u : DS) : DS := fun D ρ μ => dc ρ μ fun b μ1 => if b = true then t D ρ μ1 else u D ρ μ1
theorem ds_if (hc : DTest X c dc) (ha : DSs X W a d1) (hb : DSs X W b d2) : DSt X W (.If c a b pos) (dsIf dc d1 d2) := by
  obtain ⟨_, p0, s0⟩ := hc.ex
  obtain ⟨_, p1, s1⟩ := ha.ex
  obtain ⟨_, p2, s2⟩ := hb.ex
  refine ⟨_, ps_if p0 p1 p2, fun ρ μ D h F al σ H S L E k => s0 ρ μ _ h F al σ H S L _ fun b μ1 F1 al1 H1 q g S1 => ?_⟩
  cases b with
  | true => exact iteT (s1 ρ μ1 D (by rw [if_pos rfl] at q; exact q) F1 al1 σ H1 S1 (g.slots L) E (k.fwd g))
  | false => exact iteF (s2 ρ μ1 D (by rw [if_neg Bool.false_ne_true] at q; exact q) F1 al1 σ H1 S1 (g.slots L) E (k.fwd g))
end
end Dl
set_option Elab.async false
set_option linter.all false
set_option maxRecDepth 100000
set_option maxHeartbeats 4000000
namespace Dl
open PySem PySem.Spec PyProof.Rows L2
def tD (K : PySem.W.Frag) (d : DT) : TE := fun σ H Q => ∃ ρ μ P F al, d ρ μ P ∧ Sto K F al μ H ∧ Slots K F al σ ρ ∧ Ko K F al H P Q
def tDT (K : PySem.W.Frag) (d : DTT) : TT := fun σ H Q => ∃ ρ μ P F al, d ρ μ P ∧ Sto K F al μ H ∧ Slots K F al σ ρ ∧ KoT K F al H P Q
theorem sim_tD {K : PySem.W.Frag} {d : DT} : SimE K (tD K d) d := fun ρ μ P h F al σ H S L Q k => ⟨ρ, μ, P, F, al, h, S, L, k⟩
theorem sim_tDT {K : PySem.W.Frag} {d : DTT} : SimT K (tDT K d) d := fun ρ μ P h F al σ H S L Q k => ⟨ρ, μ, P, F, al, h, S, L, k⟩
theorem DE.pe {X : Cx} {e : Expr} {d : DT} (h : DE X e d) : PE X e (tD X.K d) := by
  obtain ⟨t, p, s⟩ := h.ex
  exact ⟨fun pins s' σ H Q I ⟨ρ, μ, P, F, al, hd, S, L, k⟩ => p.run pins s' σ H Q I (s ρ μ P hd F al σ H S L Q k)⟩
theorem DTest.pt {X : Cx} {e : Expr} {d : DTT} (h : DTest X e d) : PT X e (tDT X.K d) := by
  obtain ⟨t, p, s⟩ := h.ex
  exact ⟨fun pins s' σ H Q I ⟨ρ, μ, P, F, al, hd, S, L, k⟩ => p.run pins s' σ H Q I (s ρ μ P hd F al σ H S L Q k)⟩
/-- what a walk yields: one thing, a new pair -/
inductive Y where
  | one (x : A)
  | two (x y : A)
  | tri (x y z : A)
def AbY (K : PySem.W.Frag) (F : Hp) (al : List Addr) (v : V) : Y → Prop
  | .one x => Ab K F al v x
  | .two x y => ∃ a v1 v2, v = .ref a ∧ SqT K F a [v1, v2] ∧ Ab K F al v1 x ∧ Ab K F al v2 y
  | .tri x y z => ∃ a v1 v2 v3, v = .ref a ∧ SqT K F a [v1, v2, v3] ∧ Ab K F al v1 x ∧ Ab K F al v2 y ∧ Ab K F al v3 z
abbrev RM := Rho → Mu → Prop
abbrev DG := Y → Rho → Mu → RM → Prop
abbrev DGs := List A → Rho → Mu → RM → Prop
def KoG (K : PySem.W.Frag) (F : Hp) (al : List Addr) (H : Hp) (σ : L2.St) (vs : List Nat) (P : RM) (Q : L2.St → Hp → Prop) : Prop :=
  ∀ ρ' μ' F' al' σ' H', P ρ' μ' → Grow F al H F' al' H' → Sto K F' al' μ' H' → Slots K F' al' σ' ρ' → σ'.length = σ.length → (∀ i, i ∉ vs → σ'[i]? = σ[i]?) → Q σ' H'
def SimG (K : PySem.W.Frag) (vs : List Nat) (g : TG) (d : DG) : Prop := ∀ y ρ μ P, d y ρ μ P → ∀ F al σ H v, Sto K F al μ H → Slots K F al σ ρ → AbY K F al v y → ∀ Q, KoG K F al H σ vs P Q → g v σ H Q
def SimGs (K : PySem.W.Frag) (vs : List Nat) (g : TGs) (d : DGs) : Prop := ∀ xs ρ μ P, d xs ρ μ P → ∀ F al σ H ws, Sto K F al μ H → Slots K F al σ ρ → Paired (Ab K F al) ws xs → ∀ Q, KoG K F al H σ vs P Q → g ws σ H Q
structure DGt (X : Cx) (tg : Expr) (vs : List Nat) (d : DG) : Prop where
  ex : ∃ g, PG X tg g ∧ SimG X.K vs g d
structure DGts (X : Cx) (tgs : List Expr) (vs : List Nat) (d : DGs) : Prop where
  ex : ∃ g, PGs X tgs g ∧ SimGs X.K vs g d
def tDG (K : PySem.W.Frag) (vs : List Nat) (d : DG) : TG := fun v σ H Q => ∃ y ρ μ P F al, d y ρ μ P ∧ Sto K F al μ H ∧ Slots K F al σ ρ ∧ AbY K F al v y ∧ KoG K F al H σ vs P Q
theorem sim_tDG {K : PySem.W.Frag} {vs : List Nat} {d : DG} : SimG K vs (tDG K vs d) d := fun y ρ μ P h F al σ H v S L a Q k => ⟨y, ρ, μ, P, F, al, h, S, L, a, k⟩
theorem DGt.pg {X : Cx} {e : Expr} {vs : List Nat} {d : DG} (h : DGt X e vs d) : PG X e (tDG X.K vs d) := by
  obtain ⟨t, p, s⟩ := h.ex
  exact ⟨fun pins s' σ H v u Q I r ⟨y, ρ, μ, P, F, al, hd, S, L, a, k⟩ => p.run pins s' σ H v u Q I r (s y ρ μ P hd F al σ H v S L a Q k)⟩
/-- a pair of data is data -/
def yOne : Y → Option A
  | .one x => some x

  | _ => none
theorem yOne_ab {K : PySem.W.Frag} {F : Hp} {al : List Addr} {v : V} {y : Y} {x : A} (e : yOne y = some x) (h : AbY K F al v y) : Ab K F al v x := by
  unfold yOne at e
  split at e
  · obtain rfl := Option.some.inj e
    exact h
  · cases e
abbrev dgName (i : Nat) : DG := fun y ρ μ P => ∃ x, yOne y = some x ∧ P (ρ.set i (some x)) μ
/-- the parts of what is taken apart -/
def yPart : Y → Option (List A)
  | .two x y => some [x, y]
  | .tri x y z => some [x, y, z]
  | .one (.d (.tuple ds)) => some (ds.map .d)
  | _ => none
theorem yPart_ab {K : PySem.W.Frag} {F : Hp} {al : List Addr} {v : V} {y : Y} {xs : List A} (e : yPart y = some xs) (h : AbY K F al v y) : ∃ a vs, v = .ref a ∧ SqT K F a vs ∧ Paired (Ab K F al) vs xs := by
  unfold yPart at e
  split at e
  · obtain rfl := Option.some.inj e
    obtain ⟨p, v1, v2, rfl, q, a1, a2⟩ := h
    exact ⟨p, _, rfl, q, .cons a1 (.cons a2 .nil)⟩
  · obtain rfl := Option.some.inj e
    obtain ⟨p, v1, v2, v3, rfl, q, a1, a2, a3⟩ := h
    exact ⟨p, _, rfl, q, .cons a1 (.cons a2 (.cons a3 .nil))⟩
  · obtain rfl := Option.some.inj e
    obtain ⟨p, vs, rfl, q, r⟩ := dp_tup h
    exact ⟨p, vs, rfl, q, DpAll.to r⟩
  · cases e
abbrev dgTup (n : Nat) (d : DGs) : DG := fun y ρ μ P => ∃ xs, yPart y = some xs ∧ xs.length = n ∧ d xs ρ μ P
abbrev dgNil : DGs := fun xs ρ μ P => xs = [] ∧ P ρ μ
abbrev dgCons (d : DG) (ds : DGs) : DGs := fun xs ρ μ P => ∃ x r, xs = x :: r ∧ d (.one x) ρ μ fun ρ1 μ1 => ds r ρ1 μ1 P
section
variable {X : Cx} {W : WX} {pos : Pos} {K : PySem.W.Frag}
theorem dg_name {i : Nat} {x : Str} (hN : X.N.Nodup) (hi : X.N[i]? = some x := by rfl) (hx : Loc X.env.scope x := by first | exact Or.inl rfl | exact Or.inr rfl) (hf : X.fn x = true ∨ X.env.scope.names.lookup x = some .local := by first | exact .inl rfl | exact .inr rfl | assumption) : DGt X (.Name x pos) [i] (dgName i) :=
  ⟨_, pg_name hN hi hx hf, fun y ρ μ P h F al σ H v S L a Q k => by
    obtain ⟨x, e, h⟩ := h
    refine k _ _ _ _ _ _ h Grow.refl S (L.set (yOne_ab e a)) (by rw [List.length_set]) fun j hj => ?_
    rw [List.getElem?_set_ne]
    intro z
    exact hj (by rw [z]; exact List.mem_singleton.mpr rfl)⟩
theorem dgs_nil : DGts X [] [] dgNil := ⟨_, pgs_nil, fun xs ρ μ P h F al σ H ws S L a Q k => by
  obtain ⟨rfl, h⟩ := h
  cases a
  exact ⟨rfl, k _ _ _ _ _ _ h Grow.refl S L rfl fun _ _ => rfl⟩⟩
theorem dgs_cons {e : Expr} {es : List Expr} {v1 v2 : List Nat} {d1 : DG} {d2 : DGs} (h1 : DGt X e v1 d1) (h2 : DGts X es v2 d2)
    (hs : (assignEach (e :: es) X.env).map (·.2) = assign e X.env :: (assignEach es X.env).map (·.2) := by rfl) : DGts X (e :: es) (v1 ++ v2) (dgCons d1 d2) := by
  obtain ⟨_, p1, s1⟩ := h1.ex
  obtain ⟨_, p2, s2⟩ := h2.ex
  refine ⟨_, pgs_cons p1 p2 hs, fun xs ρ μ P h F al σ H ws S L a Q k => ?_⟩
  obtain ⟨x, r, rfl, h⟩ := h
  cases a with
  | cons a b =>
    refine ⟨_, _, rfl, s1 (.one x) ρ μ _ h F al σ H _ S L a _ fun ρ1 μ1 F1 al1 σ1 H1 q g S1 L1 hl ho => ?_⟩
    refine s2 r ρ1 μ1 P q F1 al1 σ1 H1 _ S1 L1 (g.abs b) Q fun ρ2 μ2 F2 al2 σ2 H2 q2 g2 S2 L2 hl2 ho2 => ?_
    refine k _ _ _ _ _ _ q2 (g.trans g2) S2 L2 (hl2.trans hl) fun i hi => ?_
    rw [List.mem_append, not_or] at hi
    rw [ho2 i hi.2, ho i hi.1]
theorem dg_tup {es : List Expr} {k : Nat} {vs : List Nat} {d : DGs} {n : Nat} (hc : X.calm = true) (h : DGts X es vs d)
    (hn : (assignEach es X.env).length = n := by rfl) (hst : (assignEach es X.env).findIdx? (·.1) = none := by rfl) : DGt X (.Tuple es k pos) vs (dgTup n d) := by
  obtain ⟨_, p, s⟩ := h.ex
  refine ⟨_, pg_tup hc p hn hst, fun y ρ μ P h F al σ H v S L a Q k => ?_⟩
  obtain ⟨xs, e, hl, h⟩ := h
  obtain ⟨p, ws, rfl, q, r⟩ := yPart_ab e a
  exact ⟨p, ws, rfl, S.seqT q, by rw [pair_len r]; exact hl, s xs ρ μ P h F al σ H ws S L r Q k⟩
abbrev dsAsg (de : DT) (dg : DG) : DS := fun D ρ μ => de ρ μ fun x μ1 => dg (.one x) ρ μ1 D.nx
theorem ds_asg {tg e : Expr} {vs : List Nat} {de : DT} {dg : DG} (he : DE X e de) (hg : DGt X tg vs dg) (hs : swapsWithSole [tg] e pos.line X.env = pure false := by rfl) (hw : swappedStores [tg] e X.env = pure none := by rfl)
    (h1 : (assignEach [tg] X.env).map (·.2) = [assign tg X.env] := by rfl) : DSt X W (.Assign [tg] e pos) (dsAsg de dg) := by
  obtain ⟨_, p1, s1⟩ := he.ex
  obtain ⟨_, p2, s2⟩ := hg.ex
  refine ⟨_, ps_asg p1 p2 hs hw h1, fun ρ μ D h F al σ H S L E k => s1 ρ μ _ h F al σ H S L _ fun v x μ1 F1 al1 H1 q g S1 a => ?_⟩
  exact s2 (.one x) ρ μ1 _ q F1 al1 σ H1 v S1 (g.slots L) a _ fun ρ2 μ2 F2 al2 σ2 H2 q2 g2 S2 L2 _ _ => k.nx _ _ _ _ _ _ q2 (g.trans g2) S2 L2
end
end Dl
set_option Elab.async false
set_option linter.all false
set_option maxRecDepth 100000
set_option maxHeartbeats 4000000
namespace Dl
open PySem PySem.Spec PyProof.Rows L2
section
variable {X : Cx} {W : WX} {pos : Pos} {K : PySem.W.Frag}
theorem three_of {F : Hp} {al : List Addr} {vs : List V} {y z u : A} (h : Paired (Ab K F al) vs [y, z, u]) : ∃ v w q, vs = [v, w, q] ∧ Ab K F al v y ∧ Ab K F al w z ∧ Ab K F al q u := by
  cases h with
  | cons a b =>
    cases b with
    | cons b c =>
      cases c with
      | cons c d =>
        cases d
        exact ⟨_, _, _, rfl, a, b, c⟩
abbrev dsPar (i j : Nat) (da : DAT) : DS := fun D ρ μ => da ρ μ fun xs μ1 => ∃ x y, xs = [x, y] ∧ D.nx ((ρ.set i (some x)).set j (some y)) μ1
theorem ds_par {i j : Nat} {x y : Str} {a b : Expr} {da : DAT} {px py pt : Pos} {kt k2 pt2} (hc : X.calm = true) (hN : X.N.Nodup) (ha : DA X [a, b] da) (hi : X.N[i]? = some x := by rfl) (hj : X.N[j]? = some y := by rfl) (hij : i ≠ j := by decide)
    (hx : X.env.scope.names.lookup x = some .local := by rfl) (hy : X.env.scope.names.lookup y = some .local := by rfl)
    (hw : swappedStores [.Tuple [.Name x px, .Name y py] kt pt] (.Tuple [a, b] k2 pt2) X.env = pure (some [x, y]) := by rfl)
    (hs : swapsWithSole [.Tuple [.Name x px, .Name y py] kt pt] (.Tuple [a, b] k2 pt2) pos.line X.env = pure false := by rfl) :
    DSt X W (.Assign [.Tuple [.Name x px, .Name y py] kt pt] (.Tuple [a, b] k2 pt2) pos) (dsPar i j da) := by
  obtain ⟨_, p, s⟩ := ha.ex
  refine ⟨_, ps_par hc hN hi hj hij hx hy p hw hs, fun ρ μ D h F al σ H S L E k => s ρ μ _ h F al σ H S L _ fun vs xs μ1 F1 al1 H1 q g S1 a => ?_⟩
  obtain ⟨x, y, rfl, q⟩ := q
  obtain ⟨v, w, rfl, a1, a2⟩ := two_of a
  exact ⟨v, w, rfl, k.nx _ _ _ _ _ _ q g S1 (((g.slots L).set a1).set a2)⟩
abbrev dsPar3 (i j l : Nat) (da : DAT) : DS := fun D ρ μ => da ρ μ fun xs μ1 => ∃ x y z, xs = [x, y, z] ∧ D.nx (((ρ.set i (some x)).set j (some y)).set l (some z)) μ1
theorem ds_par3 {i j l : Nat} {x y z : Str} {a b c : Expr} {da : DAT} {px py pz pt : Pos} {kt k2 pt2} (hc : X.calm = true) (hN : X.N.Nodup) (ha : DA X [a, b, c] da) (hi : X.N[i]? = some x := by rfl) (hj : X.N[j]? = some y := by rfl) (hl : X.N[l]? = some z := by rfl)
    (hij : i ≠ j := by decide) (hil : i ≠ l := by decide) (hjl : j ≠ l := by decide)
    (hx : X.env.scope.names.lookup x = some .local := by rfl) (hy : X.env.scope.names.lookup y = some .local := by rfl) (hz : X.env.scope.names.lookup z = some .local := by rfl)
    (hw : swappedStores [.Tuple [.Name x px, .Name y py, .Name z pz] kt pt] (.Tuple [a, b, c] k2 pt2) X.env = pure (some [x, y, z]) := by rfl)
    (hs : swapsWithSole [.Tuple [.Name x px, .Name y py, .Name z pz] kt pt] (.Tuple [a, b, c] k2 pt2) pos.line X.env = pure false := by rfl) :
    DSt X W (.Assign [.Tuple [.Name x px, .Name y py, .Name z pz] kt pt] (.Tuple [a, b, c] k2 pt2) pos) (dsPar3 i j l da) := by
  obtain ⟨_, p, s⟩ := ha.ex
  refine ⟨_, ps_par3 hc hN hi hj hl hij hil hjl hx hy hz p hw hs, fun ρ μ D h F al σ H S L E k => s ρ μ _ h F al σ H S L _ fun vs xs μ1 F1 al1 H1 q g S1 a => ?_⟩
  obtain ⟨x, y, z, rfl, q⟩ := q
  obtain ⟨v, w, u, rfl, a1, a2, a3⟩ := three_of a
  exact ⟨v, w, u, rfl, k.nx _ _ _ _ _ _ q g S1 ((((g.slots L).set a1).set a2).set a3)⟩
/-- o[i] = x, o a cell -/
abbrev dgSub (do_ di : DT) : DG := fun y ρ μ P => ∃ x, yOne y = some x ∧ do_ ρ μ fun o μ1 => di ρ μ1 fun k μ2 => ∃ n xs i j, o = .c n ∧ k = .d (.int i) ∧ μ2[n]? = some (.lst xs) ∧ ixN xs.length i = some j ∧ P ρ (μ2.set n (.lst (xs.set j x)))
theorem dg_sub {o i : Expr} {do_ di : DT} (h1 : DE X o do_) (h2 : DE X i di)
    (ha : ∀ v, assign (.Subscript o i pos) X.env v = (do
      let ov ← holding [v] (eval o X.env)
      let iv ← holding [v, ov] (eval i X.env)
      standAt pos
      holding [v, ov, iv] (setItem ov iv v)
      release [v, ov, iv] []) := by intro _; rfl) : DGt X (.Subscript o i pos) [] (dgSub do_ di) := by
  obtain ⟨_, p1, s1⟩ := h1.ex
  obtain ⟨_, p2, s2⟩ := h2.ex
  refine ⟨_, pg_sub p1 p2 set_list ha, fun y ρ μ P h F al σ H v S L a Q k => ?_⟩
  obtain ⟨x, e, h⟩ := h
  have a := yOne_ab e a
  refine s1 ρ μ _ h F al σ H S L _ fun ov xo μ1 F1 al1 H1 q1 g1 S1 a1 => s2 ρ μ1 _ q1 F1 al1 σ H1 S1 (g1.slots L) _ fun iv xi μ2 F2 al2 H2 q2 g2 S2 a2 => ?_
  obtain ⟨n, xs, i, j, rfl, rfl, hc, hj, q⟩ := q2
  obtain ⟨p, ep, rfl⟩ := g2.ab a1
  obtain ⟨p', vs, e1, e2, e3⟩ := cell_lst S2 hc
  rw [ep] at e1
  obtain rfl := Option.some.inj e1
  obtain ⟨S3, g3⟩ := cell_put S2 ep hc (Paired.setP ((g1.trans g2).ab a) j e3)
  have g := (g1.trans g2).trans g3
  exact ⟨p, vs, i, j, rfl, dp_int a2, e2, by rw [pair_len e3]; exact hj, k _ _ _ _ _ _ q g S3 (g.slots L) rfl fun _ _ => rfl⟩
end
/-- the items of a slice -/
def cut {α : Type} (xs : List α) (lo hi : Option Int) : List α := (xs.drop (HT.sIx xs.length 0 lo)).take (HT.sIx xs.length xs.length hi - HT.sIx xs.length 0 lo)
theorem cut_map {α β : Type} (f : α → β) (xs : List α) (lo hi : Option Int) : cut (xs.map f) lo hi = (cut xs lo hi).map f := by
  unfold cut
  rw [List.length_map, List.map_take, List.map_drop]
theorem cut_pair {α β : Type} {R : α → β → Prop} {l : List α} {m : List β} (h : Paired R l m) (lo hi : Option Int) : Paired R (cut l lo hi) (cut m lo hi) := by
  unfold cut
  rw [pair_len h]
  exact Paired.takeP _ (Paired.dropP _ h)
theorem cut_dp {K : PySem.W.Frag} {F : Hp} {vs : List V} {ds : List PyData} (h : DpAll K F vs ds) (lo hi : Option Int) : DpAll K F (cut vs lo hi) (cut ds lo hi) := by
  unfold cut
  rw [DpAll.len h]
  exact DpAll.take _ (DpAll.drop _ h)
abbrev DO := Rho → Mu → (Option Int → Mu → Prop) → Prop
def SimO (K : PySem.W.Frag) (t : TO) (d : DO) : Prop := ∀ ρ μ P, d ρ μ P → ∀ F al σ H, Sto K F al μ H → Slots K F al σ ρ → ∀ (Q : Option Int → Hp → Prop), (∀ o μ' F' al' H', P o μ' → Grow F al H F' al' H' → Sto K F' al' μ' H' → Q o H') → t σ H Q
structure DOp (X : Cx) (e : Option Expr) (d : DO) : Prop where
  ex : ∃ t, PO X e t ∧ SimO X.K t d
abbrev doNone : DO := fun _ μ P => P none μ
abbrev doSome (d : DT) : DO := fun ρ μ P => d ρ μ fun x μ1 => ∃ i, x = .d (.int i) ∧ P (some i) μ1
section
variable {X : Cx} {e : Expr} {lo hi : Option Expr} {de : DT} {dl dh : DO} {pos p2 : Pos} {K : PySem.W.Frag}
theorem do_none : DOp X none doNone := ⟨_, po_none, fun ρ μ P h F al σ H S L Q k => k _ _ _ _ _ h Grow.refl S⟩
theorem do_some (h : DE X e de) : DOp X (some e) (doSome de) := by
  obtain ⟨_, p, s⟩ := h.ex
  refine ⟨_, po_some p, fun ρ μ P h F al σ H S L Q k => s ρ μ _ h F al σ H S L _ fun v x μ1 F1 al1 H1 q g S1 a => ?_⟩
  obtain ⟨i, rfl, q⟩ := q
  exact ⟨i, dp_int a, k _ _ _ _ _ q g S1⟩
/-- what a slice is -/
def rdCut : A → Option Int → Option Int → Mu → DK → Prop := fun x lo hi μ P =>
  (∃ s, x = .d (.str s) ∧ s.length ≤ sizeLine ∧ P (.d (.str (cutS s lo hi))) μ) ∨ (∃ ds, x = .d (.tuple ds) ∧ P (.d (.tuple (cut ds lo hi))) μ) ∨
    (∃ ds, x = .d (.list ds) ∧ P (.d (.list (cut ds lo hi))) μ) ∨ ∃ n xs, x = .c n ∧ μ[n]? = some (.lst xs) ∧ ((∃ ds, xs = ds.map A.d ∧ P (.d (.list (cut ds lo hi))) μ) ∨ P (.c μ.length) (μ ++ [.lst (cut xs lo hi)]))
abbrev dSlice (rd : A → Option Int → Option Int → Mu → DK → Prop) (de : DT) (dl dh : DO) : DT := fun ρ μ P => de ρ μ fun x μ1 => dl ρ μ1 fun l μ2 => dh ρ μ2 fun h μ3 => rd x l h μ3 P
def rSlN (K : PySem.W.Frag) : V → Option Int → Option Int → Hp → VK → Prop := fun x lo hi H Q => ∃ a xs, x = .ref a ∧ SqT K H a xs ∧
  (HT.sIx xs.length 0 lo = 0 ∧ HT.sIx xs.length xs.length hi = xs.length → Q (.ref a) H) ∧ (¬ (HT.sIx xs.length 0 lo = 0 ∧ HT.sIx xs.length xs.length hi = xs.length) → ∀ p ob, H p = none → ob.dict = none → Q (.ref p) (upd H p (.frz ob (.tup (cutV xs lo hi)))))
theorem sl_tupN {X : Cx} : SlR X (rSlN X.K) := by
  intro pins s σ H x v vl vu lo hi sl Q I rx hs pl pu h
  obtain ⟨a, vs, rfl, sq, all, some_⟩ := h
  by_cases w : HT.sIx vs.length 0 lo = 0 ∧ HT.sIx vs.length vs.length hi = vs.length
  · exact sl_tupA pins s σ H _ v vl vu lo hi sl Q I rx hs pl pu ⟨a, vs, rfl, sq, all, fun n => absurd w n⟩
  · cases rx
    obtain ⟨its, r1, tp, small⟩ := I.tuple sq
    have ln : its.toArray.size = vs.length := by rw [List.size_toArray]; exact r1.length.symm
    refine ⟨"tuple", _, PyProof.Rows.slot_tuple_getitem.lookup, tp.typeIs, ?_⟩
    refine HT.getItem_tuple_cut tp hs pl pu (by rw [ln]; exact w) ?_ (by rw [ln]; exact small)
    rw [ln]
    let ob : Obj := { cls := .type "tuple", data := .seq ((its.toArray.toList.drop (HT.sIx vs.length 0 lo)).take (HT.sIx vs.length vs.length hi - HT.sIx vs.length 0 lo)).toArray }
    refine ⟨.ref s.heap.objs.size, upd H s.heap.objs.size (.frz ob (.tup (cutV vs lo hi))), I.laid (t' := s.toks) (fun _ _ e => Heap.get?_push_of_some _ e) (Nat.le_refl _) ?_, rfl, some_ w _ ob (I.hok.fresh (Nat.le_refl _)) rfl⟩
    exact ⟨Heap.get?_push_size _ rfl, Nat.le_trans (cutV_length vs lo hi) small, _, (r1.drop (HT.sIx vs.length 0 lo)).take (HT.sIx vs.length vs.length hi - HT.sIx vs.length 0 lo), IsTup.new _ _⟩
theorem d_slice (he : DE X e de) (hl : DOp X lo dl) (hu : DOp X hi dh) : DE X (.Subscript e (.Slice lo hi none p2) pos) (dSlice rdCut de dl dh) := by
  obtain ⟨_, p1, s1⟩ := he.ex
  obtain ⟨_, p2, s2⟩ := hl.ex
  obtain ⟨_, p3, s3⟩ := hu.ex
  refine ⟨_, pe_slice (sl_str.or (sl_tupN.or sl_list)) p1 p2 p3, fun ρ μ P h F al σ H S L Q k => s1 ρ μ _ h F al σ H S L _ fun v x μ1 F1 al1 H1 q1 g1 S1 a1 => ?_⟩
  refine s2 ρ μ1 _ q1 F1 al1 σ H1 S1 (g1.slots L) _ fun l μ2 F2 al2 H2 q2 g2 S2 => s3 ρ μ2 _ q2 F2 al2 σ H2 S2 (g2.slots (g1.slots L)) _ fun u μ3 F3 al3 H3 q3 g3 S3 => ?_
  have g := (g1.trans g2).trans g3
  have a := (g2.trans g3).ab a1
  have k := k.fwd g
  rcases q3 with ⟨s, rfl, hz, q⟩ | ⟨ds, rfl, q⟩ | ⟨ds, rfl, q⟩ | ⟨n, xs, rfl, hc, q⟩
  · exact .inl ⟨s, dp_str a, hz, k.now q S3 (.str _)⟩
  · obtain ⟨p, vs, rfl, e1, e2⟩ := dp_tup a
    refine .inr (.inl ⟨p, vs, rfl, S3.seqT e1, fun w => ?_, fun w p' ob hp hd => ?_⟩)
    · refine k.now q S3 ?_
      have : cut ds l u = ds := by
        have z := DpAll.len e2
        unfold cut
        rw [← z, w.1, w.2, List.drop_zero, Nat.sub_zero, z, List.take_length]
      rw [this]
      exact a
    · obtain ⟨S4, g4⟩ := S3.lay (o := .frz ob (.tup (cutV vs l u))) hp
      exact k _ _ _ _ _ _ q g4 S4 (.tup (.inl ⟨ob, upd_same, hd⟩) (DpAll.mono g4.f (cut_dp e2 l u)))
  · obtain ⟨p, vs, rfl, e1, e2⟩ := dp_lst a
    refine .inr (.inr ⟨p, vs, rfl, S3.seq e1, fun p' hp => ?_⟩)
    obtain ⟨S4, g4⟩ := S3.lay (o := .lst (cutV vs l u)) hp
    exact k _ _ _ _ _ _ q g4 S4 (.lst (.inl (.inl upd_same)) (DpAll.mono g4.f (cut_dp e2 l u)))
  · obtain ⟨p, ep, rfl⟩ := a
    obtain ⟨p', vs, e1, e2, e3⟩ := cell_lst S3 hc
    rw [ep] at e1
    obtain rfl := Option.some.inj e1
    refine .inr (.inr ⟨p, vs, rfl, .inl (.inl e2), fun p' hp => ?_⟩)
    rcases q with ⟨ds, rfl, q⟩ | q
    · obtain ⟨S4, g4⟩ := S3.lay (o := .lst (cutV vs l u)) hp
      exact k _ _ _ _ _ _ q g4 S4 (.lst (.inl (.inl upd_same)) (DpAll.mono g4.f (cut_dp (DpAll.of e3) l u)))
    · obtain ⟨S4, g4⟩ := S3.cellNew (ho := .lst (cutV vs l u)) (o := .lst (cut xs l u)) hp (cut_pair e3 l u)
      refine k _ _ _ _ _ _ q g4 S4 ⟨p', ?_, rfl⟩
      rw [← S3.len, List.getElem?_append_right (Nat.le_refl _), Nat.sub_self]
      rfl
end
end Dl
set_option Elab.async false
set_option linter.all false
set_option maxRecDepth 100000
set_option maxHeartbeats 4000000
namespace Dl
open PySem PySem.Spec PyProof.Rows L2
/-- the walk J yields ys, one after the other, as long as ok holds of the cells at each turn -/
structure JW (K : PySem.W.Frag) (F : Hp) (al : List Addr) (H : Hp) (J : It) (ys : List Y) (ok : Mu → Prop) : Prop where
  go : ∀ F2 al2 μ2 H2 i y, Grow F al H F2 al2 H2 → Sto K F2 al2 μ2 H2 → ok μ2 → ys[i]? = some y → J.go i H2 ∧ ∀ x H3, J.yld i H2 x H3 → ∃ F3, Grow F2 al2 H2 F3 al2 H3 ∧ Sto K F3 al2 μ2 H3 ∧ AbY K F3 al2 x y
  stop : ∀ F2 al2 μ2 H2, Grow F al H F2 al2 H2 → Sto K F2 al2 μ2 H2 → ok μ2 → J.stop ys.length H2
def KoI (K : PySem.W.Frag) (F : Hp) (al : List Addr) (H : Hp) (P : List Y → (Mu → Prop) → Mu → Prop) (R : It → Hp → Prop) : Prop :=
  ∀ J ys ok μ' F' al' H', P ys ok μ' → Grow F al H F' al' H' → Sto K F' al' μ' H' → JW K F' al' H' J ys ok → R J H'
abbrev DI := Rho → Mu → (List Y → (Mu → Prop) → Mu → Prop) → Prop
def SimI (K : PySem.W.Frag) (w : TI) (d : DI) : Prop := ∀ ρ μ P, d ρ μ P → ∀ F al σ H, Sto K F al μ H → Slots K F al σ ρ → ∀ R, KoI K F al H P R → w σ H R
structure DIt (X : Cx) (tg iter : Expr) (d : DI) : Prop where
  ex : ∃ w, PI X tg iter w ∧ SimI X.K w d
section
variable {X : Cx} {tg e e2 : Expr} {de : DT} {da : DAT} {K : PySem.W.Frag} {p pos : Pos}
def oneD (ds : List PyData) : List Y := ds.map fun d => .one (.d d)
abbrev always : Mu → Prop := fun _ => True
theorem oneD_get {ds : List PyData} {i : Nat} {y : Y} (h : (oneD ds)[i]? = some y) : ∃ d, ds[i]? = some d ∧ y = .one (.d d) := by
  unfold oneD at h
  rw [List.getElem?_map] at h
  cases e : ds[i]? with
  | none => rw [e] at h; cases h
  | some d =>
    rw [e] at h
    exact ⟨d, rfl, (Option.some.inj h).symm⟩
theorem jw_list {F : Hp} {al : List Addr} {H : Hp} {a : Addr} {vs : List V} {ds : List PyData} (h : SqL K F a vs) (r : DpAll K F vs ds) : JW K F al H (Itl K a) (oneD ds) always where
  go F2 al2 μ2 H2 i y g S _ hy := by
    obtain ⟨d, e, rfl⟩ := oneD_get hy
    obtain ⟨v, e1, av⟩ := DpAll.get r e
    refine ⟨⟨vs, v, S.seq (g.f.seq h), e1⟩, fun x H3 hx => ?_⟩
    obtain ⟨rfl, hx⟩ := hx
    have := hx vs (S.seq (g.f.seq h))
    rw [e1] at this
    obtain rfl := Option.some.inj this
    exact ⟨F2, Grow.refl, S, Dp.mono g.f av⟩
  stop F2 al2 μ2 H2 g S _ := ⟨vs, S.seq (g.f.seq h), by rw [DpAll.len r]; unfold oneD; rw [List.length_map]; exact Nat.le_refl _⟩
theorem jw_tup {F : Hp} {al : List Addr} {H : Hp} {a : Addr} {vs : List V} {ds : List PyData} (h : SqT K F a vs) (r : DpAll K F vs ds) : JW K F al H (Itt K a) (oneD ds) always where
  go F2 al2 μ2 H2 i y g S _ hy := by
    obtain ⟨d, e, rfl⟩ := oneD_get hy
    obtain ⟨v, e1, av⟩ := DpAll.get r e
    have q := S.seqT (sqT_mono g.f h)
    refine ⟨⟨vs, v, q, e1⟩, fun x H3 hx => ?_⟩
    obtain ⟨rfl, hx⟩ := hx
    have := hx vs q
    rw [e1] at this
    obtain rfl := Option.some.inj this
    exact ⟨F2, Grow.refl, S, Dp.mono g.f av⟩
  stop F2 al2 μ2 H2 g S _ := ⟨vs, S.seqT (sqT_mono g.f h), by rw [DpAll.len r]; unfold oneD; rw [List.length_map]; exact Nat.le_refl _⟩
theorem jw_cell {F : Hp} {al : List Addr} {H : Hp} {a : Addr} {n : Nat} {xs : List A} (h : al[n]? = some a) : JW K F al H (Itl K a) (xs.map .one) (fun μ => μ[n]? = some (.lst xs)) where
  go F2 al2 μ2 H2 i y g S hok hy := by
    rw [List.getElem?_map] at hy
    obtain ⟨p, vs, e1, e2, e3⟩ := cell_lst S hok
    obtain ⟨t, rfl⟩ := g.px
    rw [List.getElem?_append_left (List.getElem?_eq_some_iff.mp h).1, h] at e1
    obtain rfl := Option.some.inj e1
    cases e : xs[i]? with
    | none => rw [e] at hy; cases hy
    | some x =>
      rw [e] at hy
      obtain rfl := Option.some.inj hy
      obtain ⟨v, ev, av⟩ := pair_get e3 e
      have q : SqL K H2 a vs := .inl (.inl e2)
      refine ⟨⟨vs, v, q, ev⟩, fun x' H3 hx => ?_⟩
      obtain ⟨rfl, hx⟩ := hx
      have := hx vs q
      rw [ev] at this
      obtain rfl := Option.some.inj this
      exact ⟨F2, Grow.refl, S, av⟩
  stop F2 al2 μ2 H2 g S hok := by
    obtain ⟨p, vs, e1, e2, e3⟩ := cell_lst S hok
    obtain ⟨t, rfl⟩ := g.px
    rw [List.getElem?_append_left (List.getElem?_eq_some_iff.mp h).1, h] at e1
    obtain rfl := Option.some.inj e1
    exact ⟨vs, .inl (.inl e2), by rw [List.length_map, pair_len e3]; exact Nat.le_refl _⟩
/-- range -/
def rngY (lo : Int) (n : Nat) : List Y := (List.range n).map fun (i : Nat) => .one (.d (.int (lo + (i : Int))))
theorem rngY_len (lo : Int) (n : Nat) : (rngY lo n).length = n := by
  unfold rngY
  rw [List.length_map, List.length_range]
theorem rngY_get {lo : Int} {n i : Nat} {y : Y} (h : (rngY lo n)[i]? = some y) : i < n ∧ y = .one (.d (.int (lo + (i : Int)))) := by
  have lt := (List.getElem?_eq_some_iff.mp h).1
  rw [rngY_len] at lt
  unfold rngY at h
  rw [List.getElem?_map, List.getElem?_range lt] at h
  exact ⟨lt, (Option.some.inj h).symm⟩
theorem jw_range {F : Hp} {al : List Addr} {H : Hp} {lo : Int} {n : Nat} : JW K F al H (Itr lo n) (rngY lo n) always where
  go F2 al2 μ2 H2 i y g S _ hy := by
    obtain ⟨lt, rfl⟩ := rngY_get hy
    refine ⟨lt, fun x H3 hx => ?_⟩
    obtain ⟨rfl, rfl⟩ := hx
    exact ⟨F2, Grow.refl, S, .int _⟩
  stop F2 al2 μ2 H2 g S _ := by rw [rngY_len]; exact Nat.le_refl _
abbrev dRng1 (da : DAT) : DI := fun ρ μ P => da ρ μ fun xs μ1 => ∃ j : Int, xs = [.d (.int j)] ∧ -(2 ^ 62) ≤ j ∧ j < 2 ^ 62 ∧ P (rngY 0 j.toNat) always μ1
abbrev dRng2 (da : DAT) : DI := fun ρ μ P => da ρ μ fun xs μ1 => ∃ i j : Int, xs = [.d (.int i), .d (.int j)] ∧ (-(2 ^ 62) ≤ i ∧ i < 2 ^ 62 ∧ -(2 ^ 62) ≤ j ∧ j < 2 ^ 62) ∧ P (rngY i (j - i).toNat) always μ1
theorem di_range1 (ha : DA X [e] da) (hm : X.mg "range" = none) (hg : Gl X "range" := by rfl) (hs : starEach [e] X.env = [(false, eval e X.env)] := by rfl) : DIt X tg (.Call (.Name "range" p) [e] [] pos) (dRng1 da) := by
  obtain ⟨_, p1, s⟩ := ha.ex
  refine ⟨_, pi_range1 hg hm p1 hs, fun ρ μ P h F al σ H S L R k => s ρ μ _ h F al σ H S L _ fun vs xs μ1 F1 al1 H1 q g S1 a => ?_⟩
  obtain ⟨j, rfl, h1, h2, q⟩ := q
  obtain ⟨v, rfl, av⟩ := one_of a
  exact ⟨j, by rw [dp_int av], h1, h2, k _ _ _ _ _ _ _ q g S1 jw_range⟩
theorem di_range2 (ha : DA X [e, e2] da) (hm : X.mg "range" = none) (hg : Gl X "range" := by rfl) (hs : starEach [e, e2] X.env = [(false, eval e X.env), (false, eval e2 X.env)] := by rfl) (hs2 : starEach [e2] X.env = [(false, eval e2 X.env)] := by rfl) : DIt X tg (.Call (.Name "range" p) [e, e2] [] pos) (dRng2 da) := by
  obtain ⟨_, p1, s⟩ := ha.ex
  refine ⟨_, pi_range2 hg hm p1 hs hs2, fun ρ μ P h F al σ H S L R k => s ρ μ _ h F al σ H S L _ fun vs xs μ1 F1 al1 H1 q g S1 a => ?_⟩
  obtain ⟨i, j, rfl, hb, q⟩ := q
  obtain ⟨v, w, rfl, av, aw⟩ := two_of a
  exact ⟨i, j, by rw [dp_int av, dp_int aw], hb, k _ _ _ _ _ _ _ q g S1 jw_range⟩
/-- the signs of a str -/
def chrY (z : Str) : List Y := z.cps.toList.map fun c => .one (.d (.str ⟨#[c]⟩))
/-- enumerate of a list of data, or of a cell -/
def enumY (xs : List A) : List Y := xs.mapIdx fun i x => .two (.d (.int (i : Nat))) x
theorem enumY_get {xs : List A} {i : Nat} {y : Y} (h : (enumY xs)[i]? = some y) : ∃ x, xs[i]? = some x ∧ y = .two (.d (.int (i : Nat))) x := by
  unfold enumY at h
  rw [List.getElem?_mapIdx] at h
  cases e : xs[i]? with
  | none => rw [e] at h; cases h
  | some d =>
    rw [e] at h
    exact ⟨d, rfl, (Option.some.inj h).symm⟩
theorem pairNew {F2 : Hp} {al2 : List Addr} {μ2 : Mu} {H2 : Hp} {T : Addr} {x y : V} {a b : A} (S : Sto K F2 al2 μ2 H2) (hT : H2 T = none) (h1 : Ab K F2 al2 x a) (h2 : Ab K F2 al2 y b) :
    ∃ F3, Grow F2 al2 H2 F3 al2 (upd H2 T (.tup [x, y])) ∧ Sto K F3 al2 μ2 (upd H2 T (.tup [x, y])) ∧ AbY K F3 al2 (.ref T) (.two a b) := by
  obtain ⟨S3, g3⟩ := S.lay (o := .tup [x, y]) hT
  exact ⟨_, g3, S3, T, x, y, rfl, .inl (.inl upd_same), g3.ab h1, g3.ab h2⟩
/-- zip of two lists of data -/
def zipY (xs ys : List PyData) : List Y := List.zipWith (fun a b => .two (.d a) (.d b)) xs ys
theorem jw_zip {F : Hp} {al : List Addr} {H : Hp} {a b : Addr} {vs ws : List V} {ds es : List PyData} (h : SqL K F a vs) (r : DpAll K F vs ds) (h' : SqL K F b ws) (r' : DpAll K F ws es) : JW K F al H (Itz K a b) (zipY ds es) always where
  go F2 al2 μ2 H2 i y g S _ hy := by
    unfold zipY at hy
    rw [List.getElem?_zipWith] at hy
    cases e' : ds[i]? with
    | none => rw [e'] at hy; cases hy
    | some d =>
      cases e'' : es[i]? with
      | none => rw [e', e''] at hy; cases hy
      | some d' =>
        rw [e', e''] at hy
        obtain rfl := Option.some.inj hy
        obtain ⟨v, e1, av⟩ := DpAll.get r e'
        obtain ⟨w, e2, aw⟩ := DpAll.get r' e''
        have q := S.seq (g.f.seq h)
        have q' := S.seq (g.f.seq h')
        refine ⟨⟨vs, ws, v, w, q, q', e1, e2⟩, fun x H3 hx => ?_⟩
        obtain ⟨T, x', y', rfl, hT, rfl, hx, hy⟩ := hx
        have := hx vs q
        rw [e1] at this
        obtain rfl := Option.some.inj this
        have := hy ws q'
        rw [e2] at this
        obtain rfl := Option.some.inj this
        exact pairNew S hT (a := .d d) (b := .d d') (Dp.mono g.f av) (Dp.mono g.f aw)
  stop F2 al2 μ2 H2 g S _ := ⟨vs, ws, S.seq (g.f.seq h), S.seq (g.f.seq h'), by
    unfold zipY
    rw [List.length_zipWith, DpAll.len r, DpAll.len r']
    omega⟩
theorem jw_zipT {F : Hp} {al : List Addr} {H : Hp} {a b : Addr} {vs ws : List V} {ds es : List PyData} (h : SqT K F a vs) (r : DpAll K F vs ds) (h' : SqT K F b ws) (r' : DpAll K F ws es) : JW K F al H (RZ.ItzT K a b) (zipY ds es) always where
  go F2 al2 μ2 H2 i y g S _ hy := by
    unfold zipY at hy
    rw [List.getElem?_zipWith] at hy
    cases e' : ds[i]? with
    | none => rw [e'] at hy; cases hy
    | some d =>
      cases e'' : es[i]? with
      | none => rw [e', e''] at hy; cases hy
      | some d' =>
        rw [e', e''] at hy
        obtain rfl := Option.some.inj hy
        obtain ⟨v, e1, av⟩ := DpAll.get r e'
        obtain ⟨w, e2, aw⟩ := DpAll.get r' e''
        have q := S.seqT (sqT_mono g.f h)
        have q' := S.seqT (sqT_mono g.f h')
        refine ⟨⟨vs, ws, v, w, q, q', e1, e2⟩, fun x H3 hx => ?_⟩
        obtain ⟨T, x', y', rfl, hT, rfl, hx, hy⟩ := hx
        have := hx vs q
        rw [e1] at this
        obtain rfl := Option.some.inj this
        have := hy ws q'
        rw [e2] at this
        obtain rfl := Option.some.inj this
        exact pairNew S hT (a := .d d) (b := .d d') (Dp.mono g.f av) (Dp.mono g.f aw)
  stop F2 al2 μ2 H2 g S _ := ⟨vs, ws, S.seqT (sqT_mono g.f h), S.seqT (sqT_mono g.f h'), by
    unfold zipY
    rw [List.length_zipWith, DpAll.len r, DpAll.len r']
    omega⟩
/-- a list's items, of data or of a cell of data: a cell's are copied where the walk is of what stands now -/
abbrev dZip (da : DAT) : DI := fun ρ μ P => da ρ μ fun zs μ1 => (∃ ds es, zs = [.d (.list ds), .d (.list es)] ∧ P (zipY ds es) always μ1) ∨ ∃ ds es, zs = [.d (.tuple ds), .d (.tuple es)] ∧ P (zipY ds es) always μ1
theorem di_zip {tpos : Pos} {elts : List Expr} {kk : Nat} (ha : DA X [e, e2] da) (hm : X.mg "zip" = none) (hg : Gl X "zip" := by rfl)
    (hs : starEach [e, e2] X.env = (false, eval e X.env) :: starEach [e2] X.env := by rfl) (hpl : (backTo pos (starEach [e2] X.env)).any (·.1) = false := by rfl) :
    DIt X (.Tuple elts kk tpos) (.Call (.Name "zip" p) [e, e2] [] pos) (dZip da) := by
  obtain ⟨_, p1, s⟩ := ha.ex
  refine ⟨_, RZ.pi_zipA hg hm p1 hs hpl, fun ρ μ P h F al σ H S L R k => s ρ μ _ h F al σ H S L _ fun vs xs μ1 F1 al1 H1 q g S1 a => ?_⟩
  rcases q with ⟨ds, es, rfl, q⟩ | ⟨ds, es, rfl, q⟩
  · obtain ⟨v, w, rfl, av, aw⟩ := two_of a
    obtain ⟨p, vs, rfl, e1, e2⟩ := dp_lst av
    obtain ⟨p', ws, rfl, f1, f2⟩ := dp_lst aw
    exact ⟨p, p', vs, ws, rfl, .inl ⟨S1.seq e1, S1.seq f1, k _ _ _ _ _ _ _ q g S1 (jw_zip e1 e2 f1 f2)⟩⟩
  · obtain ⟨v, w, rfl, av, aw⟩ := two_of a
    obtain ⟨p, vs, rfl, e1, e2⟩ := dp_tup av
    obtain ⟨p', ws, rfl, f1, f2⟩ := dp_tup aw
    exact ⟨p, p', vs, ws, rfl, .inr ⟨S1.seqT e1, S1.seqT f1, k _ _ _ _ _ _ _ q g S1 (jw_zipT e1 e2 f1 f2)⟩⟩
theorem jw_chr {F : Hp} {al : List Addr} {H : Hp} {z : Str} : JW K F al H (Its z) (chrY z) always where
  go F2 al2 μ2 H2 i y g S _ hy := by
    unfold chrY at hy
    rw [List.getElem?_map] at hy
    have lt : i < z.cps.size := by
      cases e : z.cps.toList[i]? with
      | none => rw [e] at hy; cases hy
      | some c =>
        have := (List.getElem?_eq_some_iff.mp e).1
        simpa using this
    refine ⟨lt, fun x H3 hx => ?_⟩
    obtain ⟨rfl, c, hc, rfl⟩ := hx
    rw [Array.getElem?_toList, hc] at hy
    obtain rfl := Option.some.inj hy
    exact ⟨F2, Grow.refl, S, .str _⟩
  stop F2 al2 μ2 H2 g S _ := by
    unfold chrY
    rw [List.length_map, Array.length_toList]
    exact Nat.le_refl _
end
end Dl
set_option Elab.async false
set_option linter.all false
set_option maxRecDepth 100000
set_option maxHeartbeats 4000000
namespace Dl
open PySem PySem.Spec PyProof.Rows L2
section
variable {X : Cx} {W : WX} {tg iter : Expr} {body : List Stmt} {di : DI} {dg : DG} {db : DS} {vs : List Nat} {pos : Pos} {K : PySem.W.Frag}
/-- Pv: the word of the turn's number, the names and the cells -/
abbrev dsFor (di : DI) (dg : DG) (db : DS) : DS := fun D ρ μ => di ρ μ fun ys ok μ1 => ∃ Pv : Nat → RM, Pv 0 ρ μ1 ∧
  (∀ i y ρ2 μ2, ys[i]? = some y → Pv i ρ2 μ2 → ok μ2 ∧ dg y ρ2 μ2 fun ρ3 μ3 => db { D with nx := Pv (i + 1), ct := Pv (i + 1), bk := D.nx } ρ3 μ3) ∧ ∀ ρ2 μ2, Pv ys.length ρ2 μ2 → ok μ2 ∧ D.nx ρ2 μ2
theorem sim_for {wi : TI} {g : TG} {tb : TS} (hi : SimI K wi di) (hg : SimG K vs g dg) (hb : SimS K W tb db) : SimS K W (tFor wi g tb) (dsFor di dg db) := by
  intro ρ μ D h F al σ H S L E k
  refine hi ρ μ _ h F al σ H S L _ fun J ys ok μ1 F1 al1 H1 q g1 S1 j => ?_
  obtain ⟨Pv, p0, step, last⟩ := q
  refine ⟨fun i m σ H2 => m = ys.length - i ∧ i ≤ ys.length ∧ ∃ ρ2 μ2 F2 al2, Pv i ρ2 μ2 ∧ Grow F1 al1 H1 F2 al2 H2 ∧ Sto K F2 al2 μ2 H2 ∧ Slots K F2 al2 σ ρ2,
    ⟨_, rfl, Nat.zero_le _, ρ, μ1, F1, al1, p0, Grow.refl, S1, g1.slots L⟩, ?_⟩
  rintro i m σ2 H2 ⟨rfl, hi, ρ2, μ2, F2, al2, p, g2, S2, L2'⟩
  by_cases lt : i < ys.length
  · have hy : ys[i]? = some ys[i] := List.getElem?_eq_getElem lt
    obtain ⟨o, st⟩ := step i _ ρ2 μ2 hy p
    obtain ⟨go, yl⟩ := j.go F2 al2 μ2 H2 i _ g2 S2 o hy
    refine .inr ⟨go, _, fun σ' H' w => ⟨ys.length - (i + 1), by omega, w⟩, fun x H3 hx => ?_⟩
    obtain ⟨F3, g3, S3, a3⟩ := yl x H3 hx
    refine hg _ ρ2 μ2 _ st F3 al2 σ2 H3 x S3 (g3.slots L2') a3 _ fun ρ4 μ4 F4 al4 σ4 H4 q4 g4 S4 L4 _ _ => ?_
    have g0 := (g2.trans g3).trans g4
    refine hb ρ4 μ4 _ q4 F4 al4 σ4 H4 S4 L4 _ ⟨fun ρ' μ' F' al' σ' H' h' g' S' L' => ⟨rfl, lt, ρ', μ', F', al', h', g0.trans g', S', L'⟩, k.rt.fwd (g1.trans g0), fun ρ' μ' F' al' σ' H' h' g' S' L' => ?_, fun ρ' μ' F' al' σ' H' h' g' S' L' => ⟨rfl, lt, ρ', μ', F', al', h', g0.trans g', S', L'⟩, fun C o ρ' μ' F' al' σ' H' d h' g' => k.ex C o ρ' μ' F' al' σ' H' d h' ((g1.trans g0).trans g')⟩
    exact k.nx ρ' μ' F' al' σ' H' h' ((g1.trans g0).trans g') S' L'
  · have e : i = ys.length := by omega
    subst e
    obtain ⟨o, hn⟩ := last ρ2 μ2 p
    exact .inl ⟨j.stop F2 al2 μ2 H2 g2 S2 o, k.nx ρ2 μ2 F2 al2 σ2 H2 hn (g1.trans g2) S2 L2'⟩
theorem ds_for (hp : PassesOwn (model X.prog X.w) X.A X.env X.xe) (hc : X.calm = true) (hi : DIt X tg iter di) (hg : DGt X tg vs dg) (hb : DSs X W body db)
    (hs : ∀ x, foldedSetIterable iter X.env x = pure x := by intro _; rfl) : DSt X W (.For tg iter body [] pos) (dsFor di dg db) := by
  obtain ⟨_, p1, s1⟩ := hi.ex
  obtain ⟨_, p2, s2⟩ := hg.ex
  obtain ⟨_, p3, s3⟩ := hb.ex
  exact ⟨_, ps_for hp hc p1 p2 p3 hs, sim_for s1 s2 s3⟩
abbrev dsWhile (dc : DTT) (db : DS) : DS := fun D ρ μ => ∃ W : Nat → RM, (∃ m, W m ρ μ) ∧ ∀ m ρ2 μ2, W m ρ2 μ2 →
  dc ρ2 μ2 fun b μ3 => if b = true then db { D with nx := fun ρ' μ' => ∃ m', m' < m ∧ W m' ρ' μ', ct := fun ρ' μ' => ∃ m', m' < m ∧ W m' ρ' μ', bk := D.nx } ρ2 μ3 else D.nx ρ2 μ3
theorem ds_while {c : Expr} {dc : DTT} (hp : PassesOwn (model X.prog X.w) X.A X.env X.xe) (hc : DTest X c dc) (hb : DSs X W body db) : DSt X W (.While c body [] pos) (dsWhile dc db) := by
  obtain ⟨_, p1, s1⟩ := hc.ex
  obtain ⟨_, p2, s2⟩ := hb.ex
  refine ⟨_, ps_while hp p1 p2, fun ρ μ D h F al σ H S L E k => ?_⟩
  obtain ⟨W, ⟨m0, w0⟩, step⟩ := h
  refine ⟨fun m σ2 H2 => ∃ ρ2 μ2 F2 al2, W m ρ2 μ2 ∧ Grow F al H F2 al2 H2 ∧ Sto X.K F2 al2 μ2 H2 ∧ Slots X.K F2 al2 σ2 ρ2, ⟨m0, ρ, μ, F, al, w0, Grow.refl, S, L⟩, ?_⟩
  rintro m σ2 H2 ⟨ρ2, μ2, F2, al2, w, g2, S2, L2'⟩
  refine s1 ρ2 μ2 _ (step m ρ2 μ2 w) F2 al2 σ2 H2 S2 L2' _ fun b μ3 F3 al3 H3 q3 g3 S3 => ?_
  have g := g2.trans g3
  cases b with
  | true =>
    refine iteT ⟨fun σ' H' => ∃ m', m' < m ∧ ∃ ρ2 μ2 F2 al2, W m' ρ2 μ2 ∧ Grow F al H F2 al2 H' ∧ Sto X.K F2 al2 μ2 H' ∧ Slots X.K F2 al2 σ' ρ2, fun σ' H' h => h, ?_⟩
    refine s2 ρ2 μ3 { D with nx := fun ρ' μ' => ∃ m', m' < m ∧ W m' ρ' μ', ct := fun ρ' μ' => ∃ m', m' < m ∧ W m' ρ' μ', bk := D.nx } (by rw [if_pos rfl] at q3; exact q3) F3 al3 σ2 H3 S3 (g3.slots L2') _ ⟨fun ρ' μ' F' al' σ' H' ⟨m', hm, w'⟩ g' S' L' => ⟨m', hm, ρ', μ', F', al', w', g.trans g', S', L'⟩, k.rt.fwd g, fun ρ' μ' F' al' σ' H' h' g' S' L' => k.nx ρ' μ' F' al' σ' H' h' (g.trans g') S' L', fun ρ' μ' F' al' σ' H' ⟨m', hm, w'⟩ g' S' L' => ⟨m', hm, ρ', μ', F', al', w', g.trans g', S', L'⟩, fun C o ρ' μ' F' al' σ' H' d h' g' => k.ex C o ρ' μ' F' al' σ' H' d h' (g.trans g')⟩
  | false => exact iteF (k.nx ρ2 μ3 F3 al3 σ2 H3 (by rw [if_neg Bool.false_ne_true] at q3; exact q3) g S3 (g3.slots L2'))
end
/-- the names of a comprehension's own, forgotten -/
def wipeR (ρ : Rho) : List Nat → Rho
  | [] => ρ
  | v :: vs => (wipeR ρ vs).set v none
theorem wipeR_len (ρ : Rho) : ∀ vs : List Nat, (wipeR ρ vs).length = ρ.length
  | [] => rfl
  | v :: vs => by unfold wipeR; rw [List.length_set, wipeR_len ρ vs]
theorem wipeR_some {ρ : Rho} {i : Nat} {x : A} : ∀ {vs : List Nat}, (wipeR ρ vs)[i]? = some (some x) → ρ[i]? = some (some x) ∧ i ∉ vs
  | [], h => ⟨h, by simp⟩
  | v :: vs, h => by
    unfold wipeR at h
    by_cases hi : v = i
    · subst hi
      by_cases hv : v < (wipeR ρ vs).length
      · rw [List.getElem?_set_self hv] at h; cases h
      · rw [List.getElem?_eq_none (by simpa using hv)] at h; cases h
    · rw [List.getElem?_set_ne hi] at h
      obtain ⟨h1, h2⟩ := wipeR_some h
      exact ⟨h1, by simp only [List.mem_cons, not_or]; exact ⟨fun e => hi e.symm, h2⟩⟩
theorem wipe_out' {σ : L2.St} {i : Nat} : ∀ {vs : List Nat}, i ∉ vs → (wipe σ vs)[i]? = σ[i]?
  | [], _ => rfl
  | v :: vs, h => by
    rw [List.mem_cons, not_or] at h
    show ((wipe σ vs).set v none)[i]? = _
    rw [List.getElem?_set_ne (fun e => h.1 e.symm)]
    exact wipe_out' h.2
theorem Slots.wipe {K : PySem.W.Frag} {F : Hp} {al : List Addr} {σ : L2.St} {ρ : Rho} (L : Slots K F al σ ρ) (vs : List Nat) : Slots K F al (wipe σ vs) (wipeR ρ vs) := by
  refine ⟨by rw [wipe_length, wipeR_len]; exact L.len, fun i x e => ?_⟩
  obtain ⟨e, n⟩ := wipeR_some e
  obtain ⟨v, e1, a⟩ := L.at_ i x e
  exact ⟨v, by rw [wipe_out' n]; exact e1, a⟩
theorem wipe_in {σ : L2.St} {i : Nat} : ∀ {vs : List Nat}, i ∈ vs → i < σ.length → (L2.wipe σ vs)[i]? = some none
  | v :: vs, h, lt => by
    show ((L2.wipe σ vs).set v none)[i]? = _
    by_cases z : v = i
    · subst z
      rw [List.getElem?_set_self (by rw [wipe_length]; exact lt)]
    · rw [List.getElem?_set_ne z]
      exact wipe_in (by
        rcases List.mem_cons.mp h with q | q
        · exact absurd q.symm z
        · exact q) lt
theorem wipe_same {σ σ2 : L2.St} {vs : List Nat} (hl : σ2.length = σ.length) (h : ∀ i, i ∉ vs → σ2[i]? = (L2.wipe σ vs)[i]?) : L2.wipe σ2 vs = L2.wipe σ vs := by
  apply List.ext_getElem?
  intro i
  by_cases m : i ∈ vs
  · rcases Nat.lt_or_ge i σ.length with lt | ge
    · rw [wipe_in m (by rw [hl]; exact lt), wipe_in m lt]
    · rw [List.getElem?_eq_none (by rw [wipe_length, hl]; exact ge), List.getElem?_eq_none (by rw [wipe_length]; exact ge)]
  · rw [wipe_out' m]
    exact h i m
/-- an address that is no cell and does not stay, written -/
theorem Sto.free {K : PySem.W.Frag} {F : Hp} {al : List Addr} {μ : Mu} {H : Hp} {D : Addr} (S : Sto K F al μ H) (f : F D = none) (n : D ∉ al) (o : HO) : Sto K F al μ (upd H D o) := by
  refine ⟨fun b u e => ?_, S.nd, S.len, fun i a u e1 e2 => ?_⟩
  · rw [upd_ne (ne_of_none e f)]
    exact S.sub _ _ e
  · obtain ⟨ho, h1, h2⟩ := S.cell i a u e1 e2
    exact ⟨ho, by rw [upd_ne (fun z => n (by rw [← z]; exact List.mem_of_getElem? e1))]; exact h1, h2⟩
theorem Grow.free {F F' : Hp} {al al' : List Addr} {H H' : Hp} {D : Addr} (g : Grow F al H F' al' H') (hD : H D = none) (o : HO) : Grow F al H F' al' (upd H' D o) := by
  refine ⟨g.f, g.px, fun b u e n => ?_, g.nw, g.fz⟩
  rw [upd_ne (ne_of_none e hD)]
  exact g.fr b u e n
section
variable {X : Cx} {tg iter elt : Expr} {ifs : List Expr} {di : DI} {dg : DG} {dt : DTT} {de : DT} {vs : List Nat} {pos : Pos} {K : PySem.W.Frag}
/-- what becomes of the new list: data, or a cell -/
def lcEnd (P : DK) (acc : List A) (μ : Mu) : Prop := (∃ ds : List PyData, acc = ds.map A.d ∧ P (.d (.list ds)) μ) ∨ P (.c μ.length) (μ ++ [.lst acc])
abbrev dLc (di : DI) (dg : DG) (dt : DTT) (de : DT) (vs : List Nat) : DT := fun ρ μ P => di ρ μ fun ys ok μ1 => ∃ Pv : Nat → List A → Mu → Prop, Pv 0 [] μ1 ∧
  (∀ i y acc μ2, ys[i]? = some y → Pv i acc μ2 → ok μ2 ∧ dg y (wipeR ρ vs) μ2 fun ρ3 μ3 => dt ρ3 μ3 fun b μ4 => if b = true then de ρ3 μ4 fun z μ5 => acc.length < sizeLine ∧ Pv (i + 1) (acc ++ [z]) μ5 else Pv (i + 1) acc μ4) ∧
    ∀ acc μ2, Pv ys.length acc μ2 → ok μ2 ∧ lcEnd P acc μ2
/-- an iterable's word, at one place -/
def SimIAt (K : PySem.W.Frag) (w : TI) (d : DI) (ρ : Rho) (μ : Mu) (F : Hp) (al : List Addr) (σ : L2.St) (H : Hp) : Prop := ∀ P, d ρ μ P → Sto K F al μ H → Slots K F al σ ρ → ∀ R, KoI K F al H P R → w σ H R
theorem sim_lcAt {wi : TI} {g : TG} {tt : TT} {te : TE} (hg : SimG K vs g dg) (ht : SimT K tt dt) (he : SimE K te de) (ρ : Rho) (μ : Mu) (P : DK) (h : dLc di dg dt de vs ρ μ P) (F : Hp) (al : List Addr) (σ : L2.St) (H : Hp) (hi : SimIAt K wi di ρ μ F al σ H) (S : Sto K F al μ H) (L : Slots K F al σ ρ) (Q : VK) (k : Ko K F al H P Q) : tLc wi g tt te vs σ H Q := by
  refine hi _ h S L _ fun J ys ok μ1 F1 al1 H1 q g1 S1 j D hD => ?_
  obtain ⟨Pv, p0, step, last⟩ := q
  have fD : F1 D = none := by
    cases e : F1 D with
    | none => rfl
    | some u =>
      rw [S1.sub _ _ e] at hD
      cases hD
  have nD : D ∉ al1 := fun m => by
    obtain ⟨u, e⟩ := S1.has m
    rw [e] at hD
    cases hD
  have L1 := (g1.slots L).wipe vs
  refine ⟨fun i m H2 => m = ys.length - i ∧ i ≤ ys.length ∧ ∃ acc μ2 F2 al2 ws, Pv i acc μ2 ∧ Grow F1 al1 H1 F2 al2 H2 ∧ Sto K F2 al2 μ2 H2 ∧ F2 D = none ∧ D ∉ al2 ∧ H2 D = some (.lst ws) ∧ Paired (Ab K F2 al2) ws acc,
    ⟨_, rfl, Nat.zero_le _, [], μ1, F1, al1, [], p0, Grow.refl.free hD _, S1.free fD nD _, fD, nD, upd_same, .nil⟩, ?_⟩
  rintro i m H2 ⟨rfl, hi, acc, μ2, F2, al2, ws, p, g2, S2, f2, n2, d2, a2⟩
  have keep : ∀ {F3 al3 μ3 H3}, Grow F2 al2 H2 F3 al3 H3 → Sto K F3 al3 μ3 H3 → F3 D = none ∧ D ∉ al3 ∧ H3 D = some (.lst ws) := fun {F3 al3 μ3 H3} g S => by
    have nD3 : D ∉ al3 := fun z => by
      rcases g.nw D z with q | q
      · exact n2 q
      · rw [d2] at q
        cases q
    refine ⟨?_, nD3, g.fr _ _ d2 n2⟩
    cases e : F3 D with
    | none => rfl
    | some u =>
      rcases g.fz D u e with q | q | q
      · rw [f2] at q
        cases q
      · rw [d2] at q
        cases q
      · exact absurd q n2
  by_cases lt : i < ys.length
  · have hy : ys[i]? = some ys[i] := List.getElem?_eq_getElem lt
    obtain ⟨o, st⟩ := step i _ acc μ2 hy p
    obtain ⟨go, yl⟩ := j.go F2 al2 μ2 H2 i _ g2 S2 o hy
    refine .inr ⟨go, _, fun H' w => ⟨ys.length - (i + 1), by omega, w⟩, fun x H3 hx => ?_⟩
    obtain ⟨F3, g3, S3, a3⟩ := yl x H3 hx
    refine hg _ (wipeR ρ vs) μ2 _ st F3 al2 _ H3 x S3 ((g2.trans g3).slots L1) a3 _ fun ρ4 μ4 F4 al4 σ4 H4 q4 g4 S4 L4 hl ho => ?_
    refine ⟨wipe_same (hl.trans (wipe_length _ _)) ho, ?_⟩
    refine ht ρ4 μ4 _ q4 F4 al4 σ4 H4 S4 L4 _ fun b μ5 F5 al5 H5 q5 g5 S5 => ?_
    have g35 := (g3.trans g4).trans g5
    cases b with
    | true =>
      rw [if_pos rfl] at q5
      refine iteT ?_
      refine he ρ4 μ5 _ q5 F5 al5 σ4 H5 S5 (g5.slots L4) _ fun v z μ6 F6 al6 H6 q6 g6 S6 a6 => ?_
      have g36 := g35.trans g6
      obtain ⟨k1, k2, k3⟩ := keep g36 S6
      refine ⟨ws, k3, by rw [pair_len a2]; exact q6.1, rfl, lt, acc ++ [z], μ6, F6, al6, ws ++ [v], q6.2, (g2.trans g36).free hD _, S6.free k1 k2 _, k1, k2, upd_same, Paired.app (g36.abs a2) (.cons a6 .nil)⟩
    | false =>
      rw [if_neg Bool.false_ne_true] at q5
      obtain ⟨k1, k2, k3⟩ := keep g35 S5
      exact iteF ⟨rfl, lt, acc, μ5, F5, al5, ws, q5, g2.trans g35, S5, k1, k2, k3, g35.abs a2⟩
  · have e : i = ys.length := by omega
    subst e
    obtain ⟨o, hn⟩ := last acc μ2 p
    refine .inl ⟨j.stop F2 al2 μ2 H2 g2 S2 o, ?_⟩
    have g := g1.trans g2
    rcases hn with ⟨ds, rfl, hn⟩ | hn
    · -- data: it stays
      have sf : Same F2 (upd F2 D (.lst ws)) := fun b u e => by
        rw [upd_ne (ne_of_none e f2)]
        exact e
      refine k _ _ μ2 (upd F2 D (.lst ws)) al2 H2 hn (g1.trans ⟨g2.f.trans sf, g2.px, g2.fr, g2.nw, fun b u e => ?_⟩) ⟨fun b u e => ?_, S2.nd, S2.len, fun i a u e1 e2 => ?_⟩ (.lst (.inl (.inl upd_same)) (DpAll.mono sf (DpAll.of a2)))
      · by_cases z : b = D
        · rw [z]
          exact .inr (.inl hD)
        · rw [upd_ne z] at e
          exact g2.fz b u e
      · by_cases z : b = D
        · rw [z, upd_same] at e
          rw [z, ← e]
          exact d2
        · rw [upd_ne z] at e
          exact S2.sub _ _ e
      · obtain ⟨ho, h1, h2⟩ := S2.cell i a u e1 e2
        refine ⟨ho, h1, fun nd => ⟨?_, (h2 nd).2.mono sf (List.prefix_refl _)⟩⟩
        rw [upd_ne (fun z => n2 (by rw [← z]; exact List.mem_of_getElem? e1))]
        exact (h2 nd).1
    · -- a new cell
      have px : al2 <+: al2 ++ [D] := ⟨[D], rfl⟩
      refine k (.ref D) (.c μ2.length) (μ2 ++ [.lst acc]) F2 (al2 ++ [D]) H2 hn (g1.trans ⟨g2.f, List.IsPrefix.trans g2.px px, g2.fr, fun a h => ?_, g2.fz⟩) ⟨S2.sub, ?_, by rw [List.length_append, List.length_append, S2.len] <;> rfl, fun i a u e1 e2 => ?_⟩ ⟨D, ?_, rfl⟩
      · rcases List.mem_append.mp h with z | z
        · exact g2.nw a z
        · rw [List.mem_singleton] at z
          rw [z]
          exact .inr hD
      · rw [List.nodup_append]
        refine ⟨S2.nd, by simp, fun a ha b hb e => ?_⟩
        rw [List.mem_singleton] at hb
        subst hb e
        exact n2 ha
      · rcases Nat.lt_or_ge i al2.length with lt' | ge
        · rw [List.getElem?_append_left lt'] at e1
          rw [List.getElem?_append_left (by rw [← S2.len]; exact lt')] at e2
          obtain ⟨w, h1, h2⟩ := S2.cell i a u e1 e2
          exact ⟨w, h1, fun nd => ⟨(h2 nd).1, (h2 nd).2.mono (Same.refl _) px⟩⟩
        · rw [List.getElem?_append_right ge] at e1
          rw [List.getElem?_append_right (by rw [← S2.len]; exact ge)] at e2
          have z : i - al2.length = 0 := by
            have := (List.getElem?_eq_some_iff.mp e1).1
            simp at this
            omega
          rw [z] at e1
          rw [← S2.len, z] at e2
          obtain rfl : D = a := Option.some.inj e1
          obtain rfl : O.lst acc = u := Option.some.inj e2
          exact ⟨.lst ws, d2, fun _ => ⟨f2, Paired.impl (fun _ _ => Ab.mono (Same.refl _) px) a2⟩⟩
      · rw [← S2.len, List.getElem?_append_right (Nat.le_refl _), Nat.sub_self]
        rfl
theorem sim_lc {wi : TI} {g : TG} {tt : TT} {te : TE} (hi : SimI K wi di) (hg : SimG K vs g dg) (ht : SimT K tt dt) (he : SimE K te de) : SimE K (tLc wi g tt te vs) (dLc di dg dt de vs) :=
  fun ρ μ P h F al σ H S L Q k => sim_lcAt hg ht he ρ μ P h F al σ H (fun P h S L => hi ρ μ P h F al σ H S L) S L Q k
/-- the block of a comprehension, whatever its own objects are -/
def Blk (X : Cx) (scope : Scope) (R : Cx → Prop) : Prop := ∀ (s : Shared) (H : Hp) (C : Addr) (cl : List (Str × Addr)) (fp : List Addr), R (X.blk s H scope (compEnvC scope cl C X.env) fp)
abbrev dtYes : DTT := fun _ μ P => P true μ
structure DTs (X : Cx) (ifs : List Expr) (d : DTT) : Prop where
  ex : PTs X ifs (tDT X.K d)
theorem dts_nil : DTs X [] dtYes := ⟨⟨fun pins s σ H Q I ⟨ρ, μ, P, F, al, h, S, L, k⟩ => pts_nil.run pins s σ H Q I (k true μ F al H h Grow.refl S)⟩⟩
theorem dts_one {c : Expr} {d : DTT} (h : DTest X c d) : DTs X [c] d := ⟨pts_one h.pt⟩
theorem d_lc {scope : Scope} {own : List (Str × Nat)} (hc : X.calm = true) (hN : X.N.Nodup) (hi : DIt X tg iter di) (ok : BlkOk X.N X.env.scope scope own)
    (hg : Blk X scope fun Y => DGt Y tg (own.map (·.2)) dg) (ht : Blk X scope fun Y => DTs Y ifs dt) (he : Blk X scope fun Y => DE Y elt de) (hs : ∀ x, foldedSetIterable iter X.env x = pure x := by intro _; rfl) :
    DE X (.ListComp elt [⟨tg, iter, ifs, 0⟩] scope pos) (dLc di dg dt de (own.map (·.2))) := by
  obtain ⟨_, p1, s1⟩ := hi.ex
  exact ⟨_, pe_lc hc hN p1 ok (fun s H C cl fp => (hg s H C cl fp).pg) (fun s H C cl fp => (ht s H C cl fp).ex) (fun s H C cl fp => (he s H C cl fp).pe) hs, sim_lc s1 sim_tDG sim_tDT sim_tD⟩
end
end Dl
set_option Elab.async false
set_option linter.all false
set_option maxRecDepth 100000
set_option maxHeartbeats 4000000
namespace Dl
open PySem PySem.Spec PyProof.Rows L2
mutual
inductive Rfy (m : Nat) (kp : Option Nat) (μ : Mu) : A → PyData → Prop
  | d (x : PyData) : Rfy m kp μ (.d x) x
  | c {i : Nat} {xs : List A} {ds : List PyData} : m ≤ i → kp ≠ some i → μ[i]? = some (.lst xs) → RfyL m kp μ xs ds → Rfy m kp μ (.c i) (.list ds)
inductive RfyL (m : Nat) (kp : Option Nat) (μ : Mu) : List A → List PyData → Prop
  | nil : RfyL m kp μ [] []
  | cons {x : A} {d : PyData} {xs : List A} {ds : List PyData} : Rfy m kp μ x d → RfyL m kp μ xs ds → RfyL m kp μ (x :: xs) (d :: ds)
end
theorem RfyL.data {m : Nat} {kp : Option Nat} {μ : Mu} : ∀ (ds : List PyData), RfyL m kp μ (ds.map A.d) ds
  | [] => .nil
  | d :: ds => .cons (.d d) (RfyL.data ds)
/-- as seen from the call: data, or as it was, or the one new cell that is kept -/
def RfyV (m : Nat) (kp : Option Nat) (μ : Mu) (x y : A) : Prop := (∃ d, Rfy m kp μ x d ∧ y = .d d) ∨ (∃ i, x = .c i ∧ y = .c i ∧ i < m) ∨ (∃ i, x = .c i ∧ kp = some i ∧ y = .c m) ∨ (∃ v, x = .v v ∧ y = .v v) ∨ ∃ a c d o, x = .x a c d o ∧ y = .x a c d o
def RfyO (m : Nat) (kp : Option Nat) (μ : Mu) : O → O → Prop
  | _, .dead => True
  | .lst xs, .lst ys => Paired (RfyV m kp μ) xs ys
  | .dct ks, .dct ls => Paired (fun p q => p.1 = q.1 ∧ RfyV m kp μ p.2 q.2) ks ls
  | .fdct o vs ks, .fdct o' vs' ls => (o = o' ∧ vs = vs') ∧ Paired (fun p q => p.1 = q.1 ∧ RfyV m kp μ p.2 q.2) ks ls
  | .dctT P w ks, .dctT P' w' ls => (P = P' ∧ w = w') ∧ Paired (fun p q => p.1 = q.1 ∧ RfyV m kp μ p.2 q.2) ks ls
  | _, _ => False
def RfyM (m : Nat) (kp : Option Nat) (μ μ' : Mu) : Prop := (∀ j, kp = some j → m ≤ j ∧ j < μ.length) ∧ μ'.length = m + kp.toList.length ∧
  (∀ (i : Nat) o, i < m → μ'[i]? = some o → ∃ o₀, μ[i]? = some o₀ ∧ RfyO m kp μ o₀ o) ∧ ∀ j o, kp = some j → μ'[m]? = some o → ∃ o₀, μ[j]? = some o₀ ∧ RfyO m kp μ o₀ o
section
variable {K : PySem.W.Frag} {F : Hp} {al : List Addr} {H : Hp} {μ μ' : Mu} {m : Nat} {kp : Option Nat}
def Fz (al : List Addr) (m : Nat) (kp : Option Nat) (b : Addr) : Prop := ∃ i, m ≤ i ∧ kp ≠ some i ∧ al[i]? = some b
open Classical in
noncomputable def frF (F : Hp) (al : List Addr) (m : Nat) (kp : Option Nat) (H : Hp) : Hp := fun b => if Fz al m kp b then H b else F b
theorem frF_in {b : Addr} (h : Fz al m kp b) : frF F al m kp H b = H b := if_pos h
theorem frF_out {b : Addr} (h : ¬ Fz al m kp b) : frF F al m kp H b = F b := if_neg h
/-- the cells that are kept -/
def kpAl (al : List Addr) (m : Nat) (kp : Option Nat) : List Addr := al.take m ++ (match kp with
  | none => []
  | some j => (al[j]?).toList)
theorem frF_same (S : Sto K F al μ H) : Same F (frF F al m kp H) := fun b o e => by
  by_cases z : Fz al m kp b
  · rw [frF_in z]
    exact S.sub b o e
  · rw [frF_out z]
    exact e
theorem rfy_aux (S : Sto K F al μ H) : ∀ n : Nat, (∀ x d v, sizeOf d ≤ n → Rfy m kp μ x d → Ab K F al v x → Dp K (frF F al m kp H) v d) ∧ (∀ xs ds vs, sizeOf ds ≤ n → RfyL m kp μ xs ds → Paired (Ab K F al) vs xs → DpAll K (frF F al m kp H) vs ds)
  | 0 => ⟨fun x d v h => by cases d <;> simp at h, fun xs ds vs h => by cases ds <;> simp at h⟩
  | n + 1 => by
    obtain ⟨i1, i2⟩ := rfy_aux S n
    refine ⟨fun x d v h r a => ?_, fun xs ds vs h r a => ?_⟩
    · cases r with
      | d x => exact Dp.mono (frF_same S) a
      | @c i xs ds hi hk hc hl =>
        obtain ⟨p, ep, rfl⟩ := a
        obtain ⟨q, vs, e1, e2, e3⟩ := cell_lst S hc
        rw [ep] at e1
        obtain rfl := Option.some.inj e1
        refine .lst (.inl (.inl ?_)) (i2 xs ds vs (by simp at h; omega) hl e3)
        rw [frF_in ⟨i, hi, hk, ep⟩]
        exact e2
    · cases r with
      | nil =>
        cases a
        exact .nil
      | cons r1 r2 =>
        cases a with
        | cons a1 a2 => exact .cons (i1 _ _ _ (by simp at h; omega) r1 a1) (i2 _ _ _ (by simp at h; omega) r2 a2)
theorem kpAl_lt {i : Nat} (hm : m ≤ al.length) (h : i < m) : (kpAl al m kp)[i]? = al[i]? := by
  unfold kpAl
  rw [List.getElem?_append_left (by rw [List.length_take]; omega), List.getElem?_take_of_lt h]
theorem kpAl_m {j : Nat} {a : Addr} (hm : m ≤ al.length) (h : al[j]? = some a) : (kpAl al m (some j))[m]? = some a := by
  unfold kpAl
  have e : (al.take m).length = m := by rw [List.length_take]; omega
  rw [List.getElem?_append_right (by omega), e, Nat.sub_self]
  show ((al[j]?).toList)[0]? = some a
  rw [h]
  rfl
theorem rfy_v (S : Sto K F al μ H) (hm : m ≤ al.length) {x y : A} {v : V} (r : RfyV m kp μ x y) (a : Ab K F al v x) : Ab K (frF F al m kp H) (kpAl al m kp) v y := by
  rcases r with ⟨d, r, rfl⟩ | ⟨i, rfl, rfl, hi⟩ | ⟨i, rfl, rfl, rfl⟩ | ⟨w, rfl, rfl⟩ | ⟨p, c, d, o, rfl, rfl⟩
  · exact (rfy_aux S _).1 x d v (Nat.le_refl _) r a
  · obtain ⟨p, ep, rfl⟩ := a
    exact ⟨p, by rw [kpAl_lt hm hi]; exact ep, rfl⟩
  · obtain ⟨p, ep, rfl⟩ := a
    exact ⟨p, kpAl_m hm ep, rfl⟩
  · exact a
  · exact ⟨a.1, a.2.1.mono (frF_same S), frF_same S _ _ a.2.2⟩
theorem Paired.comp {α β γ : Type} {R : α → β → Prop} {R' : β → γ → Prop} {T : α → γ → Prop} (f : ∀ a b c, R a b → R' b c → T a c) : ∀ {l : List α} {m : List β} {n : List γ}, Paired R l m → Paired R' m n → Paired T l n
  | _, _, _, .nil, .nil => .nil
  | _, _, _, .cons a b, .cons c d => .cons (f _ _ _ a c) (Paired.comp f b d)
theorem rfy_cell (S : Sto K F al μ H) (hm : m ≤ al.length) {i : Nat} {a : Addr} {o₀ o : O} (h : al[i]? = some a) (hi : i < m ∨ kp = some i) (e : μ[i]? = some o₀) (q : RfyO m kp μ o₀ o) : ∃ ho, H a = some ho ∧ (o ≠ .dead → frF F al m kp H a = none ∧ AbO K (frF F al m kp H) (kpAl al m kp) ho o) := by
  obtain ⟨ho, h1, h2⟩ := S.cell i a o₀ h e
  refine ⟨ho, h1, fun nd => ?_⟩
  have nd0 : o₀ ≠ .dead := fun z => by
    rw [z] at q
    cases o with
    | dead => exact nd rfl
    | lst _ => exact q.elim
    | dct _ => exact q.elim
    | fdct _ _ _ => exact q.elim
    | dctT _ _ _ => exact q.elim
  obtain ⟨f, ab⟩ := h2 nd0
  have na : ¬ Fz al m kp a := fun ⟨i', h1, h2, h3⟩ => by
    obtain rfl := nd_ix S.nd h3 h
    rcases hi with z | z
    · omega
    · exact h2 z
  refine ⟨by rw [frF_out na]; exact f, ?_⟩
  cases o with
  | dead => exact absurd rfl nd
  | lst ys =>
    cases o₀ with
    | lst xs =>
      cases ho with
      | lst vs => exact Paired.comp (R := Ab K F al) (R' := RfyV m kp μ) (T := Ab K (frF F al m kp H) (kpAl al m kp)) (fun _ _ _ a r => rfy_v S hm r a) ab q
      | _ => exact ab.elim
    | dead => exact q.elim
    | dct _ => exact q.elim
    | fdct _ _ _ => exact q.elim
    | dctT _ _ _ => exact q.elim
  | dct ls =>
    cases o₀ with
    | dct xs =>
      cases ho with
      | dK vs => exact Paired.comp (R := fun (p : Key × V) (q : Key × A) => p.1 = q.1 ∧ Ab K F al p.2 q.2) (R' := fun (p q : Key × A) => p.1 = q.1 ∧ RfyV m kp μ p.2 q.2) (T := fun (p : Key × V) (q : Key × A) => p.1 = q.1 ∧ Ab K (frF F al m kp H) (kpAl al m kp) p.2 q.2) (fun _ _ _ a r => ⟨a.1.trans r.1, rfy_v S hm r.2 a.2⟩) ab q
      | _ => exact ab.elim
    | dead => exact q.elim
    | lst _ => exact q.elim
    | fdct _ _ _ => exact q.elim
    | dctT _ _ _ => exact q.elim
  | dctT P w ls =>
    cases o₀ with
    | dctT P' w' zs =>
      rw [abO_T] at ab ⊢
      obtain ⟨b, xs, e, g1, g2, r⟩ := ab
      obtain ⟨⟨rfl, rfl⟩, q2⟩ := q
      exact ⟨b, xs, e, g1, g2, Paired.comp (R := fun (x : List Key × Addr × V) (q : List Key × A) => x.1 = q.1 ∧ SqN K F x.2.1 (x.1.map kV) ∧ Ab K F al x.2.2 q.2) (R' := fun (p q : List Key × A) => p.1 = q.1 ∧ RfyV m kp μ p.2 q.2) (T := fun (x : List Key × Addr × V) (q : List Key × A) => x.1 = q.1 ∧ SqN K (frF F al m kp H) x.2.1 (x.1.map kV) ∧ Ab K (frF F al m kp H) (kpAl al m kp) x.2.2 q.2) (fun _ _ _ a r => ⟨a.1.trans r.1, SqN.mono (frF_same S) a.2.1, rfy_v S hm r.2 a.2.2⟩) r q2⟩
    | dead => exact q.elim
    | lst _ => exact q.elim
    | dct _ => exact q.elim
    | fdct _ _ _ => exact q.elim
  | fdct oo vv ls =>
    cases o₀ with
    | fdct o1 v1 xs =>
      cases ho with
      | frz o u =>
        cases u with
        | dK vs => exact ⟨⟨ab.1.1.trans q.1.1, ab.1.2.trans q.1.2⟩, Paired.comp (R := fun (p : Key × V) (q : Key × A) => p.1 = q.1 ∧ Ab K F al p.2 q.2) (R' := fun (p q : Key × A) => p.1 = q.1 ∧ RfyV m kp μ p.2 q.2) (T := fun (p : Key × V) (q : Key × A) => p.1 = q.1 ∧ Ab K (frF F al m kp H) (kpAl al m kp) p.2 q.2) (fun _ _ _ a r => ⟨a.1.trans r.1, rfy_v S hm r.2 a.2⟩) ab.2 q.2⟩
        | _ => exact ab.elim
      | _ => exact ab.elim
    | dead => exact q.elim
    | lst _ => exact q.elim
    | dct _ => exact q.elim
    | dctT _ _ _ => exact q.elim
theorem rfy_sto (S : Sto K F al μ H) (hm : m ≤ al.length) (r : RfyM m kp μ μ') : Sto K (frF F al m kp H) (kpAl al m kp) μ' H where
  sub b o e := by
    by_cases z : Fz al m kp b
    · rw [frF_in z] at e
      exact e
    · rw [frF_out z] at e
      exact S.sub b o e
  nd := by
    unfold kpAl
    rw [List.nodup_append]
    refine ⟨S.nd.sublist (List.take_sublist _ _), ?_, fun a ha b hb e => ?_⟩
    · cases kp with
      | none => exact List.nodup_nil
      | some j =>
        show ((al[j]?).toList).Nodup
        cases al[j]? with
        | none => exact List.nodup_nil
        | some _ => simp
    · subst e
      cases kp with
      | none => cases hb
      | some j =>
        have hj := (r.1 j rfl).1
        have hb : a ∈ (al[j]?).toList := hb
        cases e : al[j]? with
        | none => rw [e] at hb; cases hb
        | some c =>
          rw [e] at hb
          have : a = c := by simpa using hb
          subst this
          obtain ⟨i, hi⟩ := List.mem_iff_getElem?.mp ha
          have lt : i < m := by
            have := (List.getElem?_eq_some_iff.mp hi).1
            rw [List.length_take] at this
            omega
          rw [List.getElem?_take_of_lt lt] at hi
          have := nd_ix S.nd hi e
          omega
  len := by
    rw [r.2.1]
    unfold kpAl
    rw [List.length_append, List.length_take, Nat.min_eq_left hm]
    congr 1
    cases kp with
    | none => rfl
    | some j =>
      show ((al[j]?).toList).length = 1
      have := (r.1 j rfl).2
      rw [← S.len] at this
      rw [List.getElem?_eq_getElem this]
      rfl
  cell i a o e1 e2 := by
    by_cases lt : i < m
    · obtain ⟨o₀, e0, q⟩ := r.2.2.1 i o lt e2
      rw [kpAl_lt hm lt] at e1
      exact rfy_cell S hm e1 (.inl lt) e0 q
    · have hl := (List.getElem?_eq_some_iff.mp e2).1
      rw [r.2.1] at hl
      cases kp with
      | none =>
        simp at hl
        omega
      | some j =>
        have : i = m := by simp at hl; omega
        subst this
        obtain ⟨o₀, e0, q⟩ := r.2.2.2 j o rfl e2
        have hj := (r.1 j rfl).2
        rw [← S.len] at hj
        have ej := List.getElem?_eq_getElem hj
        rw [kpAl_m hm ej] at e1
        obtain rfl := Option.some.inj e1
        exact rfy_cell S hm ej (.inr rfl) e0 q
end
/-- what a def gives back, as seen from the call -/
def RetD (m : Nat) (P : DK) : DK := fun x μ' => ∃ kp y μ'', RfyV m kp μ' x y ∧ RfyM m kp μ' μ'' ∧ P y μ''
def OutD (m : Nat) (Ex : DX) : Value → Flds → Rho → Mu → Prop := fun C o _ μ' => ∃ μ'', RfyM m none μ' μ'' ∧ Ex C o μ''
theorem grow_ret {K : PySem.W.Frag} {F F' : Hp} {al al' : List Addr} {H H' : Hp} {μ μ' μ'' : Mu} {kp : Option Nat} (S : Sto K F al μ H) (g : Grow F al H F' al' H') (S' : Sto K F' al' μ' H') (r : RfyM μ.length kp μ' μ'') :
    ∃ F'' al'', Grow F al H F'' al'' H' ∧ Sto K F'' al'' μ'' H' ∧ Same F' F'' ∧ ∀ v x y, RfyV μ.length kp μ' x y → Ab K F' al' v x → Ab K F'' al'' v y := by
  have hm : μ.length ≤ al'.length := by
    rw [← S.len]
    exact g.px.length_le
  have tk : al'.take μ.length = al := by
    obtain ⟨t, rfl⟩ := g.px
    rw [← S.len, List.take_left]
  refine ⟨frF F' al' μ.length kp H', kpAl al' μ.length kp, ⟨g.f.trans (frF_same S'), ?_, g.fr, fun a h => ?_, fun b o e => ?_⟩, rfy_sto S' hm r, frF_same S', fun v x y q a => rfy_v S' hm q a⟩
  · unfold kpAl
    rw [tk]
    exact List.prefix_append _ _
  · unfold kpAl at h
    rcases List.mem_append.mp h with z | z
    · exact g.nw a (List.mem_of_mem_take z)
    · cases kp with
      | none => cases z
      | some j =>
        have z : a ∈ (al'[j]?).toList := z
        cases e : al'[j]? with
        | none => rw [e] at z; cases z
        | some c =>
          rw [e] at z
          have : a = c := by simpa using z
          subst this
          exact g.nw a (List.mem_of_getElem? e)
  · by_cases z : Fz al' μ.length kp b
    · obtain ⟨i, _, _, e3⟩ := z
      rcases g.nw b (List.mem_of_getElem? e3) with q | q
      · exact .inr (.inr q)
      · exact .inr (.inl q)
    · rw [frF_out z] at e
      exact g.fz b o e
theorem Ko.ret {K : PySem.W.Frag} {F : Hp} {al : List Addr} {H : Hp} {μ : Mu} {P : DK} {Q : VK} (S : Sto K F al μ H) (k : Ko K F al H P Q) : Ko K F al H (RetD μ.length P) Q := fun v x μ' F' al' H' ⟨kp, y, μ'', r, rm, h⟩ g S' a => by
  obtain ⟨F'', al'', g2, S2, _, q⟩ := grow_ret S g S' rm
  exact k v y μ'' F'' al'' H' h g2 S2 (q v x y r a)
/-- what stands in the cells are cells of the first m -/
def oldA (m : Nat) : A → Prop
  | .c i => i < m
  | _ => True
def oldO (m : Nat) : O → Prop
  | .lst xs => ∀ x ∈ xs, oldA m x
  | .dct ks => ∀ p ∈ ks, oldA m p.2
  | .fdct _ _ ks => ∀ p ∈ ks, oldA m p.2
  | .dctT _ _ ks => ∀ p ∈ ks, oldA m p.2
  | .dead => True
def Old (m : Nat) (μ : Mu) : Prop := ∀ (i : Nat) o, μ[i]? = some o → oldO m o
theorem Paired.right {α β : Type} {R : α → β → Prop} {y : β} : ∀ {l : List α} {m : List β}, Paired R l m → y ∈ m → ∃ x, R x y
  | _, _, .nil, h => by cases h
  | _, _, .cons a b, h => by
    rcases List.mem_cons.mp h with rfl | h
    · exact ⟨_, a⟩
    · exact Paired.right b h
theorem old_ab {K : PySem.W.Frag} {F : Hp} {al : List Addr} {v : V} {x : A} (h : Ab K F al v x) : oldA al.length x := by
  cases x with
  | c i =>
    obtain ⟨a, e, _⟩ := h
    exact (List.getElem?_eq_some_iff.mp e).1
  | _ => trivial
theorem Sto.old {K : PySem.W.Frag} {F : Hp} {al : List Addr} {μ : Mu} {H : Hp} (S : Sto K F al μ H) : Old μ.length μ := fun i o e => by
  have lt : i < al.length := by
    rw [S.len]
    exact (List.getElem?_eq_some_iff.mp e).1
  obtain ⟨ho, _, h2⟩ := S.cell i _ o (List.getElem?_eq_getElem lt) e
  rw [← S.len]
  cases o with
  | dead => trivial
  | lst xs =>
    have ab := (h2 (fun z => nomatch z)).2
    cases ho with
    | lst vs => exact fun x hx => let ⟨_, a⟩ := Paired.right (R := Ab K F al) ab hx; old_ab a
    | _ => exact ab.elim
  | dct ks =>
    have ab := (h2 (fun z => nomatch z)).2
    cases ho with
    | dK vs => exact fun x hx => let ⟨_, a⟩ := Paired.right (R := fun (p : Key × V) (q : Key × A) => p.1 = q.1 ∧ Ab K F al p.2 q.2) ab hx; old_ab a.2
    | _ => exact ab.elim
  | fdct _ _ ks =>
    have ab := (h2 (fun z => nomatch z)).2
    cases ho with
    | frz o u =>
      cases u with
      | dK vs => exact fun x hx => let ⟨_, a⟩ := Paired.right (R := fun (p : Key × V) (q : Key × A) => p.1 = q.1 ∧ Ab K F al p.2 q.2) ab.2 hx; old_ab a.2
      | _ => exact ab.elim
    | _ => exact ab.elim
  | dctT P w ks =>
    have ab := (h2 (fun z => nomatch z)).2
    rw [abO_T] at ab
    obtain ⟨b, xs, _, _, _, r⟩ := ab
    exact fun x hx => let ⟨_, a⟩ := Paired.right (R := fun (x : List Key × Addr × V) (q : List Key × A) => x.1 = q.1 ∧ SqN K F x.2.1 (x.1.map kV) ∧ Ab K F al x.2.2 q.2) r hx; old_ab a.2.2
def startR (N : List Str) (xs : List A) : Rho := xs.map some ++ List.replicate (N.length - xs.length) none
theorem slots_start {K : PySem.W.Frag} {F : Hp} {al : List Addr} {N : List Str} {vs : List V} {xs : List A} (h : Paired (Ab K F al) vs xs) : Slots K F al (start N vs) (startR N xs) := by
  have hl := pair_len h
  refine ⟨?_, fun i x e => ?_⟩
  · unfold L2.start startR
    rw [List.length_append, List.length_append, List.length_map, List.length_map, List.length_replicate, List.length_replicate, hl]
  · unfold startR at e
    unfold L2.start
    rcases Nat.lt_or_ge i xs.length with lt | ge
    · rw [List.getElem?_append_left (by rw [List.length_map]; exact lt), List.getElem?_map] at e
      cases e' : xs[i]? with
      | none => rw [e'] at e; cases e
      | some y =>
        rw [e'] at e
        obtain rfl : y = x := Option.some.inj (Option.some.inj e)
        obtain ⟨v, e1, a⟩ := pair_get h e'
        exact ⟨v, by rw [List.getElem?_append_left (by rw [List.length_map, hl]; exact lt), List.getElem?_map, e1]; rfl, a⟩
    · rw [List.getElem?_append_right (by rw [List.length_map]; exact ge), List.getElem?_replicate] at e
      split at e <;> cases e
section
variable {X : Cx} {W : WX} {k : Nat} {f : Addr} {fd : FuncData} {ps : List Str} {R : DR} {x : Str} {p pos spos : Pos} {e : Expr} {es : List Expr} {da : DAT}
/-- raise C(e), C an own class without an own __init__ -/
abbrev dsRaise (C : Addr) (de : DT) : DS := fun D ρ μ => de ρ μ fun _ μ1 => D.ex (.ref C) none ρ μ1
theorem ds_raise1 {C : Addr} {bmB : List Value} {B newId initId : String} {de : DT} (hc : X.calm = true) (tk : Takes X W) (F : ExcBaseFacts B newId initId bmB) (q : PySem.W.excIn X.K C bmB newId = true) (gC : X.mg x = some (.ref C)) (kC : PySem.W.keepIn X.K (.ref C) = true) (r : Raises X (.ref C)) (h : DE X e de) (hg : Gl X x := by rfl)
    (hs : starEach [e] X.env = (false, eval e X.env) :: starEach [] X.env := by rfl) (hdb : (x == ("__debug__" : Str)) = false := by decide) : DSt X W (.Raise (some (.Call (.Name x p) [e] [] pos)) none spos) (dsRaise C de) := by
  obtain ⟨_, pe, s⟩ := h.ex
  refine ⟨_, ps_raise hc tk (SkE.pmk_own1 F q gC kC r hg pe hs hdb), fun ρ μ D h F al σ H S L E kk => ?_⟩
  exact s ρ μ _ h F al σ H S L _ fun v y μ1 F1 al1 H1 q1 g S1 a => kk.ex _ none ρ μ1 F1 al1 σ H1 none q1 g S1 (g.slots L) trivial
end
end Dl
set_option Elab.async false
set_option linter.all false
set_option maxRecDepth 100000
set_option maxHeartbeats 4000000
namespace Dl
open PySem PySem.Spec PyProof.Rows L2
section
variable {X : Cx} {K : PySem.W.Frag} {a b : Expr} {pos : Pos} {da db : DT}
/-- a list: data, or a cell -/
def LstOf (x : A) (μ : Mu) (xs : List A) : Prop := match x with
  | .d (.list ds) => xs = ds.map A.d
  | .c i => μ[i]? = some (.lst xs)
  | _ => False
theorem lstOf_ab {F : Hp} {al : List Addr} {μ : Mu} {H : Hp} {v : V} {x : A} {xs : List A} (S : Sto K F al μ H) (a : Ab K F al v x) (h : LstOf x μ xs) : ∃ p vs, v = .ref p ∧ SqL K H p vs ∧ Paired (Ab K F al) vs xs := by
  cases x with
  | d x =>
    cases x with
    | list ds =>
      obtain rfl : xs = ds.map A.d := h
      obtain ⟨p, vs, rfl, q, r⟩ := dp_lst a
      exact ⟨p, vs, rfl, S.seq q, DpAll.to r⟩
    | _ => exact h.elim
  | c i =>
    obtain ⟨p, ep, rfl⟩ := a
    obtain ⟨q, vs, e1, e2, e3⟩ := cell_lst S h
    rw [ep] at e1
    obtain rfl := Option.some.inj e1
    exact ⟨p, vs, rfl, .inl (.inl e2), e3⟩
  | v _ => exact h.elim
  | x _ _ _ _ => exact h.elim
/-- a new list -/
theorem lcEnd_new {F : Hp} {al : List Addr} {μ : Mu} {H : Hp} {P : DK} {Q : VK} {vs : List V} {xs : List A} (S : Sto K F al μ H) (a : Paired (Ab K F al) vs xs) (h : lcEnd P xs μ) (k : Ko K F al H P Q) : ∀ p, H p = none → Q (.ref p) (upd H p (.lst vs)) := fun p hp => by
  rcases h with ⟨ds, rfl, h⟩ | h
  · obtain ⟨S2, g2⟩ := S.lay (o := .lst vs) hp
    exact k _ _ _ _ _ _ h g2 S2 (.lst (.inl (.inl upd_same)) (DpAll.mono g2.f (DpAll.of a)))
  · obtain ⟨S2, g2⟩ := S.cellNew (ho := .lst vs) (o := .lst xs) hp a
    refine k (.ref p) (.c μ.length) _ _ _ _ h g2 S2 ⟨p, ?_, rfl⟩
    rw [← S.len, List.getElem?_append_right (Nat.le_refl _), Nat.sub_self]
    rfl
def rCatL (K : PySem.W.Frag) : R2 := fun x y H Q => ∃ l b xs zs, x = .ref l ∧ y = .ref b ∧ SqL K H l xs ∧ SqL K H b zs ∧ xs.length + zs.length ≤ sizeLine ∧ ∀ p, H p = none → Q (.ref p) (upd H p (.lst (xs ++ zs)))
theorem op_catL : OpR X (binaryOp .Add) (rCatL X.K) := by
  intro pins s σ H x y v u Q I rx ry h
  obtain ⟨l, b, xs, zs, rfl, rfl, hH, hB, hz, q⟩ := h
  cases rx
  cases ry
  obtain ⟨its, r, pl, z⟩ := I.list hH
  obtain ⟨its2, r2, pl2, z2⟩ := I.list hB
  obtain ⟨⟨cls, dd, data, sl⟩, n, ho, hc, _, hd⟩ := pl
  obtain ⟨⟨cls2, dd2, data2, sl2⟩, n2, ho2, hc2, _, hd2⟩ := pl2
  simp only at hc hd hc2 hd2
  subst hc hd hc2 hd2
  have e : its.toArray ++ its2.toArray = (its ++ its2).toArray := by simp
  refine concat_meets ⟨_, ho, rfl⟩ ⟨_, ho2, rfl⟩ noFill_list_add seq_list_add PySem.F.slot_list_add PySem.F.entry_list_add (PySem.F.args_list_add_2 _ _) (PyProof.Rows.list_addW l b its.toArray its2.toArray n n2 dd dd2 sl sl2 (by simp; rw [← r.length, ← r2.length]; exact hz)) ⟨ho, ho2, ?_⟩
  rw [e]
  exact ⟨.ref _, _, I.lnew (t' := s.toks) (r.append r2) (by rw [List.length_append]; omega), rfl, q _ I.fresh⟩
/-- t + u, of tuples -/
def rCatN (K : PySem.W.Frag) : R2 := fun x y H Q => ∃ a b xs ys, x = .ref a ∧ y = .ref b ∧ SqT K H a xs ∧ SqT K H b ys ∧ xs.length + ys.length ≤ sizeLine ∧
  (xs = [] → Q (.ref b) H) ∧ (ys = [] → Q (.ref a) H) ∧ (xs ≠ [] → ys ≠ [] → ∀ p ob, H p = none → ob.dict = none → Q (.ref p) (upd H p (.frz ob (.tup (xs ++ ys)))))
theorem op_catN {X : Cx} : OpR X (binaryOp .Add) (rCatN X.K) := by
  intro pins s σ H x y v u Q I rx ry h
  obtain ⟨a, b, xs, ys, rfl, rfl, ha, hb, small, q0, q1, q2⟩ := h
  cases rx
  cases ry
  obtain ⟨its, r1, p1, _⟩ := I.tuple ha
  obtain ⟨its2, r2, p2, _⟩ := I.tuple hb
  by_cases hx : xs = []
  · subst hx
    cases r1
    exact cat_tup0 p1 p2 ⟨.ref b, H, I, rfl, q0 rfl⟩
  · refine HT.cat_tup p1 p2 (fun z => hx (r1.nil_iff.mp z)) (fun z => ⟨.ref a, H, I, rfl, q1 (r2.nil_iff.mp z)⟩) (fun z => ?_) (by rw [← r1.length, ← r2.length]; exact small)
    have hy : ys ≠ [] := fun w => z (r2.nil_iff.mpr w)
    refine ⟨.ref s.heap.objs.size, _, I.laid (t' := s.toks) (o := .frz { cls := .type "tuple", data := .seq (its ++ its2).toArray } (.tup (xs ++ ys))) (fun _ _ e => Heap.get?_push_of_some _ e) (Nat.le_refl _) ?_, rfl, q2 hx hy _ _ (I.hok.fresh (Nat.le_refl _)) rfl⟩
    refine ⟨?_, by rw [List.length_append]; exact small, _, r1.append r2, ?_⟩
    · rw [← List.append_toArray]
      exact Heap.get?_push_size _ rfl
    · rw [← List.append_toArray]
      exact IsTup.new _ _
/-- x + y -/
def rdAdd : A → A → Mu → DK → Prop := fun x y μ P => match x, y with
  | .d (.int i), .d (.int j) => P (.d (.int (i + j))) μ
  | .d (.str i), .d (.str j) => i.length + j.length ≤ sizeLine ∧ P (.d (.str (i ++ j))) μ
  | .d (.tuple i), .d (.tuple j) => i.length + j.length ≤ sizeLine ∧ P (.d (.tuple (i ++ j))) μ
  | x, y => ∃ xs ys, LstOf x μ xs ∧ LstOf y μ ys ∧ xs.length + ys.length ≤ sizeLine ∧ lcEnd P (xs ++ ys) μ
theorem s_add : SimR2 K (fun x y H Q => rI0 (fun i j => .int (i + j)) x y H Q ∨ (∃ i j, x = .str i ∧ y = .str j ∧ i.length + j.length ≤ sizeLine ∧ Q (.str (i ++ j)) H) ∨ rCatN K x y H Q ∨ rCatL K x y H Q) rdAdd := fun x y μ P h F al H v w S a b Q k => by
  unfold rdAdd at h
  split at h
  · exact .inl ⟨_, _, dp_int a, dp_int b, k.now h S (.int _)⟩
  · exact .inr (.inl ⟨_, _, dp_str a, dp_str b, h.1, k.now h.2 S (.str _)⟩)
  · obtain ⟨p, vs, rfl, q, r⟩ := dp_tup a
    obtain ⟨p', ws, rfl, q', r'⟩ := dp_tup b
    refine .inr (.inr (.inl ⟨p, p', vs, ws, rfl, rfl, S.seqT q, S.seqT q', by rw [DpAll.len r, DpAll.len r']; exact h.1, fun e => ?_, fun e => ?_, fun _ _ p ob hp hd => ?_⟩))
    · subst e
      cases r
      exact k.now h.2 S b
    · subst e
      cases r'
      refine k.now h.2 S ?_
      rw [List.append_nil]
      exact a
    · obtain ⟨S2, g2⟩ := S.lay (o := .frz ob (.tup (vs ++ ws))) hp
      exact k _ _ _ _ _ _ h.2 g2 S2 (.tup (.inl ⟨ob, upd_same, hd⟩) (DpAll.mono g2.f (DpAll.app r r')))
  · obtain ⟨xs, ys, h1, h2, hz, h⟩ := h
    obtain ⟨p, vs, rfl, q, r⟩ := lstOf_ab S a h1
    obtain ⟨p', ws, rfl, q', r'⟩ := lstOf_ab S b h2
    exact .inr (.inr (.inr ⟨p, p', vs, ws, rfl, rfl, q, q', by rw [pair_len r, pair_len r']; exact hz, lcEnd_new S (Paired.app r r') h k⟩))
theorem dAdd (ha : DE X a da) (hb : DE X b db) : DE X (.BinOp a .Add b pos) (dOp rdAdd da db) := d_op (op_add.or (op_add_str.or (op_catN.or op_catL))) s_add ha hb
/-- two factors of together less than some ten million bits -/
def CMulV (i j : Int) : Prop := i.natAbs.log2 + j.natAbs.log2 < 10000000
theorem CMulV.ok {i j : Int} (h : CMulV i j) : IntMulOk i j := by
  have b : ∀ x : Int, Builtin.Int.intBits x ≤ x.natAbs.log2 + 1 := fun x => by
    unfold Builtin.Int.intBits
    split <;> omega
  have h1 := b i
  have h2 := b j
  have h3 : i.natAbs.log2 + j.natAbs.log2 < 10000000 := h
  have e : bitsLine = 134217728 := by decide
  unfold IntMulOk
  intro z
  rw [Bool.and_eq_true] at z
  have z2 := z.2
  unfold Builtin.Int.intTooBig at z2
  have z3 := of_decide_eq_true z2
  rw [e] at z3
  omega
theorem op_mulV {X : Cx} : OpR X (binaryOp .Mult) (rI CMulV fun i j => .int (i * j)) := opI fun _ _ _ _ _ _ _ hc q => mul_int q hc.ok
def CMulA (i j : Int) : Prop := CMul i j ∨ CMulV i j
def rdMul : A → A → Mu → DK → Prop := fun x y μ P => match x, y with
  | .d (.int i), .d (.int j) => CMulA i j ∧ P (.d (.int (i * j))) μ
  | .c n, .d (.int k) => ∃ xs, μ[n]? = some (.lst xs) ∧ -(2 ^ 63) ≤ k ∧ k < 2 ^ 63 ∧ xs.length * k.toNat ≤ sizeLine ∧ lcEnd P (List.replicate k.toNat xs).flatten μ
  | _, _ => False
theorem rep_pair {F : Hp} {al : List Addr} {vs : List V} {xs : List A} (h : Paired (Ab K F al) vs xs) : ∀ n : Nat, Paired (Ab K F al) (List.replicate n vs).flatten (List.replicate n xs).flatten
  | 0 => .nil
  | n + 1 => by
    rw [List.replicate_succ, List.replicate_succ, List.flatten_cons, List.flatten_cons]
    exact Paired.app h (rep_pair h n)
theorem s_mul : SimR2 K (fun x y H Q => rI CMul (fun i j => .int (i * j)) x y H Q ∨ rI CMulV (fun i j => .int (i * j)) x y H Q ∨ rRep x y H Q) rdMul := fun x y μ P h F al H v w S a b Q k => by
  unfold rdMul at h
  split at h
  · rcases h.1 with c | c
    · exact .inl ⟨_, _, dp_int a, dp_int b, c, k.now h.2 S (.int _)⟩
    · exact .inr (.inl ⟨_, _, dp_int a, dp_int b, c, k.now h.2 S (.int _)⟩)
  · obtain ⟨xs, e, h1, h2, h3, h⟩ := h
    obtain ⟨p, ep, rfl⟩ := a
    obtain ⟨q, vs, e1, e2, e3⟩ := cell_lst S e
    rw [ep] at e1
    obtain rfl := Option.some.inj e1
    exact .inr (.inr ⟨p, _, vs, rfl, dp_int b, e2, h1, h2, by rw [pair_len e3]; exact h3, lcEnd_new S (rep_pair e3 _) h k⟩)
  · exact h.elim
theorem dMul (ha : DE X a da) (hb : DE X b db) : DE X (.BinOp a .Mult b pos) (dOp rdMul da db) := d_op (op_mul.or (op_mulV.or op_rep)) s_mul ha hb
theorem dDiv (ha : DE X a da) (hb : DE X b db) : DE X (.BinOp a .FloorDiv b pos) (dOp (rdI CDivW fun i j => .int (i / j)) da db) := d_fdivW ha hb op_fdivW
/-- data that stands at x -/
def DatOf (x : A) (μ : Mu) (d : PyData) : Prop := match x with
  | .d e => d = e
  | .c i => ∃ ds, μ[i]? = some (.lst (ds.map A.d)) ∧ d = .list ds
  | _ => False
theorem datOf_ab {F : Hp} {al : List Addr} {μ : Mu} {H : Hp} {v : V} {x : A} {d : PyData} (S : Sto K F al μ H) (a : Ab K F al v x) (h : DatOf x μ d) : Dp K H v d := by
  cases x with
  | d x =>
    obtain rfl : d = x := h
    exact Dp.mono S.sub a
  | c i =>
    obtain ⟨ds, e, rfl⟩ := h
    obtain ⟨p, ep, rfl⟩ := a
    obtain ⟨q, vs, e1, e2, e3⟩ := cell_lst S e
    rw [ep] at e1
    obtain rfl := Option.some.inj e1
    exact .lst (.inl (.inl e2)) (DpAll.mono S.sub (DpAll.of e3))
  | v _ => exact h.elim
  | x _ _ _ _ => exact h.elim
/-- x == y -/
def rdEq (neg : Bool) : A → A → Mu → DK → Prop := fun x y μ P => match x, y with
  | .d (.int i), .d (.int j) => P (.d (.bool (neg ^^ decide (i = j)))) μ
  | .d (.str i), .d (.str j) => P (.d (.bool (neg ^^ decide (i = j)))) μ
  | x, y => ∃ d e, DatOf x μ d ∧ DatOf y μ e ∧ SeqAt.shaped d = true ∧ SeqAt.shaped e = true ∧ P (.d (.bool (neg ^^ PyData.eqv d e))) μ
theorem s_eq : SimR2 K (fun x y H Q => rEq x y H Q ∨ rEqD K x y H Q) (rdEq false) := fun x y μ P h F al H v w S a b Q k => by
  unfold rdEq at h
  split at h
  · rw [dp_int a, dp_int b]
    exact .inl ⟨rfl, by rw [vint_eq]; exact k.now (x := .d (.bool _)) h S (by rw [Bool.false_xor]; exact .bl _)⟩
  · rw [dp_str a, dp_str b]
    exact .inl ⟨rfl, by rw [vstr_eq]; exact k.now (x := .d (.bool _)) h S (by rw [Bool.false_xor]; exact .bl _)⟩
  · obtain ⟨d, e, h1, h2, s1, s2, h⟩ := h
    exact .inr ⟨d, e, (datOf_ab S a h1).lib (plain_sh s1), (datOf_ab S b h2).lib (plain_sh s2), s1, s2, k.now (x := .d (.bool _)) h S (by rw [Bool.false_xor]; exact .bl _)⟩
theorem s_ne : SimR2 K (fun x y H Q => rNe x y H Q ∨ rNeD K x y H Q) (rdEq true) := fun x y μ P h F al H v w S a b Q k => by
  unfold rdEq at h
  split at h
  · rw [dp_int a, dp_int b]
    exact .inl ⟨rfl, by rw [vint_eq]; exact k.now (x := .d (.bool _)) h S (by rw [Bool.true_xor]; exact .bl _)⟩
  · rw [dp_str a, dp_str b]
    exact .inl ⟨rfl, by rw [vstr_eq]; exact k.now (x := .d (.bool _)) h S (by rw [Bool.true_xor]; exact .bl _)⟩
  · obtain ⟨d, e, h1, h2, s1, s2, h⟩ := h
    exact .inr ⟨d, e, (datOf_ab S a h1).lib (plain_sh s1), (datOf_ab S b h2).lib (plain_sh s2), s1, s2, k.now (x := .d (.bool _)) h S (by rw [Bool.true_xor]; exact .bl _)⟩
theorem dEq (hu : X.A.units + 64 < cLine) (ha : DE X a da) (hb : DE X b db) (hm : behindInMarks .Eq b = false := by rfl) : DE X (.Compare a [.Eq] [b] pos) (dOp (rdEq false) da db) := d_cmp (op_eq.or (op_eqD hu)) s_eq ha hb hm
theorem dNe (hu : X.A.units + 64 < cLine) (ha : DE X a da) (hb : DE X b db) (hm : behindInMarks .NotEq b = false := by rfl) : DE X (.Compare a [.NotEq] [b] pos) (dOp (rdEq true) da db) := d_cmp (op_ne.or (op_neD hu)) s_ne ha hb hm
theorem dIx (ha : DE X a da) (hb : DE X b db) (hp : PlainIx b := by exact fun _ _ => rfl) : DE X (.Subscript a b pos) (dOp rdIx da db) := d_ix ix_seq s_ix ha hb hp
end
end Dl
set_option Elab.async false
set_option linter.all false
set_option maxRecDepth 100000
set_option maxHeartbeats 4000000
namespace Dl
open PySem PySem.Spec PyProof.Rows L2
structure Cal (P : Program) (w : World) (K : PySem.W.Frag) (mg : Str → Option Value) (base : Heap) (x : Str) (k : Nat) (R : DR) : Prop where
  ex : ∃ f fd ps, mg x = some (.ref f) ∧ PySem.W.keepIn K (.ref f) = true ∧ Binds K fd ps [] ∧ FnOk P w K mg base (L2.CX P w) k f fd ps (SpD K R)
theorem Cal.mono {P : Program} {w : World} {K : PySem.W.Frag} {mg : Str → Option Value} {base : Heap} {x : Str} {j k : Nat} {R : DR} (C : Cal P w K mg base x j R) (h : j ≤ k) : Cal P w K mg base x k R := by
  obtain ⟨f, fd, ps, m, hk, b, F⟩ := C.ex
  exact ⟨f, fd, ps, m, hk, b, F.mono h⟩
section
variable {X : Cx} {W : WX} {tg e : Expr} {es : List Expr} {de : DT} {da : DAT} {K : PySem.W.Frag} {p pos : Pos}
def iAny (K : PySem.W.Frag) (te : TE) : TI := fun σ H R => te σ H fun x H1 => (∃ a, x = .ref a ∧ (∃ xs, SqL K H1 a xs) ∧ R (Itl K a) H1) ∨ (∃ a, x = .ref a ∧ (∃ xs, SqT K H1 a xs) ∧ R (Itt K a) H1) ∨ ∃ z, x = .str z ∧ R (Its z) H1
theorem pi_any {te : TE} (he : PE X e te) : PI X tg e (iAny X.K te) := by
  refine ⟨fun pins s σ H R I h => ?_⟩
  refine thn (he.run pins s σ H _ I h) fun v s1 ⟨x, H1, I1, r1, q1⟩ => ?_
  rcases q1 with ⟨a, rfl, ⟨xs, hq⟩, q⟩ | ⟨a, rfl, ⟨xs, hq⟩, q⟩ | ⟨x, rfl, q⟩
  · cases r1
    obtain ⟨its, rv, p, hz⟩ := I1.list hq
    refine wpAny_pyIter_list p.isList ?_
    refine ⟨s1.heap.objs.size, [s1.heap.objs.size], _, _, H1, rfl, I1.kept (t' := s1.toks) fun b o e => Heap.get?_push_of_some _ e, turn_list a _, ⟨_, Heap.get?_push_size _ rfl, rfl, rfl⟩, fun b hb => ?_, q⟩
    have e : b = s1.heap.objs.size := by simpa using hb
    subst e
    exact I1.fpOk (Nat.le_refl _) (I1.hok.fresh (Nat.le_refl _))
  · cases r1
    obtain ⟨its, rv, p, hz⟩ := I1.tuple hq
    refine wpAny_pyIter_tuple (show s1.heap.IsTuple a its.toArray from p) ?_
    refine ⟨s1.heap.objs.size, [s1.heap.objs.size], _, _, H1, rfl, I1.kept (t' := s1.toks) fun b o e => Heap.get?_push_of_some _ e, turn_tuple a _, ⟨_, Heap.get?_push_size _ rfl, rfl, rfl⟩, fun b hb => ?_, q⟩
    have e : b = s1.heap.objs.size := by simpa using hb
    subst e
    exact I1.fpOk (Nat.le_refl _) (I1.hok.fresh (Nat.le_refl _))
  · obtain ⟨t, rfl⟩ := r1
    cases ha : x.cps.all (· < 128)
    · exact wpAny_pyIter_wide ha (pi_one (tk := s1.toks) I1 _ (turn_str _ x t "str_iterator" (.inr rfl)) ⟨_, Heap.get?_push_size _ rfl, rfl, rfl⟩ q)
    · exact wpAny_pyIter_ascii ha (pi_one (tk := s1.toks) I1 _ (turn_str _ x t "str_ascii_iterator" (.inl rfl)) ⟨_, Heap.get?_push_size _ rfl, rfl, rfl⟩ q)
/-- over the items of a list, a tuple, a str -/
def rdIt (P : List Y → (Mu → Prop) → Mu → Prop) (x : A) (μ : Mu) : Prop := match x with
  | .d (.list ds) => P (oneD ds) always μ
  | .d (.tuple ds) => P (oneD ds) always μ
  | .d (.str z) => P (chrY z) always μ
  | .c n => ∃ xs, μ[n]? = some (.lst xs) ∧ P (xs.map .one) (fun μ => μ[n]? = some (.lst xs)) μ
  | _ => False
abbrev dIt (de : DT) : DI := fun ρ μ P => de ρ μ fun x μ1 => rdIt P x μ1
theorem di_any (h : DE X e de) : DIt X tg e (dIt de) := by
  obtain ⟨_, p, s⟩ := h.ex
  refine ⟨_, pi_any p, fun ρ μ P h F al σ H S L R k => s ρ μ _ h F al σ H S L _ fun v x μ1 F1 al1 H1 q g S1 a => ?_⟩
  replace q : rdIt P x μ1 := q
  unfold rdIt at q
  split at q
  · obtain ⟨p, vs, rfl, e1, e2⟩ := dp_lst a
    exact .inl ⟨p, rfl, ⟨vs, S1.seq e1⟩, k _ _ _ _ _ _ _ q g S1 (jw_list e1 e2)⟩
  · obtain ⟨p, vs, rfl, e1, e2⟩ := dp_tup a
    exact .inr (.inl ⟨p, rfl, ⟨vs, S1.seqT e1⟩, k _ _ _ _ _ _ _ q g S1 (jw_tup e1 e2)⟩)
  · exact .inr (.inr ⟨_, dp_str a, k _ _ _ _ _ _ _ q g S1 jw_chr⟩)
  · obtain ⟨xs, hc, q⟩ := q
    obtain ⟨p, ep, rfl⟩ := a
    obtain ⟨p', vs, e1, e2, e3⟩ := cell_lst S1 hc
    rw [ep] at e1
    obtain rfl := Option.some.inj e1
    exact .inl ⟨p, rfl, ⟨vs, .inl (.inl e2)⟩, k _ _ _ _ _ _ _ q g S1 (jw_cell ep)⟩
  · exact q.elim
/-- [..]: data, or a cell -/
abbrev dLstU (da : DAT) : DT := fun ρ μ P => da ρ μ fun xs μ1 => xs.length ≤ sizeLine ∧ lcEnd P xs μ1
theorem d_lstU (h : DA X es da) : DE X (.List es pos) (dLstU da) := by
  obtain ⟨_, p, s⟩ := h.ex
  refine ⟨_, pe_lst p, fun ρ μ P h F al σ H S L Q k => s ρ μ _ h F al σ H S L _ fun vs xs μ1 F1 al1 H1 q g S1 a => ?_⟩
  exact ⟨by rw [pair_len a]; exact q.1, lcEnd_new S1 a q.2 (k.fwd g)⟩
/-- list(x) -/
def rdListU : List A → Mu → DK → Prop := fun xs μ P => ∃ x ys, xs = [x] ∧ (LstOf x μ ys ∨ ∃ ds, x = .d (.tuple ds) ∧ ys = ds.map A.d) ∧ lcEnd P ys μ
theorem s_listU : SimC K (fun xs H Q => ∃ p ys, xs = [.ref p] ∧ (SqL K H p ys ∨ SqT K H p ys) ∧ ∀ l, H l = none → Q (.ref l) (upd H l (.lst ys))) rdListU := fun xs μ P h F al H vs S a Q k => by
  obtain ⟨x, ys, rfl, hi, h⟩ := h
  obtain ⟨v, rfl, a1⟩ := one_of a
  rcases hi with hi | ⟨ds, rfl, rfl⟩
  · obtain ⟨p, vs, rfl, q, r⟩ := lstOf_ab S a1 hi
    exact ⟨p, vs, rfl, .inl q, lcEnd_new S r h k⟩
  · obtain ⟨p, vs, rfl, q, r⟩ := dp_tup a1
    exact ⟨p, vs, rfl, .inr (S.seqT q), lcEnd_new S (DpAll.to r) h k⟩
/-- len(x) -/
def rdLenU : List A → Mu → DK → Prop := fun xs μ P => match xs with
  | [.d (.list ds)] => P (.d (.int ds.length)) μ
  | [.d (.tuple ds)] => P (.d (.int ds.length)) μ
  | [.d (.str z)] => z.length ≤ sizeLine ∧ P (.d (.int z.length)) μ
  | [.c n] => ∃ ys, μ[n]? = some (.lst ys) ∧ P (.d (.int ys.length)) μ
  | _ => False
theorem s_lenU : SimC K (fun xs H Q => ∃ x n, xs = [x] ∧ LenV K x H n ∧ Q (.int n) H) rdLenU := fun xs μ P h F al H vs S a Q k => by
  unfold rdLenU at h
  split at h
  · exact s_len _ μ P ⟨_, _, rfl, .inl ⟨_, .inl rfl, rfl⟩, h⟩ F al H vs S a Q k
  · exact s_len _ μ P ⟨_, _, rfl, .inl ⟨_, .inr (.inl rfl), rfl⟩, h⟩ F al H vs S a Q k
  · exact s_len _ μ P ⟨_, _, rfl, .inr (.inr ⟨_, rfl, h.1, rfl⟩), h.2⟩ F al H vs S a Q k
  · obtain ⟨ys, e, h⟩ := h
    exact s_len _ μ P ⟨_, _, rfl, .inr (.inl ⟨_, _, rfl, e, rfl⟩), h⟩ F al H vs S a Q k
  · exact h.elim
end
end Dl
set_option Elab.async false
set_option linter.all false
set_option maxRecDepth 100000
set_option maxHeartbeats 4000000
namespace Dl
open PySem PySem.Spec PyProof.Rows L2
section
variable {X : Cx} {W : WX} {K : PySem.W.Frag} {a b c e : Expr} {x : Str} {p pos : Pos} {da db dc de : DT} {r r' : R2} {rd rd' : A → A → Mu → DK → Prop}
theorem d_constI {i : Int} (hm : ∃ t, X.mg x = some (.int i t)) (hg : Gl X x := by rfl) (hd : (x == ("__debug__" : Str)) = false := by decide) : DE X (.Name x pos) (dC (.d (.int i))) := let ⟨_, h⟩ := hm; d_globI hg h hd
abbrev dNeg (da : DT) : DT := fun ρ μ P => da ρ μ fun x μ1 => ∃ i, x = .d (.int i) ∧ P (.d (.int (-i))) μ1
theorem d_neg (ha : DE X a da) : DE X (.UnaryOp .USub a pos) (dNeg da) := by
  obtain ⟨_, p, s⟩ := ha.ex
  refine ⟨_, pe_un un_neg p, fun ρ μ P h F al σ H S L Q k => s ρ μ _ h F al σ H S L _ fun v x μ1 F1 al1 H1 q g S1 a => ?_⟩
  obtain ⟨i, rfl, q⟩ := q
  exact ⟨i, dp_int a, (k.fwd g).now q S1 (.int _)⟩
/-- x in y -/
def rdInU (neg : Bool) : A → A → Mu → DK → Prop := fun x y μ P => match x, y with
  | .d (.str s), .d (.str z) => ∃ c, s = ⟨#[c]⟩ ∧ P (.d (.bool (neg ^^ decide (c ∈ z.cps.toList)))) μ
  | .d d, y => ∃ ds, ItemsD y μ ds ∧ flatD d = true ∧ ds.all flatD = true ∧ P (.d (.bool (neg ^^ ds.any (fun e => eqF e d)))) μ
  | _, _ => False
theorem s_inU : SimR2 K (fun x y H Q => rIn K false x y H Q ∨ ∃ (c : Nat) (z : Str), x = .str ⟨#[c]⟩ ∧ y = .str z ∧ Q (.bl (decide (c ∈ z.cps.toList))) H) (rdInU false) := fun x y μ P h F al H v w S a b Q k => by
  unfold rdInU at h
  split at h
  · obtain ⟨c, rfl, h⟩ := h
    exact .inr ⟨c, _, dp_str a, dp_str b, k.now (x := .d (.bool _)) h S (by rw [Bool.false_xor]; exact .bl _)⟩
  · obtain ⟨ds, h1, h2, h3, h⟩ := h
    refine .inl (s_in false _ _ μ P ⟨_, ds, rfl, h1, h2, h3, ?_⟩ F al H v w S a b Q k)
    rw [Bool.false_xor] at h
    exact h
  · exact h.elim
theorem s_notInU : SimR2 K (fun x y H Q => rIn K true x y H Q ∨ ∃ (c : Nat) (z : Str), x = .str ⟨#[c]⟩ ∧ y = .str z ∧ Q (.bl (!decide (c ∈ z.cps.toList))) H) (rdInU true) := fun x y μ P h F al H v w S a b Q k => by
  unfold rdInU at h
  split at h
  · obtain ⟨c, rfl, h⟩ := h
    exact .inr ⟨c, _, dp_str a, dp_str b, k.now (x := .d (.bool _)) h S (by rw [Bool.true_xor]; exact .bl _)⟩
  · obtain ⟨ds, h1, h2, h3, h⟩ := h
    refine .inl (s_in true _ _ μ P ⟨_, ds, rfl, h1, h2, h3, ?_⟩ F al H v w S a b Q k)
    rw [Bool.true_xor] at h
    exact h
  · exact h.elim
theorem dIn (ha : DE X a da) (hb : DE X b db) (hm : behindInMarks .In b = false := by rfl) : DE X (.Compare a [.In] [b] pos) (dOp (rdInU false) da db) := d_cmp (op_in_seq.or op_in_sign) s_inU ha hb hm
theorem dNotIn (ha : DE X a da) (hb : DE X b db) (hm : behindInMarks .NotIn b = false := by rfl) : DE X (.Compare a [.NotIn] [b] pos) (dOp (rdInU true) da db) := d_cmp (op_notIn_seq.or op_notIn_sign) s_notInU ha hb hm
theorem tEq (hu : X.A.units + 64 < cLine) (ha : DE X a da) (hb : DE X b db) (hm : behindInMarks .Eq b = false := by rfl) : DTest X (.Compare a [.Eq] [b] pos) (dB (dOp (rdEq false) da db)) := dt_cmp (op_eq.or (op_eqD hu)) s_eq ha hb hm
theorem tNe (hu : X.A.units + 64 < cLine) (ha : DE X a da) (hb : DE X b db) (hm : behindInMarks .NotEq b = false := by rfl) : DTest X (.Compare a [.NotEq] [b] pos) (dB (dOp (rdEq true) da db)) := dt_cmp (op_ne.or (op_neD hu)) s_ne ha hb hm
theorem tLt (ha : DE X a da) (hb : DE X b db) (hm : behindInMarks .Lt b = false := by rfl) : DTest X (.Compare a [.Lt] [b] pos) (dB (dOp rdLt da db)) := dt_cmp op_lt s_lt ha hb hm
theorem tGt (ha : DE X a da) (hb : DE X b db) (hm : behindInMarks .Gt b = false := by rfl) : DTest X (.Compare a [.Gt] [b] pos) (dB (dOp rdGt da db)) := dt_cmp op_gt s_gt ha hb hm
theorem tIn (ha : DE X a da) (hb : DE X b db) (hm : behindInMarks .In b = false := by rfl) : DTest X (.Compare a [.In] [b] pos) (dB (dOp (rdInU false) da db)) := dt_cmp (op_in_seq.or op_in_sign) s_inU ha hb hm
theorem tNotIn (ha : DE X a da) (hb : DE X b db) (hm : behindInMarks .NotIn b = false := by rfl) : DTest X (.Compare a [.NotIn] [b] pos) (dB (dOp (rdInU true) da db)) := dt_cmp (op_notIn_seq.or op_notIn_sign) s_notInU ha hb hm
/-- a op b op' c -/
abbrev dChain (rd rd' : A → A → Mu → DK → Prop) (da db dc : DT) : DT := fun ρ μ P => da ρ μ fun x μ1 => db ρ μ1 fun y μ2 => rd x y μ2 fun z μ3 => ∃ k, z = .d (.bool k) ∧ if k = true then dc ρ μ3 fun u μ4 => rd' y u μ4 P else P (.d (.bool false)) μ3
theorem sim_chain {ta tb tc : TE} (h1 : SimR2 K r rd) (h2 : SimR2 K r' rd') (ha : SimE K ta da) (hb : SimE K tb db) (hc : SimE K tc dc) : SimE K (tChain r r' ta tb tc) (dChain rd rd' da db dc) := fun ρ μ P h F al σ H S L Q k => by
  refine ha ρ μ _ h F al σ H S L _ fun v x μ1 F1 al1 H1 q1 g1 S1 a1 => hb ρ μ1 _ q1 F1 al1 σ H1 S1 (g1.slots L) _ fun w y μ2 F2 al2 H2 q2 g2 S2 a2 => ?_
  refine h1 x y μ2 _ q2 F2 al2 H2 v w S2 (g2.ab a1) a2 _ fun u z μ3 F3 al3 H3 q3 g3 S3 a3 => ?_
  obtain ⟨c, rfl, q3⟩ := q3
  refine ⟨c, dp_bl a3, ?_⟩
  have g := (g1.trans g2).trans g3
  cases c with
  | true =>
    rw [if_pos rfl] at q3
    refine iteT (hc ρ μ3 _ q3 F3 al3 σ H3 S3 (g.slots L) _ fun u' z' μ4 F4 al4 H4 q4 g4 S4 a4 => ?_)
    exact h2 y z' μ4 P q4 F4 al4 H4 w u' S4 ((g3.trans g4).ab a2) a4 Q (k.fwd (g.trans g4))
  | false =>
    rw [if_neg Bool.false_ne_true] at q3
    exact iteF ((k.fwd g).now (x := .d (.bool false)) q3 S3 (Dp.bl _))
theorem dt_chain {op op' : CmpOp} (ho : OpR X (compareOp op) r) (ho' : OpR X (compareOp op') r') (h1 : SimR2 X.K r rd) (h2 : SimR2 X.K r' rd') (ha : DE X a da) (hb : DE X b db) (hc : DE X c dc) (hm : lastMarks [op, op'] [b, c] = false := by with_unfolding_all rfl) :
    DTest X (.Compare a [op, op'] [b, c] pos) (dB (dChain rd rd' da db dc)) := by
  obtain ⟨_, pa, sa⟩ := ha.ex
  obtain ⟨_, pb, sb⟩ := hb.ex
  obtain ⟨_, pc, sc⟩ := hc.ex
  exact ⟨_, pt_chain ho ho' pa pb pc hm, sim_b (sim_chain h1 h2 sa sb sc)⟩
end
/-- name = [..] on one line -/
theorem ds_setLc {X : Cx} {W : WX} {tg iter elt : Expr} {ifs : List Expr} {di : DI} {dg : DG} {dt : DTT} {de : DT} {pos spos py : Pos} {scope : Scope} {own : List (Str × Nat)} {i : Nat} {y : Str} (hc : X.calm = true) (hN : X.N.Nodup) (hi : DIt X tg iter di) (ok : BlkOk X.N X.env.scope scope own)
    (hg : Blk X scope fun Y => DGt Y tg (own.map (·.2)) dg) (ht : Blk X scope fun Y => DTs Y ifs dt) (he : Blk X scope fun Y => DE Y elt de)
    (hsw : swapsWith (.ListComp elt [⟨tg, iter, ifs, 0⟩] scope pos) (some (.Name y py)) spos.line X.env = pure true) (hy : X.N[i]? = some y := by rfl) (hyl : X.env.scope.names.lookup y = some .local := by rfl) (hs : ∀ x, foldedSetIterable iter X.env x = pure x := by intro _; rfl) :
    DSt X W (.Assign [.Name y py] (.ListComp elt [⟨tg, iter, ifs, 0⟩] scope pos) spos) (dsSet i (dLc di dg dt de (own.map (·.2)))) := by
  obtain ⟨_, p1, s1⟩ := hi.ex
  refine ⟨_, ps_setLc (te := tD X.K de) (tt := tDT X.K dt) (g := tDG X.K (own.map (·.2)) dg) hc hN hy hyl hsw p1 ok (fun s H C cl fp => (hg s H C cl fp).pg) (fun s H C cl fp => (ht s H C cl fp).ex) (fun s H C cl fp => (he s H C cl fp).pe) hs, fun ρ μ D h F al σ H S L E k => ?_⟩
  exact sim_lc s1 sim_tDG sim_tDT sim_tD ρ μ _ h F al σ H S L _ fun v x μ1 F1 al1 H1 q g S1 a => k.nx _ _ _ _ _ _ q g S1 ((g.slots L).set a)
end Dl
set_option Elab.async false
set_option linter.all false
set_option maxRecDepth 100000
set_option maxHeartbeats 4000000
namespace Dl
open PySem PySem.Spec PyProof.Rows L2
theorem rfyV_old {m : Nat} {kp : Option Nat} {μ : Mu} {x : A} (h : oldA m x) : RfyV m kp μ x x := by
  cases x with
  | d d => exact .inl ⟨d, .d d, rfl⟩
  | c i => exact .inr (.inl ⟨i, rfl, rfl, h⟩)
  | v v => exact .inr (.inr (.inr (.inl ⟨v, rfl, rfl⟩)))
  | x a c d o => exact .inr (.inr (.inr (.inr ⟨a, c, d, o, rfl, rfl⟩)))
theorem pair_self {α : Type} {R : α → α → Prop} : ∀ {l : List α}, (∀ x ∈ l, R x x) → Paired R l l
  | [], _ => .nil
  | x :: l, h => .cons (h x (List.mem_cons_self ..)) (pair_self fun y hy => h y (List.mem_cons_of_mem _ hy))
theorem rfyO_old {m : Nat} {kp : Option Nat} {μ : Mu} {o : O} (h : oldO m o) : RfyO m kp μ o o := by
  cases o with
  | dead => trivial
  | lst xs => exact pair_self fun x hx => rfyV_old (h x hx)
  | dct ks => exact pair_self fun x hx => ⟨rfl, rfyV_old (h x hx)⟩
  | fdct o vs ks => exact ⟨⟨rfl, rfl⟩, pair_self fun x hx => ⟨rfl, rfyV_old (h x hx)⟩⟩
  | dctT P w ks => exact ⟨⟨rfl, rfl⟩, pair_self fun x hx => ⟨rfl, rfyV_old (h x hx)⟩⟩
theorem rfyM_old {m : Nat} {μ1 l : Mu} (hl : μ1.length = m) (ho : Old m μ1) : RfyM m none (μ1 ++ l) μ1 :=
  ⟨fun j e => (nomatch e), by rw [hl]; rfl, fun i o lt e => ⟨o, by rw [List.getElem?_append_left (by omega)]; exact e, rfyO_old (ho i o e)⟩, fun j o e => (nomatch e)⟩
theorem ret_data {m : Nat} {P : DK} {d : PyData} {μ1 : Mu} (l : Mu) (hl : μ1.length = m) (ho : Old m μ1) (h : P (.d d) μ1) : RetD m P (.d d) (μ1 ++ l) := ⟨none, .d d, μ1, .inl ⟨d, .d d, rfl⟩, rfyM_old hl ho, h⟩
theorem ret_data0 {m : Nat} {P : DK} {d : PyData} {μ1 : Mu} (hl : μ1.length = m) (ho : Old m μ1) (h : P (.d d) μ1) : RetD m P (.d d) μ1 := by
  have := ret_data [] hl ho h
  rw [List.append_nil] at this
  exact this
/-- a new list is given back: as data -/
theorem ret_frz {m : Nat} {P : DK} {xs : List A} {ds : List PyData} {μ1 l : Mu} {j : Nat} (hl : μ1.length = m) (ho : Old m μ1) (e : l[j]? = some (.lst xs)) (r : RfyL m none (μ1 ++ l) xs ds) (h : P (.d (.list ds)) μ1) : RetD m P (.c (m + j)) (μ1 ++ l) :=
  ⟨none, .d (.list ds), μ1, .inl ⟨_, .c (Nat.le_add_right _ _) (fun z => nomatch z) (by rw [List.getElem?_append_right (by omega), hl, Nat.add_sub_cancel_left]; exact e) r, rfl⟩, rfyM_old hl ho, h⟩
theorem Old.set {m : Nat} {μ : Mu} {n : Nat} {o : O} (h : Old m μ) (ho : oldO m o) : Old m (μ.set n o) := fun i u e => by
  by_cases z : n = i
  · subst z
    have lt := (List.getElem?_eq_some_iff.mp e).1
    rw [List.length_set] at lt
    rw [List.getElem?_set_self lt] at e
    obtain rfl := Option.some.inj e
    exact ho
  · rw [List.getElem?_set_ne z] at e
    exact h i u e
theorem oldO_data {m : Nat} {xs : List A} (h : ∀ x ∈ xs, ∃ d, x = .d d) : oldO m (.lst xs) := fun x hx => by
  obtain ⟨d, rfl⟩ := h x hx
  trivial
theorem oldO_map {m : Nat} (ds : List PyData) : oldO m (.lst (ds.map A.d)) := oldO_data fun x hx => by
  obtain ⟨d, _, rfl⟩ := List.mem_map.mp hx
  exact ⟨d, rfl⟩
theorem get_old {μ l : Mu} {n : Nat} {o : O} (h : μ[n]? = some o) : (μ ++ l)[n]? = some o := by rw [List.getElem?_append_left (List.getElem?_eq_some_iff.mp h).1]; exact h
theorem set_self {α : Type} {l : List α} {n : Nat} {x : α} (h : l[n]? = some x) : l.set n x = l := by
  apply List.ext_getElem?
  intro i
  by_cases z : n = i
  · subst z
    rw [List.getElem?_set_self (List.getElem?_eq_some_iff.mp h).1, h]
  · rw [List.getElem?_set_ne z]
theorem erase_perm {α : Type} : ∀ {l : List α} {k : Nat} (h : k < l.length), (l[k] :: l.eraseIdx k).Perm l
  | x :: l, 0, _ => List.Perm.refl _
  | x :: l, k + 1, h => by
    have h' : k < l.length := Nat.lt_of_succ_lt_succ h
    have := erase_perm h'
    rw [List.eraseIdx_cons_succ, List.getElem_cons_succ]
    exact (List.Perm.swap _ _ _).trans (List.Perm.cons x this)
theorem get_set {μ : Mu} {n : Nat} {o u : O} (h : μ[n]? = some u) : (μ.set n o)[n]? = some o := List.getElem?_set_self (List.getElem?_eq_some_iff.mp h).1
def SeqOf (y : A) (μ : Mu) (zs : List A) : Prop := LstOf y μ zs ∨ ∃ ds, y = .d (.tuple ds) ∧ zs = ds.map A.d
theorem len_of {y : A} {μ : Mu} {zs : List A} {P : DK} (h : SeqOf y μ zs) (q : P (.d (.int zs.length)) μ) : rdLenU [y] μ P := by
  rcases h with h | ⟨ds, rfl, rfl⟩
  · cases y with
    | d x =>
      cases x with
      | list ds =>
        obtain rfl : zs = ds.map A.d := h
        rw [List.length_map] at q
        exact q
      | _ => exact h.elim
    | c i => exact ⟨zs, h, q⟩
    | v _ => exact h.elim
    | x _ _ _ _ => exact h.elim
  · rw [List.length_map] at q
    exact q
theorem atI_nat {α : Type} {xs : List α} {j : Nat} {x : α} (h : xs[j]? = some x) : atI xs (j : Int) = some x := by
  have lt := (List.getElem?_eq_some_iff.mp h).1
  unfold atI ixN
  rw [if_pos (by omega), if_pos (by omega)]
  exact h
theorem ix_of {y : A} {μ : Mu} {zs : List A} {P : DK} {j : Nat} {x : A} (h : SeqOf y μ zs) (e : zs[j]? = some x) (q : P x μ) : rdIx y (.d (.int (j : Nat))) μ P := by
  refine ⟨_, rfl, ?_⟩
  rcases h with h | ⟨ds, rfl, rfl⟩
  · cases y with
    | d y =>
      cases y with
      | list ds =>
        obtain rfl : zs = ds.map A.d := h
        rw [List.getElem?_map] at e
        cases e' : ds[j]? with
        | none => rw [e'] at e; cases e
        | some d =>
          rw [e'] at e
          obtain rfl := Option.some.inj e
          exact .inl ⟨ds, d, .inl rfl, atI_nat e', q⟩
      | _ => exact h.elim
    | c i => exact .inr (.inl ⟨i, zs, x, rfl, h, atI_nat e, q⟩)
    | v _ => exact h.elim
    | x _ _ _ _ => exact h.elim
  · rw [List.getElem?_map] at e
    cases e' : ds[j]? with
    | none => rw [e'] at e; cases e
    | some d =>
      rw [e'] at e
      obtain rfl := Option.some.inj e
      exact .inl ⟨ds, d, .inr rfl, atI_nat e', q⟩
theorem SeqOf.old {y : A} {μ : Mu} {zs : List A} (h : SeqOf y μ zs) (o : Old μ.length μ) : ∀ x ∈ zs, oldA μ.length x := by
  rcases h with h | ⟨ds, rfl, rfl⟩
  · cases y with
    | d y =>
      cases y with
      | list ds =>
        obtain rfl : zs = ds.map A.d := h
        intro x hx
        obtain ⟨d, _, rfl⟩ := List.mem_map.mp hx
        trivial
      | _ => exact h.elim
    | c i => exact o i _ h
    | v _ => exact h.elim
    | x _ _ _ _ => exact h.elim
  · intro x hx
    obtain ⟨d, _, rfl⟩ := List.mem_map.mp hx
    trivial
/-- another cell is written -/
theorem SeqOf.set {y : A} {μ : Mu} {zs : List A} {n : Nat} {o : O} (h : SeqOf y μ zs) (hy : y ≠ .c n) : SeqOf y (μ.set n o) zs := by
  rcases h with h | h
  · refine .inl ?_
    cases y with
    | c i =>
      show (μ.set n o)[i]? = _
      rw [List.getElem?_set_ne (fun e => hy (by rw [e]))]
      exact h
    | d y => cases y <;> exact h
    | v _ => exact h
    | x _ _ _ _ => exact h
  · exact .inr h
theorem SeqOf.app {y : A} {μ l : Mu} {zs : List A} (h : SeqOf y μ zs) : SeqOf y (μ ++ l) zs := by
  rcases h with h | h
  · refine .inl ?_
    cases y with
    | c i => exact get_old h
    | d y => cases y <;> exact h
    | v _ => exact h
    | x _ _ _ _ => exact h
  · exact .inr h
end Dl
set_option Elab.async false
set_option linter.all false
set_option maxRecDepth 100000
set_option maxHeartbeats 4000000
namespace Dl
open PySem PySem.Spec PyProof.Rows L2
section
variable {X : Cx} {K : PySem.W.Frag}
def tyN : A → Option String
  | .d .none => some "NoneType"
  | .d (.bool _) => some "bool"
  | .d (.int _) => some "int"
  | .d (.str _) => some "str"
  | .d (.list _) => some "list"
  | .d (.tuple _) => some "tuple"
  | .d (.dict _) => some "dict"
  | _ => none
theorem tyN_ab {F : Hp} {al : List Addr} {μ : Mu} {H : Hp} {v : V} {x : A} {T : String} (S : Sto K F al μ H) (a : Ab K F al v x) (h : tyN x = some T) : TyX K H v (.type T) := by
  unfold tyN at h
  split at h
  · obtain rfl := Option.some.inj h
    rw [dp_non a]
    exact .base .non
  · obtain rfl := Option.some.inj h
    rw [dp_bl a]
    exact .base (.bl _)
  · obtain rfl := Option.some.inj h
    rw [dp_int a]
    exact .base (.int _)
  · obtain rfl := Option.some.inj h
    rw [dp_str a]
    exact .base (.str _)
  · obtain rfl := Option.some.inj h
    obtain ⟨p, vs, rfl, q, r⟩ := dp_lst a
    rcases S.seq q with (e | ⟨o, e⟩) | ⟨o, its, n, e, c, _⟩
    · exact .base (.lst e)
    · exact .base (.frz e)
    · exact .kList e c
  · obtain rfl := Option.some.inj h
    obtain ⟨p, vs, rfl, q, r⟩ := dp_tup a
    rcases S.seqT q with (e | ⟨o, e⟩) | ⟨o, its, n, e, c, _⟩
    · exact .base (.tup e)
    · exact .fTuple e
    · exact .kTuple e c
  · obtain rfl := Option.some.inj h
    obtain ⟨p, kvs, rfl, e, _⟩ := dp_dct a
    exact .base (.dK (S.sub _ _ e))
  · cases h
def rdIsi (K : PySem.W.Frag) : List A → Mu → DK → Prop := fun xs μ P => ∃ x t T b, xs = [x, .v (.ty T)] ∧ tyN x = some t ∧ PySem.W.kitOne K (.type t) (.type T) = some b ∧ P (.d (.bool b)) μ
theorem s_isi : SimC K (rIsi K) (rdIsi K) := fun xs μ P h F al H vs S a Q k => by
  obtain ⟨x, t, T, b, rfl, ht, hk, h⟩ := h
  obtain ⟨v, w, rfl, a1, a2⟩ := two_of a
  obtain rfl : w = .ty T := a2
  exact ⟨v, _, _, _, b, rfl, .ty T, tyN_ab S a1 ht, hk, k.now h S (.bl b)⟩
theorem seqOf_ab {F : Hp} {al : List Addr} {μ : Mu} {H : Hp} {v : V} {x : A} {xs : List A} (S : Sto K F al μ H) (a : Ab K F al v x) (h : SeqOf x μ xs) : ∃ p vs, v = .ref p ∧ (SqL K H p vs ∨ SqT K H p vs) ∧ Paired (Ab K F al) vs xs := by
  rcases h with h | ⟨ds, rfl, rfl⟩
  · obtain ⟨p, vs, rfl, q, r⟩ := lstOf_ab S a h
    exact ⟨p, vs, rfl, .inl q, r⟩
  · obtain ⟨p, vs, rfl, q, r⟩ := dp_tup a
    exact ⟨p, vs, rfl, .inr (S.seqT q), DpAll.to r⟩
/-- all(..), any(..) of truths -/
def rdAll : List A → Mu → DK → Prop := fun xs μ P => ∃ x, ∃ bs : List Bool, xs = [x] ∧ LstOf x μ ((bs.map PyData.bool).map A.d) ∧ P (.d (.bool (bs.all id))) μ
theorem bools_of {F : Hp} : ∀ {vs : List V} {ns : List Bool}, DpAll K F vs (ns.map PyData.bool) → vs = ns.map V.bl
  | [], [], _ => rfl
  | _ :: _, _ :: _, .cons a b => by
    rw [dp_bl a, bools_of b]
    rfl
theorem s_all : SimC K (rAll K) rdAll := fun xs μ P h F al H vs S a Q k => by
  obtain ⟨x, bs, rfl, hx, h⟩ := h
  obtain ⟨v, rfl, a1⟩ := one_of a
  obtain ⟨p, ws, rfl, q, r⟩ := lstOf_ab S a1 hx
  obtain rfl := bools_of (DpAll.of r)
  exact ⟨p, bs, rfl, q, k.now h S (.bl _)⟩
/-- str(i) -/
def rdStrI : List A → Mu → DK → Prop := fun xs μ P => ∃ i : Int, xs = [.d (.int i)] ∧ i.natAbs.log2 < 1920 ∧ P (.d (.str (toString i))) μ
theorem s_strI : SimC K (fun xs H Q => ∃ i : Int, xs = [.int i] ∧ i.natAbs.log2 < 1920 ∧ Q (.str (toString i)) H) rdStrI := fun xs μ P h F al H vs S a Q k => by
  obtain ⟨i, rfl, hz, h⟩ := h
  obtain ⟨v, rfl, a1⟩ := one_of a
  exact ⟨i, by rw [dp_int a1], hz, k.now h S (.str _)⟩
/-- a built-in type as a value -/
theorem d_ty {x : Str} {T : String} {pos : Pos} (hm : X.mg x = none) (hg : Gl X x := by rfl) (hv : bootBuiltins x = some (.type T) := by decide +kernel) (hn : x ≠ "__name__" := by decide) (hd : (x == ("__debug__" : Str)) = false := by decide) : DE X (.Name x pos) (dC (.v (.ty T))) :=
  d_bltV hg hm hv (v := .ty T) rfl hn hd
/-- a comprehension that changes nothing -/
theorem lc_pure {ys : List Y} {ok : Mu → Prop} {μ : Mu} {ρ : Rho} {dg : DG} {de : DT} {vs : List Nat} {P : DK} (f : Y → A) (hok : ok μ) (hz : ys.length ≤ sizeLine)
    (hs : ∀ (i : Nat) y, ys[i]? = some y → ∀ Q : DK, Q (f y) μ → dg y (wipeR ρ vs) μ fun ρ3 μ3 => de ρ3 μ3 Q) (h : lcEnd P (ys.map f) μ) :
    ∃ Pv : Nat → List A → Mu → Prop, Pv 0 [] μ ∧
      (∀ (i : Nat) y acc μ2, ys[i]? = some y → Pv i acc μ2 → ok μ2 ∧ dg y (wipeR ρ vs) μ2 fun ρ3 μ3 => dtYes ρ3 μ3 fun b μ4 => if b = true then de ρ3 μ4 fun z μ5 => acc.length < sizeLine ∧ Pv (i + 1) (acc ++ [z]) μ5 else Pv (i + 1) acc μ4) ∧
        ∀ acc μ2, Pv ys.length acc μ2 → ok μ2 ∧ lcEnd P acc μ2 := by
  refine ⟨fun i acc μ2 => acc = (ys.take i).map f ∧ μ2 = μ, ⟨by rw [List.take_zero]; rfl, rfl⟩, ?_, ?_⟩
  · rintro i y acc μ2 hy ⟨rfl, rfl⟩
    refine ⟨hok, hs i y hy _ ?_⟩
    have lt := (List.getElem?_eq_some_iff.mp hy).1
    refine ⟨?_, ?_, rfl⟩
    · rw [List.length_map, List.length_take]
      omega
    · rw [List.take_add_one, hy, List.map_append]
      rfl
  · rintro acc μ2 ⟨rfl, rfl⟩
    rw [List.take_length]
    exact ⟨hok, h⟩
end
end Dl
set_option Elab.async false
set_option linter.all false
set_option maxRecDepth 100000
set_option maxHeartbeats 4000000
namespace Dl
open PySem PySem.Spec PyProof.Rows L2
/-- nothing on the stack is inside a repr -/
def Calm0 (A : Around) : Prop := A.guards = some []
structure FnG (P : Program) (w : World) (K : PySem.W.Frag) (mg : Str → Option Value) (base : Heap) (C : CXT) (k : Nat) (f : Addr) (fd : FuncData) (ps : List Str) (sp : Sp) : Prop where
  ln : ∀ vv H Q E, sp vv H Q E → vv.length = ps.length
  go : ∀ (A : Around) (ou : List Env) (s : Shared) (H : Hp) (ar : Args) (uu : List Value) (vv : List V) (Q : VK) (E : XK), Calm0 A → Room k A → Env0 P w K mg base A ou s H →
    BindsTo s fd ar (ps.zip uu) → Vals vv uu → sp vv H Q E → codeAny (model P w) A (.call (.ref f) ar) (CR C ou P w H s Q E) s
theorem FnG.mono {P : Program} {w : World} {K : PySem.W.Frag} {mg : Str → Option Value} {base : Heap} {C : CXT} {j k : Nat} {f : Addr} {fd : FuncData} {ps : List Str} {sp : Sp} (F : FnG P w K mg base C j f fd ps sp) (h : j ≤ k) : FnG P w K mg base C k f fd ps sp :=
  ⟨F.ln, fun A ou s H ar uu vv Q E g hr => F.go A ou s H ar uu vv Q E g (hr.mono h)⟩
theorem calm_deeper {A : Around} (g : Calm0 A) (e : Env) : Calm0 (A.deeper e) := g
/-- a def of the text, with defaults or without -/
structure FunV (K : PySem.W.Frag) (x qual : Str) (st : Stmt) (f : Addr) (fd : FuncData) : Prop where
  ex : ∃ (oc : Value) (od : Option Addr) (dV kV doc pm : Value) (an : Option Addr) (cd ct : Value) (osl : Array (Option Value)),
    fd = PySem.W.fnOf x qual (defArgs st) (defBody st) (defScope st) dV kV doc pm an cd ct ∧ K.lookup f = some ⟨oc, od, .func fd, osl⟩ ∧ PySem.W.codeIn K cd qual = true
  keep : PySem.W.keepIn K (.ref f) = true
theorem FunV.of {K : PySem.W.Frag} {x qual : Str} {st : Stmt} {f : Addr} {fd : FuncData} (F : Fun K x qual st f fd) : FunV K x qual st f fd := by
  obtain ⟨oc, od, kV, doc, pm, an, cd, ct, osl, e, look, code⟩ := F.ex
  exact ⟨⟨oc, od, _, kV, doc, pm, an, cd, ct, osl, e, look, code⟩, F.kp⟩
/-- the def's rule -/
theorem fg_body {P : Program} {w : World} {K : PySem.W.Frag} {mg : Str → Option Value} {base : Heap} {x qual : Str} {st : Stmt} {f : Addr} {fd : FuncData} {N ps : List Str} {k : Nat} {sp : Sp} (F : FunV K x qual st f fd) (S : FnScope N ps (defScope st))
    (ln : ∀ vv H Q E, sp vv H Q E → vv.length = ps.length)
    (bd : ∀ (cd : Value) (A : Around) (ou : List Env) (s : Shared) (H : Hp) (vv : List V) (Q : VK) (E : XK), Calm0 (A.deeper (envOfC qual (defScope st) s.heap.objs.size f cd)) → Room k (A.deeper (envOfC qual (defScope st) s.heap.objs.size f cd)) → sp vv H Q E →
      ∃ t, PSs (cxOf (L2.CX P w) P w K mg base N qual (defScope st) f cd A ou s H E) (defBody st) t ∧ t { nx := fun _ H' => Q .non H', rt := Q } (start N vv) H) : FnG P w K mg base (L2.CX P w) (k + 1) f fd ps sp := by
  obtain ⟨oc, od, dV, kV, doc, pm, an, cd, ct, osl, rfl, look, code⟩ := F.ex
  refine ⟨ln, fun A ou s H ar uu vv Q E g hr en bi rv hs => ?_⟩
  have lnv := ln _ _ _ _ hs
  have kin : K.In s.heap := en.mod.kin.keeps fun b o z => (en.bs b o z).1
  have nolim : s.heap.NoLimit := en.mod.nolimit.keeps fun b o z => (en.bs b o z).1
  have kinds : ∀ y ∈ ps.zip uu, (defScope st).names.lookup y.1 = some .local ∨ ((defScope st).names.lookup y.1 = some .cell ∧ ((cellsFrom (s.heap.objs.size + 1) (defScope st).names []).lookup y.1).isSome = true) := by
    rintro ⟨n, v⟩ hy
    rcases S.par n (List.of_mem_zip hy).1 with z | z
    · exact .inl z
    · exact .inr ⟨z, PySem.W.cellsFrom_some _ _ _ (.inl z)⟩
  refine codeAny_call_function hr.depth (kin _ _ look) rfl S.co S.gen rfl (PySem.W.codeRec_of kin code) (bi _ _ _ _ ?_)
  refine wpAny_newFunctionEnv_cells S.kind kinds fun env ee s1 x1 => ?_
  subst ee
  refine ⟨nolim.keeps x1.toInCall.keep, codeAny_func ?_⟩
  obtain ⟨t, pt, qt⟩ := bd cd A ou s H vv Q E (calm_deeper g _) (hr.deeper _) hs
  have I0 := inv_start (CX := L2.CX P w) (K := K) (mg := mg) (base := base) (E := E) S hr.hd en lnv rv x1
  refine wpAny_mono (pt.run [] s1 (start N vv) H _ I0 qt) (fun fl s' z => ?_) fun e s' z => z
  have done : ∀ {σ' : L2.St} {H' : Hp} {v : V} {u : Value}, Inv (cxOf (L2.CX P w) P w K mg base N qual (defScope st) f cd A ou s H E) [] σ' H' s' → RelV v u → Q v H' → CE ou P w H s Q u s' :=
    fun {_ H' v _} J r1 q1 => ⟨v, H', J.os, J.bare, J.base, J.hok, r1, q1⟩
  cases fl with
  | ret u => obtain ⟨v, σ', H', J, r1, q1⟩ := z; exact done J r1 q1
  | next => obtain ⟨σ', H', J, q1⟩ := z; exact done (v := V.non) (u := Value.none) J rfl q1
  | brk => obtain ⟨_, _, _, q1⟩ := z; exact q1.elim
  | cont => obtain ⟨_, _, _, q1⟩ := z; exact q1.elim
/-- the head: the law's call by the claim's caller -/
theorem law_callG {P : Program} {w : World} {K : PySem.W.Frag} {mg mb : Str → Option Value} {C : CXT} {k : Nat} {fa a : Addr} {fd : FuncData} {x : Str} {sp : Sp} {z : Shared} {vv : List Value} {ns : List Int}
    (kin : K.In z.heap) (glob : z.heap.Ns mainGlobals mg) (bl : z.heap.Ns builtinsNs mb) (bb : ∀ x : Str, x ≠ "__name__" → mb x = bootBuiltins x) (nolim : z.heap.NoLimit) (gens : z.gens = #[])
    (la : z.heap.get? a = some { cls := .type "list", data := .seq vv.toArray }) (ig : IntsAre vv ns) (few : ns.length ≤ sizeLine) (room : Room k callerA)
    (F : ∀ base : Heap, K.In base → base.Ns mainGlobals mg → FnG P w K mg base C k fa fd [x] sp) (bi : ∀ (s : Shared) (u : Value), BindsTo s fd ⟨[u], []⟩ [(x, u)])
    (prom : ∀ H : Hp, Only H → SqL K H a (ns.map V.int) → sp [.ref a] H (fun v _ => v = .bl true) fun _ _ _ => False)
    (noex : ∀ H e s', C [] H z (fun _ _ _ => False) e s' → False) :
    codeAny (model P w) callerA (.call (.ref fa) ⟨[.ref a], []⟩) (fun r s' => r = .ok (.ret (.bool true)) ∧ OldK z.heap s'.heap ∧ s'.os = z.os ∧ AllBare s'.gens) z := by
  have vals := vals_ints ig
  have lens := ig.length
  have main : ∀ H : Hp, Only H → SqL K H a (ns.map V.int) → HOk P w H z.heap → (∀ b, H b ≠ none → b = a) → (H a ≠ none → K.lookup a = none) →
      codeAny (model P w) callerA (.call (.ref fa) ⟨[.ref a], []⟩) (fun r s' => r = .ok (.ret (.bool true)) ∧ OldK z.heap s'.heap ∧ s'.os = z.os ∧ AllBare s'.gens) z := by
    intro H only sq hok onlyA notK
    have isA : ∀ {b : Addr} {u : HO}, H b = some u → b = a := fun {b u} q => onlyA b (by rw [q]; simp)
    have free : ∀ {b : Addr} {o : Obj} {es : Array DictEntry} {ep : Nat}, z.heap.get? b = some o → o.data = .dict es ep → H b = none := by
      intro b o es ep e d
      cases q : H b with
      | none => rfl
      | some u =>
        obtain rfl := isA q
        rw [la] at e
        cases e
        cases (show Data.seq vv.toArray _ = Data.dict es ep from d)
    have nsOk : ∀ {b : Addr} {m : Str → Option Value}, z.heap.Ns b m → (hidT z.heap H).Ns b m := by
      rintro b m ⟨o, es, ep, e, d, r⟩
      exact ⟨o, es, ep, hidT_get e (free e d), d, r⟩
    have kb : K.In (hidT z.heap H) := by
      intro b o e
      refine hidT_get (kin b o e) ?_
      cases q : H b with
      | none => rfl
      | some u =>
        obtain rfl := isA q
        rw [notK (by rw [q]; simp)] at e
        cases e
    have md : Mod K mg (hidT z.heap H) := ⟨kb, nsOk glob, ⟨mb, nsOk bl, bb⟩, let ⟨mc, i1, i2⟩ := nolim; ⟨mc, nsOk i1, i2⟩⟩
    have en : Env0 P w K mg (hidT z.heap H) callerA [] z H := ⟨rfl, md, fun b o e => of_hidT e, Nat.le_of_eq (hidT_size _ _), trivial, (fun b hb => by cases hb), hok, .of_eq gens⟩
    have run := (F _ kb (nsOk glob)).go callerA [] z H ⟨[.ref a], []⟩ [.ref a] [.ref a] _ _ rfl room en (bi z (.ref a)) (.cons rfl .nil) (prom H only sq)
    refine codeAny_mono run fun r s' h => ?_
    cases r with
    | error e => exact (noex H e s' h).elim
    | ok fl =>
      cases fl with
      | next => exact (show False from h).elim
      | brk => exact (show False from h).elim
      | cont => exact (show False from h).elim
      | ret u =>
        obtain ⟨v, H', os, bare, un, hok', rv, q⟩ := h
        obtain rfl : v = .bl true := q
        obtain rfl : u = Value.bool true := rv
        refine ⟨rfl, OldK.of_keep fun b o e => ?_, os, bare⟩
        cases q : H b with
        | none => exact un.keep b o e q (fun y => by cases y) (by simp)
        | some u =>
          rcases only b with y | ⟨ob, xs, y⟩
          · rw [q] at y
            cases y
          · obtain ⟨e1, _⟩ := hok b _ y
            obtain ⟨e2, _⟩ := hok' b _ (un.frzs b ob _ y)
            rw [e] at e1
            cases e1
            exact e2
  cases look : K.lookup a with
  | some o =>
    have e := kin a o look
    rw [la] at e
    cases e
    exact main (fun _ => none) (fun _ => .inl rfl) (.inr ⟨_, vv.toArray, _, look, rfl, rfl, rfl, by rw [List.size_toArray, lens]; exact few, by simpa using vals⟩) (fun b u y => by cases (show (none : Option HO) = some u from y)) (fun b y => absurd rfl y) fun y => absurd rfl y
  | none =>
    let Ha : Hp := fun b => if b = a then some (.frz { cls := .type "list", data := .seq vv.toArray } (.lst (ns.map V.int))) else none
    have yes : Ha a = some (.frz { cls := .type "list", data := .seq vv.toArray } (.lst (ns.map V.int))) := if_pos rfl
    have no : ∀ {b : Addr}, b ≠ a → Ha b = none := fun hb => if_neg hb
    refine main Ha (fun b => ?_) (.inl (.inr ⟨_, yes⟩)) (fun b u y => ?_) (fun b y => ?_) fun _ => look
    · by_cases hb : b = a
      · subst hb
        exact .inr ⟨_, _, yes⟩
      · exact .inl (no hb)
    · by_cases hb : b = a
      · subst hb
        rw [yes] at y
        cases y
        exact ⟨la, by rw [List.length_map]; exact few, vv, _, vals, la⟩
      · rw [no hb] at y
        cases y
    · by_cases hb : b = a
      · exact hb
      · exact absurd (no hb) y
theorem walkG {l : PySem.W.OpenLaw} {n k : Nat} {q : Program} {loose : List Str} {XP : (Str → Option Value) → Heap → Prop} {YP : World → Heap → Prop} {d : DefRec} {K : Params → PySem.W.Frag} {C : World → CXT} {sp : World → Sp} {x : Str}
    (most : l.most = some n) (few : n ≤ sizeLine) (nodf : d.params.defaults = []) (room : Room k callerA) (hY : ∀ (w : World) (h : Heap), YP w h → (K w.params).In h)
    (F : ∀ (w : World) (mg : Str → Option Value) (fa : Addr) (h : Heap), (K w.params).In h → h.Ns mainGlobals mg → mg d.name = some (.ref fa) →
      ∃ fd : FuncData, (∀ (s : Shared) (u : Value), BindsTo s fd ⟨[u], []⟩ [(x, u)]) ∧ ∀ base : Heap, (K w.params).In base → base.Ns mainGlobals mg → FnG l.prog w (K w.params) mg base (C w) k fa fd [x] (sp w))
    (prom : ∀ (w : World) (H : Hp) (a : Addr) (ns : List Int), ns.length ≤ n → (∀ z ∈ ns, Builtin.Int.intBits z ≤ 1048576) → Only H → SqL (K w.params) H a (ns.map V.int) → sp w [.ref a] H (fun v _ => v = .bl true) fun _ _ _ => False)
    (noex : ∀ (w : World) (H : Hp) (s : Shared) (e : Value) (s' : Shared), C w [] H s (fun _ _ _ => False) e s' → False) : PySem.W.WalkO q loose XP YP l.row.toRowW d [] (fun f vs => PySem.call f vs) := by
  refine Att.attach_callB most nodf fun w s0 s1 mg mb fa o pm cd doc a vv ns G Y _ _ _ hmg obj ig len hbits gens => ?_
  have kin := hY w _ Y
  obtain ⟨fd, bi, hF⟩ := F w mg fa _ kin G.T.g hmg
  exact law_callG kin G.T.g G.T.b G.T.builtins G.T.nolimit gens obj ig (Nat.le_trans len few) room hF bi (fun H only sq => prom w H a ns len hbits only sq) fun H e s' => noex w H s1 e s'
end Dl
set_option Elab.async false
set_option linter.all false
set_option maxRecDepth 100000
set_option maxHeartbeats 4000000
namespace Dl
open PySem PySem.Spec PyProof.Rows L2
def rRep (K : PySem.W.Frag) : List V → Hp → VK → Prop := fun xs H Q => ∃ x d, xs = [x] ∧ Dp K H x d ∧ d.showable = true ∧ d.hasDict = false ∧ d.depth ≤ 60 ∧ d.shown.length ≤ sizeLine ∧ Q (.str d.shown) H
theorem cr_rep {X : Cx} (g : Calm0 X.A) (hu : X.A.units + 64 < cLine) : CallR X (.builtin "repr") (rRep X.K) := by
  intro pins s σ H xs us Q I r h
  obtain ⟨x, d, rfl, hd, sh, nd, dp, sz, q⟩ := h
  obtain ⟨u, rfl, ru⟩ := vals1 r
  obtain ⟨as, rd⟩ := Dp.reads I d x u (hd.lib (plain_nd d nd)) ru
  have fin : ∀ (h' : Heap) (t tk : Tok), (∀ b o, s.heap.get? b = some o → h'.get? b = some o) → EP X pins σ Q (.str d.shown t) { s with heap := h', toks := tk } :=
    fun h' t tk kk => ⟨.str d.shown, H, I.kept kk, ⟨t, rfl⟩, q⟩
  cases d with
  | none =>
    cases rd
    exact PySem.P.repr_of_none (by
      have e := fin s.heap s.toks (s.toks + 1) fun _ _ z => z
      rw [PyData.shown] at e
      exact e)
  | bool b =>
    cases rd
    exact PySem.P.repr_of_bool (by
      have e := fin s.heap s.toks (s.toks + 1) fun _ _ z => z
      rw [PyData.shown] at e
      exact e)
  | int i =>
    cases rd
    exact PySem.P.repr_of_int (by simpa [PyData.showable] using sh) (by
      have e := fin s.heap s.toks (s.toks + 1) fun _ _ z => z
      rw [PyData.shown] at e
      exact e)
  | str y =>
    cases rd
    exact PySem.P.repr_of_str (by
      have e := fin s.heap s.toks (s.toks + 1) fun _ _ z => z
      rw [PyData.shown] at e
      exact e) (by rw [PyData.shown] at sz; exact sz)
  | list ds =>
    obtain ⟨a, rfl⟩ : ∃ a, u = .ref a := by cases rd; exact ⟨_, rfl⟩
    exact repr_of_reads' rd sh (fun z => by rw [nd] at z; cases z) g (by omega) (fun _ _ e => e) (fun h' t tk kk => fin h' t tk kk) sz
  | tuple ds =>
    obtain ⟨a, rfl⟩ : ∃ a, u = .ref a := by cases rd; exact ⟨_, rfl⟩
    exact repr_of_reads' rd sh (fun z => by rw [nd] at z; cases z) g (by omega) (fun _ _ e => e) (fun h' t tk kk => fin h' t tk kk) sz
  | dict kvs => cases nd
end Dl
set_option Elab.async false
set_option linter.all false
set_option maxRecDepth 100000
set_option maxHeartbeats 4000000
namespace Dl
open PySem PySem.Spec PyProof.Rows L2
/-- a callee's thing, seen from the caller -/
def upA (sel : List Nat) (m : Nat) : A → A
  | .c j => if j < sel.length then .c (sel.getD j 0) else .c (m + (j - sel.length))
  | x => x
/-- a cell of data -/
def dO : O → Prop
  | .lst xs => ∀ x ∈ xs, ∃ d, x = .d d
  | .dct ks => ∀ p ∈ ks, ∃ d, p.2 = .d d
  | .fdct _ _ _ => False
  | .dctT _ _ ks => ∀ p ∈ ks, ∃ d, p.2 = .d d
  | .dead => False
def putAll : Mu → List Nat → Mu → Mu
  | μ, n :: sel, o :: ν => putAll (μ.set n o) sel ν
  | μ, _, _ => μ
structure Pick (sel : List Nat) (μ ν : Mu) : Prop where
  nd : sel.Nodup
  len : ν.length = sel.length
  at_ : ∀ (j n : Nat), sel[j]? = some n → ∃ o, μ[n]? = some o ∧ ν[j]? = some o ∧ dO o
def FR (R : DR) : DR := fun xs μ P Ex => ∃ sel zs ν, Pick sel μ ν ∧ xs = zs.map (upA sel μ.length) ∧ (∀ z ∈ zs, oldA sel.length z) ∧
  R zs ν (fun y ν' => (∀ o ∈ ν', dO o) ∧ P (upA sel μ.length y) (putAll μ sel ν' ++ ν'.drop sel.length)) fun C o ν' => (∀ o ∈ ν', dO o) ∧ Ex C o (putAll μ sel ν' ++ ν'.drop sel.length)
theorem putAll_len : ∀ (sel : List Nat) (μ ν : Mu), (putAll μ sel ν).length = μ.length
  | [], _, _ => by unfold putAll; rfl
  | n :: sel, μ, [] => by unfold putAll; rfl
  | n :: sel, μ, o :: ν => by
    unfold putAll
    rw [putAll_len, List.length_set]
theorem putAll_out : ∀ (sel : List Nat) (μ ν : Mu) (i : Nat), i ∉ sel → (putAll μ sel ν)[i]? = μ[i]?
  | [], _, _, _, _ => by unfold putAll; rfl
  | n :: sel, μ, [], _, _ => by unfold putAll; rfl
  | n :: sel, μ, o :: ν, i, h => by
    rw [List.mem_cons, not_or] at h
    unfold putAll
    rw [putAll_out sel _ _ i h.2, List.getElem?_set_ne (Ne.symm h.1)]
theorem putAll_in : ∀ (sel : List Nat) (μ ν : Mu) (j n : Nat) (o : O), sel.Nodup → sel[j]? = some n → n < μ.length → ν[j]? = some o → (putAll μ sel ν)[n]? = some o
  | [], _, _, _, _, _, _, h, _, _ => by simp at h
  | m :: sel, μ, [], _, _, _, _, _, _, h => by simp at h
  | m :: sel, μ, u :: ν, 0, n, o, nd, h, lt, e => by
    obtain rfl := Option.some.inj h
    obtain rfl := Option.some.inj e
    unfold putAll
    rw [putAll_out sel _ _ m (List.nodup_cons.mp nd).1, List.getElem?_set_self lt]
  | m :: sel, μ, u :: ν, j + 1, n, o, nd, h, lt, e => by
    unfold putAll
    exact putAll_in sel _ ν j n o (List.nodup_cons.mp nd).2 (by simpa using h) (by rw [List.length_set]; exact lt) (by simpa using e)
section
variable {K : PySem.W.Frag} {F F' : Hp} {al al' : List Addr} {H H' : Hp} {μ ν ν' : Mu} {sel : List Nat}
def pickA (al : List Addr) (sel : List Nat) : List Addr := sel.map fun n => al.getD n 0
theorem pickA_get {j n : Nat} {a : Addr} (h : sel[j]? = some n) (e : al[n]? = some a) : (pickA al sel)[j]? = some a := by
  unfold pickA
  rw [List.getElem?_map, h]
  show some (al.getD n 0) = _
  rw [List.getD_eq_getElem?_getD, e]
  rfl
theorem Pick.lt (p : Pick sel μ ν) {n : Nat} (h : n ∈ sel) : n < μ.length := by
  obtain ⟨j, e⟩ := List.mem_iff_getElem?.mp h
  obtain ⟨o, e1, _⟩ := p.at_ j n e
  exact (List.getElem?_eq_some_iff.mp e1).1
theorem pickA_sub (S : Sto K F al μ H) (p : Pick sel μ ν) {a : Addr} (h : a ∈ pickA al sel) : ∃ (j n : Nat), sel[j]? = some n ∧ al[n]? = some a := by
  obtain ⟨n, hn, e⟩ := List.mem_map.mp h
  obtain ⟨j, ej⟩ := List.mem_iff_getElem?.mp hn
  have lt : n < al.length := by rw [S.len]; exact p.lt hn
  refine ⟨j, n, ej, ?_⟩
  rw [List.getD_eq_getElem?_getD, List.getElem?_eq_getElem lt] at e
  rw [List.getElem?_eq_getElem lt]
  exact congrArg some e
theorem dO_ab {o : O} {ho : HO} (d : dO o) (h : AbO K F al ho o) : AbO K F al' ho o := by
  cases o with
  | dead => exact d.elim
  | fdct _ _ _ => exact d.elim
  | lst xs =>
    cases ho with
    | lst vs =>
      have h' : Paired (Ab K F al) vs xs := h
      show Paired (Ab K F al') vs xs
      induction h' with
      | nil => exact .nil
      | cons a b ih =>
        refine .cons ?_ (ih (fun x hx => d x (List.mem_cons_of_mem _ hx)) b)
        obtain ⟨e, rfl⟩ := d _ (List.mem_cons_self ..)
        exact a
    | _ => exact h.elim
  | dct ks =>
    cases ho with
    | dK kvs =>
      have h' : Paired (fun (p : Key × V) (q : Key × A) => p.1 = q.1 ∧ Ab K F al p.2 q.2) kvs ks := h
      show Paired (fun (p : Key × V) (q : Key × A) => p.1 = q.1 ∧ Ab K F al' p.2 q.2) kvs ks
      induction h' with
      | nil => exact .nil
      | cons a b ih =>
        refine .cons ?_ (ih (fun x hx => d x (List.mem_cons_of_mem _ hx)) b)
        obtain ⟨e, he⟩ := d _ (List.mem_cons_self ..)
        rw [he] at a ⊢
        exact a
    | _ => exact h.elim
  | dctT P w ks =>
    rw [abO_T] at h ⊢
    obtain ⟨b, xs, e, g1, g2, r⟩ := h
    refine ⟨b, xs, e, g1, g2, ?_⟩
    clear e g2
    induction r with
    | nil => exact .nil
    | cons a b ih =>
      refine .cons ?_ (ih (fun x hx => d x (List.mem_cons_of_mem _ hx)))
      obtain ⟨e, he⟩ := d _ (List.mem_cons_self ..)
      rw [he] at a ⊢
      exact a
theorem pick_sto (S : Sto K F al μ H) (p : Pick sel μ ν) : Sto K F (pickA al sel) ν H := by
  refine ⟨S.sub, ?_, by unfold pickA; rw [List.length_map, p.len], fun j a o e1 e2 => ?_⟩
  · unfold pickA
    refine (List.pairwise_map).mpr (List.Pairwise.imp_of_mem ?_ p.nd)
    intro a b ha hb hne e
    have la : a < al.length := by rw [S.len]; exact p.lt ha
    have lb : b < al.length := by rw [S.len]; exact p.lt hb
    rw [List.getD_eq_getElem?_getD, List.getD_eq_getElem?_getD, List.getElem?_eq_getElem la, List.getElem?_eq_getElem lb] at e
    exact hne (nd_ix S.nd (List.getElem?_eq_getElem la) (by rw [List.getElem?_eq_getElem lb]; exact congrArg some e.symm))
  · have lt : j < sel.length := by rw [← p.len]; exact (List.getElem?_eq_some_iff.mp e2).1
    have es : sel[j]? = some sel[j] := List.getElem?_eq_getElem lt
    obtain ⟨u, m1, m2, m3⟩ := p.at_ j _ es
    rw [m2] at e2
    obtain rfl := Option.some.inj e2
    have ltn : sel[j] < al.length := by rw [S.len]; exact (List.getElem?_eq_some_iff.mp m1).1
    have ea : al[sel[j]]? = some al[sel[j]] := List.getElem?_eq_getElem ltn
    rw [pickA_get es ea] at e1
    obtain rfl := Option.some.inj e1
    obtain ⟨ho, h1, h2⟩ := S.cell _ _ _ ea m1
    exact ⟨ho, h1, fun nd => ⟨(h2 nd).1, dO_ab m3 (h2 nd).2⟩⟩
theorem pick_ab (S : Sto K F al μ H) (p : Pick sel μ ν) {v : V} {z : A} (o : oldA sel.length z) (h : Ab K F al v (upA sel μ.length z)) : Ab K F (pickA al sel) v z := by
  cases z with
  | c j =>
    have lt : j < sel.length := o
    have h' : Ab K F al v (.c (sel.getD j 0)) := by
      have e : upA sel μ.length (.c j) = .c (sel.getD j 0) := if_pos lt
      rw [e] at h
      exact h
    obtain ⟨a, ea, rfl⟩ := h'
    rw [List.getD_eq_getElem?_getD, List.getElem?_eq_getElem lt] at ea
    exact ⟨a, pickA_get (List.getElem?_eq_getElem lt) ea, rfl⟩
  | _ => exact h
/-- behind the call -/
theorem pick_back (S : Sto K F al μ H) (p : Pick sel μ ν) (g : Grow F (pickA al sel) H F' al' H') (S' : Sto K F' al' ν' H') (dd : ∀ o ∈ ν', dO o) :
    ∃ al2, Grow F al H F' al2 H' ∧ Sto K F' al2 (putAll μ sel ν' ++ ν'.drop sel.length) H' ∧ ∀ v y, Ab K F' al' v y → Ab K F' al2 v (upA sel μ.length y) := by
  have hl : (pickA al sel).length = sel.length := by unfold pickA; rw [List.length_map]
  have hle : sel.length ≤ al'.length := by rw [← hl]; exact g.px.length_le
  have hle' : sel.length ≤ ν'.length := by rw [← S'.len]; exact hle
  have pre : ∀ (j n : Nat) (a : Addr), sel[j]? = some n → al[n]? = some a → al'[j]? = some a := fun j n a e1 e2 => by
    obtain ⟨t, rfl⟩ := g.px
    have e3 := pickA_get e1 e2
    rw [List.getElem?_append_left (List.getElem?_eq_some_iff.mp e3).1]
    exact e3
  have mem0 : ∀ {a}, a ∈ pickA al sel → a ∈ al := fun {a} h => by
    obtain ⟨j, n, _, e⟩ := pickA_sub S p h
    exact List.mem_of_getElem? e
  have newNot : ∀ {a}, a ∈ al'.drop sel.length → a ∉ pickA al sel := fun {a} h m => by
    obtain ⟨j, n, e1, e2⟩ := pickA_sub S p m
    obtain ⟨i, hi⟩ := List.mem_iff_getElem?.mp h
    rw [List.getElem?_drop] at hi
    have := nd_ix S'.nd hi (pre j n a e1 e2)
    have := (List.getElem?_eq_some_iff.mp e1).1
    omega
  have fresh : ∀ {a}, a ∈ al'.drop sel.length → H a = none := fun {a} h => (g.nw a (List.mem_of_mem_drop h)).resolve_left (newNot h)
  have px : al <+: al ++ al'.drop sel.length := ⟨_, rfl⟩
  refine ⟨al ++ al'.drop sel.length, ⟨g.f, px, fun b o e n => g.fr b o e fun m => n (mem0 m), fun a h => ?_, fun b o e => ?_⟩, ⟨S'.sub, ?_, ?_, fun i a o e1 e2 => ?_⟩, fun v y h => ?_⟩
  · rcases List.mem_append.mp h with h | h
    · exact .inl h
    · exact .inr (fresh h)
  · rcases g.fz b o e with h | h | h
    · exact .inl h
    · exact .inr (.inl h)
    · exact .inr (.inr (mem0 h))
  · rw [List.nodup_append]
    refine ⟨S.nd, S'.nd.sublist (List.drop_sublist _ _), fun a ha b hb e => ?_⟩
    subst e
    obtain ⟨u, hu⟩ := S.has ha
    rw [fresh hb] at hu
    cases hu
  · rw [List.length_append, List.length_append, List.length_drop, List.length_drop, putAll_len, S.len, S'.len]
  · rcases Nat.lt_or_ge i al.length with lt | ge
    · rw [List.getElem?_append_left lt] at e1
      rw [List.getElem?_append_left (by rw [putAll_len, ← S.len]; exact lt)] at e2
      by_cases m : i ∈ sel
      · obtain ⟨j, ej⟩ := List.mem_iff_getElem?.mp m
        have lj : j < ν'.length := Nat.lt_of_lt_of_le (List.getElem?_eq_some_iff.mp ej).1 hle'
        have en : ν'[j]? = some ν'[j] := List.getElem?_eq_getElem lj
        rw [putAll_in sel μ ν' j i _ p.nd ej (by rw [← S.len]; exact lt) en] at e2
        obtain rfl := Option.some.inj e2
        obtain ⟨ho, h1, h2⟩ := S'.cell j a _ (pre j i a ej e1) en
        exact ⟨ho, h1, fun nd => ⟨(h2 nd).1, dO_ab (dd _ (List.mem_of_getElem? en)) (h2 nd).2⟩⟩
      · rw [putAll_out sel μ ν' i m] at e2
        obtain ⟨ho, h1, h2⟩ := S.cell i a o e1 e2
        have na : a ∉ pickA al sel := fun z => by
          obtain ⟨j, n, q1, q2⟩ := pickA_sub S p z
          have := nd_ix S.nd q2 e1
          subst this
          exact m (List.mem_of_getElem? q1)
        refine ⟨ho, g.fr a ho h1 na, fun nd => ⟨?_, (h2 nd).2.mono g.f px⟩⟩
        cases q : F' a with
        | none => rfl
        | some u =>
          rcases g.fz a u q with z | z | z
          · rw [(h2 nd).1] at z
            cases z
          · rw [h1] at z
            cases z
          · exact absurd z na
    · rw [List.getElem?_append_right ge, List.getElem?_drop] at e1
      rw [List.getElem?_append_right (by rw [putAll_len, ← S.len]; exact ge), putAll_len, ← S.len, List.getElem?_drop] at e2
      obtain ⟨ho, h1, h2⟩ := S'.cell _ a o e1 e2
      exact ⟨ho, h1, fun nd => ⟨(h2 nd).1, dO_ab (dd _ (List.mem_of_getElem? e2)) (h2 nd).2⟩⟩
  · cases y with
    | c j =>
      obtain ⟨a, ea, rfl⟩ := h
      by_cases lt : j < sel.length
      · have e : upA sel μ.length (.c j) = .c (sel.getD j 0) := if_pos lt
        rw [e]
        have es : sel[j]? = some sel[j] := List.getElem?_eq_getElem lt
        have ln : sel[j] < al.length := by rw [S.len]; exact p.lt (List.getElem_mem lt)
        have e2 : al[sel[j]]? = some al[sel[j]] := List.getElem?_eq_getElem ln
        have e3 := pre j _ _ es e2
        rw [ea] at e3
        refine ⟨a, ?_, rfl⟩
        rw [List.getD_eq_getElem?_getD, es]
        show (al ++ _)[sel[j]]? = _
        rw [List.getElem?_append_left ln, e2, ← e3]
      · have e : upA sel μ.length (.c j) = .c (μ.length + (j - sel.length)) := if_neg lt
        rw [e]
        refine ⟨a, ?_, rfl⟩
        rw [← S.len, List.getElem?_append_right (Nat.le_add_right _ _), Nat.add_sub_cancel_left, List.getElem?_drop, show sel.length + (j - sel.length) = j by omega]
        exact ea
    | _ => exact h
end
theorem paired_unmapM {α β γ : Type} {R : α → γ → Prop} {f : β → γ} {R' : α → β → Prop} : ∀ {l : List α} {m : List β}, (∀ a, ∀ b ∈ m, R a (f b) → R' a b) → Paired R l (m.map f) → Paired R' l m
  | [], [], _, _ => .nil
  | _ :: _, _ :: _, h, .cons a b => .cons (h _ _ (List.mem_cons_self ..) a) (paired_unmapM (fun a b hb => h a b (List.mem_cons_of_mem _ hb)) b)
theorem frame_imp {K : PySem.W.Frag} {R : DR} : ∀ vs H Q E, SpD K (FR R) vs H Q E → SpD K R vs H Q E := by
  rintro vs H Q E ⟨xs, μ, P, Ex, F, al, S, a, ⟨sel, zs, ν, p, rfl, old, r⟩, k, kx⟩
  refine ⟨zs, ν, _, _, F, pickA al sel, pick_sto S p, paired_unmapM (fun v z hz h => pick_ab S p (old z hz) h) a, r, fun v y ν' F' al' H' h g S' ab => ?_, fun C o ν' F' al' H' d h g S' x => ?_⟩
  · obtain ⟨al2, g2, S2, q⟩ := pick_back S p g S' h.1
    exact k v _ _ F' al2 H' h.2 g2 S2 (q v y ab)
  · obtain ⟨al2, g2, S2, _⟩ := pick_back S p g S' h.1
    exact kx C o _ F' al2 H' d h.2 g2 S2 x
end Dl
set_option Elab.async false
set_option linter.all false
set_option maxRecDepth 100000
set_option maxHeartbeats 4000000
namespace Dl
open PySem PySem.Spec PyProof.Rows L2
section
variable {X : Cx} {C : CXT} {k : Nat} {f : Addr} {fd : FuncData} {ps ks : List Str} {sp : Sp} {dvs : List V} {ds : List Value} {x : Str} {p pos : Pos} {e : Expr} {es : List Expr} {kws : List Keyword} {t : TA} {Er : L2.St → XK}
theorem go_fn {pins : List (Addr × Obj)} {σ : L2.St} {H : Hp} {s : Shared} {Q : VK} {ar : Args} {uu : List Value} {vv : List V} (F : FnG X.prog X.w X.K X.mg X.base C k f fd ps sp) (g : Calm0 X.A) (hr : Room k X.A) (bi : BindsTo s fd ar (ps.zip uu)) (pass : PassesAt C X σ (Er σ))
    (I : Inv X pins σ H s) (rv : Vals vv uu) (h : sp vv H Q (Er σ)) : codeAny (model X.prog X.w) X.A (.call (.ref f) ar) (fun r s' => match r with | .ok (.ret u) => EP X pins σ Q u s' | .ok _ => False | .error er => X.xe er s') s := by
  refine codeAny_mono (F.go X.A X.stack s H ar uu vv Q (Er σ) g hr I.env0 bi rv h) fun r s' z => ?_
  match r, z with
  | .error er, z => exact pass pins H s er s' I z
  | .ok (.ret u), z => exact I.after z
theorem pe_callG (F : FnG X.prog X.w X.K X.mg X.base C k f fd ps sp) (g : Calm0 X.A) (hr : Room k X.A) (gl : Gl X x) (mx : X.mg x = some (.ref f)) (kp : PySem.W.keepIn X.K (.ref f) = true) (bi : Binds X.K fd ps ds) (dv : Vals dvs ds) (pass : ∀ σ, PassesAt C X σ (Er σ))
    (pa : PA X (e :: es) t) (db : (x == ("__debug__" : Str)) = false := by decide) (se : starEach (e :: es) X.env = (false, eval e X.env) :: starEach es X.env := by rfl) (sp0 : (backTo pos (starEach es X.env)).any (·.1) = false := by rfl) :
    PE X (.Call (.Name x p) (e :: es) [] pos) (fun σ H Q => t σ H fun vv H1 => sp (vv ++ dvs) H1 Q (Er σ)) := by
  constructor
  intro pins s σ H Q I h
  apply wpAny_Call_Name_kw
  refine ld_glob I gl mx ?_ db
  have args := pa.run pos pins s σ H _ I h
  refine PySem.W.callWith_K (h₀ := X.base) I.ok.mod.kin kp (thn args ?_) se sp0
  rintro uu s1 ⟨vv, H1, I1, rv, q⟩
  refine ⟨I1.kIn, ?_⟩
  have rv2 := rv.append dv
  have ln : (uu ++ ds).length = ps.length := by rw [← rv2.length]; exact F.ln _ _ _ _ q
  refine wpAny_call (codeAny_mono (go_fn F g hr (bi s1 uu I1.kIn ln) (pass σ) I1 rv2 q) fun r s' z => ?_)
  match r, z with
  | .error er, z => exact z
  | .ok (.ret u), z => exact z
/-- by keywords alone: π tells which keyword's value each parameter has -/
def perm {α : Type} (d : α) (π : List Nat) (zs : List α) : List α := π.map fun i => zs.getD i d
theorem perm_vals (π : List Nat) {zs : List V} {ws : List Value} (r : Vals zs ws) : Vals (perm .non π zs) (perm .none π ws) := by
  have at_ : ∀ i : Nat, RelV (zs.getD i .non) (ws.getD i .none) := by
    intro i
    induction r generalizing i with
    | nil => exact rfl
    | cons a b ih => cases i with
      | zero => exact a
      | succ i => exact ih i
  unfold perm
  induction π with
  | nil => exact .nil
  | cons i π ih => exact .cons (at_ i) ih
theorem perm_ab {K : PySem.W.Frag} {F : Hp} {al : List Addr} (π : List Nat) {zs : List V} {xs : List A} (r : Paired (Ab K F al) zs xs) : Paired (Ab K F al) (perm .non π zs) (perm (.d .none) π xs) := by
  have at_ : ∀ i : Nat, Ab K F al (zs.getD i .non) (xs.getD i (.d .none)) := by
    intro i
    induction r generalizing i with
    | nil => exact .non
    | cons a b ih => cases i with
      | zero => exact a
      | succ i => exact ih i
  unfold perm
  induction π with
  | nil => exact .nil
  | cons i π ih => exact .cons (at_ i) ih
def BindsK (fd : FuncData) (ps ks : List Str) (π : List Nat) : Prop := ∀ (s : Shared) (ws : List Value), ws.length = ks.length → BindsTo s fd ⟨[], ks.zip ws⟩ (ps.zip (perm .none π ws))
theorem pe_callGK {π : List Nat} (F : FnG X.prog X.w X.K X.mg X.base C k f fd ps sp) (g : Calm0 X.A) (hr : Room k X.A) (gl : Gl X x) (mx : X.mg x = some (.ref f)) (kp : PySem.W.keepIn X.K (.ref f) = true) (bi : BindsK fd ps ks π) (pass : ∀ σ, PassesAt C X σ (Er σ))
    (pk : PK X kws t) (hl : kws.length = ks.length) (all : (backToKw pos (keywordEach kws X.env)).all (·.1.isSome) = true := by rfl) (nam : (backToKw pos (keywordEach kws X.env)).filterMap (·.1) = ks := by rfl)
    (db : (x == ("__debug__" : Str)) = false := by decide) (sp0 : ((backTo pos (starEach [] X.env)).any (·.1) || (backToKw pos (keywordEach kws X.env)).any (·.1.isNone)) = false := by rfl) :
    PE X (.Call (.Name x p) [] kws pos) (fun σ H Q => t σ H fun vv H1 => vv.length = ks.length ∧ sp (perm .non π vv) H1 Q (Er σ)) := by
  constructor
  intro pins s σ H Q I h
  apply wpAny_Call_Name_kw
  refine ld_glob I gl mx ?_ db
  have args := pk.run pos pins s σ H _ I h
  refine PySem.W.callWith_KW0 (h₀ := X.base) I.ok.mod.kin kp all (thn args ?_) sp0
  rintro uu s1 ⟨vv, H1, I1, rv, lv, q⟩
  refine ⟨I1.kIn, ?_⟩
  have b := bi s1 uu (by rw [← rv.length]; exact lv)
  refine wpAny_call (codeAny_mono (go_fn F g hr (by rw [← nam] at b; exact b) (pass σ) I1 (perm_vals π rv) q) fun r s' z => ?_)
  match r, z with
  | .error er, z => exact z
  | .ok (.ret u), z => exact z
end
structure CalG (P : Program) (w : World) (K : PySem.W.Frag) (mg : Str → Option Value) (base : Heap) (x : Str) (k : Nat) (R : DR) : Prop where
  ex : ∃ (f : Addr) (fd : FuncData) (ps : List Str) (ds : List Value) (dvs : List V) (das : List PyData) (R' : DR), mg x = some (.ref f) ∧ PySem.W.keepIn K (.ref f) = true ∧ Binds K fd ps ds ∧ Vals dvs ds ∧
    (∀ F, DpAll K F dvs das) ∧ FnG P w K mg base (L2.CX P w) k f fd ps (SpD K R') ∧ ∀ xs μ Pk Ex, R xs μ Pk Ex → R' (xs ++ das.map A.d) μ Pk Ex
structure CalK (P : Program) (w : World) (K : PySem.W.Frag) (mg : Str → Option Value) (base : Heap) (x : Str) (k : Nat) (ks : List Str) (R : DR) : Prop where
  ex : ∃ (f : Addr) (fd : FuncData) (ps : List Str) (π : List Nat) (R' : DR), mg x = some (.ref f) ∧ PySem.W.keepIn K (.ref f) = true ∧ BindsK fd ps ks π ∧
    FnG P w K mg base (L2.CX P w) k f fd ps (SpD K R') ∧ ∀ xs μ Pk Ex, xs.length = ks.length → R xs μ Pk Ex → R' (perm (.d .none) π xs) μ Pk Ex
theorem CalG.mono {P : Program} {w : World} {K : PySem.W.Frag} {mg : Str → Option Value} {base : Heap} {x : Str} {j k : Nat} {R : DR} (C : CalG P w K mg base x j R) (h : j ≤ k) : CalG P w K mg base x k R := by
  obtain ⟨f, fd, ps, ds, dvs, das, R', h1, h2, h3, h4, h5, F, h6⟩ := C.ex
  exact ⟨f, fd, ps, ds, dvs, das, R', h1, h2, h3, h4, h5, F.mono h, h6⟩
theorem passNo {X : Cx} : ∀ σ : L2.St, PassesAt (L2.CX X.prog X.w) X σ ((fun _ => E0) σ) := fun σ pins H s e s' I z => passL pins σ H s e s' I z
theorem map_up_d (sel : List Nat) (m : Nat) (ds : List PyData) : (ds.map A.d).map (upA sel m) = ds.map A.d := by
  rw [List.map_map]
  rfl
theorem FR.add {R R' : DR} {das : List PyData} (h : ∀ xs μ Pk Ex, R xs μ Pk Ex → R' (xs ++ das.map A.d) μ Pk Ex) {xs : List A} {μ : Mu} {P : DK} {Ex : DX} (q : FR R xs μ P Ex) : FR R' (xs ++ das.map A.d) μ P Ex := by
  obtain ⟨sel, zs, ν, p, rfl, old, r⟩ := q
  refine ⟨sel, zs ++ das.map A.d, ν, p, by rw [List.map_append, map_up_d], fun z hz => ?_, h _ _ _ _ r⟩
  rcases List.mem_append.mp hz with hz | hz
  · exact old z hz
  · obtain ⟨d, _, rfl⟩ := List.mem_map.mp hz
    trivial
theorem perm_map {α β : Type} {f : α → β} {d : α} {d' : β} (hd : f d = d') (π : List Nat) (xs : List α) : perm d' π (xs.map f) = (perm d π xs).map f := by
  unfold perm
  rw [List.map_map]
  refine List.map_congr_left fun i _ => ?_
  show (xs.map f).getD i d' = f (xs.getD i d)
  rw [List.getD_eq_getElem?_getD, List.getD_eq_getElem?_getD, List.getElem?_map]
  cases xs[i]? with
  | none => exact hd.symm
  | some x => rfl
theorem FR.perm {R R' : DR} {π : List Nat} {n : Nat} (h : ∀ xs μ Pk Ex, xs.length = n → R xs μ Pk Ex → R' (Dl.perm (.d .none) π xs) μ Pk Ex) {xs : List A} {μ : Mu} {P : DK} {Ex : DX} (hl : xs.length = n) (q : FR R xs μ P Ex) : FR R' (Dl.perm (.d .none) π xs) μ P Ex := by
  obtain ⟨sel, zs, ν, p, rfl, old, r⟩ := q
  refine ⟨sel, Dl.perm (.d .none) π zs, ν, p, perm_map (f := upA sel μ.length) (d := .d .none) (d' := .d .none) rfl π zs, fun z hz => ?_, h _ _ _ _ (by rw [List.length_map] at hl; exact hl) r⟩
  obtain ⟨i, _, rfl⟩ := List.mem_map.mp hz
  show oldA _ (zs.getD i (.d .none))
  rw [List.getD_eq_getElem?_getD]
  cases e : zs[i]? with
  | none => trivial
  | some x => exact old x (List.mem_of_getElem? e)
section
variable {X : Cx} {W : WX} {k : Nat} {R : DR} {x : Str} {p pos spos : Pos} {e : Expr} {es : List Expr} {da : DAT} {ks : List Str} {kws : List Keyword}
theorem d_calG (C : CalG X.prog X.w X.K X.mg X.base x k R) (g : Calm0 X.A) (hr : Room k X.A) (ha : DA X (e :: es) da) (gl : Gl X x := by rfl)
    (db : (x == ("__debug__" : Str)) = false := by decide) (se : starEach (e :: es) X.env = (false, eval e X.env) :: starEach es X.env := by rfl) (sp0 : (backTo pos (starEach es X.env)).any (·.1) = false := by rfl) : DE X (.Call (.Name x p) (e :: es) [] pos) (dFn (FR R) da) := by
  obtain ⟨f, fd, ps, ds, dvs, das, R', mx, kp, b, dv, dd, F, im⟩ := C.ex
  obtain ⟨_, p2, s2⟩ := ha.ex
  refine ⟨_, pe_callG F g hr gl mx kp b dv passNo p2 db se sp0, fun ρ μ P h Fh al σ H S L Q kk => ?_⟩
  refine s2 ρ μ _ h Fh al σ H S L _ fun vs xs μ1 F1 al1 H1 q g1 S1 a => ?_
  exact frame_imp _ _ _ _ ⟨xs ++ das.map A.d, μ1, P, noX, F1, al1, S1, Paired.app a (DpAll.to (dd F1)), FR.add im q, kk.fwd g1, fun C o μ' F' al' H' d h => h.elim⟩
structure DKw (X : Cx) (kws : List Keyword) (d : DAT) : Prop where
  ex : ∃ t, PK X kws t ∧ SimA X.K t d
theorem dk_nil : DKw X [] daNil := ⟨_, pk_nil, sim_nil⟩
theorem dk_cons {nm : Option Str} {kp : Pos} {de : DT} (h1 : DE X e de) (h2 : DKw X kws da) : DKw X (⟨nm, e, kp⟩ :: kws) (daCons de da) := by
  obtain ⟨_, p1, s1⟩ := h1.ex
  obtain ⟨_, p2, s2⟩ := h2.ex
  exact ⟨_, pk_cons p1 p2, sim_cons s1 s2⟩
abbrev dFnK (n : Nat) (R : DR) (da : DAT) : DT := fun ρ μ P => da ρ μ fun xs μ1 => xs.length = n ∧ R xs μ1 P noX
theorem d_calK (C : CalK X.prog X.w X.K X.mg X.base x k ks R) (g : Calm0 X.A) (hr : Room k X.A) (ha : DKw X kws da) (gl : Gl X x := by rfl) (hl : kws.length = ks.length := by rfl)
    (all : (backToKw pos (keywordEach kws X.env)).all (·.1.isSome) = true := by rfl) (nam : (backToKw pos (keywordEach kws X.env)).filterMap (·.1) = ks := by rfl)
    (db : (x == ("__debug__" : Str)) = false := by decide) (sp0 : ((backTo pos (starEach [] X.env)).any (·.1) || (backToKw pos (keywordEach kws X.env)).any (·.1.isNone)) = false := by rfl) : DE X (.Call (.Name x p) [] kws pos) (dFnK ks.length (FR R) da) := by
  obtain ⟨f, fd, ps, π, R', mx, kp, b, F, im⟩ := C.ex
  obtain ⟨_, p2, s2⟩ := ha.ex
  refine ⟨_, pe_callGK F g hr gl mx kp b passNo p2 hl all nam db sp0, fun ρ μ P h Fh al σ H S L Q kk => ?_⟩
  refine s2 ρ μ _ h Fh al σ H S L _ fun vs xs μ1 F1 al1 H1 q g1 S1 a => ?_
  exact ⟨by rw [pair_len a]; exact q.1, frame_imp _ _ _ _ ⟨perm (.d .none) π xs, μ1, P, noX, F1, al1, S1, perm_ab π a, FR.perm im q.1 q.2, kk.fwd g1, fun C o μ' F' al' H' d h => h.elim⟩⟩
end
theorem cal_ofG {P : Program} {w : World} {K : PySem.W.Frag} {mg : Str → Option Value} {base : Heap} {x : Str} {st : Stmt} {ps N : List Str} {k : Nat} {R : DR} {f : Addr} {fd : FuncData} (F : FunV K x x st f fd) (sc : FnScope N ps (defScope st))
    (ln : ∀ xs μ Pk Ex, R xs μ Pk Ex → xs.length = ps.length)
    (bd : ∀ (cd : Value) (A : Around) (ou : List Env) (s : Shared) (H : Hp) (E : XK) (W : WX), Calm0 (A.deeper (envOfC x (defScope st) s.heap.objs.size f cd)) → Room k (A.deeper (envOfC x (defScope st) s.heap.objs.size f cd)) →
      Takes (cxOf (L2.CX P w) P w K mg base N x (defScope st) f cd A ou s H E) W →
      PassesOwn (model P w) (A.deeper (envOfC x (defScope st) s.heap.objs.size f cd)) (envOfC x (defScope st) s.heap.objs.size f cd) (cxOf (L2.CX P w) P w K mg base N x (defScope st) f cd A ou s H E).xe →
      ∃ d, DSs (cxOf (L2.CX P w) P w K mg base N x (defScope st) f cd A ou s H E) W (defBody st) d ∧ ∀ xs μ Pk Ex, Old μ.length μ → R xs μ Pk Ex →
        d { nx := fun _ μ' => RetD μ.length Pk (.d .none) μ', rt := RetD μ.length Pk, ex := OutD μ.length Ex } (startR N xs) μ) : FnG P w K mg base (L2.CX P w) (k + 1) f fd ps (SpD K R) := by
  refine fg_body F sc (fun vs H Q E h => ?_) (fun cd A ou s H vs Q E g hr h => ?_)
  · obtain ⟨xs, μ, Pk, Ex, Fh, al, S, a, r, _⟩ := h
    rw [pair_len a]
    exact ln _ _ _ _ r
  · obtain ⟨xs, μ, Pk, Ex, Fh, al, S, a, r, kk, kx⟩ := h
    obtain ⟨d, hd, q⟩ := bd cd A ou s H E (fun cls d _ H' => E cls d H') g hr (takes_of rfl rfl rfl rfl) (passes_of rfl)
    obtain ⟨t, pt, sm⟩ := hd.ex
    refine ⟨t, pt, sm _ μ _ (q xs μ Pk Ex S.old r) Fh al _ H S (slots_start a) _ ⟨fun ρ' μ' F' al' σ' H' h g S' _ => ?_, kk.ret S, fun _ _ _ _ _ _ z => z.elim, fun _ _ _ _ _ _ z => z.elim, fun C o ρ' μ' F' al' σ' H' dd h g S' _ xo => ?_⟩⟩
    · exact kk.ret S .non (.d .none) μ' F' al' H' h g S' .non
    · obtain ⟨μ'', rm, h⟩ := h
      obtain ⟨F'', al'', g2, S2, sf, _⟩ := grow_ret S g S' rm
      exact kx C o μ'' F'' al'' H' dd h g2 S2 (xo.mono sf)
end Dl
set_option Elab.async false
set_option linter.all false
set_option maxRecDepth 100000
set_option maxHeartbeats 4000000
namespace Dl
open PySem PySem.Spec PyProof.Rows L2
section
variable {X : Cx} {W : WX} {st : Stmt} {rest : List Stmt} {e : Expr}
def dsFrz (i : Nat) (d : DS) : DS := fun D ρ μ => ∃ n ds, ρ[i]? = some (some (.c n)) ∧ μ[n]? = some (.lst (ds.map A.d)) ∧ d D (ρ.set i (some (.d (.list ds)))) (μ.set n .dead)
theorem frz_sto {K : PySem.W.Frag} {F : Hp} {al : List Addr} {μ : Mu} {H : Hp} {n : Nat} {ds : List PyData} {a : Addr} (S : Sto K F al μ H) (ea : al[n]? = some a) (h : μ[n]? = some (.lst (ds.map A.d))) :
    ∃ F', Sto K F' al (μ.set n .dead) H ∧ Grow F al H F' al H ∧ Dp K F' (.ref a) (.list ds) := by
  obtain ⟨b, vs, eb, hb, r⟩ := cell_lst S h
  rw [ea] at eb
  obtain rfl := Option.some.inj eb
  obtain ⟨ho, h1, h2⟩ := S.cell n a _ ea h
  have fa : F a = none := (h2 (fun z => nomatch z)).1
  have sf : Same F (upd F a (.lst vs)) := fun c u e => by
    rw [upd_ne (ne_of_none e fa)]
    exact e
  refine ⟨upd F a (.lst vs), ⟨fun c u e => ?_, S.nd, by rw [List.length_set]; exact S.len, fun j c u e1 e2 => ?_⟩, ⟨sf, List.prefix_refl _, fun _ _ e _ => e, fun _ m => .inl m, fun c u e => ?_⟩, .lst (.inl (.inl upd_same)) (DpAll.mono sf (DpAll.of r))⟩
  · by_cases z : c = a
    · subst z
      rw [upd_same] at e
      rw [← e]
      exact hb
    · rw [upd_ne z] at e
      exact S.sub _ _ e
  · by_cases z : j = n
    · subst z
      rw [List.getElem?_set_self (List.getElem?_eq_some_iff.mp h).1] at e2
      obtain rfl := Option.some.inj e2
      rw [ea] at e1
      obtain rfl := Option.some.inj e1
      exact ⟨_, hb, fun nd => absurd rfl nd⟩
    · rw [List.getElem?_set_ne (Ne.symm z)] at e2
      obtain ⟨w, w1, w2⟩ := S.cell j c u e1 e2
      have nc : c ≠ a := fun e => by
        subst e
        exact z (nd_ix S.nd e1 ea)
      exact ⟨w, w1, fun nd => ⟨by rw [upd_ne nc]; exact (w2 nd).1, (w2 nd).2.mono sf (List.prefix_refl _)⟩⟩
  · by_cases z : c = a
    · subst z
      exact .inr (.inr (List.mem_of_getElem? ea))
    · rw [upd_ne z] at e
      exact .inl e
theorem dss_frz {i : Nat} {d : DS} (h : DSs X W rest d) : DSs X W rest (dsFrz i d) := by
  obtain ⟨t, p, s⟩ := h.ex
  refine ⟨t, p, fun ρ μ D q F al σ H S L E k => ?_⟩
  obtain ⟨n, ds, e1, e2, q⟩ := q
  obtain ⟨v, e3, a, ea, rfl⟩ := L.at_ i _ e1
  obtain ⟨F', S', g, dd⟩ := frz_sto S ea e2
  have L' := g.slots L
  refine s _ _ D q F' al σ H S' ⟨by rw [List.length_set]; exact L'.len, fun j x ej => ?_⟩ E (k.fwd g)
  by_cases z : j = i
  · subst z
    rw [List.getElem?_set_self (List.getElem?_eq_some_iff.mp e1).1] at ej
    obtain rfl := Option.some.inj (Option.some.inj ej)
    exact ⟨_, e3, dd⟩
  · rw [List.getElem?_set_ne (Ne.symm z)] at ej
    exact L'.at_ j x ej
end
def valA (ks : List (Key × A)) (k : Key) : Option A := (ks.find? fun p => decide (p.1 = k)).map (·.2)
def putA (ks : List (Key × A)) (k : Key) (x : A) : List (Key × A) := if (ks.any fun p => decide (p.1 = k)) = true then ks.map (fun p => if p.1 = k then (p.1, x) else p) else ks ++ [(k, x)]
def kD : Key → A
  | .inl i => .d (.int i)
  | .inr s => .d (.str s)
def kP : Key → PyData
  | .inl i => .int i
  | .inr s => .str s
section
variable {K : PySem.W.Frag} {F F' : Hp} {al al' : List Addr} {H H' : Hp} {μ : Mu}
abbrev KPr (K : PySem.W.Frag) (F : Hp) (al : List Addr) (kvs : List (Key × V)) (ks : List (Key × A)) : Prop := Paired (fun (p : Key × V) (q : Key × A) => p.1 = q.1 ∧ Ab K F al p.2 q.2) kvs ks
theorem kD_ab {v : V} {k : Key} (h : Ab K F al v (kD k)) : v = kV k := by
  cases k with
  | inl i => exact dp_int h
  | inr s => exact dp_str h
theorem kp_val {kvs : List (Key × V)} {ks : List (Key × A)} (h : KPr K F al kvs ks) (k : Key) : (valV kvs k = none ∧ valA ks k = none) ∨ ∃ v x, valV kvs k = some v ∧ valA ks k = some x ∧ Ab K F al v x := by
  induction h with
  | nil => exact .inl ⟨rfl, rfl⟩
  | @cons p q ps qs hp _ ih =>
    by_cases e : p.1 = k
    · refine .inr ⟨p.2, q.2, valV_pos e, ?_, hp.2⟩
      unfold valA
      rw [List.find?_cons, decide_eq_true (show q.1 = k by rw [← hp.1]; exact e)]
      rfl
    · have e' : ¬ q.1 = k := by rw [← hp.1]; exact e
      have r1 : valV (p :: ps) k = valV ps k := valV_neg e
      have r2 : valA (q :: qs) k = valA qs k := by
        unfold valA
        rw [List.find?_cons, decide_eq_false e']
      rw [r1, r2]
      exact ih
theorem kp_any {kvs : List (Key × V)} {ks : List (Key × A)} (h : KPr K F al kvs ks) (k : Key) : (kvs.any fun p => decide (p.1 = k)) = ks.any fun p => decide (p.1 = k) := by
  induction h with
  | nil => rfl
  | cons hp _ ih => rw [List.any_cons, List.any_cons, ih, hp.1]
theorem Paired.map2 {α β γ δ : Type} {R : α → β → Prop} {R' : γ → δ → Prop} {f : α → γ} {g : β → δ} (h : ∀ a b, R a b → R' (f a) (g b)) : ∀ {l : List α} {m : List β}, Paired R l m → Paired R' (l.map f) (m.map g)
  | _, _, .nil => .nil
  | _, _, .cons a b => .cons (h _ _ a) (Paired.map2 h b)
theorem kp_put {kvs : List (Key × V)} {ks : List (Key × A)} (h : KPr K F al kvs ks) (k : Key) {v : V} {x : A} (a : Ab K F al v x) : KPr K F al (putK kvs k v) (putA ks k x) := by
  unfold putK putA
  rw [kp_any h k]
  split
  · refine Paired.map2 (fun p q hp => ?_) h
    by_cases e : q.1 = k
    · have e' : p.1 = k := by rw [hp.1]; exact e
      simp only [if_pos e, if_pos e']
      exact ⟨hp.1, a⟩
    · have e' : ¬ p.1 = k := by rw [hp.1]; exact e
      simp only [if_neg e, if_neg e']
      exact hp
  · exact Paired.app h (.cons ⟨rfl, a⟩ .nil)
def mergeA (ks more : List (Key × A)) : List (Key × A) := more.foldl (fun acc p => putA acc p.1 p.2) ks
theorem kp_merge {more : List (Key × V)} {moreA : List (Key × A)} (h : KPr K F al more moreA) : ∀ {kvs : List (Key × V)} {ks : List (Key × A)}, KPr K F al kvs ks → KPr K F al (mergeK kvs more) (mergeA ks moreA) := by
  unfold mergeK mergeA
  induction h with
  | nil => intro kvs ks q; exact q
  | @cons p q ps qs hp _ ih =>
    intro kvs ks r
    rw [List.foldl_cons, List.foldl_cons]
    refine ih ?_
    rw [hp.1]
    exact kp_put r _ hp.2
theorem cell_dct (S : Sto K F al μ H) {i : Nat} {ks : List (Key × A)} (h : μ[i]? = some (.dct ks)) : ∃ a kvs, al[i]? = some a ∧ H a = some (.dK kvs) ∧ KPr K F al kvs ks := by
  have lt : i < al.length := by
    rw [S.len]
    exact (List.getElem?_eq_some_iff.mp h).1
  obtain ⟨ho, h1, h2⟩ := S.cell i _ _ (List.getElem?_eq_getElem lt) h
  have h3 := (h2 (fun e => nomatch e)).2
  cases ho with
  | dK kvs => exact ⟨_, kvs, List.getElem?_eq_getElem lt, h1, h3⟩
  | _ => exact h3.elim
theorem dct_at (S : Sto K F al μ H) {v : V} {n : Nat} {ks : List (Key × A)} (h : Ab K F al v (.c n)) (e : μ[n]? = some (.dct ks)) : ∃ a kvs, v = .ref a ∧ al[n]? = some a ∧ H a = some (.dK kvs) ∧ KPr K F al kvs ks := by
  obtain ⟨a, ea, rfl⟩ := h
  obtain ⟨b, kvs, eb, hb, r⟩ := cell_dct S e
  rw [ea] at eb
  obtain rfl := Option.some.inj eb
  exact ⟨a, kvs, rfl, ea, hb, r⟩
/-- an address that was made meanwhile becomes a cell -/
theorem Sto.adopt {F2 : Hp} {al2 : List Addr} {H2 : Hp} {D : Addr} {ho : HO} {o : O} (S : Sto K F2 al2 μ H2) (g : Grow F al H F2 al2 H2) (hD : H D = none) (f2 : F2 D = none) (n2 : D ∉ al2) (ab : AbO K F2 al2 ho o) :
    Sto K F2 (al2 ++ [D]) (μ ++ [o]) (upd H2 D ho) ∧ Grow F al H F2 (al2 ++ [D]) (upd H2 D ho) := by
  have px : al2 <+: al2 ++ [D] := ⟨[D], rfl⟩
  have nd : ∀ {b}, b ∈ al2 → b ≠ D := fun h e => n2 (by rw [← e]; exact h)
  refine ⟨⟨fun b u e => ?_, ?_, by rw [List.length_append, List.length_append, S.len] <;> rfl, fun i a u e1 e2 => ?_⟩, ⟨g.f, List.IsPrefix.trans g.px px, fun b u e n => ?_, fun a h => ?_, g.fz⟩⟩
  · rw [upd_ne (ne_of_none e f2)]
    exact S.sub _ _ e
  · rw [List.nodup_append]
    refine ⟨S.nd, by simp, fun a ha b hb e => ?_⟩
    rw [List.mem_singleton] at hb
    subst hb e
    exact n2 ha
  · rcases Nat.lt_or_ge i al2.length with lt | ge
    · rw [List.getElem?_append_left lt] at e1
      rw [List.getElem?_append_left (by rw [← S.len]; exact lt)] at e2
      obtain ⟨w, h1, h2⟩ := S.cell i a u e1 e2
      exact ⟨w, by rw [upd_ne (nd (List.mem_of_getElem? e1))]; exact h1, fun k => ⟨(h2 k).1, (h2 k).2.mono (Same.refl _) px⟩⟩
    · rw [List.getElem?_append_right ge] at e1
      rw [List.getElem?_append_right (by rw [← S.len]; exact ge)] at e2
      have z : i - al2.length = 0 := by
        have := (List.getElem?_eq_some_iff.mp e1).1
        simp at this
        omega
      rw [z] at e1
      rw [← S.len, z] at e2
      obtain rfl : D = a := Option.some.inj e1
      obtain rfl : o = u := Option.some.inj e2
      exact ⟨ho, upd_same, fun _ => ⟨f2, ab.mono (Same.refl _) px⟩⟩
  · rw [upd_ne (ne_of_none e hD)]
    exact g.fr b u e n
  · rcases List.mem_append.mp h with z | z
    · exact g.nw a z
    · rw [List.mem_singleton] at z
      subst z
      exact .inr hD
theorem free_both (S : Sto K F al μ H) {D : Addr} (h : H D = none) : F D = none ∧ D ∉ al := by
  refine ⟨?_, fun m => ?_⟩
  · cases e : F D with
    | none => rfl
    | some u =>
      rw [S.sub _ _ e] at h
      cases h
  · obtain ⟨u, e⟩ := S.has m
    rw [e] at h
    cases h
/-- an address that is not ours stays as it is -/
theorem stays {F2 F3 : Hp} {al2 al3 : List Addr} {H2 H3 : Hp} {D : Addr} {ho : HO} (g : Grow F2 al2 H2 F3 al3 H3) (f2 : F2 D = none) (n2 : D ∉ al2) (d2 : H2 D = some ho) : F3 D = none ∧ D ∉ al3 ∧ H3 D = some ho := by
  have nD3 : D ∉ al3 := fun z => by
    rcases g.nw D z with q | q
    · exact n2 q
    · rw [d2] at q
      cases q
  refine ⟨?_, nD3, g.fr _ _ d2 n2⟩
  cases e : F3 D with
  | none => rfl
  | some u =>
    rcases g.fz D u e with q | q | q
    · rw [f2] at q
      cases q
    · rw [d2] at q
      cases q
    · exact absurd q n2
end
section
variable {X : Cx} {o i e value : Expr} {pos pos' tpos apos cpos : Pos} {dd dk dv : DT} {W : WX}
abbrev dDGet (dd dk : DT) : DT := fun ρ μ P => dd ρ μ fun x μ1 => dk ρ μ1 fun y μ2 => ∃ n ks k v, x = .c n ∧ μ2[n]? = some (.dct ks) ∧ y = kD k ∧ valA ks k = some v ∧ P v μ2
theorem d_dget (hu : X.A.units + 64 < cLine) (ho : DE X o dd) (hi : DE X i dk) (hs : NoSl i := by exact fun _ _ => rfl) : DE X (.Subscript o i pos) (dDGet dd dk) := by
  obtain ⟨_, p1, s1⟩ := ho.ex
  obtain ⟨_, p2, s2⟩ := hi.ex
  refine ⟨_, pe_dget (by omega) p1 p2 hs, fun ρ μ P h F al σ H S L Q kk => ?_⟩
  refine s1 ρ μ _ h F al σ H S L _ fun u x μ1 F1 al1 H1 q1 g1 S1 a1 => ?_
  refine s2 ρ μ1 _ q1 F1 al1 σ H1 S1 (g1.slots L) _ fun u2 y μ2 F2 al2 H2 q2 g2 S2 a2 => ?_
  obtain ⟨n, ks, k, x', rfl, en, rfl, ev, q⟩ := q2
  obtain ⟨a, kvs, rfl, ea, hb, r⟩ := dct_at S2 (g2.ab a1) en
  rcases kp_val r k with ⟨_, z⟩ | ⟨v, x, e1, e2, ab⟩
  · rw [ev] at z
    cases z
  · rw [ev] at e2
    obtain rfl := Option.some.inj e2
    exact ⟨a, v, rfl, .inl ⟨kvs, k, .inl hb, kD_ab a2, e1.symm⟩, (kk.fwd (g1.trans g2)).now q S2 ab⟩
abbrev dDIn (neg : Bool) (dk dd : DT) : DT := fun ρ μ P => dk ρ μ fun y μ1 => dd ρ μ1 fun x μ2 => ∃ n ks k, x = .c n ∧ μ2[n]? = some (.dct ks) ∧ y = kD k ∧ P (.d (.bool (neg ^^ (valA ks k).isSome))) μ2
theorem some_eq {K : PySem.W.Frag} {F : Hp} {al : List Addr} {kvs : List (Key × V)} {ks : List (Key × A)} (h : KPr K F al kvs ks) (k : Key) : (valV kvs k).isSome = (valA ks k).isSome := by
  rcases kp_val h k with ⟨e1, e2⟩ | ⟨v, x, e1, e2, _⟩
  · rw [e1, e2]
    rfl
  · rw [e1, e2]
    rfl
theorem d_din (hu : X.A.units + 64 < cLine) (hi : DE X i dk) (ho : DE X o dd) (hm : behindInMarks .In o = false := by rfl) : DE X (.Compare i [.In] [o] pos) (dDIn false dk dd) := by
  obtain ⟨_, p1, s1⟩ := hi.ex
  obtain ⟨_, p2, s2⟩ := ho.ex
  refine ⟨_, pe_cmp (pc_din (by omega) p1 p2) hm, fun ρ μ P h F al σ H S L Q kk => ?_⟩
  refine s1 ρ μ _ h F al σ H S L _ fun u y μ1 F1 al1 H1 q1 g1 S1 a1 => ?_
  refine s2 ρ μ1 _ q1 F1 al1 σ H1 S1 (g1.slots L) _ fun u2 x μ2 F2 al2 H2 q2 g2 S2 a2 => ?_
  obtain ⟨n, ks, k, rfl, en, rfl, q⟩ := q2
  obtain ⟨a, kvs, rfl, ea, hb, r⟩ := dct_at S2 a2 en
  refine ⟨a, _, rfl, .inl ⟨kvs, k, .inl hb, kD_ab (g2.ab a1), rfl⟩, (kk.fwd (g1.trans g2)).now q S2 ?_⟩
  rw [some_eq r, Bool.false_xor]
  exact .bl _
abbrev dsDPut (dd dk dv : DT) : DS := fun D ρ μ => dv ρ μ fun v μ1 => dd ρ μ1 fun x μ2 => dk ρ μ2 fun y μ3 => ∃ n ks k, x = .c n ∧ μ3[n]? = some (.dct ks) ∧ y = kD k ∧ ks.length < sizeLine ∧ D.nx ρ (μ3.set n (.dct (putA ks k v)))
theorem ds_dput (hu : X.A.units + 64 < cLine) (ho : DE X o dd) (hi : DE X i dk) (hv : DE X value dv) (hs : swapsWith value (some (.Subscript o i pos')) pos.line X.env = pure false := by rfl) : DSt X W (.Assign [.Subscript o i pos'] value pos) (dsDPut dd dk dv) := by
  obtain ⟨_, p1, s1⟩ := ho.ex
  obtain ⟨_, p2, s2⟩ := hi.ex
  obtain ⟨_, p3, s3⟩ := hv.ex
  refine ⟨_, ps_dput (by omega) p1 p2 p3 hs, fun ρ μ D h F al σ H S L E kk => ?_⟩
  refine s3 ρ μ _ h F al σ H S L _ fun v x0 μ1 F1 al1 H1 q1 g1 S1 a1 => ?_
  refine s1 ρ μ1 _ q1 F1 al1 σ H1 S1 (g1.slots L) _ fun u x μ2 F2 al2 H2 q2 g2 S2 a2 => ?_
  refine s2 ρ μ2 _ q2 F2 al2 σ H2 S2 ((g1.trans g2).slots L) _ fun u2 y μ3 F3 al3 H3 q3 g3 S3 a3 => ?_
  obtain ⟨n, ks, k, rfl, en, rfl, hl, q⟩ := q3
  obtain ⟨a, kvs, rfl, ea, hb, r⟩ := dct_at S3 (g3.ab a2) en
  have r2 := kp_put r k (g3.ab (g2.ab a1))
  obtain ⟨S4, g4⟩ := S3.put ea en (fun z => nomatch z) (ho := .dK (putK kvs k v)) (o' := .dct (putA ks k x0)) r2
  have gg := ((g1.trans g2).trans g3).trans g4
  refine ⟨a, _, rfl, .inl ⟨kvs, k, hb, kD_ab a3, by rw [pair_len r]; exact hl, rfl⟩, kk.nx ρ _ F3 al3 σ _ q gg S4 (gg.slots L)⟩
/-- {k: v} -/
abbrev dDisp1 (dk dv : DT) : DT := fun ρ μ P => dk ρ μ fun y μ1 => dv ρ μ1 fun x μ2 => ∃ k, y = kD k ∧ P (.c μ2.length) (μ2 ++ [.dct [(k, x)]])
theorem d_disp1 {ke ve : Expr} (hk : DE X ke dk) (hv : DE X ve dv) : DE X (.Dict [some ke] [ve] pos) (dDisp1 dk dv) := by
  obtain ⟨_, p1, s1⟩ := hk.ex
  obtain ⟨_, p2, s2⟩ := hv.ex
  refine ⟨_, pe_disp (pps_cons p1 p2 pps_nil) rfl rfl (by simp) (by show 1 ≤ 15; decide), fun ρ μ P h F al σ H S L Q kk D hD => ?_⟩
  obtain ⟨fD, nD⟩ := free_both S hD
  refine s1 ρ μ _ h F al σ _ (S.free fD nD (.dK [])) L _ fun u y μ1 F1 al1 H1 q1 g1 S1 a1 => ?_
  obtain ⟨f1, n1, d1⟩ := stays g1 fD nD upd_same
  refine s2 ρ μ1 _ q1 F1 al1 σ H1 S1 (g1.slots L) _ fun u2 x μ2 F2 al2 H2 q2 g2 S2 a2 => ?_
  obtain ⟨f2, n2, d2⟩ := stays g2 f1 n1 d1
  obtain ⟨k, rfl, q⟩ := q2
  have ek := kD_ab (g2.ab a1)
  subst ek
  refine ⟨d2, [(k, u2)], rfl, by show 1 ≤ 15; decide, ?_⟩
  have g0 : Grow F al H F al (upd H D (.dK [])) := Grow.refl.free hD _
  have m1 : mergeK [] [(k, u2)] = [(k, u2)] := rfl
  rw [m1]
  obtain ⟨S3, g3⟩ := S2.adopt (ho := .dK [(k, u2)]) (o := .dct [(k, x)]) (g0.trans (g1.trans g2)) hD f2 n2 (.cons ⟨rfl, a2⟩ .nil)
  refine kk (.ref D) (.c μ2.length) _ F2 _ _ q g3 S3 ⟨D, ?_, rfl⟩
  rw [← S2.len, List.getElem?_append_right (Nat.le_refl _), Nat.sub_self]
  rfl
end
end Dl
set_option Elab.async false
set_option linter.all false
set_option maxRecDepth 100000
set_option maxHeartbeats 4000000
namespace Dl
open PySem PySem.Spec PyProof.Rows L2
abbrev SKO (P : Program) (w : World) (D : Addr) (S : Key → Bool) (n : Nat) : HO := SetK P w D S n
section
variable {X : Cx}
def tSk (P : Program) (w : World) (wi : TI) (g : TG) (tt : TT) (te : TE) (vs : List Nat) : TE := fun σ H Q => wi σ H fun J H1 => ∀ D, H1 D = none → ∃ W : Nat → Nat → Hp → Prop, (∃ m, W 0 m (upd H1 D (SKO P w D (fun _ => false) 0))) ∧
  ∀ i m H, W i m H → (J.stop i H ∧ Q (.ref D) H) ∨ (J.go i H ∧ ∃ Nx : Hp → Prop, (∀ H', Nx H' → ∃ m', m' < m ∧ W (i + 1) m' H') ∧ ∀ x H', J.yld i H x H' → g x (wipe σ vs) H' fun σ2 H2 => wipe σ2 vs = wipe σ vs ∧ tt σ2 H2 fun b H3 =>
    if b = true then te σ2 H3 fun y H4 => ∃ (k : Key) (S : Key → Bool) (n : Nat), y = kV k ∧ H4 D = some (SKO P w D S n) ∧ n + 1 < scanBound ∧ Nx (upd H4 D (SKO P w D (fun j => S j || decide (j = k)) (if S k = true then n else n + 1))) else Nx H3)
theorem add_key {pins : List (Addr × Obj)} {σ : L2.St} {H : Hp} {s : Shared} {E : Value → Shared → Prop} {D : Addr} {S : Key → Bool} {n : Nat} {k : Key} {u : Value} {Q : Value → Shared → Prop} (I : Inv X pins σ H s) (hD : H D = some (SKO X.prog X.w D S n)) (room : n + 1 < scanBound) (ru : RelV (kV k) u)
    (q : ∀ v s', Inv X pins σ (upd H D (SKO X.prog X.w D (fun j => S j || decide (j = k)) (if S k = true then n else n + 1))) s' → Q v s') : wpAny (model X.prog X.w) X.A (call (.builtin "set.add") [.ref D, u]) Q E s := by
  refine call_set_add (kV_is ru) (key_scan ru) (setK_get I hD) room fun h' same new => ?_
  have got : ∃ o, h'.get? D = some o := by
    obtain ⟨o, _, _, _, e, _⟩ := new
    exact ⟨o, e⟩
  exact q _ _ (I.write (t' := s.toks + 1) (e := D) (by rw [hD]; trivial) (.inl rfl) (fun b o hb ho => (same.2 b hb).trans ho) got (setK_new new))
theorem sk_rule {elt tg iter : Expr} {ifs : List Expr} {scope : Scope} {own : List (Str × Nat)} {pos : Pos} {wi : TI} {g : TG} {tt : TT} {te : TE} (calm : X.calm = true) (nodup : X.N.Nodup) (it : PI X tg iter wi) (bok : BlkOk X.N X.env.scope scope own)
    (bg : Blk X scope fun Y => PG Y tg g) (bt : Blk X scope fun Y => PTs Y ifs tt) (be : Blk X scope fun Y => PE Y elt te) (fold : ∀ x, foldedSetIterable iter X.env x = pure x := by intro _; rfl) :
    PE X (.SetComp elt [⟨tg, iter, ifs, 0⟩] scope pos) (tSk X.prog X.w wi g tt te (own.map (·.2))) := by
  constructor
  intro pins s σ H Q I h
  rw [PpSet.eval_SetComp]
  have cells : ∀ y ∈ scope.names, y.2 = .free → ∃ c, X.env.cells.lookup y.1 = some c := by
    intro y hy e
    rcases bok.free y hy e with z | z
    · exact I.ok.has _ (.inl z)
    · exact I.ok.has _ (.inr z)
  refine wpAny_comprehension_free (use := none) rfl fold (closure_ok cells) bok.kind (fun y hy e => by rw [bok.uniq y hy, e]) ?_
  refine thn (it.run pins s σ H _ I h) fun xv sa ha => thn ha fun itv sb hb => ?_
  obtain ⟨ia, fp, tn, J, Hb, rfl, Ib, T, stb, fpb, q⟩ := hb
  refine PpSet.newSet_ok (newEnv_comp ?_)
  have noD : Hb sb.heap.objs.size = none := Ib.hok.fresh (Nat.le_refl _)
  obtain ⟨W, ⟨m0, w0⟩, turn⟩ := q sb.heap.objs.size noD
  let oD : Obj := { cls := .type "set", dict := none, data := .set #[] 0 (.fresh 0 0 (!X.w.params.followText "set-order")) }
  have fresh : (sb.heap.push oD).SetOf (mixKind X.prog X.w) sb.heap.objs.size (fun _ => false) 0 :=
    ⟨_, #[], 0, _, Heap.get?_push_size _ rfl, ⟨rfl, rfl, rfl⟩, rfl, (fun e he => by simp at he), (fun k => by simp), (by decide), (by rfl), rfl⟩
  generalize eD : sb.heap.objs.size = D at noD turn w0 fresh ⊢
  have Ic : Inv X pins σ (upd Hb D (SKO X.prog X.w D (fun _ => false) 0)) { sb with heap := sb.heap.push oD } :=
    Ib.laid (t' := sb.toks) (fun b o e => Heap.get?_push_of_some _ e) (Nat.le_of_eq eD) (setK_new fresh)
  generalize hsc : ({ sb with heap := sb.heap.push oD } : Shared) = sc at Ic
  have heapc : sc.heap = sb.heap.push oD := by rw [← hsc]
  have below : ∀ b ∈ fp, b < sb.heap.objs.size := by
    intro b hb
    obtain ⟨o, e, _⟩ := T.obj _ _ stb b hb
    exact Heap.lt_size e
  have fpc : ∀ b ∈ fp, FpOk X pins (upd Hb D (SKO X.prog X.w D (fun _ => false) 0)) b ∧ b < sc.heap.objs.size := by
    intro b hb
    have lt := below b hb
    have ne : b ≠ D := by rw [← eD]; exact Nat.ne_of_lt lt
    refine ⟨⟨by rw [upd_ne ne]; exact (fpb b hb).1, (fpb b hb).2⟩, ?_⟩
    rw [heapc, Heap.size_push]
    exact Nat.lt_succ_of_lt lt
  have stc : tn 0 sc.heap := T.keep _ _ _ stb fun b _ o e => by rw [heapc]; exact Heap.get?_push_of_some _ e
  have Id := block_start Ic bok nodup fpc
  generalize hHc : upd Hb D (SKO X.prog X.w D (fun _ => false) 0) = Hc at Ic Id fpc w0
  have rg := bg sc Hc sc.heap.objs.size (cellsFrom (sc.heap.objs.size + 1) scope.names (cloFrom X.env.cells scope.names [])) fp
  have rt := bt sc Hc sc.heap.objs.size (cellsFrom (sc.heap.objs.size + 1) scope.names (cloFrom X.env.cells scope.names [])) fp
  have re := be sc Hc sc.heap.objs.size (cellsFrom (sc.heap.objs.size + 1) scope.names (cloFrom X.env.cells scope.names [])) fp
  have goal : ∀ cenv : Env, cenv = compEnvC scope (cellsFrom (sc.heap.objs.size + 1) scope.names (cloFrom X.env.cells scope.names [])) sc.heap.objs.size X.env →
      codeAny (model X.prog X.w) X.A (.compStart (.SetComp elt [⟨tg, iter, ifs, 0⟩] scope pos) 0 (.ref ia) (.ref D) cenv) (compPost (model X.prog X.w) X.A X.xe none (EP X pins σ Q) (.ref D) sc.heap.objs.size) { sc with heap := pushCells (sc.heap.push { cls := .type "dict", data := .dict #[] }) scope.names } := by
    intro cenv ce
    rw [← ce] at Id rg rt re
    have loc : cenv.locals = sc.heap.objs.size := by rw [ce]; rfl
    have none_ : ∀ b ∈ fp, Hc b = none := fun b hb => (fpc b hb).1.1
    generalize hsd : ({ sc with heap := pushCells (sc.heap.push { cls := .type "dict", data := .dict #[] }) scope.names } : Shared) = sd at Id ⊢
    have std : tn 0 sd.heap := T.keep _ _ _ stc fun b _ o e => by rw [← hsd]; exact pushCells_keeps _ _ _ _ (Heap.get?_push_of_some _ e)
    have still : ∀ {σ' : L2.St} {H' : Hp} {s' : Shared}, Inv (X.blk sc Hc scope cenv fp) [] σ' H' s' → (∀ b ∈ fp, H' b = none) → ∀ b ∈ fp, FpOk (X.blk sc Hc scope cenv fp) [] H' b := by
      intro σ' H' s' J' hn b hb
      exact ⟨hn b hb, (J'.ok.exf b hb).1, J'.ok.exfs b hb, .inl hb, fun y c e => (J'.ok.exf b hb).2 y c e, fun pp hp => by cases hp⟩
    have loop : codeAny (model X.prog X.w) X.A (.compLoop (.SetComp elt [⟨tg, iter, ifs, 0⟩] scope pos) 0 (.ref ia) (.ref D) cenv) (compPost (model X.prog X.w) X.A X.xe none (EP X pins σ Q) (.ref D) sc.heap.objs.size) sd := by
      refine PpSet.compLoopS_any (fun n s' => ∃ i H', Inv (X.blk sc Hc scope cenv fp) [] (wipe σ (own.map (·.2))) H' s' ∧ tn i s'.heap ∧ (∀ b ∈ fp, H' b = none) ∧ W i n H') ?_ m0 ⟨0, Hc, Id, std, none_, w0⟩
      rintro n se ⟨i, He, Ie, ste, nne, we⟩
      rcases turn i n He we with ⟨stop, qq⟩ | ⟨go, Nx, hNx, step⟩
      · refine thnF (T.done (X.blk sc Hc scope cenv fp) rfl rfl rfl calm i [] se _ He (fun _ _ => False) Ie (still Ie nne) ste stop) fun r sf ⟨hr, If⟩ => ?_
        subst hr
        have Ig : Inv X pins σ He sf := Ic.call' (ch := fp) If.os If.base If.hok If.bare fun b hb => ⟨(fpc b hb).1.2.2.2.1, (fpc b hb).1.2.1, (fpc b hb).1.2.2.2.2.1, (fpc b hb).1.2.2.2.2.2⟩
        have noL : He sc.heap.objs.size = none := by rw [← loc]; exact If.free
        obtain ⟨mm, hmm, _⟩ := If.loc
        have hmm' : sf.heap.Ns sc.heap.objs.size mm := by rw [← loc]; exact hmm
        obtain ⟨f0, f1, f2, f3, f4, f5⟩ := Ic.fpOk (Nat.le_refl _) noL
        refine ⟨mm, hmm', fun h'' sb2 => ⟨.ref D, He, Ig.turned (t' := sf.toks) (fun b o hb e => (sb2.2 b hb).trans e) f0 f1 f3 f4 f5, rfl, qq⟩⟩
      · refine thnF (T.item (X.blk sc Hc scope cenv fp) rfl rfl rfl calm i [] se _ He (fun _ _ => False) Ie (still Ie nne) ste go) fun r sf ⟨u, hr, hf⟩ => ?_
        subst hr
        refine thnF hf fun _ sg ⟨xx, Hg, Ig, rg2, yg, stg, nng⟩ => ?_
        have Ip := Ig.pinned (still Ig nng) (T.obj _ _ stg)
        refine thnF (rg.run _ sg _ Hg xx u _ Ip rg2 (step xx Hg yg)) fun _ sh ⟨σh, Hh, Ih, eh, qh⟩ => ?_
        refine thnF (rt.run _ sh σh Hh _ Ih qh) fun b si ⟨Hi, Ii, qi⟩ => ?_
        have back : ∀ {s' : Shared} {H' : Hp}, Inv (X.blk sc Hc scope cenv fp) ([] ++ pinsAt fp sg.heap) σh H' s' → Nx H' →
            ∃ m, m < n ∧ ∃ i H', Inv (X.blk sc Hc scope cenv fp) [] (wipe σ (own.map (·.2))) H' s' ∧ tn i s'.heap ∧ (∀ b ∈ fp, H' b = none) ∧ W i m H' := by
          intro s' H' J' nx
          obtain ⟨m', lt, w'⟩ := hNx H' nx
          have pinned : ∀ b ∈ fp, ∀ o, sg.heap.get? b = some o → s'.heap.get? b = some o ∧ H' b = none := by
            intro b hb o e
            have z := J'.pin (b, o) (List.mem_append_right _ (List.mem_append_right _ (mem_pinsAt hb e)))
            exact ⟨z.1, z.2.1⟩
          have ln : (wipe σ (own.map (·.2))).length = σh.length := by rw [← eh, wipe_length]
          refine ⟨m', lt, i + 1, H', (J'.unpinned (pins := [])).weak ln (fun j v e => ?_), T.keep _ _ _ stg fun b hb o e => (pinned b hb o e).1, fun b hb => ?_, w'⟩
          · rw [← eh] at e
            exact (wipe_some e).1
          · obtain ⟨o, e, _⟩ := T.obj _ _ stg b hb
            exact (pinned b hb o e).2
        cases b with
        | false =>
          simp only [Bool.false_eq_true, if_false] at qi ⊢
          exact back Ii qi
        | true =>
          simp only [if_true] at qi ⊢
          refine thnF (re.run _ si σh Hi _ Ii qi) fun z sj ⟨yv, Hj, Ij, rj, k, S, c, ek, hDj, roomj, nx⟩ => ?_
          subst ek
          exact add_key (X := X.blk sc Hc scope cenv fp) Ij hDj roomj rj fun _ sk Ik => back Ik nx
    exact PpSet.codeAny_compStart_set loop (T.self X.A 0 _ _ _ std loop)
  exact goal _ rfl
end
end Dl
set_option Elab.async false
set_option linter.all false
set_option maxRecDepth 100000
set_option maxHeartbeats 4000000
namespace Dl
open PySem PySem.Spec PyProof.Rows L2
instance (priority := high) decMem (k : Key) (l : List Key) : Decidable (k ∈ l) := decidable_of_iff (l.any (fun j => decide (j = k)) = true) (by rw [List.any_eq_true]; exact ⟨fun ⟨x, h, e⟩ => by rw [← of_decide_eq_true e]; exact h, fun h => ⟨k, h, decide_eq_true rfl⟩⟩)
theorem setOf_cong {prog : Program} {w : World} {h : Heap} {a : Addr} {S S' : Key → Bool} {n n' : Nat} (x : h.SetOf (mixKind prog w) a S n) (e : ∀ k, S k = S' k) (en : n = n') : h.SetOf (mixKind prog w) a S' n' := by
  obtain rfl : S = S' := funext e
  subst en
  exact x
def ddk (l : List Key) : List Key := l.foldl (fun acc k => if k ∈ acc then acc else acc ++ [k]) []
theorem ddk_snoc (l : List Key) (k : Key) : ddk (l ++ [k]) = if k ∈ ddk l then ddk l else ddk l ++ [k] := by
  unfold ddk
  rw [List.foldl_append]
  rfl
theorem ddk_aux : ∀ (n : Nat) (l : List Key), l.length = n → (∀ k, k ∈ ddk l ↔ k ∈ l) ∧ (ddk l).Nodup ∧ (ddk l).length ≤ l.length
  | 0, l, h => by
    obtain rfl := List.length_eq_zero_iff.mp h
    exact ⟨fun k => Iff.rfl, List.nodup_nil, Nat.le_refl _⟩
  | n + 1, l, h => by
    have ne : l ≠ [] := fun e => by rw [e] at h; cases h
    rw [← List.dropLast_concat_getLast ne] at h ⊢
    generalize l.dropLast = m at h ⊢
    generalize l.getLast ne = k at h ⊢
    obtain ⟨i1, i2, i3⟩ := ddk_aux n m (by simpa using h)
    rw [ddk_snoc]
    by_cases z : k ∈ ddk m
    · rw [if_pos z]
      refine ⟨fun j => ?_, i2, by rw [List.length_append]; exact Nat.le_trans i3 (Nat.le_add_right _ _)⟩
      rw [i1 j, List.mem_append, List.mem_singleton]
      exact ⟨.inl, fun q => q.elim id fun e => by rw [e]; exact (i1 k).mp z⟩
    · rw [if_neg z]
      refine ⟨fun j => by rw [List.mem_append, List.mem_append, i1 j], ?_, by rw [List.length_append, List.length_append]; exact Nat.add_le_add_right i3 _⟩
      rw [List.nodup_append]
      refine ⟨i2, by simp, fun a ha b hb e => ?_⟩
      rw [List.mem_singleton] at hb
      subst hb e
      exact z ha
theorem ddk_mem {l : List Key} {k : Key} : k ∈ ddk l ↔ k ∈ l := (ddk_aux _ l rfl).1 k
theorem ddk_le (l : List Key) : (ddk l).length ≤ l.length := (ddk_aux _ l rfl).2.2
theorem ddk_nodup : ∀ {l : List Key}, l.Nodup → ddk l = l := fun {l} h => by
  induction hn : l.length generalizing l with
  | zero =>
    obtain rfl := List.length_eq_zero_iff.mp hn
    rfl
  | succ n ih =>
    have ne : l ≠ [] := fun e => by rw [e] at hn; cases hn
    rw [← List.dropLast_concat_getLast ne] at h hn ⊢
    generalize l.dropLast = m at h hn ⊢
    generalize l.getLast ne = k at h hn ⊢
    obtain ⟨h1, _, h3⟩ := List.nodup_append.mp h
    have e := ih h1 (by simpa using hn)
    rw [ddk_snoc, e, if_neg (fun z => h3 k z k (by simp) rfl)]
theorem ddk_full {l : List Key} (h : (ddk l).length = l.length) : l.Nodup := by
  induction hn : l.length generalizing l with
  | zero =>
    obtain rfl := List.length_eq_zero_iff.mp hn
    exact List.nodup_nil
  | succ n ih =>
    have ne : l ≠ [] := fun e => by rw [e] at hn; cases hn
    rw [← List.dropLast_concat_getLast ne] at h hn ⊢
    generalize l.dropLast = m at h hn ⊢
    generalize l.getLast ne = k at h hn ⊢
    rw [ddk_snoc] at h
    by_cases z : k ∈ ddk m
    · rw [if_pos z, List.length_append] at h
      have := ddk_le m
      have : ([k] : List Key).length = 1 := rfl
      omega
    · rw [if_neg z, List.length_append, List.length_append] at h
      have nm := ih (Nat.add_right_cancel h) (by simpa using hn)
      rw [List.nodup_append]
      refine ⟨nm, by simp, fun a ha b hb e => ?_⟩
      rw [List.mem_singleton] at hb
      subst hb e
      exact z (ddk_mem.mpr ha)
theorem vals_get {ks : List Key} {us : List Value} (r : Vals (ks.map kV) us) : ∀ (i : Nat) (v : Value), us[i]? = some v → ∃ k, ks[i]? = some k ∧ RelV (kV k) v := by
  generalize e : ks.map kV = vs at r
  induction r generalizing ks with
  | nil => intro i v h; simp at h
  | cons a b ih =>
    cases ks with
    | nil => cases e
    | cons k ks =>
      obtain ⟨rfl, e2⟩ := List.cons.inj e
      intro i v h
      cases i with
      | zero =>
        obtain rfl := Option.some.inj h
        exact ⟨k, rfl, a⟩
      | succ i => exact ih e2 i v h
section
variable {prog : Program} {w : World} {A : Around} {R : Result → Shared → Prop} {I : Addr} {fp wr : List Addr} {G : Array GenState → Array GenState → Prop} {n : Nat} {P : Nat → Value → Prop} {St : Nat → Shared → Prop}
theorem loop_keys (W : WalksS prog w A.in1 I fp wr G n P St) (S : Addr) (out : S ∉ fp) (ks : List Key) (full : ks.length = n) (few : n + 1 < scanBound) (val : ∀ i v, P i v → ∃ k, ks[i]? = some k ∧ RelV (kV k) v) :
    ∀ (m i : Nat) (s : Shared), n - i = m → i ≤ n → St i s → s.heap.SetOf (mixKind prog w) S (fun j => decide (j ∈ ddk (ks.take i))) (ddk (ks.take i)).length →
      (∀ s', Moved (S :: wr) G s s' → s'.heap.SetOf (mixKind prog w) S (fun j => decide (j ∈ ddk ks)) (ddk ks).length → R (.ok (.ret .none)) s') → codeAny (model prog w) A (.builtin "set.update.loop" ⟨[.ref S, .ref I], []⟩) R s := by
  have Swr : S ∉ wr := fun h => out (W.sub _ h)
  have wider : ∀ b ∈ wr, b ∈ S :: wr := fun b hb => List.mem_cons_of_mem _ hb
  intro m
  induction m with
  | zero =>
    intro i s hk hi st set fin
    obtain rfl : i = n := by omega
    refine codeAny_builtin PyProof.Rows.F.entry_set_update_loop ?_; rw [Around.under_plainId PyProof.Rows.F.plain_set_update_loop _]; show wpAny _ A.in1 (pyNext (.ref I) >>= _) _ _ s
    refine wpAny_bind (W.done s _ _ st fun s' mv => ?_)
    show wpAny _ A.in1 (ret Value.none) _ _ s'; refine wpAny_pure (fin s' (mv.mono wider) ?_)
    rw [List.take_of_length_le (Nat.le_of_eq full)] at set
    obtain ⟨o, es, ep, t, ho, more⟩ := set
    exact ⟨o, es, ep, t, mv.heap S _ Swr ho, more⟩
  | succ m ih =>
    intro i s hk hi st set fin
    have lt : i < n := by omega
    refine codeAny_builtin PyProof.Rows.F.entry_set_update_loop ?_; rw [Around.under_plainId PyProof.Rows.F.plain_set_update_loop _]; show wpAny _ A.in1 (pyNext (.ref I) >>= _) _ _ s
    refine wpAny_bind (W.item i s _ _ lt st fun v s' hP st' mv => ?_)
    obtain ⟨k, ek, rk⟩ := val i v hP
    have set' : s'.heap.SetOf (mixKind prog w) S (fun j => decide (j ∈ ddk (ks.take i))) (ddk (ks.take i)).length := by
      obtain ⟨o, es, ep, tb, ho, more⟩ := set
      exact ⟨o, es, ep, tb, mv.heap S _ Swr ho, more⟩
    show wpAny _ A.in1 (holding [v] (setAdd S v) >>= _) _ _ s'
    refine wpAny_bind (wpAny_holding ?_); unfold setAdd; refine wpAny_holding ?_
    refine wpAny_bind ((mixKind prog w).pyHash (kV_is rk) ?_)
    have small : (ddk (ks.take i)).length + 1 < scanBound := by
      have a := ddk_le (ks.take i)
      rw [List.length_take] at a
      omega
    refine wpAny_setAddHashed_of (knd := mixKind prog w) (s := { s' with toks := s'.toks + 1 }) (kV_is rk) (key_scan rk) set' small fun h' same set2 => ?_
    have tk : ks.take (i + 1) = ks.take i ++ [k] := by rw [List.take_add_one, ek]; rfl
    have set3 : h'.SetOf (mixKind prog w) S (fun j => decide (j ∈ ddk (ks.take (i + 1)))) (ddk (ks.take (i + 1))).length := by
      rw [tk, ddk_snoc]
      by_cases z : k ∈ ddk (ks.take i)
      · rw [if_pos z]
        refine setOf_cong set2 (fun j => ?_) (by rw [if_pos (decide_eq_true z)])
        by_cases e : j = k
        · subst e
          rw [decide_eq_true z]
          rfl
        · rw [decide_eq_false e, Bool.or_false]
      · rw [if_neg z]
        refine setOf_cong set2 (fun j => ?_) (by rw [if_neg (fun q => z (of_decide_eq_true q)), List.length_append]; rfl)
        rw [← Bool.decide_or]
        exact decide_eq_decide.mpr (by rw [List.mem_append, List.mem_singleton])
    refine wpAny_pure ⟨plainId_quiet PyProof.Rows.F.plain_set_update_loop _, ih (i + 1) _ (by omega) lt (W.frame _ s' _ _ st' (Nat.le_succ _) fun b hb o e => ?_) set3 fun s2 mv2 set4 => fin s2 (Moved.trans W.gtrans ((mv.mono wider).then_heap (Nat.le_succ _) fun b o hb e => ?_) mv2) set4⟩
    · exact (same.2 b (fun z => out (by rw [← z]; exact hb))).trans e
    · exact (same.2 b (fun z => hb (by rw [z]; exact List.mem_cons_self))).trans e
end
section
variable {prog : Program} {w : World} {A : Around} {E : Value → Shared → Prop} {s : Shared}
set_option maxHeartbeats 6400000 in
theorem call_set_tupK {l : Addr} {its : Array Value} {ks : List Key} {Q : Value → Shared → Prop} (hd : A.handled = none) (tup : s.heap.IsTuple l its) (rel : Vals (ks.map kV) its.toList) (few : its.size + 1 < scanBound)
    (q : ∀ (h' : Heap) (tk : Nat), h'.SetOf (mixKind prog w) s.heap.objs.size (fun j => decide (j ∈ ddk ks)) (ddk ks).length → (∀ b o, b < s.heap.objs.size → s.heap.get? b = some o → h'.get? b = some o) → Q (.ref s.heap.objs.size) { s with heap := h', toks := tk }) :
    wpAny (model prog w) A (call (.type "set") [.ref l]) Q E s := by
  obtain ⟨c, tl, hmro⟩ := PySem.F.called_set.mro; have hmade := PySem.F.called_set.made; have hsub := PySem.F.called_set.sub
  refine wpAny_call (codeAny_of_tree ?_); show wpAny _ _ (callAny (.type "set") _) _ _ _
  refine wpAny_pure ⟨Code.quiet_builtin _ (by decide +kernel), codeAny_builtin PySem.F.entry_type_call ?_⟩; rw [Around.under_plain (weight_type_call_type "set" [.ref l] []) rfl]
  have h1 := PySem.F.called_set.notType; have h2 := PySem.F.called_set.canCreate; have hct := PySem.F.typeCall_set_1 (.ref l)
  repeat (any_goals (first | assumption | wp_step))
  let ob : Bool → Obj := fun led => { cls := .type "set", dict := none, data := .set #[] 0 (.fresh 0 0 led) }
  refine codeAny_mono (code_set_new_1 (.ref l) (E := E) (Q₁ := fun y z => ∃ led : Bool, y = .ref s.heap.objs.size ∧ z = { s with heap := s.heap.push (ob led) }) fun led => ⟨led, rfl, rfl⟩) fun r z hr => ?_
  cases r with
  | error e => exact hr
  | ok fl =>
    cases fl with
    | ret y =>
      obtain ⟨led, rfl, rfl⟩ := hr
      have gS : (s.heap.push (ob led)).get? s.heap.objs.size = some (ob led) := Heap.get?_push_size _ rfl
      have hT : Shared.TypeIs { s with heap := s.heap.push (ob led) } (.ref s.heap.objs.size) "set" := ⟨_, gS, rfl⟩
      have hli := PySem.F.called_set.init.lookup; have hbi := PySem.F.called_set.init.bind (.ref s.heap.objs.size)
      repeat (any_goals (first | assumption | wp_step))
      refine codeAny_mono (codeAny_call_builtin (R := wants (fun r z2 => r = .none ∧ ∃ h' tk, z2 = { s with heap := h', toks := tk } ∧ h'.SetOf (mixKind prog w) s.heap.objs.size (fun j => decide (j ∈ ddk ks)) (ddk ks).length ∧
          (∀ b o, b < s.heap.objs.size → s.heap.get? b = some o → h'.get? b = some o)) E) PySem.F.called_set.init.plain PySem.F.entry_set_init (check_set_init_1 hT ?_)) fun r₂ z₂ hr₂ => ?_
      · obtain ⟨ol, hol, hcl, nl, hdl⟩ := tup
        obtain ⟨ocls, odict, odata, oslots⟩ := ol
        simp only at hcl hdl; subst hcl; subst hdl
        have hol' : (s.heap.push (ob led)).get? l = some { cls := .type "tuple", dict := odict, data := .seq its nl, slots := oslots } := Heap.get?_push_of_some _ hol
        have hsls := PySem.F.sub_tuple_set; have hslf := PySem.F.sub_tuple_frozenset; have hne : (Value.type "tuple" == Value.type "dict") = false := by decide
        have tup1 : (s.heap.push (ob led)).IsTuple l its := ⟨_, hol', rfl, nl, rfl⟩
        unfold Builtin.«set.__init__» noKeywords Builtin.Frozenset.updateFrom; generalize hPI : pyIter = PI; wp_walk; subst hPI
        refine wpAny_pyIter_tuple tup1 ?_; refine wpAny_bind (wpAny_runValue ?_)
        have lS : l < s.heap.objs.size := Heap.lt_size hol
        have hd3 : A.in1.in1.in1.handled = none := by simp [hd]
        have neI : l ≠ (s.heap.push (ob led)).objs.size := by rw [Heap.size_push]; exact Nat.ne_of_lt (Nat.lt_succ_of_lt lS)
        have outS : s.heap.objs.size ∉ [(s.heap.push (ob led)).objs.size, l] := by
          rw [Heap.size_push]; simp only [List.mem_cons, List.mem_singleton, List.not_mem_nil, or_false, not_or]; exact ⟨Nat.ne_of_lt (Nat.lt_succ_self _), Nat.ne_of_gt lS⟩
        have full : ks.length = its.size := by rw [← Array.length_toList, ← rel.length, List.length_map]
        refine loop_keys ((Walks.tuple hd3 _ l neI its).toS) s.heap.objs.size outS ks full few (fun i v hv => vals_get rel i v (by rw [Array.getElem?_toList]; exact hv)) (its.size - 0) 0 _ (by omega) (Nat.zero_le _) ⟨⟨_, Heap.get?_push_size _ rfl, rfl, rfl⟩, (tup1.push _)⟩ ?h0 ?hR
        case h0 =>
          have got : ((s.heap.push (ob led)).push { cls := .type "tuple_iterator", data := .fields #[.ref l, .int 0 0] }).get? s.heap.objs.size = some (ob led) := Heap.get?_push_of_some _ gS
          exact setOf_cong (S := fun _ => false) (n := 0) ⟨_, #[], 0, _, got, ⟨rfl, rfl, rfl⟩, rfl, (fun e he => by simp at he), (fun k => by simp), (by decide), (by rfl), rfl⟩ (fun j => by rw [List.take_zero]; rfl) (by rw [List.take_zero]; rfl)
        case hR =>
          intro z2 mv set2
          obtain ⟨h', g', d', tk', os'⟩ := z2
          obtain rfl : g' = s.gens := mv.gens
          obtain rfl : d' = s.drawn := mv.drawn
          obtain rfl : os' = s.os := mv.os
          show wpAny _ _ _ _ _ _; refine wpAny_pure ?_; show wpAny _ _ (ret Value.none) _ _ _
          refine wpAny_pure ⟨rfl, h', tk', rfl, set2, fun b o hb e => ?_⟩
          refine mv.heap b o ?_ (Heap.get?_push_of_some _ (Heap.get?_push_of_some _ e))
          simp only [List.mem_cons, List.mem_singleton, List.not_mem_nil, or_false, not_or]
          exact ⟨Nat.ne_of_lt hb, by rw [Heap.size_push]; exact Nat.ne_of_lt (Nat.lt_succ_of_lt hb)⟩
      · cases r₂ with
        | error e => exact hr₂
        | ok fl₂ =>
          cases fl₂ with
          | ret r =>
            obtain ⟨rfl, h', tk, rfl, set2, keep⟩ := hr₂
            repeat (any_goals (first | assumption | wp_step))
            exact q _ _ set2 keep
          | _ => exact hr₂.elim
    | _ => exact hr.elim
end
end Dl
set_option Elab.async false
set_option linter.all false
set_option maxRecDepth 100000
set_option maxHeartbeats 4000000
namespace Dl
open PySem PySem.Spec PyProof.Rows L2
section
variable {X : Cx}
def tLenK (K : PySem.W.Frag) (ta : TE) : TE := fun σ H Q => ta σ H fun x H1 => ∃ l, ∃ ks : List Key, x = .ref l ∧ SqT K H1 l (ks.map kV) ∧ ks.length + 1 < scanBound ∧ Q (.int (ddk ks).length) H1
theorem pe_lenK {a : Expr} {ta : TE} {p p2 q pos : Pos} (calm : X.calm = true) (m1 : X.mg "len" = none) (m2 : X.mg "set" = none) (ha : PE X a ta) (g1 : Gl X "len" := by rfl) (g2 : Gl X "set" := by rfl)
    (na : starEach [a] X.env = (false, eval a X.env) :: starEach [] X.env := by rfl) : PE X (.Call (.Name "len" p) [.Call (.Name "set" p2) [a] [] q] [] pos) (tLenK X.K ta) := by
  constructor
  intro pins s σ H Q I h
  refine Call_ (ld_blt I g1 m1 boot_len ?_); refine PyProof.Rows.callWith_builtin1 (PyProof.Rows.args_cons ?_ rfl) rfl rfl
  refine Call_ (ld_blt I g2 m2 boot_set ?_); refine PyProof.Rows.callWith_type1 (PyProof.Rows.args_cons (thn (ha.run pins s σ H _ I h) fun v s1 ⟨x, H1, I1, r1, q1⟩ => PyProof.Rows.args_nil ?_) na) na rfl
  obtain ⟨l, ks, rfl, sq, few, q1⟩ := q1
  cases r1
  obtain ⟨its, r, pl, hz⟩ := I1.tuple sq
  have ln : its.length = ks.length := by rw [← r.length, List.length_map]
  refine call_set_tupK (ks := ks) (I1.ok.hd calm) pl (by simpa using r) (by rw [List.size_toArray, ln]; exact few) fun h' tk set keep => ?_
  refine PyProof.Rows.args_nil ?_
  obtain ⟨o, es, ep, t, ho, hex, hd, _, _, _, hf, hn⟩ := set
  have I2 : Inv X pins σ H1 { s1 with heap := h', toks := tk } := I1.kept fun b o e => keep b o (Heap.lt_size e) e
  have small := ddk_le ks
  unfold scanBound at few
  refine call_len_set ho hex hd hf (by rw [hn]; omega) ⟨.int (ddk ks).length, H1, I2.tok _, ⟨_, by rw [hn]⟩, q1⟩
def rLenSK (P : Program) (w : World) : List V → Hp → VK → Prop := fun xs H Q => ∃ (a : Addr) (S : Key → Bool) (n : Nat), xs = [.ref a] ∧ H a = some (SetK P w a S n) ∧ n < scanBound ∧ Q (.int n) H
theorem call_lenSK : CallR X (.builtin "len") (rLenSK X.prog X.w) := by
  intro pins s σ H xs us Q I r h
  obtain ⟨a, S, n, rfl, ha, few, q⟩ := h
  cases r with
  | cons r1 r2 =>
    cases r2
    cases r1
    obtain ⟨o, es, ep, t, ho, hex, hd, _, _, _, hf, hn⟩ := setK_get I ha
    unfold scanBound at few
    exact call_len_set ho hex hd hf (by rw [hn]; omega) ⟨.int n, H, I.tok _, ⟨_, by rw [hn]⟩, q⟩
end
abbrev dLenK (de : DT) : DT := fun ρ μ P => de ρ μ fun x μ1 => ∃ ks : List Key, x = .d (.tuple (ks.map kP)) ∧ ks.length + 1 < scanBound ∧ P (.d (.int (ddk ks).length)) μ1
theorem kV_dp {K : PySem.W.Frag} {F : Hp} : ∀ {vs : List V} {ks : List Key}, DpAll K F vs (ks.map kP) → vs = ks.map kV
  | [], [], _ => rfl
  | _ :: _, k :: ks, .cons a b => by
    rw [List.map_cons, ← kV_dp b]
    cases k with
    | inl i => rw [dp_int a]; rfl
    | inr s => rw [dp_str a]; rfl
section
variable {X : Cx} {a : Expr} {de : DT} {p p2 q pos : Pos} {tg iter elt ve : Expr} {ifs : List Expr} {di : DI} {dg : DG} {dt : DTT} {dk dv : DT} {vs : List Nat} {K : PySem.W.Frag} {P : Program} {w : World}
theorem d_lenK (calm : X.calm = true) (m1 : X.mg "len" = none) (m2 : X.mg "set" = none) (ha : DE X a de) (g1 : Gl X "len" := by rfl) (g2 : Gl X "set" := by rfl)
    (na : starEach [a] X.env = (false, eval a X.env) :: starEach [] X.env := by rfl) : DE X (.Call (.Name "len" p) [.Call (.Name "set" p2) [a] [] q] [] pos) (dLenK de) := by
  obtain ⟨_, p1, s1⟩ := ha.ex
  refine ⟨_, pe_lenK calm m1 m2 p1 g1 g2 na, fun ρ μ P h F al σ H S L Q kk => ?_⟩
  refine s1 ρ μ _ h F al σ H S L _ fun u x μ1 F1 al1 H1 q1 g1 S1 a1 => ?_
  obtain ⟨ks, rfl, few, q1⟩ := q1
  obtain ⟨l, vs, rfl, sq, dd⟩ := dp_tup a1
  obtain rfl := kV_dp dd
  exact ⟨l, ks, rfl, S1.seqT sq, few, (kk.fwd g1).now q1 S1 (.int _)⟩
def skEnd (P : DK) (acc : List Key) (μ2 : Mu) : Prop := acc.length < scanBound ∧ P (.d (.int (ddk acc).length)) μ2
abbrev dLenSk (di : DI) (dg : DG) (dt : DTT) (de : DT) (vs : List Nat) : DT := fun ρ μ P => di ρ μ fun ys ok μ1 => ∃ Pv : Nat → List Key → Mu → Prop, Pv 0 [] μ1 ∧
  (∀ i y acc μ2, ys[i]? = some y → Pv i acc μ2 → ok μ2 ∧ dg y (wipeR ρ vs) μ2 fun ρ3 μ3 => dt ρ3 μ3 fun b μ4 => if b = true then de ρ3 μ4 fun z μ5 => ∃ k, z = kD k ∧ acc.length + 1 < scanBound ∧ Pv (i + 1) (acc ++ [k]) μ5 else Pv (i + 1) acc μ4) ∧
    ∀ acc μ2, Pv ys.length acc μ2 → ok μ2 ∧ skEnd P acc μ2
theorem sim_lenSk {wi : TI} {g : TG} {tt : TT} {te : TE} (hi : SimI K wi di) (hg : SimG K vs g dg) (ht : SimT K tt dt) (he : SimE K te de) : SimE K (tCB (rLenSK P w) (tCons (tSk P w wi g tt te vs) tNil)) (dLenSk di dg dt de vs) := by
  intro ρ μ Pk h F al σ H S L Q k
  refine hi ρ μ _ h F al σ H S L _ fun J ys ok μ1 F1 al1 H1 q g1 S1 j D hD => ?_
  obtain ⟨Pv, p0, step, last⟩ := q
  obtain ⟨fD, nD⟩ := free_both S1 hD
  have L1 := (g1.slots L).wipe vs
  let ob : List Key → HO := fun acc => SetK P w D (fun j => decide (j ∈ ddk acc)) (ddk acc).length
  have ob0 : SKO P w D (fun _ => false) 0 = ob [] := rfl
  have obs : ∀ acc kk, SKO P w D (fun j => decide (j ∈ ddk acc) || decide (j = kk)) (if decide (kk ∈ ddk acc) = true then (ddk acc).length else (ddk acc).length + 1) = ob (acc ++ [kk]) := fun acc kk => by
    show SetK P w D _ _ = SetK P w D (fun j => decide (j ∈ ddk (acc ++ [kk]))) (ddk (acc ++ [kk])).length
    rw [ddk_snoc]
    by_cases z : kk ∈ ddk acc
    · rw [if_pos z, if_pos (decide_eq_true z)]
      refine congrArg (fun f => SetK P w D f _) (funext fun y => ?_)
      by_cases e : y = kk
      · subst e
        rw [decide_eq_true z]
        rfl
      · rw [decide_eq_false e, Bool.or_false]
    · rw [if_neg z, if_neg (fun q => z (of_decide_eq_true q)), List.length_append]
      refine congrArg (fun f => SetK P w D f _) (funext fun y => ?_)
      rw [← Bool.decide_or]
      exact decide_eq_decide.mpr (by rw [List.mem_append, List.mem_singleton])
  refine ⟨fun i m H2 => m = ys.length - i ∧ i ≤ ys.length ∧ ∃ acc μ2 F2 al2, Pv i acc μ2 ∧ Grow F1 al1 H1 F2 al2 H2 ∧ Sto K F2 al2 μ2 H2 ∧ F2 D = none ∧ D ∉ al2 ∧ H2 D = some (ob acc),
    ⟨_, rfl, Nat.zero_le _, [], μ1, F1, al1, p0, Grow.refl.free hD _, S1.free fD nD _, fD, nD, upd_same⟩, ?_⟩
  rintro i m H2 ⟨rfl, hi, acc, μ2, F2, al2, pp, g2, S2, f2, n2, d2⟩
  by_cases lt : i < ys.length
  · have hy : ys[i]? = some ys[i] := List.getElem?_eq_getElem lt
    obtain ⟨o, st⟩ := step i _ acc μ2 hy pp
    obtain ⟨go, yl⟩ := j.go F2 al2 μ2 H2 i _ g2 S2 o hy
    refine .inr ⟨go, _, fun H' w => ⟨ys.length - (i + 1), by omega, w⟩, fun x H3 hx => ?_⟩
    obtain ⟨F3, g3, S3, a3⟩ := yl x H3 hx
    refine hg _ (wipeR ρ vs) μ2 _ st F3 al2 _ H3 x S3 ((g2.trans g3).slots L1) a3 _ fun ρ4 μ4 F4 al4 σ4 H4 q4 g4 S4 L4 hl ho => ?_
    refine ⟨wipe_same (hl.trans (wipe_length _ _)) ho, ?_⟩
    refine ht ρ4 μ4 _ q4 F4 al4 σ4 H4 S4 L4 _ fun b μ5 F5 al5 H5 q5 g5 S5 => ?_
    have g35 := (g3.trans g4).trans g5
    cases b with
    | true =>
      rw [if_pos rfl] at q5
      refine iteT ?_
      refine he ρ4 μ5 _ q5 F5 al5 σ4 H5 S5 (g5.slots L4) _ fun v z μ6 F6 al6 H6 q6 g6 S6 a6 => ?_
      have g36 := g35.trans g6
      obtain ⟨k1, k2, k3⟩ := stays g36 f2 n2 d2
      obtain ⟨kk, rfl, few, q6⟩ := q6
      have small := ddk_le acc
      refine ⟨kk, _, _, kD_ab a6, k3, by omega, rfl, lt, acc ++ [kk], μ6, F6, al6, q6, (g2.trans g36).free hD _, S6.free k1 k2 _, k1, k2, ?_⟩
      rw [upd_same]
      exact congrArg some (obs acc kk)
    | false =>
      rw [if_neg Bool.false_ne_true] at q5
      obtain ⟨k1, k2, k3⟩ := stays g35 f2 n2 d2
      exact iteF ⟨rfl, lt, acc, μ5, F5, al5, q5, g2.trans g35, S5, k1, k2, k3⟩
  · have e : i = ys.length := by omega
    subst e
    obtain ⟨o, few, hn⟩ := last acc μ2 pp
    have small := ddk_le acc
    exact .inl ⟨j.stop F2 al2 μ2 H2 g2 S2 o, D, _, _, rfl, d2, by omega, k _ _ μ2 F2 al2 H2 hn (g1.trans g2) S2 (.int _)⟩
theorem d_lenSk {scope : Scope} {own : List (Str × Nat)} (m1 : X.mg "len" = none) (hc : X.calm = true) (hN : X.N.Nodup) (hi : DIt X tg iter di) (ok : BlkOk X.N X.env.scope scope own)
    (hg : Blk X scope fun Y => DGt Y tg (own.map (·.2)) dg) (ht : Blk X scope fun Y => DTs Y ifs dt) (he : Blk X scope fun Y => DE Y elt de) (g1 : Gl X "len" := by rfl) (hs : ∀ x, foldedSetIterable iter X.env x = pure x := by intro _; rfl)
    (h1 : starEach [.SetComp elt [⟨tg, iter, ifs, 0⟩] scope p2] X.env = (false, eval (.SetComp elt [⟨tg, iter, ifs, 0⟩] scope p2) X.env) :: starEach [] X.env := by rfl) (h2 : (backTo pos (starEach [] X.env)).any (·.1) = false := by rfl) :
    DE X (.Call (.Name "len" p) [.SetComp elt [⟨tg, iter, ifs, 0⟩] scope p2] [] pos) (dLenSk di dg dt de (own.map (·.2))) := by
  obtain ⟨_, p1, s1⟩ := hi.ex
  have ps := sk_rule (g := tDG X.K (own.map (·.2)) dg) (tt := tDT X.K dt) (te := tD X.K de) (pos := p2) hc hN p1 ok (fun s H C cl fp => (hg s H C cl fp).pg) (fun s H C cl fp => (ht s H C cl fp).ex) (fun s H C cl fp => (he s H C cl fp).pe) hs
  exact ⟨_, pe_callB call_lenSK g1 m1 (by decide +kernel) (pa_cons ps pa_nil h1), sim_lenSk s1 sim_tDG sim_tDT sim_tD⟩
def dcEnd (P : DK) (acc : List (Key × A)) (μ2 : Mu) : Prop := P (.c μ2.length) (μ2 ++ [.dct acc])
abbrev dDc (di : DI) (dg : DG) (dt : DTT) (dk dv : DT) (vs : List Nat) : DT := fun ρ μ P => di ρ μ fun ys ok μ1 => ∃ Pv : Nat → List (Key × A) → Mu → Prop, Pv 0 [] μ1 ∧
  (∀ i y acc μ2, ys[i]? = some y → Pv i acc μ2 → ok μ2 ∧ dg y (wipeR ρ vs) μ2 fun ρ3 μ3 => dt ρ3 μ3 fun b μ4 => if b = true then dk ρ3 μ4 fun z μ5 => dv ρ3 μ5 fun u μ6 => ∃ k, z = kD k ∧ acc.length < sizeLine ∧ Pv (i + 1) (putA acc k u) μ6 else Pv (i + 1) acc μ4) ∧
    ∀ acc μ2, Pv ys.length acc μ2 → ok μ2 ∧ dcEnd P acc μ2
theorem sim_dc {wi : TI} {g : TG} {tt : TT} {tk tv : TE} (hi : SimI K wi di) (hg : SimG K vs g dg) (ht : SimT K tt dt) (hk : SimE K tk dk) (hv : SimE K tv dv) : SimE K (tDc wi g tt tk tv vs) (dDc di dg dt dk dv vs) := by
  intro ρ μ Pk h F al σ H S L Q k
  refine hi ρ μ _ h F al σ H S L _ fun J ys ok μ1 F1 al1 H1 q g1 S1 j D hD => ?_
  obtain ⟨Pv, p0, step, last⟩ := q
  obtain ⟨fD, nD⟩ := free_both S1 hD
  have L1 := (g1.slots L).wipe vs
  refine ⟨fun i m H2 => m = ys.length - i ∧ i ≤ ys.length ∧ ∃ acc μ2 F2 al2 kvs, Pv i acc μ2 ∧ Grow F1 al1 H1 F2 al2 H2 ∧ Sto K F2 al2 μ2 H2 ∧ F2 D = none ∧ D ∉ al2 ∧ H2 D = some (.dK kvs) ∧ KPr K F2 al2 kvs acc,
    ⟨_, rfl, Nat.zero_le _, [], μ1, F1, al1, [], p0, Grow.refl.free hD _, S1.free fD nD _, fD, nD, upd_same, .nil⟩, ?_⟩
  rintro i m H2 ⟨rfl, hi, acc, μ2, F2, al2, kvs, pp, g2, S2, f2, n2, d2, r2⟩
  have carry : ∀ {F' al' H'}, Grow F2 al2 H2 F' al' H' → KPr K F' al' kvs acc := fun {F' al' H'} g => Paired.impl (fun _ _ z => ⟨z.1, g.ab z.2⟩) r2
  by_cases lt : i < ys.length
  · have hy : ys[i]? = some ys[i] := List.getElem?_eq_getElem lt
    obtain ⟨o, st⟩ := step i _ acc μ2 hy pp
    obtain ⟨go, yl⟩ := j.go F2 al2 μ2 H2 i _ g2 S2 o hy
    refine .inr ⟨go, _, fun H' w => ⟨ys.length - (i + 1), by omega, w⟩, fun x H3 hx => ?_⟩
    obtain ⟨F3, g3, S3, a3⟩ := yl x H3 hx
    refine hg _ (wipeR ρ vs) μ2 _ st F3 al2 _ H3 x S3 ((g2.trans g3).slots L1) a3 _ fun ρ4 μ4 F4 al4 σ4 H4 q4 g4 S4 L4 hl ho => ?_
    refine ⟨wipe_same (hl.trans (wipe_length _ _)) ho, ?_⟩
    refine ht ρ4 μ4 _ q4 F4 al4 σ4 H4 S4 L4 _ fun b μ5 F5 al5 H5 q5 g5 S5 => ?_
    have g35 := (g3.trans g4).trans g5
    cases b with
    | true =>
      rw [if_pos rfl] at q5
      refine iteT ?_
      refine hk ρ4 μ5 _ q5 F5 al5 σ4 H5 S5 (g5.slots L4) _ fun v z μ6 F6 al6 H6 q6 g6 S6 a6 => ?_
      refine hv ρ4 μ6 _ q6 F6 al6 σ4 H6 S6 ((g5.trans g6).slots L4) _ fun v' u μ7 F7 al7 H7 q7 g7 S7 a7 => ?_
      have g37 := (g35.trans g6).trans g7
      obtain ⟨k1, k2, k3⟩ := stays g37 f2 n2 d2
      obtain ⟨kk, rfl, few, q7⟩ := q7
      have r3 := carry g37
      refine ⟨kvs, kk, kD_ab a6, k3, by rw [pair_len r3]; exact few, rfl, lt, putA acc kk u, μ7, F7, al7, putK kvs kk v', q7, (g2.trans g37).free hD _, S7.free k1 k2 _, k1, k2, upd_same, kp_put r3 kk a7⟩
    | false =>
      rw [if_neg Bool.false_ne_true] at q5
      obtain ⟨k1, k2, k3⟩ := stays g35 f2 n2 d2
      exact iteF ⟨rfl, lt, acc, μ5, F5, al5, kvs, q5, g2.trans g35, S5, k1, k2, k3, carry g35⟩
  · have e : i = ys.length := by omega
    subst e
    obtain ⟨o, hn⟩ := last acc μ2 pp
    have same : upd H2 D (.dK kvs) = H2 := by
      funext b
      by_cases z : b = D
      · rw [z, upd_same, d2]
      · rw [upd_ne z]
    obtain ⟨S3, g3⟩ := S2.adopt (ho := .dK kvs) (o := .dct acc) g2 hD f2 n2 r2
    rw [same] at S3 g3
    refine .inl ⟨j.stop F2 al2 μ2 H2 g2 S2 o, k (.ref D) (.c μ2.length) _ F2 _ H2 hn (g1.trans g3) S3 ⟨D, ?_, rfl⟩⟩
    rw [← S2.len, List.getElem?_append_right (Nat.le_refl _), Nat.sub_self]
    rfl
theorem d_dc {scope : Scope} {own : List (Str × Nat)} (hc : X.calm = true) (hN : X.N.Nodup) (hi : DIt X tg iter di) (ok : BlkOk X.N X.env.scope scope own)
    (hg : Blk X scope fun Y => DGt Y tg (own.map (·.2)) dg) (ht : Blk X scope fun Y => DTs Y ifs dt) (hk : Blk X scope fun Y => DE Y elt dk) (he : Blk X scope fun Y => DE Y ve dv) (hs : ∀ x, foldedSetIterable iter X.env x = pure x := by intro _; rfl) :
    DE X (.DictComp elt ve [⟨tg, iter, ifs, 0⟩] scope pos) (dDc di dg dt dk dv (own.map (·.2))) := by
  obtain ⟨_, p1, s1⟩ := hi.ex
  exact ⟨_, pe_dc hc hN p1 ok (fun s H C cl fp => (hg s H C cl fp).pg) (fun s H C cl fp => (ht s H C cl fp).ex) (fun s H C cl fp => (hk s H C cl fp).pe) (fun s H C cl fp => (he s H C cl fp).pe) hs, sim_dc s1 sim_tDG sim_tDT sim_tD sim_tD⟩
def rdLenD : List A → Mu → DK → Prop := fun xs μ P => ∃ n ks, xs = [.c n] ∧ μ[n]? = some (.dct ks) ∧ P (.d (.int ks.length)) μ
theorem s_lenD : SimC K (fun xs H Q => ∃ a kvs, xs = [V.ref a] ∧ H a = some (.dK kvs) ∧ Q (.int kvs.length) H) rdLenD := fun xs μ P h F al H vs S a Q k => by
  obtain ⟨n, ks, rfl, en, h⟩ := h
  obtain ⟨v, rfl, a1⟩ := one_of a
  obtain ⟨b, kvs, rfl, _, hb, r⟩ := dct_at S a1 en
  exact ⟨b, kvs, rfl, hb, by rw [pair_len r]; exact k.now h S (.int _)⟩
def pairD (p : Key × PyData) : PyData := .tuple [kP p.1, p.2]
def rdDictP : List A → Mu → DK → Prop := fun xs μ P => ∃ x, ∃ ps : List (Key × PyData), xs = [x] ∧ LstOf x μ ((ps.map pairD).map A.d) ∧ P (.c μ.length) (μ ++ [.dct (mergeA [] (ps.map fun p => (p.1, A.d p.2)))])
theorem pairs_dp {F : Hp} : ∀ {vs : List V} {ps : List (Key × PyData)}, DpAll K F vs (ps.map pairD) → ∃ (as : List Addr) (kvs : List (Key × V)), vs = as.map V.ref ∧ Paired (fun p kv => SqT K F p [kV kv.1, kv.2]) as kvs ∧ ∀ al, KPr K F al kvs (ps.map fun p => (p.1, A.d p.2))
  | [], [], _ => ⟨[], [], rfl, .nil, fun _ => .nil⟩
  | v :: vs, p :: ps, .cons a b => by
    obtain ⟨as, kvs, rfl, h1, h2⟩ := pairs_dp b
    obtain ⟨c, us, rfl, sq, dd⟩ := dp_tup (show Dp K F v (.tuple [kP p.1, p.2]) from a)
    cases dd with
    | @cons u1 _ _ _ d1 dd =>
      cases dd with
      | @cons u2 _ _ _ d2 dd =>
        cases dd
        obtain rfl : u1 = kV p.1 := by
          obtain ⟨k, d⟩ := p
          cases k with
          | inl i => exact dp_int d1
          | inr s => exact dp_str d1
        exact ⟨c :: as, (p.1, u2) :: kvs, rfl, .cons sq h1, fun al => .cons ⟨rfl, d2⟩ (h2 al)⟩
theorem s_dictP : SimC K (fun xs H Q => ∃ (a : Addr) (ps : List Addr) (kvs : List (Key × V)), xs = [.ref a] ∧ SqL K H a (ps.map V.ref) ∧ Paired (fun p kv => SqT K H p [kV kv.1, kv.2]) ps kvs ∧ ∀ p, H p = none → Q (.ref p) (upd H p (.dK (mergeK [] kvs)))) rdDictP := fun xs μ P h F al H vs S a Q k => by
  obtain ⟨x, ps, rfl, hl, h⟩ := h
  obtain ⟨v, rfl, a1⟩ := one_of a
  obtain ⟨b, us, rfl, sq, r⟩ := lstOf_ab S a1 hl
  obtain ⟨as, kvs, rfl, h1, h2⟩ := pairs_dp (DpAll.of r)
  refine ⟨b, as, kvs, rfl, sq, Paired.impl (fun _ _ z => S.seqT z) h1, fun p np => ?_⟩
  obtain ⟨S2, g2⟩ := S.cellNew (ho := .dK (mergeK [] kvs)) (o := .dct (mergeA [] (ps.map fun (p : Key × PyData) => (p.1, A.d p.2)))) np (show KPr K F al _ (mergeA [] _) from kp_merge (h2 al) .nil)
  refine k _ _ _ _ _ _ h g2 S2 ⟨p, ?_, rfl⟩
  rw [← S.len, List.getElem?_append_right (Nat.le_refl _), Nat.sub_self]
  rfl
end
end Dl
set_option Elab.async false
set_option linter.all false
set_option maxRecDepth 100000
set_option maxHeartbeats 4000000
namespace Dl
open PySem PySem.Spec PyProof.Rows L2
section
variable {X : Cx} {a b : Expr} {da db : DT} {pos : Pos}
theorem sim_din {K : PySem.W.Frag} {ty td : TE} {dk dd : DT} (s1 : SimE K ty dk) (s2 : SimE K td dd) : SimE K (tDIn ty td) (dDIn false dk dd) := fun ρ μ P h F al σ H S L Q kk => by
  refine s1 ρ μ _ h F al σ H S L _ fun u y μ1 F1 al1 H1 q1 g1 S1 a1 => ?_
  refine s2 ρ μ1 _ q1 F1 al1 σ H1 S1 (g1.slots L) _ fun u2 x μ2 F2 al2 H2 q2 g2 S2 a2 => ?_
  obtain ⟨n, ks, k, rfl, en, rfl, q⟩ := q2
  obtain ⟨a, kvs, rfl, ea, hb, r⟩ := dct_at S2 a2 en
  refine ⟨a, _, rfl, .inl ⟨kvs, k, .inl hb, kD_ab (g2.ab a1), rfl⟩, (kk.fwd (g1.trans g2)).now q S2 ?_⟩
  rw [some_eq r, Bool.false_xor]
  exact .bl _
theorem sim_dnotin {K : PySem.W.Frag} {ty td : TE} {dk dd : DT} (s1 : SimE K ty dk) (s2 : SimE K td dd) : SimE K (tDNotIn ty td) (dDIn true dk dd) := fun ρ μ P h F al σ H S L Q kk => by
  refine s1 ρ μ _ h F al σ H S L _ fun u y μ1 F1 al1 H1 q1 g1 S1 a1 => ?_
  refine s2 ρ μ1 _ q1 F1 al1 σ H1 S1 (g1.slots L) _ fun u2 x μ2 F2 al2 H2 q2 g2 S2 a2 => ?_
  obtain ⟨n, ks, k, rfl, en, rfl, q⟩ := q2
  obtain ⟨a, kvs, rfl, ea, hb, r⟩ := dct_at S2 a2 en
  refine ⟨a, _, rfl, .inl ⟨kvs, k, .inl hb, kD_ab (g2.ab a1), rfl⟩, (kk.fwd (g1.trans g2)).now q S2 ?_⟩
  rw [some_eq r, Bool.true_xor]
  exact .bl _
theorem t_din {i o : Expr} {dk dd : DT} (hu : X.A.units + 64 < cLine) (hi : DE X i dk) (ho : DE X o dd) (hm : behindInMarks .In o = false := by rfl) : DTest X (.Compare i [.In] [o] pos) (dB (dDIn false dk dd)) := by
  obtain ⟨_, p1, s1⟩ := hi.ex
  obtain ⟨_, p2, s2⟩ := ho.ex
  exact ⟨_, pt_cmp (pc_din (by omega) p1 p2) hm, sim_b (sim_din s1 s2)⟩
theorem t_dnotin {i o : Expr} {dk dd : DT} (hu : X.A.units + 64 < cLine) (hi : DE X i dk) (ho : DE X o dd) (hm : behindInMarks .NotIn o = false := by rfl) : DTest X (.Compare i [.NotIn] [o] pos) (dB (dDIn true dk dd)) := by
  obtain ⟨_, p1, s1⟩ := hi.ex
  obtain ⟨_, p2, s2⟩ := ho.ex
  exact ⟨_, pt_cmp (pc_dnotin (by omega) p1 p2) hm, sim_b (sim_dnotin s1 s2)⟩
end
section
variable {K : PySem.W.Frag}
def rdRepU : List A → Mu → DK → Prop := fun xs μ P => ∃ x, ∃ d : PyData, xs = [x] ∧ DatOf x μ d ∧ d.showable = true ∧ d.hasDict = false ∧ d.depth ≤ 60 ∧ d.shown.length ≤ sizeLine ∧ P (.d (.str d.shown)) μ
theorem s_repU : SimC K (rRep K) rdRepU := fun xs μ P h F al H vs S a Q k => by
  obtain ⟨x, d, rfl, hd, h1, h2, h3, h4, h⟩ := h
  obtain ⟨v, rfl, a1⟩ := one_of a
  exact ⟨v, d, rfl, datOf_ab S a1 hd, h1, h2, h3, h4, k.now h S (.str _)⟩
def rdIsiC (K : PySem.W.Frag) : List A → Mu → DK → Prop := fun xs μ P => ∃ x t T b, xs = [x, .v (.ty T)] ∧ (tyN x = some t ∨ ∃ n ys, x = .c n ∧ μ[n]? = some (.lst ys) ∧ t = "list") ∧ PySem.W.kitOne K (.type t) (.type T) = some b ∧ P (.d (.bool b)) μ
theorem s_isiC : SimC K (rIsi K) (rdIsiC K) := fun xs μ P h F al H vs S a Q k => by
  obtain ⟨x, t, T, b, rfl, ht, hk, h⟩ := h
  rcases ht with ht | ⟨n, ys, rfl, en, rfl⟩
  · exact s_isi _ μ P ⟨x, t, T, b, rfl, ht, hk, h⟩ F al H vs S a Q k
  · obtain ⟨v, w, rfl, a1, a2⟩ := two_of a
    obtain ⟨p, ep, rfl⟩ := a1
    obtain ⟨q, us, e1, e2, e3⟩ := cell_lst S en
    rw [ep] at e1
    obtain rfl := Option.some.inj e1
    obtain rfl : w = .ty T := a2
    exact ⟨_, _, _, _, b, rfl, .ty T, .base (.lst e2), hk, k.now h S (.bl _)⟩
end
end Dl
set_option Elab.async false
set_option linter.all false
set_option maxRecDepth 100000
set_option maxHeartbeats 4000000
namespace Dl
open PySem PySem.Spec PyProof.Rows L2
def oEn (it : Addr) : Obj := { cls := .type "enumerate", data := .fields #[.none, .bool false, .ref it, rawInt 0, .none, .none] }
theorem meets_enT {v : Value} {o : Obj} {T : Heap → Prop} (B : Begins v o T) :
    Meets (Builtin.«enumerate.__new__» ⟨[.type "enumerate", v], []⟩) (fun _ R z => T z.heap ∧ R (.ok (.ret (.ref (z.heap.push o).objs.size))) { z with heap := (z.heap.push o).push (oEn z.heap.objs.size) }) :=
  .of_wp fun prog w A R z h => by
    obtain ⟨hp, ge, dr, tk, os⟩ := z
    obtain ⟨h1, h⟩ := h
    have su := sub_enumerate
    have go : ∀ {A' : Around} {E : Value → Shared → Prop} {Q : Value → Shared → Prop}, Q (.ref hp.objs.size) ⟨hp.push o, ge, dr, tk, os⟩ → wpAny (model prog w) A' (pyIter v) Q E ⟨hp, ge, dr, tk, os⟩ := fun q => B.iter prog w _ _ ⟨hp, ge, dr, tk, os⟩ _ h1 q
    wp_walk using go
    refine wpAny_stack_any fun st => wpAny_pure ?_
    split
    · rename_i c _ _ _ _ _
      cases (c == Value.type "enumerate") <;> (wp_walk using go; exact ⟨_, rfl, h⟩)
    · wp_walk using go; exact ⟨_, rfl, h⟩
theorem call_enT {prog : Program} {w : World} {A : Around} {E : Value → Shared → Prop} {z : Shared} {v : Value} {o : Obj} {T : Heap → Prop} {Q : Value → Shared → Prop} (B : Begins v o T) (h1 : T z.heap)
    (h : ∀ h', IsEnum h' (z.heap.objs.size + 1) z.heap.objs.size 0 .none → h'.get? z.heap.objs.size = some o → (∀ b o, z.heap.get? b = some o → h'.get? b = some o) → Q (.ref (z.heap.objs.size + 1)) { z with heap := h' }) : wpAny (model prog w) A (call (.type "enumerate") [v]) Q E z := by
  refine callType_new F.called_enumerate (by decide) (F.typeCall_enumerate_1 _) (F.newCall_enumerate_1 _) (fun obj => F.args_object_init_2 obj _) F.entry_enumerate_new (meets_enT B) ⟨h1, ?_⟩
  have sz : (z.heap.push o).objs.size = z.heap.objs.size + 1 := Heap.size_push ..
  show _ ∧ _
  rw [sz]
  have en : IsEnum ((z.heap.push o).push (oEn z.heap.objs.size)) (z.heap.objs.size + 1) z.heap.objs.size 0 .none := by
    have e := Heap.get?_push_size (z.heap.push o) (o := oEn z.heap.objs.size) rfl
    rw [sz] at e
    exact e
  exact ⟨⟨_, en, rfl⟩, h _ en (Heap.get?_push_of_some _ (Heap.get?_push_size _ B.free)) fun b u e => Heap.get?_push_of_some _ (Heap.get?_push_of_some _ e)⟩
/-- the tuple at a, each item in a new pair -/
def ItE (K : PySem.W.Frag) (a : Addr) (vs : List V) : It :=
  ⟨fun i H => SqT K H a vs ∧ i < vs.length, fun i H v H' => ∃ T x, v = .ref T ∧ H T = none ∧ H' = upd H T (.tup [.int (i : Nat), x]) ∧ vs[i]? = some x, fun i H => SqT K H a vs ∧ vs.length ≤ i⟩
theorem turn_enT {P : Program} {w : World} {K : PySem.W.Frag} {elts : List Expr} {kk : Nat} {tpos : Pos} (a e it : Addr) (vs : List V) :
    Turn P w K (.Tuple elts kk tpos) (ItE K a vs) [e, it] e (fun i h => (∃ old, IsEnum h e it ((i : Nat) : Int) old) ∧ h.IsTupleIter it a i ∧ e ≠ it ∧ a ≠ it ∧ a ≠ e ∧ i ≤ vs.length) where
  mem := by simp
  obj := fun i h st b hb => by
    obtain ⟨⟨old, he⟩, ⟨o, ho, hc, hd⟩, _⟩ := st
    have z : b = e ∨ b = it := by simpa using hb
    rcases z with z | z
    · subst z; exact ⟨_, he, fun v q => nomatch q⟩
    · subst z; exact ⟨o, ho, fun v q => by rw [hd] at q; cases q⟩
  keep := fun i h h' st k => by
    obtain ⟨⟨old, he⟩, hi, more⟩ := st
    exact ⟨⟨old, k e (by simp) _ he⟩, hi.at fun o q => k it (by simp) o q, more⟩
  item := by
    intro X hP hw hK calm i pins s σ H E I ff st go
    subst hP hw hK
    obtain ⟨⟨old, he⟩, hit, ne1, ne2, ne3, le⟩ := st
    obtain ⟨sq, lt⟩ := go
    obtain ⟨its, rv, pt, _⟩ := I.tuple sq
    have len := rv.length
    have D := Draws.tuple (prog := X.prog) (w := X.w) (A := X.A.in1) (show X.A.in1.handled = none from I.ok.hd calm) it a ne2 its.toArray
    have le1 : e < s.heap.objs.size := Heap.lt_size he
    have le2 : it < s.heap.objs.size := by obtain ⟨_, q, _⟩ := hit; exact Heap.lt_size q
    refine wpAny_pyNext_enum_itemD D he ⟨hit, pt⟩ (by rw [List.size_toArray]; omega) ne1 (by simp only [List.mem_cons, List.not_mem_nil, or_false, not_or]; exact ⟨ne1, Ne.symm ne3⟩) fun x h' tk hx eo st' hT _ keep => ?_
    have ex : its[i]? = some x := by simpa using hx
    obtain ⟨y, ey, ry⟩ : ∃ y, vs[i]? = some y ∧ RelV y x := by
      obtain ⟨u, eu, ru⟩ := rv.get (List.getElem?_eq_getElem lt)
      rw [eu] at ex
      obtain rfl := Option.some.inj ex
      exact ⟨_, List.getElem?_eq_getElem lt, ru⟩
    refine ⟨_, rfl, wpAny_letOwnedTupleGo_enum (s := { s with heap := h', toks := tk + 1 }) eo fun h2 he2 same => ?_⟩
    have hT2 : h2.get? s.heap.objs.size = some { cls := .type "tuple", data := .seq #[.int i tk, x] } := (same.2 _ (Nat.ne_of_gt le1)).trans hT
    have nw : ObjOk X.prog X.w (upd H s.heap.objs.size (.tup [.int (i : Nat), y])) h2 s.heap.objs.size (.tup [.int (i : Nat), y]) := ⟨by show 2 ≤ sizeLine; decide, [.int i tk, x], .cons ⟨_, rfl⟩ (.cons ry .nil), ⟨_, hT2, rfl, _, rfl⟩⟩
    have I1 : Inv X pins σ (upd H s.heap.objs.size (.tup [.int (i : Nat), y])) { s with heap := h2, toks := tk + 1 } :=
      I.turnedNew (ch := [e, it]) (fun b ob hb q => (same.2 b (fun z => hb (by simp [z]))).trans (keep b ob (fun z => hb (by simp [z])) (fun z => hb (by simp [z])) q)) ff (Nat.le_refl _) nw
    refine ⟨.ref s.heap.objs.size, _, I1, rfl, ⟨_, y, rfl, I.hok.fresh (Nat.le_refl _), rfl, ey⟩, ⟨⟨x, ?_⟩, st'.1.at fun o q => (same.2 it (Ne.symm ne1)).trans q, ne1, ne2, ne3, lt⟩, fun b hb => ?_⟩
    · rw [show ((i + 1 : Nat) : Int) = (i : Int) + 1 by omega]
      exact he2
    · have lb : b < s.heap.objs.size := by
        have z : b = e ∨ b = it := by simpa using hb
        rcases z with z | z <;> subst z <;> assumption
      rw [upd_ne (Nat.ne_of_lt lb)]
      exact (ff b hb).1
  done := by
    intro X hP hw hK calm i pins s σ H E I ff st go
    subst hP hw hK
    obtain ⟨⟨old, he⟩, hit, ne1, ne2, ne3, le⟩ := st
    obtain ⟨sq, ge⟩ := go
    obtain ⟨its, rv, pt, _⟩ := I.tuple sq
    have len := rv.length
    have D := Draws.tuple (prog := X.prog) (w := X.w) (A := X.A.in1) (show X.A.in1.handled = none from I.ok.hd calm) it a ne2 its.toArray
    obtain ⟨f0, f1, f2, f3, f4, f5⟩ := ff it (by simp)
    have ei : i = its.toArray.size := by rw [List.size_toArray]; omega
    exact wpAny_pyNext_enum_endD D he ⟨by rw [← ei]; exact hit, pt⟩ fun h' eb => ⟨rfl, I.turned (t' := s.toks) (fun b o hb q => eb b o hb q) f0 f1 f3 f4 f5⟩
  self := fun A i s Q E st h => let ⟨⟨_, he⟩, _⟩ := st; wpAny_pyIter_enum he h
def iEnT (K : PySem.W.Frag) (ta : TA) : TI := fun σ H R => ta σ H fun vv H1 => ∃ a xs, vv = [.ref a] ∧ SqT K H1 a xs ∧ R (ItE K a xs) H1
theorem pi_enT {X : Cx} {e : Expr} {ta : TA} {p pos tpos : Pos} {elts : List Expr} {kk : Nat} (gl : Gl X "enumerate") (mx : X.mg "enumerate" = none) (pa : PA X [e] ta) (se : starEach [e] X.env = [(false, eval e X.env)] := by rfl) :
    PI X (.Tuple elts kk tpos) (.Call (.Name "enumerate" p) [e] [] pos) (iEnT X.K ta) := by
  constructor
  intro pins s σ H R I h
  refine Call_ (ld_blt I gl mx boot_enumerate (PyProof.Rows.callWith_type1 (thn (pa.run pos pins s σ H _ I h) fun us z ⟨vv, H1, I1, r1, q1⟩ => ?_) se rfl))
  obtain ⟨a, xs, rfl, sq, q⟩ := q1
  cases r1 with
  | cons r rr =>
    cases rr
    cases r
    obtain ⟨its, rv, pt, _⟩ := I1.tuple sq
    have la : a < z.heap.objs.size := by obtain ⟨o, ho, _⟩ := pt; exact Heap.lt_size ho
    refine call_enT (begins_tuple a its.toArray) pt fun h' he hit kk => wpAny_pyIter_enum he ?_
    have I2 : Inv X pins σ H1 { z with heap := h' } := I1.kept (t' := z.toks) kk
    refine ⟨z.heap.objs.size + 1, [z.heap.objs.size + 1, z.heap.objs.size], _, _, H1, rfl, I2, turn_enT a (z.heap.objs.size + 1) z.heap.objs.size xs, ⟨⟨.none, he⟩, ⟨_, hit, rfl, rfl⟩, Nat.succ_ne_self _, Nat.ne_of_lt la, Nat.ne_of_lt (Nat.lt_succ_of_lt la), Nat.zero_le _⟩, fun b hb => ?_, q⟩
    have ge : z.heap.objs.size ≤ b := by
      have y : b = z.heap.objs.size + 1 ∨ b = z.heap.objs.size := by simpa using hb
      rcases y with y | y
      · rw [y]; exact Nat.le_add_right _ _
      · rw [y]; exact Nat.le_refl _
    exact I1.fpOk ge (I1.hok.fresh ge)
section
variable {K : PySem.W.Frag} {X : Cx} {e : Expr} {da : DAT} {p pos tpos : Pos}
theorem jw_enT {F : Hp} {al : List Addr} {H : Hp} {a : Addr} {vs : List V} {ds : List PyData} (h : SqT K F a vs) (r : DpAll K F vs ds) : JW K F al H (ItE K a vs) (enumY (ds.map .d)) always where
  go F2 al2 μ2 H2 i y g S _ hy := by
    obtain ⟨x, e, rfl⟩ := enumY_get hy
    rw [List.getElem?_map] at e
    cases e' : ds[i]? with
    | none => rw [e'] at e; cases e
    | some d =>
      rw [e'] at e
      obtain rfl := Option.some.inj e
      obtain ⟨v, e1, av⟩ := DpAll.get r e'
      refine ⟨⟨S.seqT (sqT_mono g.f h), (List.getElem?_eq_some_iff.mp e1).1⟩, fun x H3 hx => ?_⟩
      obtain ⟨T, x', rfl, hT, rfl, hx⟩ := hx
      rw [e1] at hx
      obtain rfl := Option.some.inj hx
      exact pairNew S hT (a := .d (.int (i : Nat))) (b := .d d) (.int _) (Dp.mono g.f av)
  stop F2 al2 μ2 H2 g S _ := ⟨S.seqT (sqT_mono g.f h), by rw [DpAll.len r]; unfold enumY; rw [List.length_mapIdx, List.length_map]; exact Nat.le_refl _⟩
abbrev dEnT (da : DAT) : DI := fun ρ μ P => da ρ μ fun zs μ1 => ∃ ds, zs = [.d (.tuple ds)] ∧ P (enumY (ds.map .d)) always μ1
theorem di_enT {elts : List Expr} {kk : Nat} (ha : DA X [e] da) (hm : X.mg "enumerate" = none) (hg : Gl X "enumerate" := by rfl) (hs : starEach [e] X.env = [(false, eval e X.env)] := by rfl) :
    DIt X (.Tuple elts kk tpos) (.Call (.Name "enumerate" p) [e] [] pos) (dEnT da) := by
  obtain ⟨_, p1, s⟩ := ha.ex
  refine ⟨_, pi_enT hg hm p1 hs, fun ρ μ P h F al σ H S L R k => s ρ μ _ h F al σ H S L _ fun vs xs μ1 F1 al1 H1 q g S1 a => ?_⟩
  obtain ⟨ds, rfl, q⟩ := q
  obtain ⟨v, rfl, av⟩ := one_of a
  obtain ⟨p, us, rfl, e1, e2⟩ := dp_tup av
  exact ⟨p, us, rfl, S1.seqT e1, k _ _ _ _ _ _ _ q g S1 (jw_enT e1 e2)⟩
end
end Dl
set_option Elab.async false
set_option linter.all false
set_option maxRecDepth 100000
set_option maxHeartbeats 4000000
namespace Dl
open PySem PySem.Spec PyProof.Rows L2
end Dl
set_option Elab.async false
set_option linter.all false
set_option maxRecDepth 100000
set_option maxHeartbeats 4000000
namespace Dl
open PySem PySem.Spec PyProof.Rows L2
theorem paired_at {α β : Type} {R : α → β → Prop} : ∀ {l : List α} {m : List β} {i : Nat} {y : β}, Paired R l m → m[i]? = some y → ∃ x, l[i]? = some x ∧ R x y
  | _, _, _, _, .nil, h => by simp at h
  | _, _, 0, _, .cons a _, h => ⟨_, rfl, by obtain rfl := Option.some.inj h; exact a⟩
  | _, _, i + 1, _, .cons _ b, h => by
    obtain ⟨x, e, r⟩ := paired_at (i := i) b (by simpa using h)
    exact ⟨x, by simpa using e, r⟩
section
variable {K : PySem.W.Frag} {F : Hp} {al : List Addr} {μ : Mu} {H : Hp}
theorem fdct_at (S : Sto K F al μ H) {v : V} {n : Nat} {od : Obj} {vs : List (Key × V)} {ks : List (Key × A)} (h : Ab K F al v (.c n)) (e : μ[n]? = some (.fdct od vs ks)) : ∃ a, v = .ref a ∧ al[n]? = some a ∧ H a = some (.frz od (.dK vs)) ∧ KPr K F al vs ks := by
  obtain ⟨a, ea, rfl⟩ := h
  obtain ⟨ho, h1, h2⟩ := S.cell n a _ ea e
  have h3 := (h2 (fun z => nomatch z)).2
  cases ho with
  | frz o u =>
    cases u with
    | dK kvs =>
      obtain ⟨⟨rfl, rfl⟩, r⟩ := h3
      exact ⟨a, rfl, ea, h1, r⟩
    | _ => exact h3.elim
  | _ => exact h3.elim
theorem jw_keys {a : Addr} {n : Nat} {od : Obj} {vs : List (Key × V)} {ks : List (Key × A)} (ea : al[n]? = some a) (hl : vs.length = ks.length) (kk : ∀ (i : Nat) p q, vs[i]? = some p → ks[i]? = some q → p.1 = q.1) :
    JW K F al H (Itk a od vs) (ks.map fun p => .one (kD p.1)) (fun μ => μ[n]? = some (.fdct od vs ks)) where
  go F2 al2 μ2 H2 i y g S hok hy := by
    obtain ⟨t, rfl⟩ := g.px
    have ea2 : (al ++ t)[n]? = some a := by rw [List.getElem?_append_left (List.getElem?_eq_some_iff.mp ea).1]; exact ea
    obtain ⟨b, e1, e2, e3, r⟩ := fdct_at S (v := .ref a) ⟨a, ea2, rfl⟩ hok
    cases e1
    rw [List.getElem?_map] at hy
    cases e : ks[i]? with
    | none => rw [e] at hy; cases hy
    | some q =>
      rw [e] at hy
      obtain rfl := Option.some.inj hy
      have lt := (List.getElem?_eq_some_iff.mp e).1
      refine ⟨⟨e3, by omega⟩, fun x H3 hx => ?_⟩
      obtain ⟨rfl, k, v, hkv, rfl⟩ := hx
      have := kk i _ q hkv e
      obtain rfl : k = q.1 := this
      refine ⟨F2, Grow.refl, S, ?_⟩
      show Ab K F2 (al ++ t) (kV q.1) (kD q.1)
      cases q.1 with
      | inl i => exact .int i
      | inr s => exact .str s
  stop F2 al2 μ2 H2 g S hok := by
    obtain ⟨t, rfl⟩ := g.px
    have ea2 : (al ++ t)[n]? = some a := by rw [List.getElem?_append_left (List.getElem?_eq_some_iff.mp ea).1]; exact ea
    obtain ⟨b, e1, e2, e3, r⟩ := fdct_at S (v := .ref a) ⟨a, ea2, rfl⟩ hok
    cases e1
    exact ⟨e3, by rw [List.length_map]; omega⟩
end
section
variable {X : Cx} {W : WX} {e tg o i : Expr} {de dd dk d : DT} {ds : DS} {st : Stmt} {pos apos cpos : Pos}
abbrev dItK (de : DT) : DI := fun ρ μ P => de ρ μ fun x μ1 => ∃ n od vs ks, x = .c n ∧ μ1[n]? = some (.fdct od vs ks) ∧ P (ks.map fun p => .one (kD p.1)) (fun μ => μ[n]? = some (.fdct od vs ks)) μ1
theorem di_keys (h : DE X e de) : DIt X tg e (dItK de) := by
  obtain ⟨_, p, s⟩ := h.ex
  refine ⟨_, pi_keys p, fun ρ μ P h F al σ H S L R k => s ρ μ _ h F al σ H S L _ fun v x μ1 F1 al1 H1 q g S1 a => ?_⟩
  obtain ⟨n, od, vs, ks, rfl, hc, q⟩ := q
  obtain ⟨b, rfl, ea, hb, r⟩ := fdct_at S1 a hc
  refine ⟨b, od, rfl, .inl ⟨vs, hb, k _ _ _ _ _ _ _ q g S1 (jw_keys ea (pair_len r) fun i p q hp hq => ?_)⟩⟩
  obtain ⟨p', e4, r2⟩ := paired_at r hq
  rw [hp] at e4
  obtain rfl := Option.some.inj e4
  exact r2.1
/-- an expression that walks the dict in the i-th slot -/
def dLock (i : Nat) (d : DT) : DT := fun ρ μ P => ∃ n ks, ρ[i]? = some (some (.c n)) ∧ μ[n]? = some (.dct ks) ∧ ∀ od vs, d ρ (μ.set n (.fdct od vs ks)) fun x μ' => μ'[n]? = some (.fdct od vs ks) ∧ P x (μ'.set n (.dct ks))
theorem d_lock (i : Nat) (h : DE X e d) : DE X e (dLock i d) := by
  obtain ⟨_, p, s⟩ := h.ex
  refine ⟨_, pe_lock p, fun ρ μ P h F al σ H S L Q k => ?_⟩
  obtain ⟨n, ks, e1, e2, q⟩ := h
  obtain ⟨v, _, a, ea, rfl⟩ := L.at_ i _ e1
  obtain ⟨a', kvs, e3, ea', hb, r⟩ := dct_at S (v := .ref a) ⟨a, ea, rfl⟩ e2
  cases e3
  refine ⟨a, .dK kvs, hb, trivial, fun od => ?_⟩
  obtain ⟨S1, g1⟩ := S.put ea e2 (fun z => nomatch z) (ho := .frz od (.dK kvs)) (o' := .fdct od kvs ks) ⟨⟨rfl, rfl⟩, r⟩
  refine s ρ _ _ (q od kvs) F al σ _ S1 (g1.slots L) _ fun v x μ' F' al' H' q' g S' ab => ?_
  obtain ⟨e4, q'⟩ := q'
  obtain ⟨t, rfl⟩ := g.px
  have ea2 : (al ++ t)[n]? = some a := by rw [List.getElem?_append_left (List.getElem?_eq_some_iff.mp ea).1]; exact ea
  obtain ⟨b, e5, _, hb', r'⟩ := fdct_at S' (v := .ref a) ⟨a, ea2, rfl⟩ e4
  cases e5
  obtain ⟨S3, g3⟩ := S'.put ea2 e4 (fun z => nomatch z) (ho := .dK kvs) (o' := .dct ks) r'
  exact ⟨hb', k v x _ _ _ _ q' ((g1.trans g).trans g3) S3 ab⟩
end
end Dl
set_option Elab.async false
set_option linter.all false
set_option maxRecDepth 100000
set_option maxHeartbeats 4000000
namespace Dl
open PySem PySem.Spec PyProof.Rows L2
end Dl
set_option Elab.async false
set_option linter.all false
set_option maxRecDepth 100000
set_option maxHeartbeats 4000000
namespace Dl
open PySem PySem.Spec PyProof.Rows L2
/-- xs.index(x), texts -/
def rLIndexS (K : PySem.W.Frag) : V → List V → Hp → VK → Prop := fun x xs H Q => ∃ (a : Addr) (ys : List Str) (k : Str), x = .ref a ∧ xs = [.str k] ∧ SqL K H a (ys.map V.str) ∧ k ∈ ys ∧ Q (.int (ys.idxOf k : Nat)) H
section
variable {K : PySem.W.Frag}
theorem strs_v {F : Hp} : ∀ {vs : List V} {ys : List Str}, DpAll K F vs (ys.map PyData.str) → vs = ys.map V.str
  | _, [], .nil => rfl
  | _, y :: ys, .cons a b => by rw [dp_str a, strs_v b]; rfl
variable {X : Cx} {o e : Expr} {es : List Expr} {apos cpos : Pos} {do_ : DT} {da : DAT} {name : Str} {id : String} {r : V → List V → Hp → VK → Prop} {rd : A → List A → Mu → DK → Prop}
end
end Dl
set_option Elab.async false
set_option linter.all false
set_option maxRecDepth 100000
set_option maxHeartbeats 4000000
namespace Dl
open PySem PySem.Spec PyProof.Rows L2
section
variable {prog : Program} {w : World} {A : Around} {E : Value → Shared → Prop} {s : Shared}
def two (a b : Value) : Array Value := #[a, b]
end
end Dl
set_option Elab.async false
set_option linter.all false
set_option maxRecDepth 100000
set_option maxHeartbeats 4000000
namespace Dl
open PySem PySem.Spec PyProof.Rows L2
section
variable {X : Cx} {a b : Expr} {da db : DT} {pos : Pos} {K : PySem.W.Frag}
def rdN (C : Nat → Nat → Prop) (g : Nat → Nat → Nat) : A → A → Mu → DK → Prop := fun x y μ P => ∃ n m : Nat, x = .d (.int n) ∧ y = .d (.int m) ∧ C n m ∧ P (.d (.int ((g n m : Nat) : Int))) μ
def CShN (n m : Nat) : Prop := m ≤ 1000 ∧ n < 2 ^ 60
def rdShl := rdN CShN fun n m => n * 2 ^ m
def rdShr := rdN (fun _ _ => True) fun n m => n / 2 ^ m
def rdBand := rdN (fun _ _ => True) fun n m => n &&& m
def rdBor := rdN (fun _ _ => True) fun n m => n ||| m
theorem s_shl : SimR2 K (rI CPow fun i j => .int (i * 2 ^ j.toNat)) rdShl := fun x y μ P h F al H v w S a b Q k => by
  obtain ⟨n, m, rfl, rfl, ⟨c1, c2⟩, h⟩ := h
  rw [dp_int a, dp_int b]
  refine ⟨_, _, rfl, rfl, ⟨Int.natCast_nonneg _, by omega, ?_⟩, ?_⟩
  · rw [Int.natAbs_natCast]
    exact Nat.lt_trans c2 (by decide)
  · show Q (.int ((n : Int) * 2 ^ (m : Int).toNat)) H
    rw [Int.toNat_natCast]
    have e : ((n : Int) * 2 ^ m) = ((n * 2 ^ m : Nat) : Int) := by
      rw [Int.natCast_mul, Int.natCast_pow]
      rfl
    rw [e]
    exact k.now h S (.int _)
theorem s_shr : SimR2 K (rI (fun _ j => 0 ≤ j) fun i j => .int (i / 2 ^ j.toNat)) rdShr := fun x y μ P h F al H v w S a b Q k => by
  obtain ⟨n, m, rfl, rfl, _, h⟩ := h
  rw [dp_int a, dp_int b]
  refine ⟨_, _, rfl, rfl, Int.natCast_nonneg _, ?_⟩
  show Q (.int ((n : Int) / 2 ^ (m : Int).toNat)) H
  rw [Int.toNat_natCast]
  have e : ((n : Int) / 2 ^ m) = ((n / 2 ^ m : Nat) : Int) := by
    rw [Int.natCast_ediv, Int.natCast_pow]
    rfl
  rw [e]
  exact k.now h S (.int _)
theorem band_nat (n m : Nat) : Builtin.bitAnd (n : Int) (m : Int) = ((n &&& m : Nat) : Int) := by
  rw [bitAnd_pp (Int.natCast_nonneg _) (Int.natCast_nonneg _), Int.toNat_natCast, Int.toNat_natCast]
theorem bnot_neg (n : Nat) : ¬ 0 ≤ Builtin.bitNot (n : Int) := by
  unfold Builtin.bitNot
  omega
theorem bor_nat (n m : Nat) : Builtin.bitOr (n : Int) (m : Int) = ((n ||| m : Nat) : Int) := by
  unfold Builtin.bitOr
  rw [bitAnd_nn (bnot_neg n) (bnot_neg m), bitNot_bitNot, bitNot_bitNot, bitNot_bitNot, Int.toNat_natCast, Int.toNat_natCast]
theorem s_band : SimR2 K (rI0 fun i j => .int (Builtin.bitAnd i j)) rdBand := fun x y μ P h F al H v w S a b Q k => by
  obtain ⟨n, m, rfl, rfl, _, h⟩ := h
  rw [dp_int a, dp_int b]
  refine ⟨_, _, rfl, rfl, ?_⟩
  show Q (.int (Builtin.bitAnd (n : Int) (m : Int))) H
  rw [band_nat]
  exact k.now h S (.int _)
theorem s_bor : SimR2 K (rI0 fun i j => .int (Builtin.bitOr i j)) rdBor := fun x y μ P h F al H v w S a b Q k => by
  obtain ⟨n, m, rfl, rfl, _, h⟩ := h
  rw [dp_int a, dp_int b]
  refine ⟨_, _, rfl, rfl, ?_⟩
  show Q (.int (Builtin.bitOr (n : Int) (m : Int))) H
  rw [bor_nat]
  exact k.now h S (.int _)
theorem d_shl (ha : DE X a da) (hb : DE X b db) : DE X (.BinOp a .LShift b pos) (dOp rdShl da db) := d_op op_shl s_shl ha hb
theorem d_shr (ha : DE X a da) (hb : DE X b db) : DE X (.BinOp a .RShift b pos) (dOp rdShr da db) := d_op op_shr s_shr ha hb
theorem d_band (ha : DE X a da) (hb : DE X b db) : DE X (.BinOp a .BitAnd b pos) (dOp rdBand da db) := d_op op_and s_band ha hb
theorem d_bor (ha : DE X a da) (hb : DE X b db) : DE X (.BinOp a .BitOr b pos) (dOp rdBor da db) := d_op op_or s_bor ha hb
end
end Dl
set_option Elab.async false
set_option linter.all false
set_option maxRecDepth 100000
set_option maxHeartbeats 4000000
namespace Dl
open PySem PySem.Spec PyProof.Rows L2
section
variable {X : Cx}
theorem ps_setDc {i : Nat} {y : Str} {py : Pos} {kx vx tg iter : Expr} {ifs : List Expr} {scope : Scope} {own : List (Str × Nat)} {pos spos : Pos} {wi : TI} {g : TG} {tt : TT} {tk tv : TE} (hc : X.calm = true) (hN : X.N.Nodup) (hy : X.N[i]? = some y) (hyl : X.env.scope.names.lookup y = some .local)
    (hsw : swapsWith (.DictComp kx vx [⟨tg, iter, ifs, 0⟩] scope pos) (some (.Name y py)) spos.line X.env = pure true) (hi : PI X tg iter wi) (ok : BlkOk X.N X.env.scope scope own)
    (hg : ∀ (s : Shared) (H : Hp) (C : Addr) (cl : List (Str × Addr)) (fp : List Addr), PG (X.blk s H scope (compEnvC scope cl C X.env) fp) tg g) (ht : ∀ (s : Shared) (H : Hp) (C : Addr) (cl : List (Str × Addr)) (fp : List Addr), PTs (X.blk s H scope (compEnvC scope cl C X.env) fp) ifs tt)
    (hk : ∀ (s : Shared) (H : Hp) (C : Addr) (cl : List (Str × Addr)) (fp : List Addr), PE (X.blk s H scope (compEnvC scope cl C X.env) fp) kx tk)
    (he : ∀ (s : Shared) (H : Hp) (C : Addr) (cl : List (Str × Addr)) (fp : List Addr), PE (X.blk s H scope (compEnvC scope cl C X.env) fp) vx tv) (hs : ∀ x, foldedSetIterable iter X.env x = pure x := by intro _; rfl) :
    PS X (.Assign [.Name y py] (.DictComp kx vx [⟨tg, iter, ifs, 0⟩] scope pos) spos) (tAsg (tDc wi g tt tk tv (own.map (·.2))) (gName i)) := by
  refine ⟨fun pins s σ H D I h => ?_⟩
  rw [exec_Assign_Name_used _ _ _ _ hsw]
  refine wpAny_bind (wpAny_standAt (wpAny_bind ?_))
  show wpAny _ X.A (do let _ ← comprehension (.DictComp kx vx [⟨tg, iter, ifs, 0⟩] scope pos) scope X.env (firstIterPos [⟨tg, iter, ifs, 0⟩] pos) newDict false (eval iter X.env) (some (assign (.Name y py) X.env))) _ _ s
  have h : tDc wi g tt tk tv (own.map (·.2)) σ H (fun x H1 => gName i x σ H1 D.nx) := h
  refine wpAny_bind (thn (dc_core (Qf := fun _ s' => SP X pins D .next s') hc hN I hi ok hg ht hk he hs h fun L C s' m H' I' q hn f => ?_) fun _ s' hq => wpAny_pure (wpAny_pure hq))
  show wpAny _ _ (assign (.Name y py) X.env (.ref L)) _ _ _
  refine wpAny_assign_Name (store_ok2 (v := V.ref L) I' hN hy (.inl hyl) rfl (fun s2 I2 ⟨a, sb, ha⟩ => ?_) (.inr hyl))
  obtain ⟨f0, f1, f2, f3, f4, f5⟩ := f
  have haC : C ≠ a := by
    rcases ha with z | z
    · rw [z]; exact f1
    · exact fun e => f4 y a z e.symm
  exact ⟨m, hn.sameBut sb haC, fun h3 sb3 => ⟨_, H', I2.turned (t' := s2.toks) (fun b o hb e => (sb3.2 b hb).trans e) f0 f1 f3 f4 f5, q⟩⟩
theorem swd_true {kx vx : Expr} {gs : List Comprehension} {scope : Scope} {pos py : Pos} {y : Str} {l : Nat} {env : Env} (hk : env.scope.kind = .function) (hy : env.scope.names.lookup y = some .local) (hl : (py.line == pos.line) = true)
    (ha : (scope.names.any fun (n, k) => n == y && (k == .local || k == .cell)) = false) : swapsWith (.DictComp kx vx gs scope pos) (some (.Name y py)) l env = pure true := by
  have ky : env.kindOf y = some .local := hy
  have hb : env.blockKind = .function := by unfold Env.blockKind; rw [hk]; rfl
  unfold swapsWith
  simp only [hb, ky, ha, Expr.pos, hl]
  rfl
theorem ds_setDc {W : WX} {tg iter kx vx : Expr} {ifs : List Expr} {di : DI} {dg : DG} {dt : DTT} {dk dv : DT} {pos spos py : Pos} {scope : Scope} {own : List (Str × Nat)} {i : Nat} {y : Str} (hc : X.calm = true) (hN : X.N.Nodup) (hi : DIt X tg iter di) (ok : BlkOk X.N X.env.scope scope own)
    (hg : Blk X scope fun Y => DGt Y tg (own.map (·.2)) dg) (ht : Blk X scope fun Y => DTs Y ifs dt) (hk : Blk X scope fun Y => DE Y kx dk) (he : Blk X scope fun Y => DE Y vx dv)
    (hsw : swapsWith (.DictComp kx vx [⟨tg, iter, ifs, 0⟩] scope pos) (some (.Name y py)) spos.line X.env = pure true) (hy : X.N[i]? = some y := by rfl) (hyl : X.env.scope.names.lookup y = some .local := by rfl) (hs : ∀ x, foldedSetIterable iter X.env x = pure x := by intro _; rfl) :
    DSt X W (.Assign [.Name y py] (.DictComp kx vx [⟨tg, iter, ifs, 0⟩] scope pos) spos) (dsSet i (dDc di dg dt dk dv (own.map (·.2)))) := by
  obtain ⟨_, p1, s1⟩ := hi.ex
  refine ⟨_, ps_setDc (tk := tD X.K dk) (tv := tD X.K dv) (tt := tDT X.K dt) (g := tDG X.K (own.map (·.2)) dg) hc hN hy hyl hsw p1 ok (fun s H C cl fp => (hg s H C cl fp).pg) (fun s H C cl fp => (ht s H C cl fp).ex) (fun s H C cl fp => (hk s H C cl fp).pe) (fun s H C cl fp => (he s H C cl fp).pe) hs, fun ρ μ D h F al σ H S L E k => ?_⟩
  exact sim_dc s1 sim_tDG sim_tDT sim_tD sim_tD ρ μ _ h F al σ H S L _ fun v x μ1 F1 al1 H1 q g S1 a => k.nx _ _ _ _ _ _ q g S1 ((g.slots L).set a)
end
end Dl
set_option Elab.async false
set_option linter.all false
set_option maxRecDepth 100000
set_option maxHeartbeats 4000000
namespace Dl
open PySem PySem.Spec PyProof.Rows L2
end Dl
set_option Elab.async false
set_option linter.all false
set_option maxRecDepth 100000
set_option maxHeartbeats 4000000
namespace Dl
open PySem PySem.Spec PyProof.Rows L2
end Dl
namespace Dl
open PySem PySem.Spec PyProof.Rows L2
end Dl
set_option Elab.async false
set_option linter.all false
set_option maxRecDepth 100000
set_option maxHeartbeats 4000000
namespace Dl
open PySem PySem.Spec PyProof.Rows L2
end Dl
namespace Dl
open PySem PySem.Spec PyProof.Rows L2
end Dl
set_option Elab.async false
set_option linter.all false
set_option maxRecDepth 100000
set_option maxHeartbeats 4000000
namespace Dl
open PySem PySem.Spec PyProof.Rows L2
section
variable {prog : Program} {w : World} {A : Around} {E : Value → Shared → Prop} {s : Shared}
def SrI (t : Bool) (h : Heap) (i l : Addr) (k : Nat) : Prop := if t = true then h.IsTupleIter i l k else h.IsListIter i l k
def SrO (t : Bool) (h : Heap) (l : Addr) (xs : Array Value) : Prop := if t = true then h.IsTuple l xs else h.IsList l xs
theorem SrI.ext {t : Bool} {h h' : Heap} {i l b : Addr} {k : Nat} (q : SrI t h i l k) (e : Heap.ExtBut b h h') (n : i ≠ b) : SrI t h' i l k := by
  cases t
  · exact Heap.IsListIter.extBut q e n
  · exact Heap.IsTupleIter.extBut q e n
theorem SrO.ext {t : Bool} {h h' : Heap} {l b : Addr} {xs : Array Value} (q : SrO t h l xs) (e : Heap.ExtBut b h h') (n : l ≠ b) : SrO t h' l xs := by
  cases t
  · exact Heap.IsList.extBut q e n
  · exact Heap.IsTuple.extBut q e n
theorem SrI.has {t : Bool} {h : Heap} {i l : Addr} {k : Nat} (q : SrI t h i l k) : ∃ o, h.get? i = some o ∧ ∀ v, o.data ≠ .cell v := by
  cases t
  · obtain ⟨o, e, _, d⟩ := (q : h.IsListIter i l k)
    exact ⟨o, e, fun v z => by rw [d] at z; cases z⟩
  · obtain ⟨o, e, _, d⟩ := (q : h.IsTupleIter i l k)
    exact ⟨o, e, fun v z => by rw [d] at z; cases z⟩
variable {t u : Bool} {zz ti tO j1 j2 m1 m2 : Addr} {n : Nat} {xs ys : Array Value} {x y a b : Value}
end
/-- a sequence of either kind, as the layer's heap has it -/
def SqB (K : PySem.W.Frag) (t : Bool) (H : Hp) (a : Addr) (xs : List V) : Prop := if t = true then SqT K H a xs else SqL K H a xs
theorem sqB_at {X : Cx} {pins : List (Addr × Obj)} {σ : L2.St} {H : Hp} {s : Shared} {t : Bool} {a : Addr} {xs : List V} (I : Inv X pins σ H s) (q : SqB X.K t H a xs) : ∃ its : List Value, Vals xs its ∧ SrO t s.heap a its.toArray := by
  cases t
  · obtain ⟨its, r, p, _⟩ := I.list q
    exact ⟨its, r, p.isList⟩
  · obtain ⟨its, r, p, _⟩ := I.tuple q
    exact ⟨its, r, p⟩
end Dl
set_option Elab.async false
set_option linter.all false
set_option maxRecDepth 100000
set_option maxHeartbeats 4000000
namespace Dl
open PySem PySem.Spec PyProof.Rows L2
open PySem.W (AlikeAll maxD minD dataLt alike)
theorem plain_all_of : ∀ {xs : List PyData}, (∀ d ∈ xs, d.plain = true) → PyData.plainAll xs = true
  | [], _ => rfl
  | x :: xs, h => by
    rw [PyData.plainAll, h x (List.mem_cons_self ..), plain_all_of (xs := xs) fun a ha => h a (List.mem_cons_of_mem _ ha)]
    rfl
section
variable {X : Cx}
theorem dpall_reads {pins : List (Addr × Obj)} {σ : L2.St} {H : Hp} {s : Shared} (I : Inv X pins σ H s) {vs : List V} {us : List Value} {ds : List PyData} (r : Vals vs us) (n : PyData.plainAll ds = true) (hd : Dl.DpAll X.K H vs ds) : ∃ as, ReadsAll s.heap us ds as :=
  L2.Dp.readsAll I ds vs us ((Dp.lib_aux _).2 ds vs (Nat.le_refl _) n hd) r
end
/-- a list, a tuple or a cell of data -/
def SeqA (y : A) (μ : Mu) (ds : List PyData) : Prop := SeqOf y μ (ds.map A.d)
section
variable {K : PySem.W.Frag}
theorem seqA_b {F : Hp} {al : List Addr} {μ : Mu} {H : Hp} {v : V} {y : A} {ds : List PyData} (S : Sto K F al μ H) (a : Ab K F al v y) (h : SeqA y μ ds) : ∃ t p vs, v = .ref p ∧ SqB K t H p vs ∧ DpAll K F vs ds := by
  obtain ⟨p, vs, rfl, hq, r⟩ := seqOf_ab S a h
  rcases hq with hq | hq
  · exact ⟨false, p, vs, rfl, hq, DpAll.of r⟩
  · exact ⟨true, p, vs, rfl, hq, DpAll.of r⟩
end
end Dl
set_option Elab.async false
set_option linter.all false
set_option maxRecDepth 100000
set_option maxHeartbeats 4000000
namespace Dl
open PySem PySem.Spec PyProof.Rows L2
def upN (m : Nat) : A → A
  | .c j => .c (m + j)
  | x => x
def upO (m : Nat) : O → O
  | .lst xs => .lst (xs.map (upN m))
  | .dct ks => .dct (ks.map fun p => (p.1, upN m p.2))
  | .fdct o vs ks => .fdct o vs (ks.map fun p => (p.1, upN m p.2))
  | .dctT P w ks => .dctT P w (ks.map fun p => (p.1, upN m p.2))
  | .dead => .dead
def FRN (R : DR) : DR := fun xs μ P Ex => ∃ ds : List PyData, xs = ds.map A.d ∧ R xs [] (fun y ν => P (upN μ.length y) (μ ++ ν.map (upO μ.length))) fun C o ν => Ex C o (μ ++ ν.map (upO μ.length))
theorem FRN.add {R R' : DR} {das : List PyData} (h : ∀ xs μ Pk Ex, R xs μ Pk Ex → R' (xs ++ das.map A.d) μ Pk Ex) {xs : List A} {μ : Mu} {P : DK} {Ex : DX} (q : FRN R xs μ P Ex) : FRN R' (xs ++ das.map A.d) μ P Ex := by
  obtain ⟨ds, rfl, r⟩ := q
  exact ⟨ds ++ das, by rw [List.map_append], h _ _ _ _ r⟩
theorem FRN.perm {R R' : DR} {π : List Nat} {n : Nat} (h : ∀ xs μ Pk Ex, xs.length = n → R xs μ Pk Ex → R' (Dl.perm (.d .none) π xs) μ Pk Ex) {xs : List A} {μ : Mu} {P : DK} {Ex : DX} (hl : xs.length = n) (q : FRN R xs μ P Ex) : FRN R' (Dl.perm (.d .none) π xs) μ P Ex := by
  obtain ⟨ds, rfl, r⟩ := q
  exact ⟨Dl.perm .none π ds, perm_map (f := A.d) rfl π ds, h _ _ _ _ hl r⟩
end Dl
set_option Elab.async false
set_option linter.all false
set_option maxRecDepth 100000
set_option maxHeartbeats 4000000
namespace Dl
open PySem PySem.Spec PyProof.Rows L2
end Dl
set_option Elab.async false
set_option linter.all false
set_option maxRecDepth 100000
set_option maxHeartbeats 4000000
namespace Dl
open PySem PySem.Spec PyProof.Rows L2
end Dl
set_option Elab.async false
set_option linter.all false
set_option maxRecDepth 100000
set_option maxHeartbeats 4000000
namespace Dl
open PySem PySem.Spec PySem.Calls PyProof.Rows L2
open PySem.W (AlikeAll AllAlike dataLt alike Sortable dataLe EachIs)
def sortD (ds : List PyData) : List PyData := ds.mergeSort (dataLe false id)
section
open PySem.W
variable {prog : Program} {w : World} {A : Around} {E : Value → Shared → Prop} {s : Shared}
theorem sorted_seq {t : Bool} {l : Addr} {vs : List Value} {bs : List PyData} {as : List Addr} {R : Value → PyData → Prop} {Q : Value → Shared → Prop} (hl : SrO t s.heap l vs.toArray) (er : ReadsAll s.heap vs bs as) (hal : AllAlike bs) (hk : Sortable bs) (hL : bs.length ≤ sizeLine)
    (hu : ∀ b, b ∈ bs → A.units + 3 + b.depth < cLine) (e : EachIs R vs bs)
    (h : ∀ out (h1 h' : Heap) c, EachIs R out (sortD bs) → (∀ b o, s.heap.get? b = some o → h1.get? b = some o) → (∀ b o, h1.get? b = some o → h'.get? b = some o) → h'.get? h1.objs.size = some (seqObj "list" (List.toArray out) c) → Q (.ref h1.objs.size) { s with heap := h' }) :
    wpAny (model prog w) A (call (.builtin "sorted") [.ref l]) Q E s := by
  have hlen : vs.length = bs.length := e.length
  obtain ⟨o, T, hT, ho, hc, n, hd⟩ : ∃ o T, (T = "list" ∨ T = "tuple") ∧ s.heap.get? l = some o ∧ o.cls = .type T ∧ ∃ n, o.data = .seq vs.toArray n := by
    cases t
    · obtain ⟨o, h1, h2, n, h3⟩ := hl
      exact ⟨o, _, .inl rfl, h1, h2, n, h3⟩
    · obtain ⟨o, h1, h2, n, h3⟩ := hl
      exact ⟨o, _, .inr rfl, h1, h2, n, h3⟩
  refine call_function_entry kind_sorted plain_sorted entry_sorted (args_sorted1 _) ?_
  unfold Builtin.«sorted»
  refine wpAny_bind (m := checkCount "sorted" 1 1 _) (wpAny_pure ?_)
  refine wpAny_bind (wpAny_collect_seq l hT ho hc hd (fun h1 kp => ?_) (by rw [List.size_toArray]; omega))
  rw [List.toList_toArray]
  refine wpAny_bind (wpAny_newList ?_ (by omega))
  have hat : (h1.push { cls := .type "list", data := .seq vs.toArray }).get? h1.objs.size = some (seqObj "list" vs.toArray 0) := Heap.get?_push_size h1 rfl
  have old : ∀ b u, s.heap.get? b = some u → (sortingHeap (h1.push { cls := .type "list", data := .seq vs.toArray }) h1.objs.size vs).get? b = some u := fun b u eb =>
    sortingHeap_old (Nat.ne_of_lt (Heap.lt_size (kp b u eb))) (Heap.get?_push_of_some _ (kp b u eb))
  have er' : EachIs (fun v b => ∃ as, Reads (sortingHeap (h1.push { cls := .type "list", data := .seq vs.toArray }) h1.objs.size vs) v (id b) as) vs bs :=
    (readsAll_each id (by rw [List.map_id]; exact er)).mono fun _ _ ⟨as, r⟩ => ⟨as, PyProof.Rows.Reads.keeps old r⟩
  have hal' : AllAlike (bs.map id) := by rw [List.map_id]; exact hal
  have hk' : Sortable (bs.map id) := by rw [List.map_id]; exact hk
  refine wpAny_bind (wpAny_holding (wpAny_mono (wpAny_call_entry slot_list_sort ⟨_, hat, rfl⟩ entry_list_sort (list_sort_vals (κ := dataKind (sortingHeap (h1.push { cls := .type "list", data := .seq vs.toArray }) h1.objs.size vs) (bs.map id)) (s := { s with heap := h1.push { cls := .type "list", data := .seq vs.toArray } }) hat
    (SortsAt.data (s := { s with heap := sortingHeap (h1.push { cls := .type "list", data := .seq vs.toArray }) h1.objs.size vs }) (each_map (R := fun v d => ∃ as, Reads (sortingHeap (h1.push { cls := .type "list", data := .seq vs.toArray }) h1.objs.size vs) v d as) id er') hal' hk' (bound_map (fun b hb => by have := hu b hb; simp only [Around.in1, id]; omega))) (by omega) ⟨.none, rfl, ?_⟩) (args_list_sort _)) (fun _ s' (x : s' = { s with heap := sortedHeap (h1.push { cls := .type "list", data := .seq vs.toArray }) h1.objs.size vs (sortVals (dataKind (sortingHeap (h1.push { cls := .type "list", data := .seq vs.toArray }) h1.objs.size vs) (bs.map id)) false vs vs).toArray }) => ?_) fun _ _ e => e))
  · rfl
  · subst x
    refine wpAny_pure ⟨_, rfl, ?_⟩
    obtain ⟨c, hc⟩ := sortedHeap_at (vs := vs) (out := (sortVals (dataKind (sortingHeap (h1.push { cls := .type "list", data := .seq vs.toArray }) h1.objs.size vs) (bs.map id)) false vs vs).toArray) hat
    exact h _ h1 _ c (sortVals_data false e er' hal') kp (fun b u eb => by rw [sortedHeap_old (Nat.ne_of_lt (Heap.lt_size eb)) (by rw [size_push']; exact Nat.lt_succ_of_lt (Heap.lt_size eb))]; exact Heap.get?_push_of_some _ eb) hc
end
theorem each_of {D : V → PyData → Prop} : ∀ {vs : List V} {us : List Value} {ds : List PyData}, Vals vs us → Paired D vs ds → EachIs (fun u d => ∃ v, RelV v u ∧ D v d) us ds
  | [], _, _, .nil, .nil => .nil
  | _ :: _, _, _, .cons r1 r2, .cons d1 d2 => .cons ⟨_, r1, d1⟩ (each_of r2 d2)
theorem each_back {D : V → PyData → Prop} : ∀ {us : List Value} {ds : List PyData}, EachIs (fun u d => ∃ v, RelV v u ∧ D v d) us ds → ∃ vs, Vals vs us ∧ Paired D vs ds
  | _, _, .nil => ⟨[], .nil, .nil⟩
  | _, _, .cons ⟨v, r, d⟩ t => by
    obtain ⟨vs, r2, d2⟩ := each_back t
    exact ⟨v :: vs, .cons r r2, .cons d d2⟩
theorem dpall_pair {K : PySem.W.Frag} {F : Hp} : ∀ {vs : List V} {ds : List PyData}, Dl.DpAll K F vs ds → Paired (Dl.Dp K F) vs ds
  | _, _, .nil => .nil
  | _, _, .cons a b => .cons a (dpall_pair b)
theorem pair_dpall {K : PySem.W.Frag} {F : Hp} : ∀ {vs : List V} {ds : List PyData}, Paired (Dl.Dp K F) vs ds → Dl.DpAll K F vs ds
  | _, _, .nil => .nil
  | _, _, .cons a b => .cons a (pair_dpall b)
theorem depth_le_all : ∀ {ds : List PyData} {d : PyData}, d ∈ ds → d.depth ≤ PyData.depthAll ds
  | x :: ds, d, h => by
    simp only [PyData.depthAll]
    rcases List.mem_cons.mp h with rfl | h
    · exact Nat.le_max_left ..
    · exact Nat.le_trans (depth_le_all h) (Nat.le_max_right ..)
section
variable {X : Cx} {K : PySem.W.Frag}
def rSortB (K : PySem.W.Frag) : List V → Hp → VK → Prop := fun xs H Q => ∃ (t : Bool) (a : Addr) (vs : List V) (ds : List PyData) (D : V → PyData → Prop), xs = [.ref a] ∧ SqB K t H a vs ∧ (∀ v d, D v d → Dl.Dp K H v d) ∧ Paired D vs ds ∧ AllAlike ds ∧ PySem.W.Sortable ds ∧ PyData.depthAll ds ≤ 60 ∧
  ∀ l ws, H l = none → Paired D ws (sortD ds) → Q (.ref l) (upd H l (.lst ws))
theorem call_sortB (hu : X.A.units + 64 < cLine) : CallR X (.builtin "sorted") (rSortB X.K) := by
  intro pins s σ H xs us Q I r h
  obtain ⟨t, a, vs, ds, D, rfl, hq, hD, hd, al, hk, dp, q⟩ := h
  obtain ⟨u, rfl, ru⟩ := vals1 r
  obtain rfl : u = .ref a := ru
  obtain ⟨its, rv, c⟩ := sqB_at I hq
  obtain ⟨as, ra⟩ := dpall_reads I rv (plain_all_of fun d hd => plain_alike d (al d hd d hd)) (pair_dpall (hd.mono hD))
  have small : its.length ≤ sizeLine := by
    cases t
    · obtain ⟨its', r', _, sm⟩ := I.list hq
      rw [← rv.length]; exact sm
    · obtain ⟨its', r', _, sm⟩ := I.tuple hq
      rw [← rv.length]; exact sm
  have lds : ds.length = its.length := by rw [← pair_len hd, rv.length]
  refine sorted_seq c ra al hk (by omega) (fun b hb => by have := depth_le_all hb; omega) (each_of rv hd) fun out h1 h' c eo k1 k2 ho => ?_
  obtain ⟨ws, rw', dw⟩ := each_back eo
  have J : Inv X pins σ H { s with heap := h1 } := I.kept (t' := s.toks) k1
  have lw : ws.length ≤ sizeLine := by
    have : (sortD ds).length = ds.length := List.length_mergeSort ..
    rw [pair_len dw, this]; omega
  exact ⟨.ref h1.objs.size, _, J.laid (t' := s.toks) k2 (Nat.le_refl _) (show ObjOk X.prog X.w _ h' _ (.lst ws) from ⟨lw, out, c, rw', ho⟩), rfl, q _ ws (J.hok.fresh (Nat.le_refl _)) dw⟩
def rdSortB : List A → Mu → DK → Prop := fun xs μ P => ∃ y ds, xs = [y] ∧ SeqA y μ ds ∧ AllAlike ds ∧ PySem.W.Sortable ds ∧ PyData.depthAll ds ≤ 60 ∧ lcEnd P ((sortD ds).map A.d) μ
theorem s_sortB : SimC K (rSortB K) rdSortB := fun xs μ P h F al H vs S a Q k => by
  obtain ⟨y, ds, rfl, hs, al', hk, dp, h⟩ := h
  obtain ⟨v, rfl, av⟩ := one_of a
  obtain ⟨t, p, ws, rfl, hq, r⟩ := seqA_b S av hs
  exact ⟨t, p, ws, ds, Dl.Dp K F, rfl, hq, fun v d hd => Dp.mono S.sub hd, dpall_pair r, al', hk, dp, fun l zs hl dz => lcEnd_new S (DpAll.to (pair_dpall dz)) h k l hl⟩
end
end Dl
set_option Elab.async false
set_option linter.all false
set_option maxRecDepth 100000
set_option maxHeartbeats 4000000
namespace Dl
open PySem PySem.Spec PyProof PyProof.Rows L2
section
open PySem.AutoSeq1
theorem ext_list (l : Addr) (items : Array Value) (n : Nat) (b : Addr) (d2 : Option Addr) (sl2 : Array (Option Value)) (items2 : Array Value) (n2 : Nat) (hc0 : ¬(!items.isEmpty && Builtin.List.listTooLong (items.size + items2.size)) = true) (hc1 : items.size ≤ sizeLine) (hs2 : items.size + items2.size ≤ sizeLine + 1) :
    Meets (Builtin.«list.extend» ⟨[.ref l, .ref b], []⟩) (fun _ R s => s.heap.get? l = some { cls := .type "list", dict := none, data := .seq items n, slots := #[] } ∧ s.heap.get? b = some { cls := .type "list", dict := d2, data := .seq items2 n2, slots := sl2 } ∧ R (.ok (.ret Value.none)) { s with heap := s.heap.update l (Obj.mapSeq fun x => x ++ items2), toks := s.toks }) :=
  .of_wp fun prog w A R s h => by
    obtain ⟨hp, g, d, tk, os⟩ := s; obtain ⟨hl, hb, h⟩ := h; have f1 := idx_int; have f2 := PySem.AutoSeq1.sub_tuple_tuple; have f3 := PySem.AutoSeq1.sub_list_list; have f4 := PySem.AutoSeq1.sub_tuple_list; have f5 := PySem.AutoSeq1.sub_list_tuple
    have hz' : (items ++ items2).size ≤ sizeLine + 1 := by rw [Array.size_append]; exact hs2
    wp_walk using (wpAny_updateSeq hl rfl (hz := hc1) (_hz' := hz')), wpAny_loadPart' hl, wpAny_loadPart' hb
    exact ⟨_, rfl, h⟩
theorem ext_tuple (l : Addr) (items : Array Value) (n : Nat) (b : Addr) (d2 : Option Addr) (sl2 : Array (Option Value)) (items2 : Array Value) (n2 : Nat) (hc0 : ¬(!items.isEmpty && Builtin.List.listTooLong (items.size + items2.size)) = true) (hc1 : items.size ≤ sizeLine) (hs2 : items.size + items2.size ≤ sizeLine + 1) :
    Meets (Builtin.«list.extend» ⟨[.ref l, .ref b], []⟩) (fun _ R s => s.heap.get? l = some { cls := .type "list", dict := none, data := .seq items n, slots := #[] } ∧ s.heap.get? b = some { cls := .type "tuple", dict := d2, data := .seq items2 n2, slots := sl2 } ∧ R (.ok (.ret Value.none)) { s with heap := s.heap.update l (Obj.mapSeq fun x => x ++ items2), toks := s.toks }) :=
  .of_wp fun prog w A R s h => by
    obtain ⟨hp, g, d, tk, os⟩ := s; obtain ⟨hl, hb, h⟩ := h; have f1 := idx_int; have f2 := PySem.AutoSeq1.sub_tuple_tuple; have f3 := PySem.AutoSeq1.sub_list_list; have f4 := PySem.AutoSeq1.sub_tuple_list; have f5 := PySem.AutoSeq1.sub_list_tuple
    have hz' : (items ++ items2).size ≤ sizeLine + 1 := by rw [Array.size_append]; exact hs2
    wp_walk using (wpAny_updateSeq hl rfl (hz := hc1) (_hz' := hz')), wpAny_loadPart' hl, wpAny_loadPart' hb
    exact ⟨_, rfl, h⟩
end
section
variable {X : Cx} {K : PySem.W.Frag}
def rExtB (K : PySem.W.Frag) : V → List V → Hp → VK → Prop := fun x vs H Q => ∃ (t : Bool) (l b : Addr) (xs zs : List V), x = .ref l ∧ vs = [.ref b] ∧ H l = some (.lst xs) ∧ SqB K t H b zs ∧ xs.length + zs.length ≤ sizeLine ∧ Q .non (upd H l (.lst (xs ++ zs)))
theorem mt_extendB : MtM X "list.extend" (rExtB X.K) := by
  intro pins s σ H x vs v us Q I rx rv h
  obtain ⟨t, l, b, xs, zs, rfl, rfl, hH, hB, hz, q⟩ := h
  cases rx
  obtain ⟨u, rfl, ru⟩ := rv.one
  cases ru
  obtain ⟨z, its, n, r, hl, e⟩ := I.lstM hH
  cases t
  · obtain ⟨its2, r2, pl2, z2⟩ := I.list hB
    obtain ⟨⟨cls2, dd2, data2, sl2⟩, n2, ho2, hc2, _, hd2⟩ := pl2
    simp only at hc2 hd2
    subst hc2 hd2
    have l2 := r2.length
    have hsz : its.toArray.size + its2.toArray.size ≤ sizeLine := by rw [List.size_toArray, List.size_toArray]; omega
    have hlong : ¬ (!its.toArray.isEmpty && Builtin.List.listTooLong (its.toArray.size + its2.toArray.size)) = true := by
      rw [notLongL hsz, Bool.and_false]
      exact Bool.false_ne_true
    refine call_meets F.slot_list_extend ⟨_, e, rfl⟩ F.entry_list_extend (F.args_list_extend_2 _ _)
      (ext_list l its.toArray n b dd2 sl2 its2.toArray n2 hlong (by rw [List.size_toArray]; omega) (by omega)) ⟨e, ho2, ?_⟩
    refine ⟨.non, _, I.lset (its' := its ++ its2) hH e (by simp) (r.append r2) ?_, rfl, q⟩
    rw [List.length_append]
    omega
  · obtain ⟨its2, r2, pl2, z2⟩ := I.tuple hB
    obtain ⟨⟨cls2, dd2, data2, sl2⟩, ho2, hc2, n2, hd2⟩ := pl2
    simp only at hc2 hd2
    subst hc2 hd2
    have l2 := r2.length
    have hsz : its.toArray.size + its2.toArray.size ≤ sizeLine := by rw [List.size_toArray, List.size_toArray]; omega
    have hlong : ¬ (!its.toArray.isEmpty && Builtin.List.listTooLong (its.toArray.size + its2.toArray.size)) = true := by
      rw [notLongL hsz, Bool.and_false]
      exact Bool.false_ne_true
    refine call_meets F.slot_list_extend ⟨_, e, rfl⟩ F.entry_list_extend (F.args_list_extend_2 _ _)
      (ext_tuple l its.toArray n b dd2 sl2 its2.toArray n2 hlong (by rw [List.size_toArray]; omega) (by omega)) ⟨e, ho2, ?_⟩
    refine ⟨.non, _, I.lset (its' := its ++ its2) hH e (by simp) (r.append r2) ?_, rfl, q⟩
    rw [List.length_append]
    omega
def rdExtB : A → List A → Mu → DK → Prop := fun x xs μ P => ∃ i ys y zs, x = .c i ∧ xs = [y] ∧ μ[i]? = some (.lst ys) ∧ SeqOf y μ zs ∧ ys.length + zs.length ≤ sizeLine ∧ P (.d .none) (μ.set i (.lst (ys ++ zs)))
theorem s_extB : SimM K "list" (rExtB K) rdExtB := fun x xs μ P h F al H v vs S a as Q k => by
  obtain ⟨i, ys, y, zs, rfl, rfl, e, hs, hz, h⟩ := h
  obtain ⟨p, ep, rfl⟩ := a
  obtain ⟨q, ws, e1, e2, e3⟩ := cell_lst S e
  rw [ep] at e1
  obtain rfl := Option.some.inj e1
  obtain ⟨w, rfl, aw⟩ := one_of as
  obtain ⟨b, us, rfl, hq, r⟩ := seqOf_ab S aw hs
  obtain ⟨S2, g2⟩ := cell_put S ep e (Paired.app e3 r)
  have kk := k _ _ _ _ _ _ h g2 S2 .non
  have ln : ws.length + us.length ≤ sizeLine := by rw [pair_len e3, pair_len r]; exact hz
  rcases hq with hq | hq
  · exact ⟨false, p, b, ws, us, rfl, rfl, e2, hq, ln, kk⟩
  · exact ⟨true, p, b, ws, us, rfl, rfl, e2, hq, ln, kk⟩
end
end Dl
set_option Elab.async false
set_option linter.all false
set_option maxRecDepth 100000
set_option maxHeartbeats 4000000
namespace Dl
open PySem PySem.Spec PyProof.Rows L2
end Dl
set_option Elab.async false
set_option linter.all false
set_option maxRecDepth 100000
set_option maxHeartbeats 4000000
namespace Dl
open PySem PySem.Spec PyProof PyProof.Rows L2
end Dl
set_option Elab.async false
set_option linter.all false
set_option maxRecDepth 100000
set_option maxHeartbeats 4000000
namespace Dl
open PySem PySem.Spec PyProof PyProof.Rows L2
end Dl
set_option Elab.async false
set_option linter.all false
set_option maxRecDepth 100000
set_option maxHeartbeats 4000000
namespace Dl
open PySem PySem.Spec PySem.Calls PyProof PyProof.Rows L2
def leS (x y : Str) : Bool := decide (x.cps.toList ≤ y.cps.toList)
def sortS (ss : List Str) : List Str := ss.mergeSort leS
theorem str_of_list {x y : Str} (h : x.cps.toList = y.cps.toList) : x = y := by
  cases x; cases y
  simp only at h
  rw [Array.toList_inj.mp h]
theorem leS_trans (a b c : Str) (h : leS a b = true) (k : leS b c = true) : leS a c = true := decide_eq_true (List.le_trans (of_decide_eq_true h) (of_decide_eq_true k))
theorem leS_total (a b : Str) : (leS a b || leS b a) = true := by
  rw [Bool.or_eq_true]
  exact (List.le_total a.cps.toList b.cps.toList).imp (fun h => decide_eq_true h) fun h => decide_eq_true h
theorem sortS_pm (ss : List Str) : (sortS ss).Perm ss := List.mergeSort_perm _ _
theorem sortS_up (ss : List Str) : (sortS ss).Pairwise fun a b => leS a b = true := List.pairwise_mergeSort leS_trans leS_total ss
theorem sorted_one {xs ys : List Str} (h : xs.Perm ys) (hx : xs.Pairwise fun a b => leS a b = true) (hy : ys.Pairwise fun a b => leS a b = true) : xs = ys :=
  List.Perm.eq_of_pairwise (fun a b _ _ p q => str_of_list (List.le_antisymm (of_decide_eq_true p) (of_decide_eq_true q))) hx hy h
theorem sortD_strs (ss : List Str) : sortD (ss.map .str) = (sortS ss).map .str := by
  unfold sortD sortS
  refine (List.map_mergeSort fun a _ b _ => ?_).symm
  exact (congrFun (congrFun (PySem.W.dataLe_str (fun b : Str => b)) a) b).symm
/-- the texts, each once -/
def ddS (ss : List Str) : List Str := (ddk (ss.map Sum.inr)).filterMap fun k => match k with | .inr x => some x | .inl _ => none
theorem ddS_map (ss : List Str) : ddk (ss.map Sum.inr) = (ddS ss).map (Sum.inr : Str → Key) := by
  unfold ddS
  have h : ∀ k ∈ ddk (ss.map (Sum.inr : Str → Key)), ∃ x, k = .inr x := fun k hk => by
    obtain ⟨x, _, e⟩ := List.mem_map.mp (ddk_mem.mp hk)
    exact ⟨x, e.symm⟩
  generalize ddk (ss.map (Sum.inr : Str → Key)) = l at h
  induction l with
  | nil => rfl
  | cons k l ih =>
    obtain ⟨x, rfl⟩ := h k (List.mem_cons_self ..)
    rw [List.filterMap_cons, List.map_cons, ← ih fun k hk => h k (List.mem_cons_of_mem _ hk)]
theorem ddS_mem {ss : List Str} {x : Str} : x ∈ ddS ss ↔ x ∈ ss := by
  have h1 : (Sum.inr x : Key) ∈ ddk (ss.map Sum.inr) ↔ (Sum.inr x : Key) ∈ ss.map Sum.inr := ddk_mem
  rw [ddS_map] at h1
  have inj : ∀ l : List Str, (Sum.inr x : Key) ∈ l.map Sum.inr ↔ x ∈ l := fun l => by
    rw [List.mem_map]
    exact ⟨fun ⟨y, hy, e⟩ => Sum.inr.inj e ▸ hy, fun h => ⟨x, h, rfl⟩⟩
  rw [inj, inj] at h1
  exact h1
end Dl
set_option Elab.async false
set_option linter.all false
set_option maxRecDepth 100000
set_option maxHeartbeats 4000000
namespace Dl
open PySem PySem.Spec PySem.Calls PyProof PyProof.Rows L2
end Dl
set_option Elab.async false
set_option linter.all false
set_option maxRecDepth 100000
set_option maxHeartbeats 4000000
namespace Dl
open PySem PySem.Spec PyProof PyProof.Rows L2
open PySem.SeqAt (dataPlace)
end Dl
set_option Elab.async false
set_option linter.all false
set_option maxRecDepth 100000
set_option maxHeartbeats 4000000
namespace Dl
open PySem PySem.Spec PySem.Calls PyProof PyProof.Rows L2
theorem adjust_rev (n : Nat) : Builtin.Slice.sliceAdjust none none (-1) (n : Int) = ((n : Int) - 1, -1) := by
  unfold Builtin.Slice.sliceAdjust
  simp
theorem places_rev (n : Nat) : Builtin.Slice.slicePlaces ((n : Int) - 1) (-1) (-1) = n := by
  unfold Builtin.Slice.slicePlaces
  simp
  omega
theorem fm_congr {α β : Type} {f g : α → Option β} : ∀ {l : List α}, (∀ a ∈ l, f a = g a) → l.filterMap f = l.filterMap g
  | [], _ => rfl
  | a :: l, h => by rw [List.filterMap_cons, List.filterMap_cons, h a (List.mem_cons_self ..), fm_congr fun b hb => h b (List.mem_cons_of_mem _ hb)]
theorem pick_rev (l : List Value) : (List.range l.length).filterMap (fun (k : Nat) => l.toArray[((l.length : Int) - 1 + (k : Int) * (-1)).toNat]?) = l.reverse := by
  have e : ∀ k ∈ List.range l.length, l.toArray[((l.length : Int) - 1 + (k : Int) * (-1)).toNat]? = some (l.reverse.getD k .none) := fun k hk => by
    have lt := List.mem_range.mp hk
    have e1 : ((l.length : Int) - 1 + (k : Int) * (-1)).toNat = l.length - 1 - k := by omega
    rw [e1, List.getElem?_toArray, List.getD_eq_getElem?_getD, List.getElem?_reverse lt, List.getElem?_eq_getElem (by omega)]
    rfl
  rw [fm_congr e]
  have e2 : (List.range l.length).filterMap (fun k => some (l.reverse.getD k .none)) = (List.range l.length).map fun k => l.reverse.getD k .none := by
    rw [← List.filterMap_eq_map]
    rfl
  rw [e2]
  refine List.ext_getElem? fun i => ?_
  rw [List.getElem?_map]
  by_cases h : i < l.length
  · rw [List.getElem?_range h, Option.map_some, List.getD_eq_getElem?_getD, List.getElem?_eq_getElem (by rw [List.length_reverse]; exact h)]
    rfl
  · rw [List.getElem?_eq_none (by rw [List.length_range]; omega), List.getElem?_eq_none (by rw [List.length_reverse]; omega)]
    rfl
section
variable {prog : Program} {w : World} {A : Around} {E : Value → Shared → Prop} {s : Shared}
theorem applied_rev {sl : Addr} {vl vu vs : Value} {n : Nat} {Q : Int × Int × Nat → Shared → Prop} (hs : s.heap.IsSliceOf sl vl vu vs) (pl : IsPart vl none) (pu : IsPart vu none) (ps : IsPart vs (some (-1))) (h : Q ((n : Int) - 1, -1, n) s) :
    wpAny (model prog w) A (Builtin.Slice.sliceApplied (.ref sl) (pure (n : Int))) Q E s := by
  obtain ⟨os, hos, hcs, hds⟩ := id hs
  unfold Builtin.Slice.sliceApplied Builtin.Slice.sliceFields
  refine wpAny_bind (wpAny_bind (wpAny_field hos hds (x := vl) rfl (wpAny_bind (wpAny_field hos hds (x := vu) rfl (wpAny_bind (wpAny_field hos hds (x := vs) rfl (wpAny_pure ?_)))))))
  refine wpAny_bind (HT.slicePart_ ps ?_)
  show wpAny _ _ (if ((-1 : Int) == 0) = true then _ else _) _ _ s
  rw [if_neg (by decide)]
  refine wpAny_bind (HT.slicePart_ pl (wpAny_bind (HT.slicePart_ pu (wpAny_bind (wpAny_pure ?_)))))
  show wpAny _ _ (match Builtin.Slice.sliceAdjust none none (-1) (n : Int) with | (lo, hi) => pure (lo, (-1 : Int), Builtin.Slice.slicePlaces lo hi (-1))) _ _ s
  rw [adjust_rev]
  show wpAny _ _ (pure (((n : Int) - 1), (-1 : Int), Builtin.Slice.slicePlaces ((n : Int) - 1) (-1) (-1))) _ _ s
  rw [places_rev]
  exact wpAny_pure h
theorem item_rev {t sl : Addr} {items : List Value} {vl vu vs : Value} {Q : Value → Shared → Prop} (ht : IsTup s.heap t items.toArray) (hs : s.heap.IsSliceOf sl vl vu vs) (pl : IsPart vl none) (pu : IsPart vu none) (ps : IsPart vs (some (-1))) (small : items.length ≤ sizeLine)
    (h : Q (.ref s.heap.objs.size) { s with heap := s.heap.push { cls := .type "tuple", data := .seq items.reverse.toArray } }) : wpAny (model prog w) A (getItem (.ref t) (.ref sl)) Q E s := by
  obtain ⟨os, hos, hcs, hds⟩ := id hs
  have hTs : s.TypeIs (.ref sl) "slice" := ⟨os, hos, hcs⟩
  unfold getItem
  try with_reducible refine wpAny_holding ?_
  first | refine wpAny_bind (wpAny_pure ?_) | skip
  refine wpAny_bind (wpAny_sequenceKey ht.typeIs (by decide) ?_)
  refine wpAny_bind (wpAny_callSpecial?_slot (name := Str.ofString "__getitem__") ht.typeIs PyProof.Rows.slot_tuple_getitem
    (wpAny_call_entry PyProof.Rows.slot_tuple_getitem ht.typeIs PyProof.Rows.entry_tuple_getitem ?_ (PyProof.Rows.args_tuple_getitem _ _)))
  show wpAny _ _ (Builtin.Tuple.tupleItemsOf (.ref t) >>= _) _ _ s
  refine wpAny_bind (PyProof.Rows.tupleItemsOf_ ht ?_)
  refine wpAny_bind (wpAny_typeOf hTs ?_)
  rw [if_pos (by decide)]
  rw [List.size_toArray]
  refine wpAny_bind (applied_rev hs pl pu ps ?_)
  have hno : ((((items.length : Int) - 1) == 0) && ((-1 : Int) == 1) && (items.length == items.length)) = false := by simp
  show wpAny _ _ (if ((((items.length : Int) - 1) == 0) && ((-1 : Int) == 1) && (items.length == items.length)) = true then _ else _) _ _ s
  rw [hno, if_neg Bool.false_ne_true, pick_rev]
  unfold Builtin.Tuple.tupleExact
  refine wpAny_bind (wpAny_newObj_type ?_ (by show items.reverse.toArray.size ≤ sizeLine; rw [List.size_toArray, List.length_reverse]; exact small))
  exact wpAny_pure ⟨_, rfl, wpAny_pure h⟩
end
section
variable {X : Cx}
def tRevB (K : PySem.W.Frag) (te : TE) : TE := fun σ H Q => te σ H fun x H1 => ∃ (t : Bool) (a : Addr) (xs : List V), x = .ref a ∧ SqB K t H1 a xs ∧ (t = true → ∀ p ob, H1 p = none → ob.dict = none → Q (.ref p) (upd H1 p (.frz ob (.tup xs.reverse)))) ∧
  (t = false → ∀ p, H1 p = none → Q (.ref p) (upd H1 p (.lst xs.reverse)))
theorem pe_revB {e : Expr} {te : TE} {k : Nat} {p1 p2 p3 pos : Pos} (he : PE X e te) : PE X (.Subscript e (.Slice none none (some (.UnaryOp .USub (.Constant (.int 1) k p1) p2)) p3) pos) (tRevB X.K te) := by
  refine ⟨fun pins s σ H Q I h => ?_⟩
  refine Subscript_ (thn (he.run pins s σ H _ I h) fun v s1 ⟨x, H1, I1, r1, q1⟩ => ?_)
  obtain ⟨t, a, xs, ex, hx, qt, ql⟩ := q1
  subst ex
  cases r1
  have hst : PO X (some (.UnaryOp .USub (.Constant (.int 1) k p1) p2)) (tPart (tUn (rU fun i => .int (-i)) (tC (.int 1)))) := po_some (pe_un un_neg pe_int)
  refine wpAny_Slice (thn (po_none.run pins s1 σ H1 (fun o H2 => o = none ∧ H2 = H1) I1 ⟨rfl, rfl⟩) fun vl s2 ⟨l, H2, I2, pl, el, e2⟩ => ?_)
  subst el e2
  refine thn (po_none.run pins s2 σ H2 (fun o H3 => o = none ∧ H3 = H2) I2 ⟨rfl, rfl⟩) fun vu s3 ⟨u, H3, I3, pu, eu, e3⟩ => ?_
  subst eu e3
  refine thn (hst.run pins s3 σ H3 (fun o H4 => o = some (-1) ∧ H4 = H3) I3 ⟨1, rfl, -1, rfl, rfl, rfl⟩) fun vs s4 ⟨o, H4, I4, ps, eo, e4⟩ => ?_
  subst eo e4
  have I5 : Inv X pins σ H4 { s4 with heap := s4.heap.push { cls := .type "slice", data := .fields #[vl, vu, vs] } } := I4.kept (t' := s4.toks) fun b ob q => Heap.get?_push_of_some _ q
  show wpAny (model X.prog X.w) X.A (subscriptTail e (.Slice none none (some (.UnaryOp .USub (.Constant (.int 1) k p1) p2)) p3) (.ref a) (.ref s4.heap.objs.size)) (EP X pins σ Q) X.xe { s4 with heap := s4.heap.push { cls := .type "slice", data := .fields #[vl, vu, vs] } }
  cases t
  · obtain ⟨its, r, ht, hz⟩ := I5.list hx
    have hlen := r.length
    refine tail_any (ops := [.ref a, .ref s4.heap.objs.size]) ht.isList.typeIs (PySem.slot_list_getitem.lookup) ?_ (by with_unfolding_all rfl)
    refine wpAny_getItem_list_slice ht.isList (Heap.IsSliceOf.new _ vl vu vs) pl pu ps (by decide) ?_ (by rw [List.size_toArray]; omega)
    rw [PySem.W.krv_pick]
    refine ⟨.ref _, _, I5.laid (t' := s4.toks) (o := .lst xs.reverse) (fun b ob q => Heap.get?_push_of_some _ q) (Nat.le_refl _) ?_, rfl, ql rfl _ (I5.hok.fresh (Nat.le_refl _))⟩
    exact ⟨by rw [List.length_reverse]; exact hz, _, 0, r.reverse, Heap.get?_push_size _ rfl⟩
  · obtain ⟨its, r, ht, hz⟩ := I5.tuple hx
    have hlen := r.length
    refine tail_any (ops := [.ref a, .ref s4.heap.objs.size]) ht.typeIs (PyProof.Rows.slot_tuple_getitem.lookup) ?_ (by with_unfolding_all rfl)
    refine item_rev ht (Heap.IsSliceOf.new _ vl vu vs) pl pu ps (by omega) ?_
    refine ⟨.ref _, _, I5.laid (t' := s4.toks) (o := .frz { cls := .type "tuple", data := .seq its.reverse.toArray } (.tup xs.reverse)) (fun b ob q => Heap.get?_push_of_some _ q) (Nat.le_refl _) ?_, rfl, qt rfl _ _ (I5.hok.fresh (Nat.le_refl _)) rfl⟩
    exact ⟨Heap.get?_push_size _ rfl, by rw [List.length_reverse]; exact hz, _, r.reverse, IsTup.new _ _⟩
abbrev dRev (de : DT) : DT := fun ρ μ P => de ρ μ fun x μ1 => (∃ ds, x = .d (.tuple ds) ∧ P (.d (.tuple ds.reverse)) μ1) ∨ ∃ xs, LstOf x μ1 xs ∧ lcEnd P xs.reverse μ1
theorem pair_rev {R : V → A → Prop} : ∀ {vs : List V} {xs : List A}, Paired R vs xs → Paired R vs.reverse xs.reverse
  | _, _, .nil => .nil
  | _, _, .cons a b => by
    rw [List.reverse_cons, List.reverse_cons]
    exact Paired.app (pair_rev b) (.cons a .nil)
theorem dpall_rev {K : PySem.W.Frag} {F : Hp} {vs : List V} {ds : List PyData} (h : Dl.DpAll K F vs ds) : Dl.DpAll K F vs.reverse ds.reverse := by
  have := pair_rev (DpAll.to (al := []) h)
  rw [← List.map_reverse] at this
  exact DpAll.of this
theorem d_rev {e : Expr} {de : DT} {k : Nat} {p1 p2 p3 pos : Pos} (he : DE X e de) : DE X (.Subscript e (.Slice none none (some (.UnaryOp .USub (.Constant (.int 1) k p1) p2)) p3) pos) (dRev de) := by
  obtain ⟨_, pe, s1⟩ := he.ex
  refine ⟨_, pe_revB pe, fun ρ μ P h F al σ H S L Q kk => s1 ρ μ _ h F al σ H S L _ fun v x μ1 F1 al1 H1 q g S1 a => ?_⟩
  have kk := kk.fwd g
  rcases q with ⟨ds, rfl, q⟩ | ⟨xs, hx, q⟩
  · obtain ⟨p, vs, rfl, e1, e2⟩ := dp_tup a
    refine ⟨true, p, vs, rfl, S1.seqT e1, fun _ p' ob hp hd => ?_, nofun⟩
    obtain ⟨S2, g2⟩ := S1.lay (o := .frz ob (.tup vs.reverse)) hp
    exact kk _ _ μ1 _ _ _ q g2 S2 (.tup (.inl ⟨ob, upd_same, hd⟩) (DpAll.mono g2.f (dpall_rev e2)))
  · obtain ⟨p, vs, rfl, e1, r⟩ := lstOf_ab S1 a hx
    exact ⟨false, p, vs, rfl, e1, nofun, fun _ p' hp => lcEnd_new S1 (pair_rev r) q kk p' hp⟩
end
end Dl
set_option Elab.async false
set_option linter.all false
set_option maxRecDepth 100000
set_option maxHeartbeats 4000000
namespace Dl
open PySem PySem.Spec PyProof.Rows L2
end Dl
set_option Elab.async false
set_option linter.all false
set_option maxRecDepth 100000
set_option maxHeartbeats 4000000
namespace Dl
open PySem PySem.Spec PyProof PyProof.Rows L2
end Dl
set_option Elab.async false
set_option linter.all false
set_option maxRecDepth 100000
set_option maxHeartbeats 4000000
namespace Dl
open PySem PySem.Spec PyProof PyProof.Rows L2
abbrev TX := List (List Key × Addr × V)
abbrev TR : TX → List (List Key × Addr × Value) → Prop := Paired fun x y => x.1 = y.1 ∧ x.2.1 = y.2.1 ∧ RelV x.2.2 y.2.2
def valX (xs : TX) (k : List Key) : Option V := (xs.find? fun x => decide (x.1 = k)).map fun x => x.2.2
def putX (xs : TX) (k : List Key) (b : Addr) (v : V) : TX := if (xs.any fun x => decide (x.1 = k)) = true then xs.map (fun x => if x.1 = k then (x.1, x.2.1, v) else x) else xs ++ [(k, b, v)]
def valT (ks : List (List Key × A)) (k : List Key) : Option A := (ks.find? fun x => decide (x.1 = k)).map fun x => x.2
def putT (ks : List (List Key × A)) (k : List Key) (x : A) : List (List Key × A) := if (ks.any fun p => decide (p.1 = k)) = true then ks.map (fun p => if p.1 = k then (p.1, x) else p) else ks ++ [(k, x)]
theorem TR.val : ∀ {xs : TX} {ys : List (List Key × Addr × Value)}, TR xs ys → ∀ k, RelO (valX xs k) ((atKey ys k).map (·.2))
  | _, _, .nil, _ => True.intro
  | p :: ps, q :: qs, .cons h t, k => by
    have ih := TR.val t k
    by_cases e : p.1 = k
    · have e' : q.1 = k := h.1.symm.trans e
      have b1 : atKey (q :: qs) k = some q.2 := by simp [atKey, List.find?_cons, e']
      have b2 : valX (p :: ps) k = some p.2.2 := by simp [valX, List.find?_cons, e]
      rw [b1, b2]
      exact h.2.2
    · have e' : ¬ q.1 = k := fun z => e (h.1.trans z)
      have b1 : atKey (q :: qs) k = atKey qs k := by simp [atKey, List.find?_cons, e']
      have b2 : valX (p :: ps) k = valX ps k := by simp [valX, List.find?_cons, e]
      rw [b1, b2]
      exact ih
theorem valX_any (xs : TX) (k : List Key) : (xs.any fun x => decide (x.1 = k)) = (valX xs k).isSome := by
  unfold valX
  rw [Option.isSome_map]
  induction xs with
  | nil => rfl
  | cons x xs ih =>
    rw [List.any_cons, List.find?_cons, ih]
    cases decide (x.1 = k) <;> rfl
theorem TR.put {xs : TX} {ys : List (List Key × Addr × Value)} (r : TR xs ys) (k : List Key) (b : Addr) {v : V} {u : Value} (rv : RelV v u) : TR (putX xs k b v) (storedH ys k b u) := by
  have e : (xs.any fun x => decide (x.1 = k)) = (atKey ys k).isSome := by
    rw [valX_any, (r.val k).isSome_eq, Option.isSome_map]
  unfold putX storedH
  rw [e]
  by_cases q : (atKey ys k).isSome = true
  · rw [if_pos q, if_pos q]
    clear e q
    induction r with
    | nil => exact .nil
    | cons h t ih =>
      rw [List.map_cons, List.map_cons]
      refine .cons ?_ ih
      unfold putAt
      rename_i p q' _ _
      by_cases e : p.1 = k
      · rw [if_pos e, if_pos (h.1.symm.trans e)]
        exact ⟨h.1, h.2.1, rv⟩
      · rw [if_neg e, if_neg (fun z => e (h.1.trans z))]
        exact h
  · rw [if_neg q, if_neg q]
    exact Paired.snoc r ⟨rfl, rfl, rv⟩
section
variable {P : Program} {w : World} {H : Hp} {h : Heap} {a b : Addr} {xs : TX}
/-- the object is the dict's own -/
theorem dto_own (ok : ObjOk P w H h b (DTO P w a xs)) : b = a ∧ dtoP P w a xs h := by
  obtain ⟨φ, _, mono⟩ := ok
  refine ⟨Classical.byContradiction fun ne => ?_, φ⟩
  let X : Obj := { cls := .none, data := .fields #[] }
  let h2 : Heap := { h with objs := h.objs.setIfInBounds a X }
  have e : ∀ o, h.get? b = some o → h2.get? b = some o := fun o e => by
    have q : h2.objs[b]? = h.objs[b]? := Array.getElem?_setIfInBounds_ne (fun z => ne z.symm)
    unfold Heap.get? at e ⊢
    rw [q]
    exact e
  obtain ⟨ys, _, o, es, ep, ho, ex, _⟩ := mono h h2 φ e
  have q : h2.objs[a]? = if a < h.objs.size then some X else none := by
    show (h.objs.setIfInBounds a X)[a]? = _
    rw [Array.getElem?_setIfInBounds_self]
  unfold Heap.get? at ho
  rw [q] at ho
  by_cases lt : a < h.objs.size
  · rw [if_pos lt] at ho
    have eo : X = o := Option.some.inj ho
    have := ex.1
    rw [← eo] at this
    cases this
  · rw [if_neg lt] at ho
    cases ho
end
section
variable {X : Cx} {pins : List (Addr × Obj)} {σ : L2.St} {H : Hp} {s : Shared} {a b : Addr} {xs : TX}
theorem key_is (I : Inv X pins σ H s) {k : List Key} (hb : SqT X.K H b (k.map kV)) : (tupleKind (mixKind X.prog X.w)).is s.heap k b := by
  obtain ⟨its, r, ⟨o, h1, h2, n, h3⟩, _⟩ := I.tuple hb
  exact ⟨o, its.toArray, n, h1, h2, h3, by simpa using items_are r⟩
/-- what is needed of the dict at a -/
structure DTat (X : Cx) (H : Hp) (a a0 : Addr) (xs : TX) : Prop where
  at_ : H a = some (DTO X.prog X.w a0 xs)
  ns : (a0 == sysModules) = false
  few : xs.length ≤ sizeLine
  ky : ∀ x ∈ xs, SqT X.K H x.2.1 (x.1.map kV)
theorem TR.mem {xs : TX} {ys : List (List Key × Addr × Value)} (r : TR xs ys) : ∀ y ∈ ys, ∃ x ∈ xs, x.1 = y.1 ∧ x.2.1 = y.2.1 := by
  induction r with
  | nil => exact fun y hy => by cases hy
  | cons h t ih =>
    intro y hy
    rcases List.mem_cons.mp hy with rfl | hy
    · exact ⟨_, List.mem_cons_self .., h.1, h.2.1⟩
    · obtain ⟨x, hx, e⟩ := ih y hy
      exact ⟨x, List.mem_cons_of_mem _ hx, e⟩
theorem DTat.dict {a0 : Addr} (d : DTat X H a a0 xs) (I : Inv X pins σ H s) : a = a0 ∧ ∃ ys, TR xs ys ∧ s.heap.DictOfH (tupleKind (mixKind X.prog X.w)) a ys := by
  obtain ⟨rfl, ys, r, o, es, ep, ho, ex, hd, he, hn⟩ := dto_own (I.hok a _ d.at_)
  refine ⟨rfl, ys, r, o, es, ep, ho, ex, hd, he, fun y hy => ?_, hn⟩
  obtain ⟨x, hx, e1, e2⟩ := TR.mem r y hy
  have := key_is I (d.ky x hx)
  rw [e1, e2] at this
  exact this
end
end Dl
set_option Elab.async false
set_option linter.all false
set_option maxRecDepth 100000
set_option maxHeartbeats 4000000
namespace Dl
open PySem PySem.Spec PyProof PyProof.Rows L2
end Dl
set_option Elab.async false
set_option linter.all false
set_option maxRecDepth 100000
set_option maxHeartbeats 4000000
namespace Dl
open PySem PySem.Spec PyProof.Rows L2
/-- what happens behind a clause: the name, if there is one, is gone -/
def ends0 (io : Option Nat) (D : Ends) : Ends := match io with
  | none => D
  | some i => { nx := fun σ H => D.nx (σ.set i none) H, rt := D.rt, bk := fun σ H => D.bk (σ.set i none) H, ct := fun σ H => D.ct (σ.set i none) H }
def slot0 (io : Option Nat) (a : Addr) (σ : L2.St) : L2.St := match io with
  | none => σ
  | some i => σ.set i (some (.ref a))
abbrev HTS := Addr → Value → Option Addr → TS
def wHd (K : PySem.W.Frag) (Wo : WX) (D : Ends) : List (Value × Option Nat × HTS) → WX
  | [] => Wo
  | (c, io, ts) :: r => fun ct dd σ H => ∃ b, PySem.W.exmOne K ct c = some b ∧ (b = true → ∀ a, H a = none → ts a ct dd (ends0 io D) (slot0 io a σ) (upd H a (ExV ct dd a))) ∧ (b = false → wHd K Wo D r ct dd σ H)
inductive HdL (X : Cx) : List ExceptHandler → List (Value × Option Nat × HTS) → Prop
  | nil : HdL X [] []
  | bare {x : Str} {c : Value} {ts : HTS} {b0 : Stmt} {su : List Stmt} {np pp : Pos} {hds : List ExceptHandler} {l : List (Value × Option Nat × HTS)} (nm : Names X x c)
      (run : ∀ (a : Addr) (ct : Value) (dd : Option Addr) (pn : List (Addr × Obj)), PSs (X.suite a pn) (b0 :: su) (ts a ct dd)) (r : HdL X hds l) :
      HdL X (.ExceptHandler (some (.Name x np)) none (b0 :: su) pp :: hds) ((c, none, ts) :: l)
  | named {x n : Str} {i : Nat} {c : Value} {ts : HTS} {b0 : Stmt} {su : List Stmt} {np pp : Pos} {hds : List ExceptHandler} {l : List (Value × Option Nat × HTS)} (nm : Names X x c) (hi : X.N[i]? = some n) (lo : X.env.kindOf n = some .local)
      (run : ∀ (a : Addr) (ct : Value) (dd : Option Addr) (pn : List (Addr × Obj)), PSs (X.suite a pn) (b0 :: su) (ts a ct dd)) (r : HdL X hds l) :
      HdL X (.ExceptHandler (some (.Name x np)) (some n) (b0 :: su) pp :: hds) ((c, some i, ts) :: l)
section
variable {X : Cx} {pins : List (Addr × Obj)} {σ : L2.St} {H : Hp} {s : Shared}
/-- the caught exception is told by its object from here on -/
theorem inv_track {a : Addr} {oe : Obj} {vs : Array Value} {cls : Value} {d : Option Addr} (I : Inv X pins σ H s) (ha : s.heap.get? a = some oe) (hd : oe.data = .fields vs) (hz : Zc cls d oe) (na : H a = none) (nL : a ≠ X.env.locals)
    (n0 : X.s_0.heap.get? a = none) (np : ∀ p ∈ X.pn ++ pins, p.1 ≠ a) : Inv (X.suite a (X.pn ++ pins)) [] σ (upd H a (ExV cls d a)) s := by
  have new : ObjOk X.prog X.w (upd H a (ExV cls d a)) s.heap a (ExV cls d a) := ⟨⟨oe, vs, ha, hz, hd⟩, ⟨oe, ha⟩, fun _ _ ⟨o, v, q, r⟩ k => ⟨o, v, k o q, r⟩⟩
  refine ⟨I.ok.suite _ _, I.os, I.bare, ⟨I.base.keep, I.base.slot, fun b o e n hx => ?_, I.base.there, fun b xs e => ?_, fun b o x e => ?_, fun b ps e => ?_⟩, I.loc, I.cell, ?_, fun x c e => ?_, fun p hp => ?_, I.hok.laidN (fun _ _ q => q) na new, I.len⟩
  · rw [upd_ne (fun z => by rw [z, n0] at e; cases e)]
    exact I.base.free b o e n hx
  · have q := I.base.tups b xs e
    rw [upd_ne (ne_of_none q na)]
    exact q
  · have q := I.base.frzs b o x e
    rw [upd_ne (ne_of_none q na)]
    exact q
  · obtain ⟨m, q⟩ := I.base.tbls b ps e
    exact ⟨m, by rw [upd_ne (ne_of_none q na)]; exact q⟩
  · rw [upd_ne (Ne.symm nL)]
    exact I.free
  · obtain ⟨v, o, ho, hdc⟩ := I.cell x c e
    rw [upd_ne (fun z => by rw [z, ha] at ho; cases ho; rw [hd] at hdc; cases hdc)]
    exact I.freeC x c e
  · rw [List.append_nil] at hp
    obtain ⟨e, n, r⟩ := I.pin p hp
    exact ⟨e, by rw [upd_ne (np p hp)]; exact n, r⟩
theorem inv_untrack {a : Addr} {pn' : List (Addr × Obj)} (I : Inv (X.suite a (X.pn ++ pins)) pn' σ H s) (ok : X.Ok) : Inv X pins σ H s :=
  ⟨ok, I.os, I.bare, I.base, I.loc, I.cell, I.free, I.freeC, fun p hp => I.pin p (List.mem_append_left _ hp), I.hok, I.len⟩
end
theorem ps_tryN {X : Cx} {bd : List Stmt} {h0 : ExceptHandler} {hds : List ExceptHandler} {l : List (Value × Option Nat × HTS)} {pos : Pos} {tb : WX → TS} {Wo : WX} (hex : X.ex = []) (stk : X.stack = X.env :: X.outer) (fra : X.env.frame = some X.env.locals) (nd : X.N.Nodup) (tk : Takes X Wo)
    (hb : ∀ (W : WX) (pn : List (Addr × Obj)) (xe : Value → Shared → Prop), Takes (X.tr pn xe) W → PassesOwn (model X.prog X.w) X.A X.env xe → PSs (X.tr pn xe) bd (tb W))
    (hh : HdL X (h0 :: hds) l) : PS X (.Try bd (h0 :: hds) [] [] pos) (fun D σ H => tb (wHd X.K Wo D l) D σ H) := by
  constructor
  intro pins s σ H D I h
  have okX := I.ok
  have frm : X.A.frames = some (X.env :: X.outer) := okX.frames.trans (congrArg some stk)
  apply wpAny_Try_except
  let xe0 : Value → Shared → Prop := fun e q1 => wpAny (model X.prog X.w) X.A (noteFrame e X.env) (fun _ q2 => wpAny (model X.prog X.w) X.A (setFlight e none) (fun _ q3 => wpAny (model X.prog X.w) X.A (handleBy e X.env (h0 :: hds)) (SP X pins D) X.xe q3) X.xe q2) X.xe q1
  have body := hb (wHd X.K Wo D l) (X.pn ++ pins) xe0 (fun u z xx => ?caught) PassesOwn.looking
  · refine wpAny_mono (body.run [] s σ H D (I.toTry _) h) (fun fl z hz => ?_) (fun _ _ he => he)
    match fl, hz with
    | .next, ⟨_, _, J, q⟩ => exact wpAny_execs_nil ⟨_, _, J.ofTry okX, q⟩
    | .brk, ⟨_, _, J, q⟩ => exact ⟨_, _, J.ofTry okX, q⟩
    | .cont, ⟨_, _, J, q⟩ => exact ⟨_, _, J.ofTry okX, q⟩
    | .ret u, ⟨_, _, _, J, r, q⟩ => exact ⟨_, _, _, J.ofTry okX, r, q⟩
  case caught =>
    obtain ⟨ad, G, sA, pn2, σ2, H2, ct, dd, rfl, I2, near, upw, air, fresh, same, bare, wish⟩ := xx
    replace I2 : Inv X pins σ2 H2 sA := I2.ofTry okX
    rw [stk] at air
    show wpAny (model X.prog X.w) X.A (noteFrame (.ref ad) X.env) _ _ _
    refine Sky.land Zc.steady frm fra air fun hp fly up => ?_
    have at3 : Inv X pins σ2 H2 { z with heap := hp } := I2.landed near fly.1 (upw.trans up) same bare
    obtain ⟨oe, vs, get, zc, fields⟩ := fly.there
    have notIn : ad ∉ frs (X.env :: X.outer) := fun m => by
      obtain ⟨_, o1, e1, nf⟩ := fly.2.2.1.mem m
      rw [get] at e1
      cases e1
      exact nf _ fields
    have neL : ad ≠ X.env.locals := fun y => notIn (List.mem_filterMap.mpr ⟨X.env, List.mem_cons_self, by rw [fra, y]⟩)
    have neF : ad ∉ X.fs := fun m => by
      obtain ⟨e, he, q⟩ := List.mem_filterMap.mp m
      exact notIn (List.mem_filterMap.mpr ⟨e, List.mem_cons_of_mem _ he, q⟩)
    have su3 := at3.suite get fields fresh neL neF
    have nB : G.get? ad = none := fly.2.1
    have nA : sA.heap.get? ad = none := by
      cases e : sA.heap.get? ad with
      | none => rfl
      | some o =>
        rw [near ad o e (by rw [stk]; exact notIn)] at nB
        cases nB
    have n0 : X.s_0.heap.get? ad = none := by
      cases e : X.s_0.heap.get? ad with
      | none => rfl
      | some o =>
        obtain ⟨u, q⟩ := I2.base.there ad o e (by rw [hex]; exact List.not_mem_nil)
        rw [nA] at q
        cases q
    have npp : ∀ p ∈ X.pn ++ pins, p.1 ≠ ad := fun p hp e => by
      have := (I2.pin p hp).1
      rw [e, nA] at this
      cases this
    have look : PySem.W.Looks (model X.prog X.w) hp (typeOf (.ref ad)) ct := fun _ _ _ _ k q => wpAny_typeOf_ref (k _ _ get) (by rw [zc.1]; exact q)
    have test : ∀ {x : Str} {c : Value} {np : Pos} {Q : Value → Shared → Prop} {E : Value → Shared → Prop}, Names X x c → Q c { z with heap := hp } → wpAny (model X.prog X.w) (X.A.mark (some (.ref ad))) (eval (.Name x np) X.env) Q E { z with heap := hp } := by
      intro x c np Q E nm q
      obtain ⟨gl, db, mx | ⟨mx, bo, ne⟩⟩ := nm
      · exact ld_glob (X := X.suite ad ((ad, oe) :: (X.pn ++ pins))) su3 gl mx q db
      · exact ld_blt (X := X.suite ad ((ad, oe) :: (X.pn ++ pins))) su3 gl mx bo q ne db
    have pass : Wo ct dd σ2 H2 → wpAny (model X.prog X.w) X.A (handleBy (.ref ad) X.env []) (SP X pins D) X.xe { z with heap := hp } := by
      intro w
      apply wpAny_handleBy_nil
      obtain ⟨_, _, _, o1, v1, T, _, _, g1, _, d1, t1, _⟩ := id fly
      unfold PySem.passOn
      refine wpAny_bind (wpAny_field g1 d1 t1 ?_)
      rw [if_neg (show ¬ ((Value.ref T == Value.none) = true) by simp)]
      have out : wpAny (model X.prog X.w) X.A (setFlight (.ref ad) X.env.frame) (fun _ q4 => wpAny (model X.prog X.w) X.A (throw (.ref ad) : Sem Flow) (SP X pins D) X.xe q4) X.xe { z with heap := hp } := by
        rw [fra]
        exact HandSPX.setFlight_upZ fly fun _ hh4 up4 => wpAny_throw (tk _ _ ⟨ad, G, sA, pins, σ2, H2, ct, dd, rfl, I2, near, (upw.trans up).trans up4, .inr (.inr (by rw [stk]; exact hh4)), fresh, same, bare, w⟩)
      first
        | exact wpAny_bind (wpAny_pure (wpAny_bind out))
        | exact wpAny_bind out
    have all : ∀ {hs2 : List ExceptHandler} {l2 : List (Value × Option Nat × HTS)}, HdL X hs2 l2 → wHd X.K Wo D l2 ct dd σ2 H2 → wpAny (model X.prog X.w) X.A (handleBy (.ref ad) X.env hs2) (SP X pins D) X.xe { z with heap := hp } := by
      intro hs2 l2 hk
      induction hk with
      | nil => exact pass
      | @bare x c ts b0 su np pp hs3 l3 nm run r ih =>
        rintro ⟨b, m1, yes, no⟩
        refine wpAny_handleBy_cons (codeAny_handlers_test (test nm ((PySem.W.exm_one (M := model X.prog X.w) at3.kIn look m1).here ?_))) (by intro q; cases q)
        cases b with
        | false => exact ih (no rfl)
        | true =>
          apply codeAny_handlers_suite
          refine HandSPX.lands_againZ fly fun h4 fly4 up4 => ?_
          have at4 : Inv X pins σ2 H2 { z with heap := h4 } := I2.landed near fly4.1 ((upw.trans up).trans up4) same bare
          obtain ⟨o4, v4, g4, z4, d4⟩ := fly4.there
          refine wpAny_mono ((run ad ct dd (X.pn ++ pins)).run [] _ _ _ _ (inv_track at4 g4 d4 z4 fresh neL n0 npp) (yes rfl ad fresh)) (fun fl q1 hq => ?_) (fun _ _ y => False.elim y)
          match fl, hq with
          | .next, ⟨_, _, J, q⟩ => exact ⟨_, _, inv_untrack J okX, q⟩
          | .brk, ⟨_, _, J, q⟩ => exact ⟨_, _, inv_untrack J okX, q⟩
          | .cont, ⟨_, _, J, q⟩ => exact ⟨_, _, inv_untrack J okX, q⟩
          | .ret u, ⟨_, _, _, J, r1, q⟩ => exact ⟨_, _, _, inv_untrack J okX, r1, q⟩
      | @named x n i c ts b0 su np pp hs3 l3 nm hi lo run r ih =>
        rintro ⟨b, m1, yes, no⟩
        refine wpAny_handleBy_cons (codeAny_handlers_test (test nm ((PySem.W.exm_one (M := model X.prog X.w) at3.kIn look m1).here ?_))) (by intro q; cases q)
        cases b with
        | false => exact ih (no rfl)
        | true =>
          apply codeAny_handlers_suite_as
          refine HandSPX.lands_againZ fly fun h4 fly4 up4 => ?_
          have at4 : Inv X pins σ2 H2 { z with heap := h4 } := I2.landed near fly4.1 ((upw.trans up).trans up4) same bare
          obtain ⟨o4, v4, g4, z4, d4⟩ := fly4.there
          refine store_ok (X := X.suite ad (X.pn ++ pins)) (v := .ref ad) (inv_track at4 g4 d4 z4 fresh neL n0 npp) nd hi (.inl lo) rfl (fun q5 S5 => ?_) (.inr lo)
          have gone : ∀ {σ6 : L2.St} {H6 : Hp} {q6 : Shared} {Q : Shared → Prop}, Inv (X.suite ad (X.pn ++ pins)) [] σ6 H6 q6 → (∀ q7, Inv X pins (σ6.set i none) H6 q7 → Q q7) →
              wpAny (model X.prog X.w) X.A (do bindName X.env n .none; unbindBehindTheSuite X.env n pp) (fun _ q7 => Q q7) X.xe q6 := fun S6 hq => gone_ok (inv_untrack S6 okX) nd hi lo hq
          refine wpAny_mono ((run ad ct dd (X.pn ++ pins)).run [] q5 _ _ _ S5 (yes rfl ad fresh)) (fun fl q1 hq => ?_) (fun _ _ y => False.elim y)
          match fl, hq with
          | .next, ⟨_, _, J, q⟩ => exact gone J fun _ J7 => ⟨_, _, J7, q⟩
          | .brk, ⟨_, _, J, q⟩ => exact gone J fun _ J7 => ⟨_, _, J7, q⟩
          | .cont, ⟨_, _, J, q⟩ => exact gone J fun _ J7 => ⟨_, _, J7, q⟩
          | .ret u, ⟨_, _, _, J, r1, q⟩ => exact gone J fun _ J7 => ⟨_, _, _, J7, r1, q⟩
    exact all hh wish
end Dl
set_option Elab.async false
set_option linter.all false
set_option maxRecDepth 100000
set_option maxHeartbeats 4000000
namespace Dl
open PySem PySem.Spec PyProof.Rows L2
def veT : List Value := [.type "ValueError", .type "Exception", .type "BaseException", .type "object"]
def errV (mg : Str → Option Value) (x : Str) : Value := (mg x).getD .none
def same (x y : Str) : Bool := decide (x = y) || decide (y = "PostError")
/-- what is asked of a class's written part -/
def chkC (K : PySem.W.Frag) (C : Addr) : Bool :=
  decide (PySem.W.findIn K (.ref C) "__getattribute__" = some (some (.builtin "BaseException.__getattribute__"))) && (decide (PySem.W.findIn K (.ref C) "__getattr__" = some none) && (decide (PySem.W.subIn K (.ref C) (.type "BaseException") = some true) &&
  (PySem.W.hasDictIn K C && (decide (PySem.W.findIn K (.ref C) "__class__" = some (some (.builtin "object.__class__"))) && (decide (PySem.W.specialIn K (.builtin "object.__class__") "__get__" = some (some (.builtin "getset_descriptor.__get__"))) &&
  (decide (PySem.W.takesIn K (.builtin "object.__class__") = some true) && (decide (PySem.W.mroIn K C (.type "object") = some true) && (PySem.W.keepIn K (.ref C) && (decide (PySem.W.typeIn K (.ref C) = some (.type "type")) && PySem.W.excIn K C veT "ValueError.__new__")))))))))
structure ErrC (K : PySem.W.Frag) (C : Addr) : Prop where
  ec : ExcC K C
  kp : PySem.W.keepIn K (.ref C) = true
  ty : PySem.W.typeIn K (.ref C) = some (.type "type")
  ei : PySem.W.excIn K C veT "ValueError.__new__" = true
theorem chkC_ok {K : PySem.W.Frag} {C : Addr} (h : chkC K C = true) : ErrC K C := by
  unfold chkC at h
  simp only [Bool.and_eq_true, decide_eq_true_eq] at h
  obtain ⟨h1, h2, h3, h4, h5, h6, h7, h8, h9, h10, h11⟩ := h
  exact ⟨⟨h1, h2, h3, h4, h5, h6, h7, h8⟩, h9, h10, h11⟩
structure ErrOk (K : PySem.W.Frag) (mg : Str → Option Value) (es : List Str) : Prop where
  cls : ∀ x ∈ es, ∃ C, mg x = some (.ref C) ∧ ErrC K C
  mat : ∀ x ∈ es, ∀ y ∈ es, PySem.W.exmOne K (errV mg x) (errV mg y) = some (same x y)
  isi : ∀ x ∈ es, ∀ y ∈ es, PySem.W.kitOne K (errV mg x) (errV mg y) = some (same x y)
  isv : ∀ x ∈ es, PySem.W.kitOne K (errV mg x) (.type "ValueError") = some true
theorem errV_of {mg : Str → Option Value} {x : Str} {C : Addr} (h : mg x = some (.ref C)) : errV mg x = .ref C := by
  unfold errV
  rw [h] <;> rfl
/-- all pairs of a table -/
def chkP (K : PySem.W.Frag) (l : List (Str × Addr)) : Bool := l.all fun p => chkC K p.2 && (decide (PySem.W.subIn K (.ref p.2) (.type "ValueError") = some true) && l.all fun q => decide (PySem.W.subIn K (.ref p.2) (.ref q.2) = some (same p.1 q.1)) && (same p.1 q.1 || !decide (p.2 = q.2)))
theorem kit_ref {K : PySem.W.Frag} {A B : Addr} {b : Bool} (hd : PySem.W.hasDictIn K B = true) (ht : PySem.W.typeIn K (.ref B) = some (.type "type")) (hs : PySem.W.subIn K (.ref A) (.ref B) = some b) (hb : A = B → b = true) : PySem.W.kitOne K (.ref A) (.ref B) = some b := by
  unfold PySem.W.kitOne
  by_cases e : A = B
  · subst e
    rw [if_pos (by simp), hb rfl]
  · rw [if_neg (by simpa using e)]
    obtain ⟨cd, hc, _⟩ := PySem.W.any_some hd
    show (if ((PySem.W.clsIn K B).isSome && PySem.W.typeIn K (.ref B) == some (.type "type")) = true then PySem.W.subIn K (.ref A) (.ref B) else none) = some b
    rw [if_pos (by rw [hc, ht]; rfl)]
    exact hs
theorem kit_VE {K : PySem.W.Frag} {A : Addr} {b : Bool} (hs : PySem.W.subIn K (.ref A) (.type "ValueError") = some b) : PySem.W.kitOne K (.ref A) (.type "ValueError") = some b := by
  show (if PySem.W.kitMeta "ValueError" = true then PySem.W.subIn K (.ref A) (.type "ValueError") else none) = some b
  rw [if_pos (by decide +kernel)]
  exact hs
theorem err_mk {K : PySem.W.Frag} {mg : Str → Option Value} (l : List (Str × Addr)) (hm : ∀ p ∈ l, mg p.1 = some (.ref p.2)) (ck : chkP K l = true) : ErrOk K mg (l.map (·.1)) := by
  unfold chkP at ck
  rw [List.all_eq_true] at ck
  have c1 : ∀ p ∈ l, ErrC K p.2 := fun p hp => by
    have := ck p hp
    rw [Bool.and_eq_true] at this
    exact chkC_ok this.1
  have c2 : ∀ p ∈ l, PySem.W.subIn K (.ref p.2) (.type "ValueError") = some true := fun p hp => by
    have := ck p hp
    rw [Bool.and_eq_true, Bool.and_eq_true] at this
    exact of_decide_eq_true this.2.1
  have c3 : ∀ p ∈ l, ∀ q ∈ l, PySem.W.subIn K (.ref p.2) (.ref q.2) = some (same p.1 q.1) ∧ (p.2 = q.2 → same p.1 q.1 = true) := fun p hp q hq => by
    have := ck p hp
    rw [Bool.and_eq_true, Bool.and_eq_true, List.all_eq_true] at this
    have := this.2.2 q hq
    rw [Bool.and_eq_true, Bool.or_eq_true] at this
    refine ⟨of_decide_eq_true this.1, fun e => this.2.resolve_right fun z => ?_⟩
    rw [decide_eq_true e] at z
    cases z
  refine ⟨fun x hx => ?_, fun x hx y hy => ?_, fun x hx y hy => ?_, fun x hx => ?_⟩
  · obtain ⟨p, hp, rfl⟩ := List.mem_map.mp hx
    exact ⟨p.2, hm p hp, c1 p hp⟩
  · obtain ⟨p, hp, rfl⟩ := List.mem_map.mp hx
    obtain ⟨q, hq, rfl⟩ := List.mem_map.mp hy
    rw [errV_of (hm p hp), errV_of (hm q hq)]
    exact PySem.W.exm_ref (c1 q hq).ec.hs (c1 q hq).ec.hd (c1 q hq).ty (c3 p hp q hq).1
  · obtain ⟨p, hp, rfl⟩ := List.mem_map.mp hx
    obtain ⟨q, hq, rfl⟩ := List.mem_map.mp hy
    rw [errV_of (hm p hp), errV_of (hm q hq)]
    exact kit_ref (c1 q hq).ec.hd (c1 q hq).ty (c3 p hp q hq).1 (c3 p hp q hq).2
  · obtain ⟨p, hp, rfl⟩ := List.mem_map.mp hx
    rw [errV_of (hm p hp)]
    exact kit_VE (c2 p hp)
abbrev DTX := Rho → Mu → DK → DX → Prop
def SimX (K : PySem.W.Frag) (W : WX) (t : TE) (dx : DTX) : Prop := ∀ ρ μ P Ex, dx ρ μ P Ex → ∀ F al σ H, Sto K F al μ H → Slots K F al σ ρ → ∀ Q, Ko K F al H P Q → KoX K F al H Ex (WE W σ) → t σ H Q
structure DEX (X : Cx) (W : WX) (e : Expr) (dx : DTX) : Prop where
  ex : ∃ t, PE X e t ∧ SimX X.K W t dx
section
variable {X : Cx} {W : WX} {k : Nat} {R : DR} {x : Str} {p pos spos : Pos} {c e a b : Expr} {es : List Expr} {da : DAT} {ks : List Str} {kws : List Keyword} {de db : DT} {dx dy : DTX} {dc : DTT}
abbrev dxFn (R : DR) (da : DAT) : DTX := fun ρ μ P Ex => da ρ μ fun xs μ1 => R xs μ1 P Ex
theorem dx_cal (C : CalG X.prog X.w X.K X.mg X.base x k R) (tk : Takes X W) (g : Calm0 X.A) (hr : Room k X.A) (ha : DA X (e :: es) da) (gl : Gl X x := by rfl)
    (dbg : (x == ("__debug__" : Str)) = false := by decide) (se : starEach (e :: es) X.env = (false, eval e X.env) :: starEach es X.env := by rfl) (sp0 : (backTo pos (starEach es X.env)).any (·.1) = false := by rfl) : DEX X W (.Call (.Name x p) (e :: es) [] pos) (dxFn (FR R) da) := by
  obtain ⟨f, fd, ps, ds, dvs, das, R', mx, kp, b, dv, dd, F, im⟩ := C.ex
  obtain ⟨_, p2, s2⟩ := ha.ex
  refine ⟨_, pe_callG (Er := WE W) F g hr gl mx kp b dv (passAt tk) p2 dbg se sp0, fun ρ μ P Ex h Fh al σ H S L Q kk kx => ?_⟩
  refine s2 ρ μ _ h Fh al σ H S L _ fun vs xs μ1 F1 al1 H1 q g1 S1 a => ?_
  exact frame_imp _ _ _ _ ⟨xs ++ das.map A.d, μ1, P, Ex, F1, al1, S1, Paired.app a (DpAll.to (dd F1)), FR.add im q, kk.fwd g1, kx.fwd g1⟩
theorem KoS.exs {K : PySem.W.Frag} {F : Hp} {al : List Addr} {H : Hp} {D : DEnds} {E : Ends} {ρ : Rho} {σ : L2.St} (kk : KoS K W F al H D E) (L : Slots K F al σ ρ) : KoX K F al H (fun C o μ1 => D.ex C o ρ μ1) (WE W σ) := fun C o μ' F' al' H' d h g S x => kk.ex C o ρ μ' F' al' σ H' d h g S (g.slots L) x
abbrev dsExprY (dx : DTX) : DS := fun D ρ μ => dx ρ μ (fun _ μ1 => D.nx ρ μ1) fun C o μ1 => D.ex C o ρ μ1
theorem ds_exprY (h : DEX X W e dx) (hs : swapsWith e none pos.line X.env = pure false := by rfl) : DSt X W (.Expr e pos) (dsExprY dx) := by
  obtain ⟨_, p, s⟩ := h.ex
  exact ⟨_, ps_expr p hs, fun ρ μ D h F al σ H S L E kk => s ρ μ _ _ h F al σ H S L _ (fun v x μ1 F1 al1 H1 q g S1 a => kk.nx _ _ _ _ _ _ q g S1 (g.slots L)) (kk.exs L)⟩
abbrev dsRaiseN (mg : Str → Option Value) (x : Str) (de : DT) : DS := fun D ρ μ => de ρ μ fun _ μ1 => D.ex (errV mg x) none ρ μ1
theorem ds_raiseN {xs : List Str} (hc : X.calm = true) (tk : Takes X W) (Er : ErrOk X.K X.mg xs) (hx : x ∈ xs) (h : DE X e de) (hg : Gl X x := by rfl)
    (hs : starEach [e] X.env = (false, eval e X.env) :: starEach [] X.env := by rfl) (hdb : (x == ("__debug__" : Str)) = false := by decide) : DSt X W (.Raise (some (.Call (.Name x p) [e] [] pos)) none spos) (dsRaiseN X.mg x de) := by
  obtain ⟨C, mx, T⟩ := Er.cls x hx
  have := ds_raise1 (p := p) (pos := pos) (spos := spos) hc tk PySem.F.excBase_ValueError T.ei mx T.kp (raises_own T.ec.hs T.ty) h hg hs hdb
  unfold dsRaiseN
  rw [errV_of mx]
  exact this
end
abbrev DHS := Addr → Str → DS
def dEnd0 (io : Option Nat) (D : DEnds) : DEnds := match io with
  | none => { nx := D.nx, rt := D.rt, bk := D.bk, ct := D.ct }
  | some i => { nx := fun ρ μ => D.nx (ρ.set i none) μ, rt := D.rt, bk := fun ρ μ => D.bk (ρ.set i none) μ, ct := fun ρ μ => D.ct (ρ.set i none) μ }
def dSlot0 (mg : Str → Option Value) (io : Option Nat) (a : Addr) (xn : Str) (ρ : Rho) : Rho := match io with
  | none => ρ
  | some i => ρ.set i (some (.x a (errV mg xn) none none))
def dHd (mg : Str → Option Value) (D : DEnds) : List (Str × Option Nat × DHS) → Str → Rho → Mu → Prop
  | [] => fun xn ρ μ => D.ex (errV mg xn) none ρ μ
  | (y, io, ds) :: r => fun xn ρ μ => if same xn y = true then ∀ a, ds a xn (dEnd0 io D) (dSlot0 mg io a xn ρ) μ else dHd mg D r xn ρ μ
inductive HdD (X : Cx) (xs : List Str) : List ExceptHandler → List (Str × Option Nat × DHS) → Prop
  | nil : HdD X xs [] []
  | bare {x : Str} {ds : DHS} {b0 : Stmt} {su : List Stmt} {np pp : Pos} {hds : List ExceptHandler} {l : List (Str × Option Nat × DHS)} (hx : x ∈ xs)
      (run : ∀ (a : Addr) (xn : Str) (pn : List (Addr × Obj)), xn ∈ xs → DSs (X.suite a pn) (fun _ _ _ _ => False) (b0 :: su) (ds a xn)) (r : HdD X xs hds l) (gl : Gl X x := by rfl) (dbg : (x == ("__debug__" : Str)) = false := by decide) :
      HdD X xs (.ExceptHandler (some (.Name x np)) none (b0 :: su) pp :: hds) ((x, none, ds) :: l)
  | named {x n : Str} {i : Nat} {ds : DHS} {b0 : Stmt} {su : List Stmt} {np pp : Pos} {hds : List ExceptHandler} {l : List (Str × Option Nat × DHS)} (hx : x ∈ xs)
      (run : ∀ (a : Addr) (xn : Str) (pn : List (Addr × Obj)), xn ∈ xs → DSs (X.suite a pn) (fun _ _ _ _ => False) (b0 :: su) (ds a xn)) (r : HdD X xs hds l) (hi : X.N[i]? = some n := by rfl) (lo : X.env.kindOf n = some .local := by rfl) (gl : Gl X x := by rfl) (dbg : (x == ("__debug__" : Str)) = false := by decide) :
      HdD X xs (.ExceptHandler (some (.Name x np)) (some n) (b0 :: su) pp :: hds) ((x, some i, ds) :: l)
/-- a suite's reading: the strongest -/
def tsOf (K : PySem.W.Frag) (mg : Str → Option Value) (xs : List Str) (ds : DHS) : HTS := fun a ct dd D σ H => ∃ xn ρ μ Dd F al, xn ∈ xs ∧ ct = errV mg xn ∧ dd = none ∧ ds a xn Dd ρ μ ∧ Sto K F al μ H ∧ Slots K F al σ ρ ∧ KoS K (fun _ _ _ _ => False) F al H Dd D
theorem hd_of {X : Cx} {xs : List Str} (Er : ErrOk X.K X.mg xs) : ∀ {hds : List ExceptHandler} {l : List (Str × Option Nat × DHS)}, HdD X xs hds l → HdL X hds (l.map fun q => (errV X.mg q.1, q.2.1, tsOf X.K X.mg xs q.2.2)) := by
  have go : ∀ {ds : DHS} {b0 : Stmt} {su : List Stmt}, (∀ (a : Addr) (xn : Str) (pn : List (Addr × Obj)), xn ∈ xs → DSs (X.suite a pn) (fun _ _ _ _ => False) (b0 :: su) (ds a xn)) →
      ∀ (a : Addr) (ct : Value) (dd : Option Addr) (pn : List (Addr × Obj)), PSs (X.suite a pn) (b0 :: su) (tsOf X.K X.mg xs ds a ct dd) := fun {ds b0 su} run a ct dd pn => by
    refine ⟨fun pins s σ H D I h => ?_⟩
    obtain ⟨xn, ρ, μ, Dd, F, al, hx, rfl, rfl, hd, S, L, kk⟩ := h
    obtain ⟨t, pt, sm⟩ := (run a xn pn hx).ex
    exact pt.run pins s σ H D I (sm ρ μ Dd hd F al σ H S L D kk)
  have nm : ∀ {x : Str}, x ∈ xs → Gl X x → (x == ("__debug__" : Str)) = false → Names X x (errV X.mg x) := fun {x} hx gl dbg => by
    obtain ⟨C, mx, _⟩ := Er.cls x hx
    exact ⟨gl, dbg, .inl (by rw [errV_of mx]; exact mx)⟩
  intro hds l h
  induction h with
  | nil => exact .nil
  | bare hx run r gl dbg ih => exact .bare (nm hx gl dbg) (go run) ih
  | named hx run r hi lo gl dbg ih => exact .named (nm hx gl dbg) hi lo (go run) ih
theorem HdD.sub {X : Cx} {xs : List Str} {hds : List ExceptHandler} {l : List (Str × Option Nat × DHS)} (h : HdD X xs hds l) : ∀ q ∈ l, q.1 ∈ xs := by
  induction h with
  | nil => exact fun _ hq => by cases hq
  | bare hx run r gl dbg ih =>
    intro q hq
    rcases List.mem_cons.mp hq with rfl | hq
    · exact hx
    · exact ih q hq
  | named hx run r hi lo gl dbg ih =>
    intro q hq
    rcases List.mem_cons.mp hq with rfl | hq
    · exact hx
    · exact ih q hq
theorem Slots.unset {K : PySem.W.Frag} {F : Hp} {al : List Addr} {σ : L2.St} {ρ : Rho} {i : Nat} (L : Slots K F al σ ρ) : Slots K F al (σ.set i none) (ρ.set i none) := by
  refine ⟨by rw [List.length_set, List.length_set]; exact L.len, fun j x e => ?_⟩
  by_cases z : j = i
  · subst z
    by_cases lt : j < ρ.length
    · rw [List.getElem?_set_self lt] at e
      cases e
    · rw [List.getElem?_eq_none (by rw [List.length_set]; omega)] at e
      cases e
  · rw [List.getElem?_set_ne (Ne.symm z)] at e
    rw [List.getElem?_set_ne (Ne.symm z)]
    exact L.at_ j x e
theorem KoS.end0 {K : PySem.W.Frag} {W : WX} {F : Hp} {al : List Addr} {H : Hp} {D : DEnds} {E : Ends} {io : Option Nat} (kk : KoS K W F al H D E) : KoS K (fun _ _ _ _ => False) F al H (dEnd0 io D) (ends0 io E) := by
  cases io with
  | none => exact ⟨kk.nx, kk.rt, kk.bk, kk.ct, fun _ _ _ _ _ _ _ _ _ h => h.elim⟩
  | some i => exact ⟨fun _ _ _ _ _ _ h g S L => kk.nx _ _ _ _ _ _ h g S L.unset, kk.rt, fun _ _ _ _ _ _ h g S L => kk.bk _ _ _ _ _ _ h g S L.unset, fun _ _ _ _ _ _ h g S L => kk.ct _ _ _ _ _ _ h g S L.unset, fun _ _ _ _ _ _ _ _ _ h => h.elim⟩
abbrev dTry (mg : Str → Option Value) (xs : List Str) (l : List (Str × Option Nat × DHS)) (db : DS) : DS := fun D => db { nx := D.nx, rt := D.rt, bk := D.bk, ct := D.ct, ex := fun C o ρ μ => ∃ xn ∈ xs, C = errV mg xn ∧ o = none ∧ dHd mg D l xn ρ μ }
theorem ds_try {X : Cx} {Wo : WX} {bd : List Stmt} {h0 : ExceptHandler} {hds : List ExceptHandler} {l : List (Str × Option Nat × DHS)} {pos : Pos} {db : DS} {xs : List Str} (hex : X.ex = []) (stk : X.stack = X.env :: X.outer) (fra : X.env.frame = some X.env.locals) (nd : X.N.Nodup) (tk : Takes X Wo)
    (Er : ErrOk X.K X.mg xs)
    (hb : ∀ (W : WX) (pn : List (Addr × Obj)) (xe : Value → Shared → Prop), Takes (X.tr pn xe) W → PassesOwn (model X.prog X.w) X.A X.env xe → DSs (X.tr pn xe) W bd db)
    (hh : HdD X xs (h0 :: hds) l) : DSt X Wo (.Try bd (h0 :: hds) [] [] pos) (dTry X.mg xs l db) := by
  let tb : WX → TS := fun W D σ H => ∃ ρ μ Dd F al, db Dd ρ μ ∧ Sto X.K F al μ H ∧ Slots X.K F al σ ρ ∧ KoS X.K W F al H Dd D
  refine ⟨_, ps_tryN (tb := tb) hex stk fra nd tk (fun W pn xe tk2 po => ⟨fun pins s σ H D I h => ?_⟩) (hd_of Er hh), fun ρ μ D h F al σ H S L E kk => ?_⟩
  · obtain ⟨ρ, μ, Dd, F, al, hd, S, L, kk⟩ := h
    obtain ⟨t, pt, sm⟩ := (hb W pn xe tk2 po).ex
    exact pt.run pins s σ H D I (sm ρ μ Dd hd F al σ H S L D kk)
  · refine ⟨ρ, μ, _, F, al, h, S, L, ⟨kk.nx, kk.rt, kk.bk, kk.ct, fun C o ρ' μ' F' al' σ' H' d hx g S' L' xo => ?_⟩⟩
    obtain ⟨xn, hxn, rfl, rfl, hx⟩ := hx
    have hd : d = none := by
      cases d with
      | none => rfl
      | some _ => exact xo.elim
    subst hd
    have all : ∀ l : List (Str × Option Nat × DHS), (∀ q ∈ l, q.1 ∈ xs) → dHd X.mg D l xn ρ' μ' → wHd X.K Wo E (l.map fun q => (errV X.mg q.1, q.2.1, tsOf X.K X.mg xs q.2.2)) (errV X.mg xn) none σ' H' := by
      intro l
      induction l with
      | nil => exact fun _ hx => kk.ex _ none ρ' μ' F' al' σ' H' none hx g S' L' trivial
      | cons q l ih =>
        intro hq hx
        obtain ⟨y, io, ds⟩ := q
        refine ⟨same xn y, Er.mat xn hxn y (hq _ List.mem_cons_self), fun e a na => ?_, fun e => ?_⟩
        · unfold dHd at hx
          rw [if_pos e] at hx
          obtain ⟨S2, g2⟩ := S'.lay (o := ExV (errV X.mg xn) none a) na
          refine ⟨xn, _, μ', _, _, al', hxn, rfl, rfl, hx a, S2, ?_, ((kk.fwd g).fwd g2).end0⟩
          have L2 := g2.slots L'
          cases io with
          | none => exact L2
          | some i => exact L2.set (v := .ref a) (x := .x a (errV X.mg xn) none none) ⟨rfl, trivial, upd_same⟩
        · unfold dHd at hx
          rw [if_neg (by rw [e]; exact Bool.false_ne_true)] at hx
          exact ih (fun q hm => hq q (List.mem_cons_of_mem _ hm)) hx
    exact all l hh.sub hx
section
variable {X : Cx} {xs : List Str} {y : Str} {p p1 p2 pos : Pos} {e : Expr} {de : DT}
theorem d_cls {X : Cx} {C : Addr} {y : Str} {pos : Pos} (my : X.mg y = some (.ref C)) (hg : Gl X y) (hd : (y == ("__debug__" : Str)) = false) : DE X (.Name y pos) (dC (.v (.ref C))) :=
  ⟨_, ⟨fun pins s σ H Q I h => ld_glob I hg my ⟨.ref C, H, I, rfl, h⟩ hd⟩, sim_c (v := .ref C) fun _ _ => rfl⟩
/-- isinstance(e, c), e a tracked exception, or None -/
def rIsT (K : PySem.W.Frag) : List V → Hp → VK → Prop := fun xs H Q => ∃ (v c : V) (cv : Value) (b : Bool), xs = [v, c] ∧ (∀ u, RelV c u → u = cv) ∧ ((∃ a D, v = .ref a ∧ H a = some (ExV (.ref D) none a) ∧ ExcC K D ∧ PySem.W.kitOne K (.ref D) cv = some b) ∨ (v = .non ∧ PySem.W.kitOne K (.type "NoneType") cv = some b)) ∧ Q (.bl b) H
theorem call_isT {X : Cx} : CallR X (.builtin "isinstance") (rIsT X.K) := by
  intro pins s σ H xs us Q I r h
  obtain ⟨v, c, cv, b, rfl, hcv, e, q⟩ := h
  cases r with
  | cons rx rr =>
    cases rr with
    | cons rt rr =>
      cases rr
      have ec := hcv _ rt
      subst ec
      rcases e with ⟨a, D, rfl, ha, C, e⟩ | ⟨rfl, e⟩
      · cases rx
        obtain ⟨⟨oe, vs, hget, hz, hv⟩, _⟩ := I.hok a _ ha
        have J : PySem.W.InstAt s.heap a oe D none := by
          obtain ⟨oc, od, oda, osl⟩ := oe
          obtain ⟨h1, h2⟩ := hz
          dsimp only at h1 h2 hv
          subst h1 h2 hv
          exact ⟨hget, rfl, rfl, trivial⟩
        exact PySem.W.kia_one (PySem.W.handS_kitx_exc C.hg C.hk C.hs C.hd C.ha C.hn C.ht C.hm) I.kIn J e (fun z => nomatch z) fun tk => ⟨.bl b, H, I.kept (t' := tk) fun _ _ z => z, rfl, q⟩
      · cases rx
        exact PySem.W.kia_one PySem.W.kitx_none I.kIn trivial e (fun z => nomatch z) fun tk => ⟨.bl b, H, I.kept (t' := tk) fun _ _ z => z, rfl, q⟩
theorem kit_none {K : PySem.W.Frag} {C : Addr} (hd : PySem.W.hasDictIn K C = true) (ht : PySem.W.typeIn K (.ref C) = some (.type "type")) : PySem.W.kitOne K (.type "NoneType") (.ref C) = some false := by
  unfold PySem.W.kitOne
  rw [if_neg (by simp)]
  obtain ⟨cd, hc, _⟩ := PySem.W.any_some hd
  show (if ((PySem.W.clsIn K C).isSome && PySem.W.typeIn K (.ref C) == some (.type "type")) = true then PySem.W.subIn K (.type "NoneType") (.ref C) else none) = some false
  rw [if_pos (by rw [hc, ht]; rfl)]
  rfl
/-- a caught exception: of which class; or None -/
abbrev dIsE (mg : Str → Option Value) (xs : List Str) (y : Str) (de : DT) : DT := fun ρ μ P => de ρ μ fun x μ1 => (∃ a xn, x = .x a (errV mg xn) none none ∧ xn ∈ xs ∧ P (.d (.bool (same xn y))) μ1) ∨ (x = .d .none ∧ P (.d (.bool false)) μ1)
theorem d_isE {K : PySem.W.Frag} {mg : Str → Option Value} (Er : ErrOk K mg xs) (hy : y ∈ xs) (hi : X.mg "isinstance" = none) (hv : DE X e de)
    (hK : X.K = K := by rfl) (hM : X.mg = mg := by rfl) (gi : Gl X "isinstance" := by rfl) (gl : Gl X y := by rfl) (dbg : (y == ("__debug__" : Str)) = false := by decide)
    (se : starEach [e, .Name y p2] X.env = (false, eval e X.env) :: starEach [.Name y p2] X.env := by rfl) (se2 : starEach [.Name y p2] X.env = (false, eval (.Name y p2) X.env) :: starEach [] X.env := by rfl) (hpl : (backTo pos (starEach [.Name y p2] X.env)).any (·.1) = false := by rfl) :
    DE X (.Call (.Name "isinstance" p) [e, .Name y p2] [] pos) (dIsE mg xs y de) := by
  subst hK hM
  obtain ⟨D, my, U⟩ := Er.cls y hy
  have hcl : DE X (.Name y p2) (dC (.v (.ref D))) := d_cls my gl dbg
  obtain ⟨_, p1, s1⟩ := hv.ex
  obtain ⟨_, p2', s2⟩ := hcl.ex
  refine ⟨_, pe_callB (call_isT (X := X)) gi hi (by decide +kernel) (pa_cons p1 (pa_cons p2' pa_nil se2) se) (by decide) (by decide) se hpl, fun ρ μ P h F al σ H S L Q kk => ?_⟩
  refine s1 ρ μ _ h F al σ H S L _ fun v x μ1 F1 al1 H1 q1 g1 S1 a1 => ?_
  refine s2 ρ μ1 (fun z μ2 => z = .v (.ref D) ∧ ((∃ a xn, x = .x a (errV X.mg xn) none none ∧ xn ∈ xs ∧ P (.d (.bool (same xn y))) μ2) ∨ (x = .d .none ∧ P (.d (.bool false)) μ2))) ⟨rfl, q1⟩ F1 al1 σ H1 S1 (g1.slots L) _ fun c z μ2 F2 al2 H2 q2 g2 S2 a2 => ?_
  obtain ⟨rfl, q⟩ := q2
  have a2 : c = V.ref D := a2
  subst a2
  have k2 := kk.fwd (g1.trans g2)
  rcases q with ⟨a, xn, rfl, hx, h⟩ | ⟨rfl, h⟩
  · obtain ⟨C, mx, T⟩ := Er.cls xn hx
    have ei := Er.isi xn hx y hy
    rw [errV_of mx, errV_of my] at ei
    obtain ⟨rfl, _, fa⟩ := a1
    rw [errV_of mx] at fa
    exact ⟨_, _, .ref D, same xn y, rfl, fun u r => r, .inl ⟨a, C, rfl, S2.sub _ _ (g2.f _ _ fa), T.ec, ei⟩, k2.now h S2 (Dp.bl _)⟩
  · have := dp_non a1
    subst this
    exact ⟨_, _, .ref D, false, rfl, fun u r => r, .inr ⟨rfl, kit_none U.ec.hd U.ty⟩, k2.now h S2 (Dp.bl _)⟩
end
end Dl
set_option Elab.async false
set_option linter.all false
set_option maxRecDepth 100000
set_option maxHeartbeats 4000000
namespace Dl
open PySem PySem.Spec PyProof.Rows L2
end Dl
set_option Elab.async false
set_option linter.all false
set_option maxRecDepth 100000
set_option maxHeartbeats 4000000
namespace Dl
open PySem PySem.Spec PyProof PyProof.Rows L2
end Dl
set_option Elab.async false
set_option linter.all false
set_option maxRecDepth 100000
set_option maxHeartbeats 4000000
namespace Dl
open PySem PySem.Spec PyProof.Rows L2
end Dl
set_option Elab.async false
set_option linter.all false
set_option maxRecDepth 100000
set_option maxHeartbeats 4000000
namespace Dl
open PySem PySem.Spec PyProof.Rows L2
inductive SJ (K : PySem.W.Frag) : List TE → List DT → Prop where
  | nil : SJ K [] []
  | cons {t : TE} {d : DT} {ts : List TE} {ds : List DT} (h : SimE K t d) (r : SJ K ts ds) : SJ K (t :: ts) (d :: ds)
section
variable {X : Cx}
inductive DJ (X : Cx) : List Expr → List DT → Prop where
  | nil : DJ X [] []
  | cons {e : Expr} {d : DT} {es : List Expr} {ds : List DT} (h : DE X e d) (r : DJ X es ds) : DJ X (e :: es) (d :: ds)
theorem DJ.ex {es : List Expr} {ds : List DT} (h : DJ X es ds) : ∃ ts, PJ X es ts ∧ SJ X.K ts ds := by
  induction h with
  | nil => exact ⟨[], .nil, .nil⟩
  | cons h r ih =>
    obtain ⟨t, p, s⟩ := h.ex
    obtain ⟨ts, ps, ss⟩ := ih
    exact ⟨t :: ts, .cons p ps, .cons s ss⟩
end
end Dl
set_option Elab.async false
set_option linter.all false
set_option maxRecDepth 100000
set_option maxHeartbeats 4000000
namespace Dl
open PySem PySem.Spec PySem.Calls PyProof PyProof.Rows L2
end Dl
set_option Elab.async false
set_option linter.all false
set_option maxRecDepth 100000
set_option maxHeartbeats 4000000
namespace Dl
open PySem PySem.Spec PyProof.Rows L2
end Dl
set_option Elab.async false
set_option linter.all false
set_option maxRecDepth 100000
set_option maxHeartbeats 4000000
namespace Dl
open PySem PySem.Spec PyProof.Rows L2
end Dl
set_option Elab.async false
set_option linter.all false
set_option maxRecDepth 100000
set_option maxHeartbeats 4000000
namespace Dl
open PySem PySem.Spec PyProof.Rows L2
theorem mt_lindexS {X : Cx} : MtR X "list.index" (rLIndexS X.K) := by
  intro pins s σ H x xs v us Q I rx rxs h
  obtain ⟨a, ys, k, rfl, rfl, sq, mem, q⟩ := h
  cases rx
  obtain ⟨u, rfl, ru⟩ := vals1 rxs
  obtain ⟨t, rfl⟩ := ru
  obtain ⟨its, rv, ⟨o, n, ho, hc, hdn, hd⟩, hlen⟩ := I.list sq
  rw [List.length_map] at hlen
  exact PySem.SeqAt.list_index_strs ⟨o, ho, hc, n, hd⟩ rv.strs hlen mem ⟨.int _, H, I.tok _, ⟨_, rfl⟩, q⟩
def rdLindexS : A → List A → Mu → DK → Prop := fun x xs μ P => ∃ (ys : List Str) (k : Str), LstOf x μ ((ys.map PyData.str).map A.d) ∧ xs = [.d (.str k)] ∧ k ∈ ys ∧ P (.d (.int (ys.idxOf k : Nat))) μ
theorem s_lindexS {K : PySem.W.Frag} : SimM K "list" (rLIndexS K) rdLindexS := fun x xs μ P h F al H v vs S a as Q k => by
  obtain ⟨ys, j, h1, rfl, hm, h⟩ := h
  obtain ⟨p, ws, rfl, q, r⟩ := lstOf_ab S a h1
  obtain ⟨u, rfl, au⟩ := one_of as
  rw [strs_v (DpAll.of r)] at q
  exact ⟨p, ys, j, rfl, by rw [dp_str au], q, hm, k.now h S (.int _)⟩
end Dl
set_option Elab.async false
set_option linter.all false
set_option maxRecDepth 100000
set_option maxHeartbeats 4000000
namespace Dl
open PySem PySem.Spec PyProof PyProof.Rows L2
end Dl
set_option Elab.async false
set_option linter.all false
set_option maxRecDepth 100000
set_option maxHeartbeats 4000000
namespace Dl
open PySem PySem.Spec PyProof PyProof.Rows L2
end Dl
set_option Elab.async false
set_option linter.all false
set_option maxRecDepth 100000
set_option maxHeartbeats 4000000
namespace Dl
open PySem PySem.Spec PyProof PyProof.Rows L2
end Dl
set_option Elab.async false
set_option linter.all false
set_option maxRecDepth 100000
set_option maxHeartbeats 4000000
namespace Dl
open PySem PySem.Spec PyProof PyProof.Rows L2
end Dl
namespace Dl
open PySem PySem.Spec PyProof PyProof.Rows L2
end Dl
set_option Elab.async false
set_option linter.all false
set_option maxRecDepth 100000
set_option maxHeartbeats 4000000
namespace Dl
open PySem PySem.Spec PyProof.Rows L2
end Dl
namespace Dl
open PySem PySem.Spec PyProof.Rows L2
end Dl
set_option Elab.async false
set_option linter.all false
set_option maxRecDepth 100000
set_option maxHeartbeats 4000000
namespace Dl
open PySem PySem.Spec PyProof.Rows L2
end Dl
namespace Dl
open PySem PySem.Spec PyProof PyProof.Rows L2
end Dl
set_option Elab.async false
set_option linter.all false
set_option maxRecDepth 100000
set_option maxHeartbeats 4000000
namespace Dl
open PySem PySem.Spec PyProof.Rows L2
structure FnQ (P : Program) (w : World) (K : PySem.W.Frag) (mg : Str → Option Value) (base : Heap) (C : CXT) (k : Nat) (f : Addr) (fd : FuncData) (ps : List Str) (sp : Sp) : Prop where
  lnq : ∀ vv H Q E, sp vv H Q E → vv.length = ps.length
  goq : ∀ (A : Around) (ou : List Env) (s : Shared) (H : Hp) (ar : Args) (uu : List Value) (vv : List V) (Q : VK) (E : XK), Calm0 A → L2H.RoomH k A → Env0 P w K mg base A ou s H →
    BindsTo s fd ar (ps.zip uu) → Vals vv uu → sp vv H Q E → codeAny (model P w) A (.call (.ref f) ar) (CR C ou P w H s Q E) s
theorem FnQ.mono {P : Program} {w : World} {K : PySem.W.Frag} {mg : Str → Option Value} {base : Heap} {C : CXT} {j k : Nat} {f : Addr} {fd : FuncData} {ps : List Str} {sp : Sp} (F : FnQ P w K mg base C j f fd ps sp) (h : j ≤ k) : FnQ P w K mg base C k f fd ps sp :=
  ⟨F.lnq, fun A ou s H ar uu vv Q E g hr => F.goq A ou s H ar uu vv Q E g (hr.mono h)⟩
structure CalQ (P : Program) (w : World) (K : PySem.W.Frag) (mg : Str → Option Value) (base : Heap) (x : Str) (k : Nat) (R : DR) : Prop where
  ex : ∃ (f : Addr) (fd : FuncData) (ps : List Str), mg x = some (.ref f) ∧ PySem.W.keepIn K (.ref f) = true ∧ Binds K fd ps [] ∧ FnQ P w K mg base (L2.CX P w) k f fd ps (SpD K R)
section
variable {X : Cx} {C : CXT} {k : Nat} {R : DR} {f : Addr} {fd : FuncData} {ps : List Str} {sp : Sp} {x : Str} {p pos : Pos} {e : Expr} {es : List Expr} {t : TA} {Er : L2.St → XK} {da : DAT}
theorem CalQ.mono {P : Program} {w : World} {K : PySem.W.Frag} {mg : Str → Option Value} {base : Heap} {x : Str} {j k : Nat} {R : DR} (Cq : CalQ P w K mg base x j R) (h : j ≤ k) : CalQ P w K mg base x k R := by
  obtain ⟨f, fd, ps, h1, h2, h3, F⟩ := Cq.ex
  exact ⟨f, fd, ps, h1, h2, h3, F.mono h⟩
end
end Dl
namespace Dl
open PySem PySem.Spec PyProof.Rows L2
end Dl
set_option Elab.async false
set_option linter.all false
set_option maxRecDepth 100000
set_option maxHeartbeats 4000000
namespace Dl
open PySem PySem.Spec PyProof.Rows L2
end Dl
namespace Dl
open PySem PySem.Spec PyProof PyProof.Rows L2
end Dl
set_option Elab.async false
set_option linter.all false
set_option maxRecDepth 100000
set_option maxHeartbeats 4000000
namespace Dl
open PySem PySem.Spec PyProof PyProof.Rows L2
end Dl
set_option Elab.async false
set_option linter.all false
set_option maxRecDepth 100000
set_option maxHeartbeats 4000000
namespace Dl
open PySem PySem.Spec PyProof.Rows L2
end Dl
set_option Elab.async false
set_option linter.all false
set_option maxRecDepth 100000
set_option maxHeartbeats 4000000
namespace Dl
open PySem PySem.Spec PyProof.Rows L2
end Dl
set_option Elab.async false
set_option linter.all false
set_option maxRecDepth 100000
set_option maxHeartbeats 4000000
namespace Dl
open PySem PySem.Spec PyProof.Rows L2
section
variable {X : Cx} {C : CXT} {k : Nat} {f : Addr} {fd : FuncData} {ps : List Str} {sp : Sp} {dvs : List V} {ds : List Value} {x y : Str} {p pos : Pos} {e : Expr} {es : List Expr} {t : TA} {Er : L2.St → XK} {R : DR} {da : DAT}
abbrev tFnV (i : Nat) (f : Addr) (t : TE) : TE := fun σ H Q => σ[i]? = some (some (.ref f)) ∧ t σ H Q
theorem pe_callV (i : Nat) (hN : X.N[i]? = some x) (hv : Vis X.env.scope x) (F : FnG X.prog X.w X.K X.mg X.base C k f fd ps sp) (g : Calm0 X.A) (hr : Room k X.A) (kp : PySem.W.keepIn X.K (.ref f) = true) (bi : Binds X.K fd ps ds) (dv : Vals dvs ds) (pass : ∀ σ, PassesAt C X σ (Er σ))
    (pa : PA X (e :: es) t) (db : (x == ("__debug__" : Str)) = false := by decide) (hcd : (x == ("__classdict__" : Str)) = false := by decide) (se : starEach (e :: es) X.env = (false, eval e X.env) :: starEach es X.env := by rfl) (sp0 : (backTo pos (starEach es X.env)).any (·.1) = false := by rfl) :
    PE X (.Call (.Name x p) (e :: es) [] pos) (tFnV i f fun σ H Q => t σ H fun vv H1 => sp (vv ++ dvs) H1 Q (Er σ)) := by
  constructor
  intro pins s σ H Q I h
  obtain ⟨hf, h⟩ := h
  apply wpAny_Call_Name_kw
  refine thn ((pe_var (pos := p) hN hv db hcd).run pins s σ H (fun v H' => v = .ref f ∧ t σ H' fun vv H1 => sp (vv ++ dvs) H1 Q (Er σ)) I ⟨_, hf, rfl, h⟩) ?_
  rintro u s0 ⟨v, H0, I0, r, rfl, h⟩
  obtain rfl : u = .ref f := r
  have args := pa.run pos pins s0 σ H0 _ I0 h
  refine PySem.W.callWith_K (h₀ := X.base) I0.ok.mod.kin kp (thn args ?_) se sp0
  rintro uu s1 ⟨vv, H1, I1, rv, q⟩
  refine ⟨I1.kIn, ?_⟩
  have rv2 := rv.append dv
  have ln : (uu ++ ds).length = ps.length := by rw [← rv2.length]; exact F.ln _ _ _ _ q
  refine wpAny_call (codeAny_mono (go_fn F g hr (bi s1 uu I1.kIn ln) (pass σ) I1 rv2 q) fun r s' z => ?_)
  match r, z with
  | .error er, z => exact z
  | .ok (.ret u), z => exact z
/-- a def's name as a value -/
abbrev dGf (mg : Str → Option Value) (x : Str) : DT := fun _ μ P => ∀ f, mg x = some (.ref f) → P (.v (.ref f)) μ
theorem d_glbF {mg : Str → Option Value} (hm : X.mg = mg) (C : CalG X.prog X.w X.K X.mg X.base x k R) (gl : Gl X x := by rfl) (hd : (x == ("__debug__" : Str)) = false := by decide) : DE X (.Name x pos) (dGf mg x) := by
  obtain ⟨f, fd, ps, ds, dvs, das, R', mx, kp, b, dv, dd, F, im⟩ := C.ex
  subst hm
  exact ⟨_, pe_glob gl mx (v := .ref f) rfl hd, fun ρ μ P h F al σ H S L Q k => k.now (h f mx) S rfl⟩
/-- the call by a local name: the slot holds the def -/
abbrev dFnV (mg : Str → Option Value) (y : Str) (i : Nat) (R : DR) (da : DAT) : DT := fun ρ μ P => ∃ f, mg y = some (.ref f) ∧ ρ[i]? = some (some (.v (.ref f))) ∧ dFn (FR R) da ρ μ P
theorem d_calV (i : Nat) {mg : Str → Option Value} (hm : X.mg = mg) (hN : X.N[i]? = some x) (C : CalG X.prog X.w X.K X.mg X.base y k R) (g : Calm0 X.A) (hr : Room k X.A) (ha : DA X (e :: es) da)
    (hv : Vis X.env.scope x := by first | exact Or.inl rfl | exact Or.inr (Or.inl rfl) | exact Or.inr (Or.inr rfl))
    (db : (x == ("__debug__" : Str)) = false := by decide) (hcd : (x == ("__classdict__" : Str)) = false := by decide) (se : starEach (e :: es) X.env = (false, eval e X.env) :: starEach es X.env := by rfl) (sp0 : (backTo pos (starEach es X.env)).any (·.1) = false := by rfl) : DE X (.Call (.Name x p) (e :: es) [] pos) (dFnV mg y i R da) := by
  obtain ⟨f, fd, ps, ds, dvs, das, R', mx, kp, b, dv, dd, F, im⟩ := C.ex
  subst hm
  obtain ⟨_, p2, s2⟩ := ha.ex
  refine ⟨_, pe_callV i hN hv F g hr kp b dv passNo p2 db hcd se sp0, fun ρ μ P h Fh al σ H S L Q kk => ?_⟩
  obtain ⟨f', mx', hf, h⟩ := h
  obtain rfl : f = f' := by
    rw [mx] at mx'
    injection mx' with q
    injection q
  obtain ⟨v, hv2, a⟩ := L.at_ i _ hf
  obtain rfl : v = .ref f := a
  refine ⟨hv2, s2 ρ μ _ h Fh al σ H S L _ fun vs xs μ1 F1 al1 H1 q g1 S1 a => ?_⟩
  exact frame_imp _ _ _ _ ⟨xs ++ das.map A.d, μ1, P, noX, F1, al1, S1, Paired.app a (DpAll.to (dd F1)), FR.add im q, kk.fwd g1, fun C o μ' F' al' H' d h => h.elim⟩
end
end Dl
set_option Elab.async false
set_option linter.all false
set_option maxRecDepth 100000
set_option maxHeartbeats 4000000
namespace Dl
open PySem PySem.Spec PyProof.Rows L2
section
variable {X : Cx}
theorem call_dictC : CallR X (.type "dict") (fun xs H Q => ∃ a kvs, xs = [V.ref a] ∧ H a = some (.dK kvs) ∧ ∀ p, H p = none → Q (.ref p) (upd H p (.dK kvs))) := by
  intro pins s σ H xs us Q I r h
  obtain ⟨a, kvs, rfl, ha, q⟩ := h
  obtain ⟨u, rfl, rx⟩ := vals1 r
  cases rx
  exact d_copyOf I (.inl ha) fun p s' np I' => ⟨.ref p, _, I', rfl, q p np⟩
end
def rdDictC : List A → Mu → DK → Prop := fun xs μ P => ∃ n ks, xs = [.c n] ∧ μ[n]? = some (.dct ks) ∧ P (.c μ.length) (μ ++ [.dct ks])
theorem s_dictC {K : PySem.W.Frag} : SimC K (fun xs H Q => ∃ a kvs, xs = [V.ref a] ∧ H a = some (.dK kvs) ∧ ∀ p, H p = none → Q (.ref p) (upd H p (.dK kvs))) rdDictC := fun xs μ P h F al H vs S a Q k => by
  obtain ⟨n, ks, rfl, en, h⟩ := h
  obtain ⟨v, rfl, av⟩ := one_of a
  obtain ⟨b, kvs, rfl, _, hb, r⟩ := dct_at S av en
  refine ⟨b, kvs, rfl, hb, fun p np => ?_⟩
  obtain ⟨S2, g2⟩ := S.cellNew (ho := .dK kvs) (o := .dct ks) np r
  refine k _ _ _ _ _ _ h g2 S2 ⟨p, ?_, rfl⟩
  rw [← S.len, List.getElem?_append_right (Nat.le_refl _), Nat.sub_self]
  rfl
end Dl
set_option Elab.async false
set_option linter.all false
set_option maxRecDepth 100000
set_option maxHeartbeats 4000000
namespace Dl
open PySem PySem.Spec PyProof.Rows L2
abbrev dEither (d1 d2 : DT) : DT := fun ρ μ P => d1 ρ μ P ∨ d2 ρ μ P
theorem d_either {X : Cx} {e : Expr} {d1 d2 : DT} (h1 : DE X e d1) (h2 : DE X e d2) : DE X e (dEither d1 d2) := by
  obtain ⟨t1, p1, s1⟩ := h1.ex
  obtain ⟨t2, p2, s2⟩ := h2.ex
  refine ⟨fun σ H Q => t1 σ H Q ∨ t2 σ H Q, ⟨fun pins s σ H Q I h => h.elim (p1.run pins s σ H Q I) (p2.run pins s σ H Q I)⟩, fun ρ μ P h F al σ H S L Q kk => ?_⟩
  exact h.elim (fun h => .inl (s1 ρ μ P h F al σ H S L Q kk)) fun h => .inr (s2 ρ μ P h F al σ H S L Q kk)
section
variable {X : Cx} {k : Nat} {x : Str} {p pos : Pos} {e : Expr} {es : List Expr} {R : DR} {da : DAT}
theorem d_calW (C : CalG X.prog X.w X.K X.mg X.base x k R) (g : Calm0 X.A) (hr : Room k X.A) (ha : DA X (e :: es) da) (gl : Gl X x := by rfl)
    (db : (x == ("__debug__" : Str)) = false := by decide) (se : starEach (e :: es) X.env = (false, eval e X.env) :: starEach es X.env := by rfl) (sp0 : (backTo pos (starEach es X.env)).any (·.1) = false := by rfl) : DE X (.Call (.Name x p) (e :: es) [] pos) (dFn R da) := by
  obtain ⟨f, fd, ps, ds, dvs, das, R', mx, kp, b, dv, dd, F, im⟩ := C.ex
  obtain ⟨_, p2, s2⟩ := ha.ex
  refine ⟨_, pe_callG F g hr gl mx kp b dv passNo p2 db se sp0, fun ρ μ P h Fh al σ H S L Q kk => ?_⟩
  refine s2 ρ μ _ h Fh al σ H S L _ fun vs xs μ1 F1 al1 H1 q g1 S1 a => ?_
  exact ⟨xs ++ das.map A.d, μ1, P, noX, F1, al1, S1, Paired.app a (DpAll.to (dd F1)), im _ _ _ _ q, kk.fwd g1, fun C o μ' F' al' H' d h => h.elim⟩
end
end Dl
set_option Elab.async false
set_option linter.all false
set_option maxRecDepth 100000
set_option maxHeartbeats 4000000
namespace Rp
open PySem PySem.Spec PyProof.Rows L2 Dl
theorem _root_.L2.Room.units65 {k : Nat} {A : Around} (r : Room k A) : A.units + 65 < cLine := by have := r.un; omega
theorem iteD {c : Prop} [Decidable c] {p q : Prop} (h1 : c → p) (h2 : ¬ c → q) : if decide c = true then p else q := by
  by_cases h : c
  · rw [decide_eq_true h, if_pos rfl]
    exact h1 h
  · rw [decide_eq_false h, if_neg Bool.false_ne_true]
    exact h2 h
theorem iteE {c : Prop} [Decidable c] {p q : Prop} (h1 : c → p) (h2 : ¬ c → q) : if (false ^^ decide c) = true then p else q := by
  rw [Bool.false_xor]
  exact iteD h1 h2
abbrev Road := Str × Str × Str
abbrev Mom := Int × Int
def rdD (r : Road) : PyData := .tuple [.str r.1, .str r.2.1, .str r.2.2]
def webD (ps : List Str) (rs : List Road) : PyData := .tuple [.tuple (ps.map .str), .tuple (rs.map rdD)]
def roundD (r : List Str) : PyData := .tuple (r.map .str)
def weekD (wk : List (List Str)) : PyData := .tuple (wk.map roundD)
def momD (m : Mom) : PyData := .tuple [.int m.1, .int m.2]
abbrev rnm (rs : List Road) : List Str := rs.map fun r => r.1
def letters : Str := "abcdefghijklmnopqrstuvwxyz"
def signs : Str := "abcdefghijklmnopqrstuvwxyz0123456789"
structure NameOk (s : Str) : Prop where
  one : 1 ≤ s.length
  most : s.length ≤ 8
  first : ∃ c, s.cps.toList[0]? = some c ∧ c ∈ letters.cps.toList
  all : ∀ c ∈ s.cps.toList, c ∈ signs.cps.toList
structure PlacesOk (ps : List Str) : Prop where
  one : 1 ≤ ps.length
  most : ps.length ≤ 10
  nm : ∀ p ∈ ps, NameOk p
  nd : ps.Nodup
structure RoadsOk (ps : List Str) (rs : List Road) : Prop where
  most : rs.length ≤ 14
  nm : ∀ r ∈ rs, NameOk r.1
  a : ∀ r ∈ rs, r.2.1 ∈ ps
  b : ∀ r ∈ rs, r.2.2 ∈ ps
  ne : ∀ r ∈ rs, r.2.1 ≠ r.2.2
  nd : (rnm rs).Nodup
structure WebOk (ps : List Str) (rs : List Road) : Prop where
  p : PlacesOk ps
  r : RoadsOk ps rs
structure RoundOk (rs : List Road) (r : List Str) : Prop where
  nd : r.Nodup
  sub : ∀ n ∈ r, n ∈ rnm rs
structure WeekOk (rs : List Road) (wk : List (List Str)) : Prop where
  one : 1 ≤ wk.length
  most : wk.length ≤ 4
  rd : ∀ r ∈ wk, RoundOk rs r
def roundAt (wk : List (List Str)) (day : Int) : List Str := wk.getD ((day - 1) % wk.length).toNat []
structure MomS (wk : List (List Str)) (m : Mom) : Prop where
  d1 : 1 ≤ m.1
  w1 : 0 ≤ m.2
  w2 : m.2 ≤ (roundAt wk m.1).length
structure MomOk (wk : List (List Str)) (m : Mom) : Prop extends MomS wk m where
  d2 : m.1 ≤ 1000000
instance {wk : List (List Str)} {m : Mom} : Coe (MomOk wk m) (MomS wk m) := ⟨MomOk.toMomS⟩
theorem pick0 {μ : Mu} : Pick [] μ [] := ⟨List.nodup_nil, rfl, fun j n h => by simp at h⟩
theorem putAll_nil (μ ν : Mu) : Dl.putAll μ [] ν = μ := by unfold Dl.putAll; rfl
/-- arguments without cells -/
theorem fr_d {R : DR} {μ : Mu} {P : DK} {Ex : DX} (ds : List PyData) (h : R (ds.map A.d) [] (fun y ν => (∀ o ∈ ν, dO o) ∧ P (upA [] μ.length y) (μ ++ ν)) fun C o ν => (∀ o ∈ ν, dO o) ∧ Ex C o (μ ++ ν)) : FR R (ds.map A.d) μ P Ex := by
  refine ⟨[], ds.map A.d, [], pick0, (map_up_d _ _ _).symm, fun z hz => by obtain ⟨d, _, rfl⟩ := List.mem_map.mp hz; trivial, ?_⟩
  simp only [putAll_nil, List.length_nil, List.drop_zero]
  exact h
/-- what a def that makes no cells hands back -/
theorem bk {μ : Mu} {P : DK} {d : PyData} (h : P (.d d) μ) : (∀ o ∈ ([] : Mu), dO o) ∧ P (upA [] μ.length (.d d)) (μ ++ []) := by
  refine ⟨fun o ho => (by cases ho), ?_⟩
  rw [List.append_nil]
  exact h
theorem noO : ∀ o ∈ ([] : Mu), dO o := fun o ho => (by cases ho)
theorem nP {c : Prop} [Decidable c] {p q : Prop} (h : c) (x : q) : if (!decide c) = true then p else q := by
  rw [decide_eq_true h]
  exact x
theorem fP {c : Prop} [Decidable c] {p q : Prop} (h : c) (x : p) : if (false ^^ decide c) = true then p else q := by
  rw [decide_eq_true h]
  exact iteT x
theorem tP {c : Prop} [Decidable c] {p q : Prop} (h : c) (x : q) : if (true ^^ decide c) = true then p else q := by
  rw [decide_eq_true h]
  exact x
theorem tQ {c : Prop} [Decidable c] {p q : Prop} (h : ¬ c) (x : p) : if (true ^^ decide c) = true then p else q := by
  rw [decide_eq_false h]
  exact iteT x
theorem fQ {c : Prop} [Decidable c] {p q : Prop} (h : ¬ c) (x : q) : if (false ^^ decide c) = true then p else q := by
  rw [decide_eq_false h]
  exact x
abbrev ones {α : Type} (xs : List α) (g : α → PyData) : List Y := xs.map fun x => Y.one (.d (g x))
theorem oneD_ones {α : Type} (xs : List α) (g : α → PyData) : oneD (xs.map g) = ones xs g := by
  unfold oneD
  rw [List.map_map]
  rfl
theorem ones_get {α : Type} {xs : List α} {g : α → PyData} {i : Nat} {y : Y} (h : (ones xs g)[i]? = some y) : ∃ x, xs[i]? = some x ∧ y = .one (.d (g x)) := by
  rw [List.getElem?_map] at h
  cases e : xs[i]? with
  | none => rw [e] at h; cases h
  | some x =>
    rw [e] at h
    exact ⟨x, rfl, (Option.some.inj h).symm⟩
section
variable {α : Type} {ys : List Y} {ok : Mu → Prop} {μ : Mu} {ρ : Rho} {dg : DG} {dt : DTT} {de dk dv : DT} {vs : List Nat} {P : DK}
theorem lc_map (xs : List α) (g h : α → PyData) (hy : ys = ones xs g) (hok : ok μ) (hz : xs.length ≤ sizeLine)
    (hs : ∀ x ∈ xs, ∀ Q : DK, Q (.d (h x)) μ → dg (.one (.d (g x))) (wipeR ρ vs) μ fun ρ3 μ3 => de ρ3 μ3 Q) (q : P (.d (.list (xs.map h))) μ) :
    ∃ Pv : Nat → List A → Mu → Prop, Pv 0 [] μ ∧
      (∀ (i : Nat) y acc μ2, ys[i]? = some y → Pv i acc μ2 → ok μ2 ∧ dg y (wipeR ρ vs) μ2 fun ρ3 μ3 => dtYes ρ3 μ3 fun b μ4 => if b = true then de ρ3 μ4 fun z μ5 => acc.length < sizeLine ∧ Pv (i + 1) (acc ++ [z]) μ5 else Pv (i + 1) acc μ4) ∧
        ∀ acc μ2, Pv ys.length acc μ2 → ok μ2 ∧ lcEnd P acc μ2 := by
  subst hy
  refine ⟨fun i acc μ2 => acc = ((xs.take i).map h).map A.d ∧ μ2 = μ, ⟨by rw [List.take_zero]; rfl, rfl⟩, ?_, ?_⟩
  · rintro i y acc μ2 hi ⟨rfl, rfl⟩
    obtain ⟨x, hx, rfl⟩ := ones_get hi
    refine ⟨hok, hs x (List.mem_of_getElem? hx) _ ?_⟩
    have lt := (List.getElem?_eq_some_iff.mp hx).1
    refine ⟨?_, ?_, rfl⟩
    · rw [List.length_map, List.length_map, List.length_take]
      omega
    · rw [List.take_add_one, hx, List.map_append, List.map_append]
      rfl
  · rintro acc μ2 ⟨rfl, rfl⟩
    refine ⟨hok, .inl ⟨_, rfl, ?_⟩⟩
    rw [List.length_map, List.take_length]
    exact q
theorem lc_filter (xs : List α) (g h : α → PyData) (c : α → Bool) (hy : ys = ones xs g) (hok : ok μ) (hz : xs.length ≤ sizeLine)
    (hs : ∀ x ∈ xs, ∀ (Q : DK) (N : Mu → Prop), (c x = true → Q (.d (h x)) μ) → (c x = false → N μ) → dg (.one (.d (g x))) (wipeR ρ vs) μ fun ρ3 μ3 => dt ρ3 μ3 fun b μ4 => if b = true then de ρ3 μ4 Q else N μ4) (q : P (.d (.list ((xs.filter c).map h))) μ) :
    ∃ Pv : Nat → List A → Mu → Prop, Pv 0 [] μ ∧
      (∀ (i : Nat) y acc μ2, ys[i]? = some y → Pv i acc μ2 → ok μ2 ∧ dg y (wipeR ρ vs) μ2 fun ρ3 μ3 => dt ρ3 μ3 fun b μ4 => if b = true then de ρ3 μ4 fun z μ5 => acc.length < sizeLine ∧ Pv (i + 1) (acc ++ [z]) μ5 else Pv (i + 1) acc μ4) ∧
        ∀ acc μ2, Pv ys.length acc μ2 → ok μ2 ∧ lcEnd P acc μ2 := by
  subst hy
  refine ⟨fun i acc μ2 => acc = (((xs.take i).filter c).map h).map A.d ∧ μ2 = μ, ⟨by rw [List.take_zero]; rfl, rfl⟩, ?_, ?_⟩
  · rintro i y acc μ2 hi ⟨rfl, rfl⟩
    obtain ⟨x, hx, rfl⟩ := ones_get hi
    refine ⟨hok, hs x (List.mem_of_getElem? hx) _ _ (fun e => ?_) (fun e => ?_)⟩
    · have lt := (List.getElem?_eq_some_iff.mp hx).1
      refine ⟨?_, ?_, rfl⟩
      · rw [List.length_map, List.length_map]
        have := List.length_filter_le c (xs.take i)
        rw [List.length_take] at this
        omega
      · rw [List.take_add_one, hx, List.filter_append, List.map_append, List.map_append]
        show _ = _ ++ List.map A.d (List.map h (List.filter c [x]))
        rw [List.filter_cons, if_pos e]
        rfl
    · refine ⟨?_, rfl⟩
      rw [List.take_add_one, hx, List.filter_append]
      show _ = List.map A.d (List.map h (_ ++ List.filter c [x]))
      rw [List.filter_cons, if_neg (by rw [e]; exact Bool.false_ne_true)]
      rw [List.filter_nil, List.append_nil]
  · rintro acc μ2 ⟨rfl, rfl⟩
    refine ⟨hok, .inl ⟨_, rfl, ?_⟩⟩
    rw [List.length_map, List.take_length]
    exact q
theorem sc_map (xs : List α) (g : α → PyData) (h : α → Key) (hy : ys = ones xs g) (hok : ok μ) (hz : xs.length + 1 < scanBound)
    (hs : ∀ x ∈ xs, ∀ Q : DK, Q (kD (h x)) μ → dg (.one (.d (g x))) (wipeR ρ vs) μ fun ρ3 μ3 => de ρ3 μ3 Q) (q : P (.d (.int (ddk (xs.map h)).length)) μ) :
    ∃ Pv : Nat → List Key → Mu → Prop, Pv 0 [] μ ∧
      (∀ (i : Nat) y acc μ2, ys[i]? = some y → Pv i acc μ2 → ok μ2 ∧ dg y (wipeR ρ vs) μ2 fun ρ3 μ3 => dtYes ρ3 μ3 fun b μ4 => if b = true then de ρ3 μ4 fun z μ5 => ∃ k, z = kD k ∧ acc.length + 1 < scanBound ∧ Pv (i + 1) (acc ++ [k]) μ5 else Pv (i + 1) acc μ4) ∧
        ∀ acc μ2, Pv ys.length acc μ2 → ok μ2 ∧ skEnd P acc μ2 := by
  subst hy
  refine ⟨fun i acc μ2 => acc = (xs.take i).map h ∧ μ2 = μ, ⟨by rw [List.take_zero]; rfl, rfl⟩, ?_, ?_⟩
  · rintro i y acc μ2 hi ⟨rfl, rfl⟩
    obtain ⟨x, hx, rfl⟩ := ones_get hi
    refine ⟨hok, hs x (List.mem_of_getElem? hx) _ ?_⟩
    have lt := (List.getElem?_eq_some_iff.mp hx).1
    refine ⟨h x, rfl, ?_, ?_, rfl⟩
    · rw [List.length_map, List.length_take]
      omega
    · rw [List.take_add_one, hx, List.map_append]
      rfl
  · rintro acc μ2 ⟨rfl, rfl⟩
    rw [show (ones xs g).length = xs.length from List.length_map .., List.take_length]
    exact ⟨hok, by rw [List.length_map]; omega, q⟩
end
theorem all_of {α : Type} {xs : List α} {c : α → Bool} {μ : Mu} {P : DK} (q : P (.d (.bool (xs.all c))) μ) : rdAll [.d (.list (xs.map fun x => PyData.bool (c x)))] μ P := by
  refine ⟨_, xs.map c, rfl, ?_, ?_⟩
  · show List.map A.d _ = List.map A.d _
    rw [List.map_map, List.map_map, List.map_map]
    rfl
  · rw [List.all_map]
    exact q
theorem strs_flat (ps : List Str) : (ps.map PyData.str).all flatD = true := by
  rw [List.all_map]
  exact List.all_eq_true.mpr fun _ _ => rfl
theorem any_mem (ps : List Str) (s : Str) : (ps.map PyData.str).any (fun e => eqF e (.str s)) = decide (s ∈ ps) := by
  rw [List.any_map]
  by_cases h : s ∈ ps
  · rw [decide_eq_true h]
    exact List.any_eq_true.mpr ⟨s, h, decide_eq_true rfl⟩
  · rw [decide_eq_false h]
    refine Bool.eq_false_iff.mpr fun z => ?_
    obtain ⟨x, hx, e⟩ := List.any_eq_true.mp z
    have : x = s := of_decide_eq_true e
    exact h (this ▸ hx)
theorem in_strs {neg : Bool} {s : Str} {ps : List Str} {μ : Mu} {P : DK} (q : P (.d (.bool (neg ^^ decide (s ∈ ps)))) μ) : rdInU neg (.d (.str s)) (.d (.tuple (ps.map .str))) μ P := by
  refine ⟨_, .inr (.inl rfl), rfl, strs_flat ps, ?_⟩
  rw [any_mem]
  exact q
theorem tgt2 {i j : Nat} {a b : PyData} {ρ : Rho} {μ : Mu} {P : RM} (q : P ((ρ.set i (some (.d a))).set j (some (.d b))) μ) : dgTup 2 (dgCons (dgName i) (dgCons (dgName j) dgNil)) (.one (.d (.tuple [a, b]))) ρ μ P :=
  ⟨_, rfl, rfl, _, _, rfl, _, rfl, _, _, rfl, _, rfl, rfl, q⟩
theorem tgt3 {i j l : Nat} {a b c : PyData} {ρ : Rho} {μ : Mu} {P : RM} (q : P (((ρ.set i (some (.d a))).set j (some (.d b))).set l (some (.d c))) μ) : dgTup 3 (dgCons (dgName i) (dgCons (dgName j) (dgCons (dgName l) dgNil))) (.one (.d (.tuple [a, b, c]))) ρ μ P :=
  ⟨_, rfl, rfl, _, _, rfl, _, rfl, _, _, rfl, _, rfl, _, _, rfl, _, rfl, rfl, q⟩
theorem ix_tup {ds : List PyData} {j : Nat} {z : PyData} {μ : Mu} {P : DK} (e : ds[j]? = some z) (q : P (.d z) μ) : rdIx (.d (.tuple ds)) (.d (.int (j : Nat))) μ P :=
  ix_of (zs := ds.map A.d) (.inr ⟨_, rfl, rfl⟩) (by rw [List.getElem?_map, e]; rfl) q
theorem keys_nd {l : List Str} (h : l.Nodup) : (l.map (Sum.inr : Str → Key)).Nodup := List.Pairwise.map _ (fun _ _ ne e => ne (Sum.inr.inj e)) h
theorem fin_n {Pk : DK} (q : Pk (.d .none) []) : RetD 0 Pk (.d .none) [] := ret_data0 rfl (fun i o e => by simp at e) q
theorem nT {b : Bool} {p q : Prop} (h : b = true) (x : q) : if (!b) = true then p else q := by
  subst h
  exact x
theorem nd_len {α : Type} [DecidableEq α] : ∀ (r l : List α), r.Nodup → (∀ x ∈ r, x ∈ l) → r.length ≤ l.length
  | [], _, _, _ => Nat.zero_le _
  | a :: r, l, nd, sub => by
    have ha := sub a (List.mem_cons_self ..)
    have h := nd_len r (l.erase a) (List.nodup_cons.mp nd).2 fun x hx => by
      have ne : x ≠ a := fun e => (List.nodup_cons.mp nd).1 (e ▸ hx)
      exact (List.mem_erase_of_ne ne).mpr (sub x (List.mem_cons_of_mem _ hx))
    rw [List.length_erase_of_mem ha] at h
    have : 0 < l.length := List.length_pos_of_mem ha
    rw [List.length_cons]
    omega
theorem nd_le {rs : List Road} {r : List Str} (ok : RoundOk rs r) : r.length ≤ rs.length := by
  have := nd_len r _ ok.nd ok.sub
  rw [List.length_map] at this
  exact this
theorem ix_lstI {ds : List PyData} {i : Int} {z : PyData} {μ : Mu} {P : DK} (h0 : 0 ≤ i) (e : ds[i.toNat]? = some z) (q : P (.d z) μ) : rdIx (.d (.list ds)) (.d (.int i)) μ P := by
  have := ix_of (zs := ds.map A.d) (y := .d (.list ds)) (j := i.toNat) (P := P) (μ := μ) (x := .d z) (.inl rfl) (by rw [List.getElem?_map, e]; rfl) q
  rwa [Int.toNat_of_nonneg h0] at this
abbrev Got := List (Str × Mom)
abbrev ks (st : Got) : List Str := st.map fun q => q.1
def endsOf (rs : List Road) (n : Str) : Str × Str := ((rs.find? fun r => decide (r.1 = n)).map fun r => r.2).getD ("", "")
/-- one walk: the index k of a day -/
def stepW (rs : List Road) (day : Int) (k : Nat) (n : Str) (st : Got) : Got :=
  if decide ((endsOf rs n).1 ∈ ks st) != decide ((endsOf rs n).2 ∈ ks st) then st ++ [((if (endsOf rs n).1 ∈ ks st then (endsOf rs n).2 else (endsOf rs n).1), (day, (k : Int) + 1))] else st
/-- the walks of the names from the index k on -/
def walkF (rs : List Road) (day : Int) : Nat → List Str → Got → Got
  | _, [], st => st
  | k, n :: ns, st => walkF rs day (k + 1) ns (stepW rs day k n st)
def S (rs : List Road) (wk : List (List Str)) (p : Str) (m : Mom) : Nat → Got
  | 0 => [(p, m)]
  | n + 1 => walkF rs (m.1 + n) (if n = 0 then m.2.toNat else 0) ((roundAt wk (m.1 + n)).drop (if n = 0 then m.2.toNat else 0)) (S rs wk p m n)
def Final (rs : List Road) (wk : List (List Str)) (p : Str) (m : Mom) (st : Got) : Prop := ∃ N, st = S rs wk p m N ∧ ∀ M, N ≤ M → S rs wk p m M = S rs wk p m N
theorem Final.one {rs : List Road} {wk : List (List Str)} {p : Str} {m : Mom} {st st' : Got} (h : Final rs wk p m st) (h' : Final rs wk p m st') : st = st' := by
  obtain ⟨N, rfl, a⟩ := h
  obtain ⟨N', rfl, b⟩ := h'
  rcases Nat.le_total N N' with c | c
  · exact (a _ c).symm
  · exact b _ c
theorem stepW_app (rs : List Road) (day : Int) (k : Nat) (n : Str) (st : Got) : ∃ t, stepW rs day k n st = st ++ t := by
  unfold stepW
  split
  · exact ⟨_, rfl⟩
  · exact ⟨[], (List.append_nil _).symm⟩
theorem walkF_app (rs : List Road) (day : Int) : ∀ (ns : List Str) (k : Nat) (st : Got), ∃ t, walkF rs day k ns st = st ++ t
  | [], _, st => ⟨[], (List.append_nil _).symm⟩
  | n :: ns, k, st => by
    obtain ⟨t, e⟩ := stepW_app rs day k n st
    obtain ⟨u, e2⟩ := walkF_app rs day ns (k + 1) (stepW rs day k n st)
    refine ⟨t ++ u, ?_⟩
    show walkF rs day (k + 1) ns _ = _
    rw [e2, e, List.append_assoc]
theorem walkF_take (rs : List Road) (day : Int) : ∀ (ns : List Str) (k j : Nat) (st : Got), walkF rs day k ns st = walkF rs day (k + (ns.take j).length) (ns.drop j) (walkF rs day k (ns.take j) st)
  | [], k, j, st => by rw [List.take_nil, List.drop_nil]; rfl
  | n :: ns, k, 0, st => by rw [List.take_zero, List.drop_zero]; rfl
  | n :: ns, k, j + 1, st => by
    rw [List.take_succ_cons, List.drop_succ_cons]
    show walkF rs day (k + 1) ns (stepW rs day k n st) = _
    rw [walkF_take rs day ns (k + 1) j]
    show _ = walkF rs day (k + ((ns.take j).length + 1)) (ns.drop j) (walkF rs day (k + 1) (ns.take j) (stepW rs day k n st))
    congr 1
    omega
theorem walkF_snoc (rs : List Road) (day : Int) (ns : List Str) (k : Nat) (n : Str) (st : Got) : walkF rs day k (ns ++ [n]) st = stepW rs day (k + ns.length) n (walkF rs day k ns st) := by
  rw [walkF_take rs day (ns ++ [n]) k ns.length st, List.take_left' rfl, List.drop_left' rfl]
  rfl
section
variable {rs : List Road} {wk : List (List Str)} {p : Str} {m : Mom}
theorem S_app (n : Nat) : ∃ t, S rs wk p m (n + 1) = S rs wk p m n ++ t := walkF_app ..
theorem S_le : ∀ (j n : Nat), ∃ t, S rs wk p m (n + j) = S rs wk p m n ++ t
  | 0, n => ⟨[], (List.append_nil _).symm⟩
  | j + 1, n => by
    obtain ⟨t, e⟩ := S_le j n
    obtain ⟨u, e2⟩ := S_app (rs := rs) (wk := wk) (p := p) (m := m) (n + j)
    exact ⟨t ++ u, by rw [← Nat.add_assoc, e2, e, List.append_assoc]⟩
theorem S_between {n i j : Nat} (h : S rs wk p m (n + (i + j)) = S rs wk p m n) : S rs wk p m (n + i) = S rs wk p m n := by
  obtain ⟨t, e⟩ := S_le (rs := rs) (wk := wk) (p := p) (m := m) i n
  obtain ⟨u, e2⟩ := S_le (rs := rs) (wk := wk) (p := p) (m := m) j (n + i)
  rw [← Nat.add_assoc, e2, e, List.append_assoc] at h
  have h2 : t ++ u = [] := List.append_cancel_left (h.trans (List.append_nil _).symm)
  rw [e, (List.append_eq_nil_iff.mp h2).1, List.append_nil]
/-- nothing is new by these names -/
def Quiet (rs : List Road) (st : Got) (ns : List Str) : Prop := ∀ n ∈ ns, ((endsOf rs n).1 ∈ ks st ↔ (endsOf rs n).2 ∈ ks st)
theorem stepW_quiet {day : Int} {k : Nat} {n : Str} {st : Got} (h : (endsOf rs n).1 ∈ ks st ↔ (endsOf rs n).2 ∈ ks st) : stepW rs day k n st = st := by
  unfold stepW
  rw [if_neg]
  intro z
  have e : decide ((endsOf rs n).1 ∈ ks st) = decide ((endsOf rs n).2 ∈ ks st) := by
    by_cases x : (endsOf rs n).1 ∈ ks st
    · rw [decide_eq_true x, decide_eq_true (h.mp x)]
    · rw [decide_eq_false x, decide_eq_false fun y => x (h.mpr y)]
  rw [e, bne_self_eq_false] at z
  cases z
theorem walkF_quiet {day : Int} {st : Got} : ∀ (ns : List Str) (k : Nat), Quiet rs st ns → walkF rs day k ns st = st
  | [], _, _ => rfl
  | n :: ns, k, h => by
    show walkF rs day (k + 1) ns _ = st
    rw [stepW_quiet (h n (List.mem_cons_self ..))]
    exact walkF_quiet ns (k + 1) fun x hx => h x (List.mem_cons_of_mem _ hx)
theorem quiet_walkF {day : Int} {st : Got} : ∀ (ns : List Str) (k : Nat), walkF rs day k ns st = st → Quiet rs st ns
  | [], _, _ => fun x hx => by cases hx
  | n :: ns, k, h => by
    have h' : walkF rs day (k + 1) ns (stepW rs day k n st) = st := h
    obtain ⟨t, e⟩ := stepW_app rs day k n st
    obtain ⟨u, e2⟩ := walkF_app rs day ns (k + 1) (stepW rs day k n st)
    rw [e2, e, List.append_assoc] at h'
    have h2 : t ++ u = [] := List.append_cancel_left (h'.trans (List.append_nil _).symm)
    have ht := (List.append_eq_nil_iff.mp h2).1
    have e3 : stepW rs day k n st = st := by rw [e, ht, List.append_nil]
    have q := quiet_walkF ns (k + 1) (by
      have h3 : walkF rs day (k + 1) ns (stepW rs day k n st) = st := h
      rw [e3] at h3
      exact h3)
    intro x hx
    rcases List.mem_cons.mp hx with rfl | hx
    · unfold stepW at e3
      split at e3
      · have := congrArg List.length e3
        rw [List.length_append] at this
        simp at this
      · rename_i c
        rw [bne_iff_ne, ne_eq, Decidable.not_not] at c
        exact decide_eq_decide.mp c
    · exact q x hx
theorem round_cover {a : Int} {i L : Nat} (hi : i < L) : ∃ j : Nat, j < L ∧ (a + (j : Int)) % (L : Int) = (i : Int) := by
  have h0 : (0 : Int) < L := by omega
  have a0 := Int.emod_nonneg ((i : Int) - a) (Int.ne_of_gt h0)
  have a1 := Int.emod_lt_of_pos ((i : Int) - a) h0
  refine ⟨(((i : Int) - a) % L).toNat, by omega, ?_⟩
  rw [Int.toNat_of_nonneg a0, Int.add_emod, Int.emod_emod_of_dvd _ (Int.dvd_refl _), ← Int.add_emod]
  rw [show a + ((i : Int) - a) = i by omega]
  exact Int.emod_eq_of_lt (by omega) (by omega)
theorem roundAt_mem (hL : 1 ≤ wk.length) (day : Int) : ∃ i, i < wk.length ∧ roundAt wk day = wk.getD i [] ∧ (day - 1) % (wk.length : Int) = (i : Int) := by
  have h0 : (0 : Int) < wk.length := by omega
  have a0 := Int.emod_nonneg (day - 1) (Int.ne_of_gt h0)
  have a1 := Int.emod_lt_of_pos (day - 1) h0
  exact ⟨((day - 1) % (wk.length : Int)).toNat, by omega, rfl, (Int.toNat_of_nonneg a0).symm⟩
theorem quiet_all (hL : 1 ≤ wk.length) {n : Nat} (h : S rs wk p m (n + (wk.length + 1)) = S rs wk p m n) : ∀ day, Quiet rs (S rs wk p m n) (roundAt wk day) := fun day => by
  obtain ⟨i, hi, e, _⟩ := roundAt_mem hL day
  obtain ⟨j, hj, ej⟩ := round_cover (a := m.1 + n) hi
  -- the day with this round among the still ones
  have q1 : S rs wk p m (n + (j + 1)) = S rs wk p m n := S_between (i := j + 1) (j := wk.length - j) (by rw [← h]; congr 1; omega)
  have q2 : S rs wk p m (n + (j + 2)) = S rs wk p m n := S_between (i := j + 2) (j := wk.length - j - 1) (by rw [← h]; congr 1; omega)
  have q3 : S rs wk p m (n + (j + 1) + 1) = S rs wk p m n := q2
  have q4 : walkF rs (m.1 + ((n + (j + 1) : Nat) : Int)) 0 (roundAt wk (m.1 + ((n + (j + 1) : Nat) : Int))) (S rs wk p m n) = S rs wk p m n := by
    have z : S rs wk p m (n + (j + 1) + 1) = walkF rs (m.1 + ((n + (j + 1) : Nat) : Int)) (if n + (j + 1) = 0 then m.2.toNat else 0) ((roundAt wk (m.1 + ((n + (j + 1) : Nat) : Int))).drop (if n + (j + 1) = 0 then m.2.toNat else 0)) (S rs wk p m (n + (j + 1))) := rfl
    rw [if_neg (by omega), List.drop_zero, q1] at z
    exact z.symm.trans q3
  have q5 := quiet_walkF _ _ q4
  have e2 : roundAt wk (m.1 + ((n + (j + 1) : Nat) : Int)) = wk.getD i [] := by
    unfold roundAt
    rw [show m.1 + ((n + (j + 1) : Nat) : Int) - 1 = m.1 + n + (j : Int) by omega, ej]
    rfl
  rw [e, ← e2]
  exact q5
theorem stable_quiet {n : Nat} (q : ∀ day, Quiet rs (S rs wk p m n) (roundAt wk day)) : ∀ j, S rs wk p m (n + j) = S rs wk p m n
  | 0 => rfl
  | j + 1 => by
    show walkF rs _ _ (List.drop _ _) (S rs wk p m (n + j)) = _
    rw [stable_quiet q j]
    exact walkF_quiet _ _ fun x hx => q _ x (List.mem_of_mem_drop hx)
theorem stable_of (hL : 1 ≤ wk.length) {n : Nat} (h : S rs wk p m (n + (wk.length + 1)) = S rs wk p m n) : ∀ M, n ≤ M → S rs wk p m M = S rs wk p m n := fun M hM => by
  have := stable_quiet (quiet_all hL h) (M - n)
  rwa [show n + (M - n) = M by omega] at this
/-- what the news can come to -/
inductive Reach (rs : List Road) (p : Str) : Str → Prop
  | refl : Reach rs p p
  | go {a b : Str} {r : Road} : Reach rs p a → r ∈ rs → ((r.2.1 = a ∧ r.2.2 = b) ∨ (r.2.2 = a ∧ r.2.1 = b)) → Reach rs p b
/-- so many roads, one behind the other -/
inductive WalkN (rs : List Road) (p : Str) : Nat → Str → Prop
  | refl : WalkN rs p 0 p
  | go {n : Nat} {a b : Str} {r : Road} : WalkN rs p n a → r ∈ rs → ((r.2.1 = a ∧ r.2.2 = b) ∨ (r.2.2 = a ∧ r.2.1 = b)) → WalkN rs p (n + 1) b
/-- the fewest roads -/
def DistN (rs : List Road) (p q : Str) (d : Int) : Prop := ∃ n : Nat, d = (n : Int) ∧ WalkN rs p n q ∧ ∀ m, WalkN rs p m q → n ≤ m
/-- the roads that are walked -/
def walked (rs : List Road) (wk : List (List Str)) : List Road := rs.filter fun r => wk.any fun n => decide (r.1 ∈ n)
theorem endsOf_mem {r : Road} (nd : (rnm rs).Nodup) (h : r ∈ rs) : endsOf rs r.1 = r.2 := by
  unfold endsOf
  have f : ∀ (l : List Road), (rnm l).Nodup → r ∈ l → l.find? (fun x => decide (x.1 = r.1)) = some r := fun l => by
    induction l with
    | nil => intro _ z; cases z
    | cons x l ih =>
      intro nd z
      have nd' := List.nodup_cons.mp nd
      rw [List.find?_cons]
      by_cases e : x.1 = r.1
      · rw [decide_eq_true e]
        rcases List.mem_cons.mp z with rfl | z
        · rfl
        · exact absurd (show x.1 ∈ rnm l by rw [e]; exact List.mem_map.mpr ⟨r, z, rfl⟩) nd'.1
      · rw [decide_eq_false e]
        rcases List.mem_cons.mp z with rfl | z
        · exact absurd rfl e
        · exact ih nd'.2 z
  rw [f rs nd h]
  rfl
theorem ks_app (st t : Got) : ks (st ++ t) = ks st ++ ks t := List.map_append ..
/-- what holds of each state -/
structure Inv0 (rs : List Road) (wk : List (List Str)) (p : Str) (st : Got) : Prop where
  nd : (ks st).Nodup
  re : ∀ q ∈ ks st, Reach (walked rs wk) p q
  hd : p ∈ ks st
theorem stepW_inv {day : Int} {k : Nat} {n : Str} {st : Got} (nd : (rnm rs).Nodup) (hn : ∃ r ∈ walked rs wk, r.1 = n) (h : Inv0 rs wk p st) : Inv0 rs wk p (stepW rs day k n st) := by
  obtain ⟨r, hr, rfl⟩ := hn
  have hr0 : r ∈ rs := (List.mem_filter.mp hr).1
  unfold stepW
  rw [endsOf_mem nd hr0]
  split
  · rename_i c
    rw [bne_iff_ne, ne_eq] at c
    by_cases a : r.2.1 ∈ ks st
    · have b : r.2.2 ∉ ks st := fun b => c (by rw [decide_eq_true a, decide_eq_true b])
      rw [if_pos a]
      refine ⟨?_, fun q hq => ?_, ?_⟩
      · rw [ks_app]
        exact List.nodup_append.mpr ⟨h.nd, List.nodup_cons.mpr ⟨(fun z => by cases z), List.nodup_nil⟩, fun x hx y hy e => b (by have e2 : x = r.2.2 := e.trans (List.mem_singleton.mp hy); exact e2 ▸ hx)⟩
      · rw [ks_app] at hq
        rcases List.mem_append.mp hq with z | z
        · exact h.re q z
        · rw [List.mem_singleton.mp z]
          exact .go (h.re _ a) hr (.inl ⟨rfl, rfl⟩)
      · rw [ks_app]
        exact List.mem_append.mpr (.inl h.hd)
    · have b : r.2.2 ∈ ks st := by
        by_cases b : r.2.2 ∈ ks st
        · exact b
        · exact absurd (by rw [decide_eq_false a, decide_eq_false b]) c
      rw [if_neg a]
      refine ⟨?_, fun q hq => ?_, ?_⟩
      · rw [ks_app]
        exact List.nodup_append.mpr ⟨h.nd, List.nodup_cons.mpr ⟨(fun z => by cases z), List.nodup_nil⟩, fun x hx y hy e => a (by have e2 : x = r.2.1 := e.trans (List.mem_singleton.mp hy); exact e2 ▸ hx)⟩
      · rw [ks_app] at hq
        rcases List.mem_append.mp hq with z | z
        · exact h.re q z
        · rw [List.mem_singleton.mp z]
          exact .go (h.re _ b) hr (.inr ⟨rfl, rfl⟩)
      · rw [ks_app]
        exact List.mem_append.mpr (.inl h.hd)
  · exact h
theorem walkF_inv {day : Int} (nd : (rnm rs).Nodup) : ∀ (ns : List Str) (k : Nat) (st : Got), (∀ n ∈ ns, ∃ r ∈ walked rs wk, r.1 = n) → Inv0 rs wk p st → Inv0 rs wk p (walkF rs day k ns st)
  | [], _, _, _, h => h
  | n :: ns, k, st, hn, h => walkF_inv nd ns (k + 1) _ (fun x hx => hn x (List.mem_cons_of_mem _ hx)) (stepW_inv nd (hn n (List.mem_cons_self ..)) h)
theorem round_walked (hw : WeekOk rs wk) (day : Int) : ∀ n ∈ roundAt wk day, ∃ r ∈ walked rs wk, r.1 = n := fun n hn => by
  obtain ⟨i, hi, e, _⟩ := roundAt_mem hw.one day
  rw [e, List.getD_eq_getElem?_getD, List.getElem?_eq_getElem hi] at hn
  have hm : wk[i] ∈ wk := List.getElem_mem hi
  obtain ⟨r, hr, rfl⟩ := List.mem_map.mp ((hw.rd _ hm).sub n hn)
  exact ⟨r, List.mem_filter.mpr ⟨hr, List.any_eq_true.mpr ⟨_, hm, decide_eq_true hn⟩⟩, rfl⟩
theorem S_inv (nd : (rnm rs).Nodup) (hw : WeekOk rs wk) : ∀ n, Inv0 rs wk p (S rs wk p m n)
  | 0 => ⟨List.nodup_cons.mpr ⟨(fun z => by cases z), List.nodup_nil⟩, fun q hq => by rw [List.mem_singleton.mp hq]; exact .refl, List.mem_singleton.mpr rfl⟩
  | n + 1 => walkF_inv nd _ _ _ (fun x hx => round_walked hw _ x (List.mem_of_mem_drop hx)) (S_inv nd hw n)
theorem reach_ps {ps : List Str} (ok : RoadsOk ps rs) (hp : p ∈ ps) {q : Str} (h : Reach (walked rs wk) p q) : q ∈ ps := by
  induction h with
  | refl => exact hp
  | go _ hr hc _ =>
    have hr0 := (List.mem_filter.mp hr).1
    rcases hc with ⟨_, rfl⟩ | ⟨_, rfl⟩
    · exact ok.b _ hr0
    · exact ok.a _ hr0
theorem S_len {ps : List Str} (ok : RoadsOk ps rs) (hw : WeekOk rs wk) (hp : p ∈ ps) (n : Nat) : (S rs wk p m n).length ≤ ps.length := by
  have i := S_inv (p := p) (m := m) ok.nd hw n
  have := nd_len _ ps i.nd fun q hq => reach_ps ok hp (i.re q hq)
  rwa [List.length_map] at this
/-- when all is quiet, all is reached -/
theorem quiet_full (nd : (rnm rs).Nodup) (hw : WeekOk rs wk) {st : Got} (i : Inv0 rs wk p st) (q : ∀ day, Quiet rs st (roundAt wk day)) {x : Str} (h : Reach (walked rs wk) p x) : x ∈ ks st := by
  induction h with
  | refl => exact i.hd
  | @go a b r _ hr hc ih =>
    have hr0 := (List.mem_filter.mp hr).1
    obtain ⟨n, hn, hd⟩ := List.any_eq_true.mp (List.mem_filter.mp hr).2
    obtain ⟨j, hj, e⟩ := List.mem_iff_getElem.mp hn
    have hL := hw.one
    have qq := q ((j : Int) + 1)
    have e2 : roundAt wk ((j : Int) + 1) = n := by
      unfold roundAt
      rw [show (j : Int) + 1 - 1 = j by omega, Int.emod_eq_of_lt (by omega) (by omega), Int.toNat_natCast, List.getD_eq_getElem?_getD, List.getElem?_eq_getElem hj]
      exact e
    rw [e2] at qq
    have := qq r.1 (of_decide_eq_true hd)
    rw [endsOf_mem nd hr0] at this
    rcases hc with ⟨rfl, rfl⟩ | ⟨rfl, rfl⟩
    · exact this.mp ih
    · exact this.mpr ih
/-- from some day on nothing is new -/
theorem stable_ex {ps : List Str} (ok : RoadsOk ps rs) (hw : WeekOk rs wk) (hp : p ∈ ps) : ∀ (c n : Nat), ps.length ≤ (S rs wk p m n).length + c → ∃ N, N ≤ n + c * (wk.length + 1) ∧ S rs wk p m (N + (wk.length + 1)) = S rs wk p m N
  | c, n, h => by
    by_cases e : S rs wk p m (n + (wk.length + 1)) = S rs wk p m n
    · exact ⟨n, Nat.le_add_right .., e⟩
    · obtain ⟨t, et⟩ := S_le (rs := rs) (wk := wk) (p := p) (m := m) (wk.length + 1) n
      have hl := S_len (m := m) ok hw hp (n + (wk.length + 1))
      have ht : 0 < t.length := by
        cases t with
        | nil => rw [List.append_nil] at et; exact absurd et e
        | cons x t => exact Nat.succ_pos _
      rw [et, List.length_append] at hl
      cases c with
      | zero => omega
      | succ c =>
        obtain ⟨N, h1, h2⟩ := stable_ex ok hw hp c (n + (wk.length + 1)) (by rw [et, List.length_append]; omega)
        exact ⟨N, by rw [Nat.succ_mul]; omega, h2⟩
theorem final_ex {ps : List Str} (ok : WebOk ps rs) (hw : WeekOk rs wk) (hp : p ∈ ps) : ∃ N, N ≤ 50 ∧ (∀ M, N ≤ M → S rs wk p m M = S rs wk p m N) ∧ ∀ q, q ∈ ks (S rs wk p m N) ↔ Reach (walked rs wk) p q := by
  obtain ⟨N, h1, h2⟩ := stable_ex (m := m) ok.r hw hp ps.length 0 (Nat.le_add_left ..)
  have a := ok.p.most
  have b := hw.most
  have : ps.length * (wk.length + 1) ≤ 10 * 5 := Nat.mul_le_mul a (by omega)
  exact ⟨N, by omega, stable_of hw.one h2, fun q => ⟨(S_inv ok.r.nd hw N).re q, quiet_full ok.r.nd hw (S_inv ok.r.nd hw N) (quiet_all hw.one h2)⟩⟩
end
/-- a def of data gives back one new cell -/
theorem keep0 {P : DK} {l : Mu} {j : Nat} {o : O} (e : l[j]? = some o) (ho : oldO 0 o) (h : P (.c 0) [o]) : RetD 0 P (.c j) l := by
  refine ⟨some j, .c 0, [o], .inr (.inr (.inl ⟨_, rfl, rfl, rfl⟩)), ⟨fun i z => ?_, rfl, fun i u lt => absurd lt (Nat.not_lt_zero _), fun i u z z2 => ?_⟩, h⟩
  · obtain rfl := Option.some.inj z
    exact ⟨Nat.zero_le _, (List.getElem?_eq_some_iff.mp e).1⟩
  · obtain rfl := Option.some.inj z
    obtain rfl : o = u := Option.some.inj z2
    exact ⟨_, e, rfyO_old ho⟩
theorem data0 {P : DK} {l : Mu} {d : PyData} (h : P (.d d) []) : RetD 0 P (.d d) l := by
  have := ret_data (m := 0) (μ1 := []) l rfl (fun i o e => by simp at e) h
  exact this
theorem frz0 {P : DK} {l : Mu} {j : Nat} {ds : List PyData} (e : l[j]? = some (.lst (ds.map A.d))) (h : P (.d (.list ds)) []) : RetD 0 P (.c j) l := by
  have := ret_frz (m := 0) (μ1 := []) (l := l) (j := j) rfl (fun i o e => by simp at e) e (.data ds) h
  rwa [Nat.zero_add] at this
theorem len2 {α : Type} {a b : α} : [a, b].length ≤ sizeLine := show 2 ≤ sizeLine from by decide
theorem len3 {α : Type} {a b c : α} : [a, b, c].length ≤ sizeLine := show 3 ≤ sizeLine from by decide
theorem one_o {o : O} (h : dO o) : ∀ u ∈ [o], dO u := fun u hu => by
  rw [List.mem_singleton.mp hu]
  exact h
theorem pick1 {μ : Mu} {n : Nat} {o : O} (h : μ[n]? = some o) (ho : dO o) : Pick [n] μ [o] where
  nd := List.nodup_cons.mpr ⟨(fun z => by cases z), List.nodup_nil⟩
  len := rfl
  at_ := fun j k e => by
    cases j with
    | zero =>
      obtain rfl : n = k := Option.some.inj e
      exact ⟨o, h, rfl, ho⟩
    | succ j => simp at e
theorem drop_get {α : Type} {xs : List α} {i : Nat} {x : α} (h : xs[i]? = some x) : xs.drop i = x :: xs.drop (i + 1) := by
  obtain ⟨lt, rfl⟩ := List.getElem?_eq_some_iff.mp h
  exact List.drop_eq_getElem_cons lt
theorem take_get {α : Type} {xs : List α} {i : Nat} {x : α} (h : xs[i]? = some x) : xs.take (i + 1) = xs.take i ++ [x] := by
  rw [List.take_add_one, h]
  rfl
theorem len1 {α : Type} {a : α} : [a].length ≤ sizeLine := show 1 ≤ sizeLine from by decide
theorem get_end {μ : Mu} {o : O} : (μ ++ [o])[μ.length]? = some o := by rw [List.getElem?_append_right (Nat.le_refl _), Nat.sub_self]; rfl
theorem get_ne {μ : Mu} {n k : Nat} {o u : O} (h : μ[n]? = some o) (ne : k ≠ n) : (μ.set k u)[n]? = some o := by rw [List.getElem?_set_ne ne]; exact h
def endD (e : Str × Str) : PyData := .tuple [.str e.1, .str e.2]
def endsA (rs : List Road) : List (Key × A) := rs.map fun r => (.inr r.1, .d (endD r.2))
def atR (p : Str) (r : Road) : List (Str × Str) := (if r.2.1 = p then [(r.1, r.2.2)] else []) ++ if r.2.2 = p then [(r.1, r.2.1)] else []
def roadsAt (rs : List Road) (p : Str) : List (Str × Str) := rs.flatMap (atR p)
def stepA (st : List (Str × Int)) : List (Key × A) := st.map fun q => (.inr q.1, .d (.int q.2))
def R_steps_from : DR := fun xs μ Pk _ => ∃ ps rs p, xs = [.d (webD ps rs), .d (.str p)] ∧ μ = [] ∧ WebOk ps rs ∧ p ∈ ps ∧
  ∀ st : List (Str × Int), (st.map (·.1)).Nodup → (∀ q, q ∈ st.map (·.1) ↔ Reach rs p q) → (∀ q d, (q, d) ∈ st → DistN rs p q d) → Pk (.c 0) [.dct (stepA st)]
def dA (l : List (Str × PyData)) : List (Key × A) := l.map fun q => (.inr q.1, .d q.2)
def lookD (l : List (Str × PyData)) (q : Str) : PyData := ((l.find? fun x => decide (x.1 = q)).map fun x => x.2).getD .none
theorem atR_len (p : Str) (r : Road) : (atR p r).length ≤ 2 := by
  unfold atR
  rw [List.length_append]
  split <;> split <;> simp
theorem roadsAt_len (p : Str) : ∀ rs : List Road, (roadsAt rs p).length ≤ 2 * rs.length
  | [] => Nat.le_refl _
  | r :: rs => by
    have := atR_len p r
    have := roadsAt_len p rs
    unfold roadsAt at this ⊢
    rw [List.flatMap_cons, List.length_append, List.length_cons]
    omega
theorem valA_d (l : List (Str × PyData)) (q : Str) : (valA (dA l) (.inr q)).getD (.d .none) = .d (lookD l q) := by
  unfold valA dA lookD
  induction l with
  | nil => rfl
  | cons x st ih =>
    rw [List.map_cons, List.find?_cons, List.find?_cons]
    by_cases e : x.1 = q
    · rw [decide_eq_true e, decide_eq_true (show (Sum.inr x.1 : Key) = Sum.inr q from congrArg _ e)]
      rfl
    · rw [decide_eq_false e, decide_eq_false (show ¬ (Sum.inr x.1 : Key) = Sum.inr q from fun z => e (Sum.inr.inj z))]
      exact ih
theorem dO_dA (l : List (Str × PyData)) : dO (.dct (dA l)) := fun x hx => by
  obtain ⟨r, _, rfl⟩ := List.mem_map.mp hx
  exact ⟨_, rfl⟩
theorem valA_endF : ∀ (rs : List Road) (n : Str), n ∈ rnm rs → valA (endsA rs) (.inr n) = some (.d (endD (endsOf rs n)))
  | [], _, h => by cases h
  | r :: rs, n, h => by
    unfold valA endsA endsOf
    rw [List.map_cons, List.find?_cons, List.find?_cons]
    by_cases e : r.1 = n
    · rw [decide_eq_true e, decide_eq_true (show (Sum.inr r.1 : Key) = Sum.inr n from congrArg _ e)]
      rfl
    · rw [decide_eq_false e, decide_eq_false (show ¬ (Sum.inr r.1 : Key) = Sum.inr n from fun z => e (Sum.inr.inj z))]
      rcases List.mem_cons.mp h with z | z
      · exact absurd z.symm e
      · exact valA_endF rs n z
theorem dO_step (st : List (Str × Int)) : dO (.dct (stepA st)) := fun x hx => by
  obtain ⟨r, _, rfl⟩ := List.mem_map.mp hx
  exact ⟨_, rfl⟩
abbrev kk (st : List (Str × Int)) : List Str := st.map fun q => q.1
def nbs (rs : List Road) (a : Str) : List Str := (roadsAt rs a).map fun q => q.2
theorem mem_nbs {rs : List Road} {a b : Str} : b ∈ nbs rs a ↔ ∃ r ∈ rs, (r.2.1 = a ∧ r.2.2 = b) ∨ (r.2.2 = a ∧ r.2.1 = b) := by
  unfold nbs roadsAt
  constructor
  · intro h
    obtain ⟨q, hq, rfl⟩ := List.mem_map.mp h
    obtain ⟨r, hr, hq⟩ := List.mem_flatMap.mp hq
    refine ⟨r, hr, ?_⟩
    unfold atR at hq
    rcases List.mem_append.mp hq with z | z
    · split at z
      · rename_i e
        rw [List.mem_singleton.mp z]
        exact .inl ⟨e, rfl⟩
      · cases z
    · split at z
      · rename_i e
        rw [List.mem_singleton.mp z]
        exact .inr ⟨e, rfl⟩
      · cases z
  · rintro ⟨r, hr, ⟨e, rfl⟩ | ⟨e, rfl⟩⟩
    · refine List.mem_map.mpr ⟨(r.1, r.2.2), List.mem_flatMap.mpr ⟨r, hr, ?_⟩, rfl⟩
      unfold atR
      rw [if_pos e]
      exact List.mem_append.mpr (.inl (List.mem_singleton.mpr rfl))
    · refine List.mem_map.mpr ⟨(r.1, r.2.1), List.mem_flatMap.mpr ⟨r, hr, ?_⟩, rfl⟩
      unfold atR
      rw [if_pos e]
      exact List.mem_append.mpr (.inr (List.mem_singleton.mpr rfl))
structure Bfs (rs : List Road) (p : Str) (st : List (Str × Int)) (rest bey : List Str) : Prop where
  nd : (kk st).Nodup
  re : ∀ q ∈ kk st, Reach rs p q
  hd : p ∈ kk st
  cl : ∀ a ∈ kk st, a ∈ rest ∨ a ∈ bey ∨ ∀ b ∈ nbs rs a, b ∈ kk st
  sub : ∀ a ∈ rest, a ∈ kk st
  sub2 : ∀ a ∈ bey, a ∈ kk st
section
variable {rs : List Road} {p h b : Str} {st : List (Str × Int)} {rest bey : List Str} {v : Int}
theorem Bfs.start : Bfs rs p [(p, 0)] [p] [] where
  nd := List.nodup_cons.mpr ⟨(fun z => by cases z), List.nodup_nil⟩
  re := fun q hq => by rw [List.mem_singleton.mp hq]; exact .refl
  hd := List.mem_singleton.mpr rfl
  cl := fun a ha => .inl ha
  sub := fun a ha => ha
  sub2 := fun a ha => by cases ha
theorem kk_app (st t : List (Str × Int)) : kk (st ++ t) = kk st ++ kk t := List.map_append ..
theorem Bfs.put (i : Bfs rs p st (h :: rest) bey) (hb : b ∈ nbs rs h) (hn : b ∉ kk st) : Bfs rs p (st ++ [(b, v)]) (h :: rest) (bey ++ [b]) where
  nd := by
    rw [kk_app]
    refine List.nodup_append.mpr ⟨i.nd, List.nodup_cons.mpr ⟨(fun z => by cases z), List.nodup_nil⟩, fun x hx y hy e => hn ?_⟩
    have e2 : x = b := e.trans (List.mem_singleton.mp hy)
    exact e2 ▸ hx
  re := fun q hq => by
    rw [kk_app] at hq
    rcases List.mem_append.mp hq with z | z
    · exact i.re q z
    · rw [List.mem_singleton.mp z]
      obtain ⟨r, hr, c⟩ := mem_nbs.mp hb
      exact .go (i.re h (i.sub h (List.mem_cons_self ..))) hr c
  hd := by rw [kk_app]; exact List.mem_append.mpr (.inl i.hd)
  cl := fun a ha => by
    rw [kk_app] at ha ⊢
    rcases List.mem_append.mp ha with z | z
    · rcases i.cl a z with x | x | x
      · exact .inl x
      · exact .inr (.inl (List.mem_append.mpr (.inl x)))
      · exact .inr (.inr fun y hy => List.mem_append.mpr (.inl (x y hy)))
    · exact .inr (.inl (List.mem_append.mpr (.inr z)))
  sub := fun a ha => by rw [kk_app]; exact List.mem_append.mpr (.inl (i.sub a ha))
  sub2 := fun a ha => by
    rw [kk_app]
    rcases List.mem_append.mp ha with z | z
    · exact List.mem_append.mpr (.inl (i.sub2 a z))
    · exact List.mem_append.mpr (.inr z)
theorem Bfs.next (i : Bfs rs p st (h :: rest) bey) (all : ∀ b ∈ nbs rs h, b ∈ kk st) : Bfs rs p st rest bey where
  nd := i.nd
  re := i.re
  hd := i.hd
  cl := fun a ha => by
    rcases i.cl a ha with x | x | x
    · rcases List.mem_cons.mp x with rfl | x
      · exact .inr (.inr all)
      · exact .inl x
    · exact .inr (.inl x)
    · exact .inr (.inr x)
  sub := fun a ha => i.sub a (List.mem_cons_of_mem _ ha)
  sub2 := i.sub2
theorem Bfs.turn (i : Bfs rs p st [] bey) : Bfs rs p st bey [] where
  nd := i.nd
  re := i.re
  hd := i.hd
  cl := fun a ha => by
    rcases i.cl a ha with x | x | x
    · cases x
    · exact .inl x
    · exact .inr (.inr x)
  sub := i.sub2
  sub2 := fun a ha => by cases ha
theorem Bfs.done (i : Bfs rs p st [] []) {q : Str} : q ∈ kk st ↔ Reach rs p q := by
  refine ⟨i.re q, fun h => ?_⟩
  induction h with
  | refl => exact i.hd
  | @go a b r _ hr hc ih =>
    rcases i.cl a ih with x | x | x
    · cases x
    · cases x
    · exact x b (mem_nbs.mpr ⟨r, hr, hc⟩)
theorem Bfs.len {ps : List Str} (i : Bfs rs p st rest bey) (hp : p ∈ ps) (ha : ∀ r ∈ rs, r.2.1 ∈ ps) (hb : ∀ r ∈ rs, r.2.2 ∈ ps) : st.length ≤ ps.length := by
  have := nd_len _ ps i.nd fun q hq => by
    have r := i.re q hq
    clear hq
    induction r with
    | refl => exact hp
    | go _ hr hc _ =>
      rcases hc with ⟨_, rfl⟩ | ⟨_, rfl⟩
      · exact hb _ hr
      · exact ha _ hr
  rwa [List.length_map] at this
theorem step_in (st : List (Str × Int)) (q : Str) : (valA (stepA st) (.inr q)).isSome = decide (q ∈ kk st) := by
  unfold valA stepA
  induction st with
  | nil => rfl
  | cons x st ih =>
    rw [List.map_cons, List.find?_cons]
    by_cases e : x.1 = q
    · rw [decide_eq_true (show (Sum.inr x.1 : Key) = Sum.inr q from congrArg _ e), decide_eq_true (show q ∈ kk (x :: st) from List.mem_cons.mpr (.inl e.symm))]
      rfl
    · rw [decide_eq_false (show ¬ (Sum.inr x.1 : Key) = Sum.inr q from fun z => e (Sum.inr.inj z))]
      refine ih.trans (decide_eq_decide.mpr ⟨List.mem_cons_of_mem _, fun h => ?_⟩)
      rcases List.mem_cons.mp h with z | z
      · exact absurd z.symm e
      · exact z
theorem putA_new {α : Type} {f : α → Key × A} {l : List α} {k : Key} {v : A} (h : ∀ x ∈ l, (f x).1 ≠ k) : putA (l.map f) k v = l.map f ++ [(k, v)] := by
  unfold putA
  rw [if_neg]
  intro z
  obtain ⟨y, hy, e⟩ := List.any_eq_true.mp z
  obtain ⟨x, hx, rfl⟩ := List.mem_map.mp hy
  exact h x hx (of_decide_eq_true e)
theorem step_put (hn : b ∉ kk st) : putA (stepA st) (.inr b) (.d (.int v)) = stepA (st ++ [(b, v)]) := by
  unfold stepA
  rw [putA_new, List.map_append]
  · rfl
  · intro x hx e
    exact hn (Sum.inr.inj e ▸ List.mem_map.mpr ⟨x, hx, rfl⟩)
theorem Inv0.len {ps : List Str} {rs : List Road} {wk : List (List Str)} {p : Str} {st : Got} (i : Inv0 rs wk p st) (ok : RoadsOk ps rs) (hp : p ∈ ps) : st.length ≤ ps.length := by
  have := nd_len _ ps i.nd fun q hq => reach_ps ok hp (i.re q hq)
  rwa [List.length_map] at this
theorem round_len {rs : List Road} {wk : List (List Str)} (hw : WeekOk rs wk) (day : Int) : (roundAt wk day).length ≤ rs.length := by
  obtain ⟨i, hi, e, _⟩ := roundAt_mem hw.one day
  rw [e, List.getD_eq_getElem?_getD, List.getElem?_eq_getElem hi]
  exact nd_le (hw.rd _ (List.getElem_mem hi))
theorem round_sub {rs : List Road} {wk : List (List Str)} (hw : WeekOk rs wk) (day : Int) : ∀ n ∈ roundAt wk day, n ∈ rnm rs := fun n hn => by
  obtain ⟨r, hr, rfl⟩ := round_walked hw day n hn
  exact List.mem_map.mpr ⟨r, (List.mem_filter.mp hr).1, rfl⟩
/-- where the walks of a day begin -/
def beg (m : Mom) (n : Nat) : Nat := if n = 0 then m.2.toNat else 0
theorem S_next {rs : List Road} {wk : List (List Str)} {p : Str} {m : Mom} (n : Nat) : S rs wk p m (n + 1) = walkF rs (m.1 + n) (beg m n) ((roundAt wk (m.1 + n)).drop (beg m n)) (S rs wk p m n) := rfl
theorem beg_le {wk : List (List Str)} {m : Mom} (hm : MomS wk m) (n : Nat) : beg m n ≤ (roundAt wk (m.1 + n)).length := by
  unfold beg
  split
  · rename_i e
    subst e
    have := hm.w2
    have := hm.w1
    rw [show m.1 + ((0 : Nat) : Int) = m.1 by omega]
    omega
  · exact Nat.zero_le _
/-- the state within a day -/
def mid (rs : List Road) (wk : List (List Str)) (p : Str) (m : Mom) (n i : Nat) : Got := walkF rs (m.1 + n) (beg m n) (((roundAt wk (m.1 + n)).drop (beg m n)).take i) (S rs wk p m n)
theorem mid_succ {rs : List Road} {wk : List (List Str)} {p : Str} {m : Mom} {n i : Nat} {x : Str} (h : (roundAt wk (m.1 + n))[beg m n + i]? = some x) : mid rs wk p m n (i + 1) = stepW rs (m.1 + n) (beg m n + i) x (mid rs wk p m n i) := by
  have h2 : ((roundAt wk (m.1 + n)).drop (beg m n))[i]? = some x := by rw [List.getElem?_drop]; exact h
  have lt := (List.getElem?_eq_some_iff.mp h2).1
  unfold mid
  rw [take_get h2, walkF_snoc, List.length_take, Nat.min_eq_left (Nat.le_of_lt lt)]
theorem mid_end {rs : List Road} {wk : List (List Str)} {p : Str} {m : Mom} {n i : Nat} (h : (roundAt wk (m.1 + n)).length - beg m n ≤ i) : mid rs wk p m n i = S rs wk p m (n + 1) := by
  unfold mid
  rw [List.take_of_length_le (by rw [List.length_drop]; exact h)]
  rfl
theorem stepW_tf {rs : List Road} {day : Int} {k : Nat} {n : Str} {st : Got} (a : (endsOf rs n).1 ∈ ks st) (b : (endsOf rs n).2 ∉ ks st) : stepW rs day k n st = st ++ [((endsOf rs n).2, (day, (k : Int) + 1))] := by
  unfold stepW
  rw [decide_eq_true a, decide_eq_false b, if_pos (show (true != false) = true from rfl), if_pos a]
theorem stepW_ft {rs : List Road} {day : Int} {k : Nat} {n : Str} {st : Got} (a : (endsOf rs n).1 ∉ ks st) (b : (endsOf rs n).2 ∈ ks st) : stepW rs day k n st = st ++ [((endsOf rs n).1, (day, (k : Int) + 1))] := by
  unfold stepW
  rw [decide_eq_false a, decide_eq_true b, if_pos (show (false != true) = true from rfl), if_neg a]
end
theorem signs_small : ∀ c ∈ signs.cps.toList, c < 1114112 := by decide +kernel
theorem name_str {s : Str} (h : NameOk s) : PyData.strOk s = true := by
  unfold PyData.strOk
  rw [← Array.all_toList]
  exact List.all_eq_true.mpr fun c hc => decide_eq_true (signs_small c (h.all c hc))
theorem wideI {i j : Int} {a b : Nat} (ha : i.natAbs < 2 ^ a) (hb : j.natAbs < 2 ^ b) (h0 : 0 < a := by decide) (h1 : 0 < b := by decide) (h : a + b ≤ 1000000 := by decide) : CMulA i j := .inr (by
  have x := PySem.Flt.log2_lt_of h0 ha
  have y := PySem.Flt.log2_lt_of h1 hb
  unfold CMulV
  omega)
theorem mod_bd {x M : Int} {k : Nat} (h0 : 0 < M) (h1 : M < 2 ^ k) : (x % M).natAbs < 2 ^ k := by
  have a := Int.emod_nonneg x (show M ≠ 0 by omega)
  have b := Int.emod_lt_of_pos x h0
  have e : ((2 ^ k : Nat) : Int) = (2 : Int) ^ k := by rw [Int.natCast_pow]; rfl
  omega
theorem smallR {i j : Int} (h1 : 0 ≤ j) (h2 : j < 10 ^ 18) : CMulA i j := .inl (.inr ⟨by omega, by omega⟩)
theorem smallL {i j : Int} (h1 : 0 ≤ i) (h2 : i < 10 ^ 18) : CMulA i j := .inl (.inl ⟨by omega, by omega⟩)
theorem divS {i j : Int} (h1 : 0 < j) (h2 : j < 10 ^ 18) : CDivW i j := wide_div (b := 64) h1 (by omega) (by decide) (by decide)
theorem cut_nat {α : Type} (l : List α) (k : Nat) : cut l none (some (k : Int)) = l.take k := by
  unfold cut
  rw [HT.sIx_none, show HT.sIx l.length l.length (some (k : Int)) = min k l.length from HT.sIx_nat _ _ k, List.drop_zero, Nat.sub_zero, List.take_eq_take_iff]
  omega
theorem perm_mapD {α β : Type} {f : α → β} {l : List α} : ∀ {m : List β}, m.Perm (l.map f) → ∃ l' : List α, l'.Perm l ∧ m = l'.map f := fun {m} h => by
  induction h' : m.length generalizing m l with
  | zero =>
    have e : m = [] := List.length_eq_zero_iff.mp h'
    subst e
    have := h.length_eq
    rw [List.length_map] at this
    have e : l = [] := List.length_eq_zero_iff.mp this.symm
    subst e
    exact ⟨[], .refl _, rfl⟩
  | succ n ih =>
    cases m with
    | nil => cases h'
    | cons x m =>
      have hx : x ∈ l.map f := h.mem_iff.mp (List.mem_cons_self ..)
      obtain ⟨a, ha, rfl⟩ := List.mem_map.mp hx
      obtain ⟨l1, l2, rfl⟩ := List.append_of_mem ha
      have h2 : (l1 ++ a :: l2).Perm (a :: (l1 ++ l2)) := List.perm_middle
      have h3 : (f a :: m).Perm (f a :: (l1 ++ l2).map f) := h.trans (h2.map f)
      obtain ⟨l', hl, rfl⟩ := ih (List.Perm.cons_inv h3) (by simpa using h')
      exact ⟨a :: l', (List.Perm.cons a hl).trans h2.symm, rfl⟩
theorem erase_map {α β : Type} (f : α → β) : ∀ (l : List α) (j : Nat), (l.map f).eraseIdx j = (l.eraseIdx j).map f
  | [], _ => rfl
  | x :: l, 0 => rfl
  | x :: l, j + 1 => congrArg (f x :: ·) (erase_map f l j)
theorem len_tup {ds : List PyData} {μ : Mu} {P : DK} (h : P (.d (.int ds.length)) μ) : rdLenU [.d (.tuple ds)] μ P := h
theorem len_lst {ds : List PyData} {μ : Mu} {P : DK} (h : P (.d (.int ds.length)) μ) : rdLenU [.d (.list ds)] μ P := h
theorem add_int {i j : Int} {μ : Mu} {P : DK} (h : P (.d (.int (i + j))) μ) : rdAdd (.d (.int i)) (.d (.int j)) μ P := h
def fcell (a b c : Int) : O := .lst [.d (.int a), .d (.int b), .d (.int c)]
def FD (k : Int) (o : O) : Prop := ∃ a b c : Int, o = fcell a b c ∧ 0 ≤ a ∧ 0 ≤ b ∧ b < 10 ^ 40 ∧ 0 ≤ c ∧ c ≤ k ∧ a.natAbs.log2 ≤ 1048576
theorem FD.mono {k l : Int} {o : O} (h : FD k o) (x : k ≤ l) : FD l o := by
  obtain ⟨a, b, c, e, h1, h2, h3, h4, h5, h6⟩ := h
  exact ⟨a, b, c, e, h1, h2, h3, h4, by omega, h6⟩
theorem FD.pos {k : Int} {o : O} (h : FD k o) : 0 ≤ k := by
  obtain ⟨a, b, c, e, h1, h2, h3, h4, h5, h6⟩ := h
  omega
theorem dO_lst (ds : List PyData) : dO (.lst (ds.map A.d)) := fun x hx => by
  obtain ⟨d, _, rfl⟩ := List.mem_map.mp hx
  exact ⟨_, rfl⟩
theorem FD.dO {k : Int} {o : O} (h : FD k o) : dO o := by
  obtain ⟨a, b, c, rfl, _⟩ := h
  exact dO_lst [.int a, .int b, .int c]
theorem FD.old {k : Int} {o : O} {m : Nat} (h : FD k o) : oldO m o := by
  obtain ⟨a, b, c, rfl, _⟩ := h
  exact oldO_map [.int a, .int b, .int c]
/-- a callee that is handed the feed and data, and gives back data -/
theorem fr_feed {R : DR} {μ : Mu} {P : DK} {Ex : DX} {n : Nat} {o : O} (ds : List PyData) (h : μ[n]? = some o) (ho : dO o)
    (r : R (.c 0 :: ds.map A.d) [o] (fun y ν => (∀ o ∈ ν, dO o) ∧ P (upA [n] μ.length y) (Dl.putAll μ [n] ν ++ ν.drop 1)) fun C u ν => (∀ o ∈ ν, dO o) ∧ Ex C u (Dl.putAll μ [n] ν ++ ν.drop 1)) : FR R (.c n :: ds.map A.d) μ P Ex := by
  refine ⟨[n], .c 0 :: ds.map A.d, [o], pick1 h ho, ?_, fun z hz => ?_, r⟩
  · rw [List.map_cons, map_up_d]
    rfl
  · rcases List.mem_cons.mp hz with rfl | hz
    · exact Nat.zero_lt_one
    · obtain ⟨d, _, rfl⟩ := List.mem_map.mp hz
      trivial
theorem bkf {μ : Mu} {P : DK} {n k : Nat} {d : PyData} {o : O} (ho : dO o) (h : P (.d d) (μ.set n o)) : (∀ u ∈ [o], dO u) ∧ P (upA [n] k (.d d)) (Dl.putAll μ [n] [o] ++ [o].drop 1) := by
  refine ⟨one_o ho, ?_⟩
  show P (.d d) (Dl.putAll (μ.set n o) [] [] ++ [])
  rw [List.append_nil]
  unfold Dl.putAll
  exact h
/-- what a def with the feed as its first cell ends with -/
theorem feedRet {P : DK} {o' : O} {l : Mu} {d : PyData} {k : Int} (hk : FD k o') (h : P (.d d) [o']) : RetD 1 P (.d d) (o' :: l) := by
  refine ret_data (m := 1) (μ1 := [o']) l rfl (fun i u e => ?_) h
  cases i with
  | zero =>
    obtain rfl := Option.some.inj e
    exact hk.old
  | succ i => simp at e
theorem feedFrz {P : DK} {o' : O} {l : Mu} {ds : List PyData} {k : Int} {j : Nat} (hk : FD k o') (e : l[j]? = some (.lst (ds.map A.d))) (h : P (.d (.list ds)) [o']) : RetD 1 P (.c (1 + j)) (o' :: l) := by
  refine ret_frz (m := 1) (μ1 := [o']) (l := l) (j := j) rfl (fun i u e => ?_) e (.data ds) h
  cases i with
  | zero =>
    obtain rfl := Option.some.inj e
    exact hk.old
  | succ i => simp at e
def R__law_draw : DR := fun xs μ Pk _ => ∃ o k, ∃ m : Int, xs = [.c 0, .d (.int m)] ∧ μ = [o] ∧ FD k o ∧ k < 10 ^ 18 ∧ (0 < m ∧ m < 10 ^ 61) ∧
  ∀ r o', 0 ≤ r → r < m → FD (k + 1) o' → Pk (.d (.int r)) [o']
theorem fr_draw {μ : Mu} {P : DK} {Ex : DX} {n : Nat} {o : O} {k m : Int} (h : μ[n]? = some o) (hk : FD k o) (k1 : k < 10 ^ 18) (hm : 0 < m ∧ m < 10 ^ 18) (q : ∀ r o', 0 ≤ r → r < m → FD (k + 1) o' → P (.d (.int r)) (μ.set n o')) : FR R__law_draw [.c n, .d (.int m)] μ P Ex :=
  fr_feed [.int m] h hk.dO ⟨o, k, m, rfl, rfl, hk, k1, ⟨hm.1, by omega⟩, fun r o' h1 h2 hk' => bkf hk'.dO (q r o' h1 h2 hk')⟩
theorem log2_le_of {a b : Nat} (h : a ≤ b) : a.log2 ≤ b.log2 := by
  by_cases z : a = 0
  · subst z
    rw [Nat.log2_zero]
    exact Nat.zero_le _
  · exact (Nat.le_log2 (by omega)).mpr (Nat.le_trans (Nat.log2_self_le z) h)
/-- the script's numbers are of no more than so many bits -/
def Bits (ns : List Int) : Prop := ∀ z ∈ ns, z.natAbs.log2 ≤ 1048576
theorem bits_of {ns : List Int} (h : ∀ z ∈ ns, Builtin.Int.intBits z ≤ 1048576) : Bits ns := fun z hz => by
  have := h z hz
  unfold Builtin.Int.intBits at this
  split at this
  next e =>
    have e0 : z = 0 := by simpa using e
    subst e0
    decide
  next => omega
def R__law_one : DR := fun xs μ Pk _ => ∃ o k y ds, xs = [.c 0, .d y] ∧ μ = [o] ∧ (y = .list ds ∨ y = .tuple ds) ∧ (0 < ds.length ∧ ds.length < 10 ^ 6) ∧ FD k o ∧ k < 10 ^ 18 ∧
  ∀ x o', x ∈ ds → FD (k + 1) o' → Pk (.d x) [o']
theorem fr_one {μ : Mu} {P : DK} {Ex : DX} {n : Nat} {o : O} {k : Int} {y : PyData} (ds : List PyData) (h : μ[n]? = some o) (hy : y = .list ds ∨ y = .tuple ds) (hk : FD k o) (k1 : k < 10 ^ 18) (hm : 0 < ds.length ∧ ds.length < 10 ^ 6) (q : ∀ x o', x ∈ ds → FD (k + 1) o' → P (.d x) (μ.set n o')) : FR R__law_one [.c n, .d y] μ P Ex :=
  fr_feed [y] h hk.dO ⟨o, k, y, ds, rfl, rfl, hy, hm, hk, k1, fun r o' h1 hk' => bkf hk'.dO (q r o' h1 hk')⟩
def R__law_mixed : DR := fun xs μ Pk _ => ∃ o k y ds, xs = [.c 0, .d y] ∧ μ = [o] ∧ (y = .list ds ∨ y = .tuple ds) ∧ ds.length < 1000 ∧ FD k o ∧ k < 10 ^ 17 ∧
  ∀ (ds' : List PyData) (o' : O), ds'.Perm ds → FD (k + ds.length) o' → Pk (.d (.list ds')) [o']
theorem fr_mixed {α : Type} {μ : Mu} {P : DK} {Ex : DX} {n : Nat} {o : O} {k : Int} {y : PyData} (f : α → PyData) (zs : List α) (h : μ[n]? = some o) (hy : y = .list (zs.map f) ∨ y = .tuple (zs.map f)) (hk : FD k o) (k1 : k < 10 ^ 17) (hm : zs.length < 1000) (q : ∀ (zs' : List α) (o' : O), zs'.Perm zs → FD (k + zs.length) o' → P (.d (.list (zs'.map f))) (μ.set n o')) : FR R__law_mixed [.c n, .d y] μ P Ex :=
  fr_feed [y] h hk.dO ⟨o, k, y, zs.map f, rfl, rfl, hy, by rw [List.length_map]; exact hm, hk, k1, fun ds' o' h1 hk' => by
    obtain ⟨zs', hp, rfl⟩ := perm_mapD h1
    rw [List.length_map] at hk'
    exact bkf hk'.dO (q zs' o' hp hk')⟩
def R__law_feed : DR := fun xs μ Pk _ => ∃ (ns : List Int) (k : Int), xs = [.d (.list (ns.map PyData.int)), .d (.int k)] ∧ μ = [] ∧ 0 ≤ k ∧ k < 10 ^ 6 ∧ Bits ns ∧ ∀ o', FD 0 o' → Pk (.c 0) [o']
def names14 : List Str := ["a", "b10", "b9", "zz", "c", "q1w2e3r4", "d", "x", "m0", "road", "k", "e5", "y", "i2"]
def R__law_names : DR := fun xs μ Pk _ => ∃ o k, ∃ m : Nat, xs = [.c 0, .d (.int m)] ∧ μ = [o] ∧ FD k o ∧ k < 10 ^ 17 ∧
  ∀ (ss : List Str) (o' : O), ss.Perm names14 → FD (k + 14) o' → Pk (.d (.list ((ss.take m).map .str))) [o']
theorem fr_names {μ : Mu} {P : DK} {Ex : DX} {n : Nat} {o : O} {k : Int} {m : Nat} (h : μ[n]? = some o) (hk : FD k o) (k1 : k < 10 ^ 17) (q : ∀ (ss : List Str) (o' : O), ss.Perm names14 → FD (k + 14) o' → P (.d (.list ((ss.take m).map .str))) (μ.set n o')) : FR R__law_names [.c n, .d (.int m)] μ P Ex :=
  fr_feed [.int m] h hk.dO ⟨o, k, m, rfl, rfl, hk, k1, fun r o' h1 hk' => bkf hk'.dO (q r o' h1 hk')⟩
def le2 (x : Mom) (d k : Int) : Prop := x.1 < d ∨ (x.1 = d ∧ x.2 ≤ k)
instance (x : Mom) (d k : Int) : Decidable (le2 x d k) := by unfold le2; infer_instance
def valS (st : Got) (q : Str) : Mom := ((st.find? fun x => decide (x.1 = q)).map fun x => x.2).getD (0, 0)
def Le (st : Got) (day k : Int) : Prop := ∀ x ∈ st, le2 x.2 day k
section
variable {rs : List Road} {wk : List (List Str)} {p : Str} {m : Mom} {day : Int} {st : Got} {x : Str}
theorem Le.step {k : Nat} (h : Le st day k) : Le (stepW rs day k x st) day ((k + 1 : Nat) : Int) := by
  have up : Le st day ((k + 1 : Nat) : Int) := fun y hy => by
    rcases h y hy with a | ⟨a, b⟩
    · exact .inl a
    · exact .inr ⟨a, by omega⟩
  unfold stepW
  split
  · intro y hy
    rcases List.mem_append.mp hy with z | z
    · exact up y z
    · rw [List.mem_singleton.mp z]
      exact .inr ⟨rfl, by show (k : Int) + 1 ≤ _; omega⟩
  · exact up
theorem Le.walk : ∀ (ns : List Str) (k : Nat) (st : Got), Le st day k → Le (walkF rs day k ns st) day ((k + ns.length : Nat) : Int)
  | [], _, _, h => h
  | n :: ns, k, st, h => by
    have := Le.walk ns (k + 1) _ (h.step (rs := rs) (x := n))
    rw [List.length_cons, show k + (ns.length + 1) = k + 1 + ns.length by omega]
    exact this
theorem Le.lt {k : Int} (h : Le st day k) : Le st (day + 1) 0 := fun y hy => by
  rcases h y hy with a | ⟨a, b⟩
  · exact .inl (by omega)
  · exact .inl (by omega)
theorem S_Le (hm : 0 ≤ m.2) : ∀ n, Le (S rs wk p m n) (m.1 + n) (beg m n)
  | 0 => fun y hy => by
    rw [List.mem_singleton.mp hy]
    refine .inr ⟨by show m.1 = m.1 + ((0 : Nat) : Int); omega, ?_⟩
    show m.2 ≤ ((beg m 0 : Nat) : Int)
    unfold beg
    rw [if_pos rfl]
    omega
  | n + 1 => by
    have h := (Le.walk (rs := rs) ((roundAt wk (m.1 + n)).drop (beg m n)) (beg m n) _ (S_Le hm n)).lt
    have e : m.1 + ((n + 1 : Nat) : Int) = m.1 + n + 1 := by omega
    rw [e]
    exact h
theorem mid_Le (hm : 0 ≤ m.2) (n i : Nat) : Le (mid rs wk p m n i) (m.1 + n) ((beg m n + i : Nat) : Int) := by
  have h := Le.walk (rs := rs) (((roundAt wk (m.1 + n)).drop (beg m n)).take i) (beg m n) _ (S_Le (rs := rs) (wk := wk) (p := p) hm n)
  intro y hy
  have l : (((roundAt wk (m.1 + n)).drop (beg m n)).take i).length ≤ i := by rw [List.length_take]; exact Nat.min_le_left ..
  rcases h y hy with a | ⟨a, b⟩
  · exact .inl a
  · exact .inr ⟨a, by omega⟩
theorem merge_nd : ∀ (l acc : List (Key × A)), ((acc ++ l).map (·.1)).Nodup → mergeA acc l = acc ++ l
  | [], acc, _ => (List.append_nil _).symm
  | q :: l, acc, nd => by
    have e : putA acc q.1 q.2 = acc ++ [q] := by
      unfold putA
      rw [if_neg]
      intro z
      obtain ⟨y, hy, e⟩ := List.any_eq_true.mp z
      have e' : y.1 = q.1 := of_decide_eq_true e
      rw [List.map_append, List.map_cons] at nd
      have := (List.nodup_append.mp nd).2.2 y.1 (List.mem_map.mpr ⟨y, hy, rfl⟩) q.1 (List.mem_cons_self ..)
      exact this e'
    show mergeA (putA acc q.1 q.2) l = _
    rw [e, merge_nd l (acc ++ [q]) (by rw [List.append_assoc]; exact nd), List.append_assoc]
    rfl
theorem merge_ends (nd : (rnm rs).Nodup) : mergeA [] ((rs.map fun r => ((Sum.inr r.1 : Key), endD r.2)).map fun q => (q.1, A.d q.2)) = endsA rs := by
  have e : ((rs.map fun r => ((Sum.inr r.1 : Key), endD r.2)).map fun q => (q.1, A.d q.2)) = endsA rs := by
    unfold endsA
    rw [List.map_map]
    rfl
  rw [e, merge_nd _ [] ?_, List.nil_append]
  rw [List.nil_append]
  unfold endsA
  rw [List.map_map]
  have := keys_nd nd
  rw [List.map_map] at this
  exact this
end
theorem signs_len : signs.cps.toList.length = 36 := by decide +kernel
theorem signs_nd : signs.cps.toList.Nodup := by decide +kernel
def TiesOk (nm : List Str) (ts : List (Str × Str)) : Prop := ∀ e ∈ ts, e.1 ∈ nm ∧ e.2 ∈ nm ∧ e.1 ≠ e.2
theorem TiesOk.nil {nm : List Str} : TiesOk nm [] := fun e h => by cases h
theorem TiesOk.snoc {nm : List Str} {ts : List (Str × Str)} {a b : Str} (h : TiesOk nm ts) (x : a ∈ nm ∧ b ∈ nm ∧ a ≠ b) : TiesOk nm (ts ++ [(a, b)]) := fun e he => by
  rcases List.mem_append.mp he with z | z
  · exact h e z
  · rw [List.mem_singleton.mp z]
    exact x
theorem TiesOk.perm {nm : List Str} {ts us : List (Str × Str)} (h : TiesOk nm ts) (p : us.Perm ts) : TiesOk nm us := fun e he => h e (p.mem_iff.mp he)
theorem names14_len : names14.length = 14 := rfl
instance (s : Str) : Decidable (∃ c, s.cps.toList[0]? = some c ∧ c ∈ letters.cps.toList) :=
  match h : s.cps.toList[0]? with
  | none => isFalse fun ⟨c, e, _⟩ => by cases e
  | some c => if m : c ∈ letters.cps.toList then isTrue ⟨c, rfl, m⟩ else isFalse fun ⟨d, e, k⟩ => m (Option.some.inj e ▸ k)
theorem names14_ok : ∀ s ∈ names14, NameOk s := by
  have a : ∀ s ∈ names14, 1 ≤ s.length ∧ s.length ≤ 8 := by decide +kernel
  have b : ∀ s ∈ names14, ∃ c, s.cps.toList[0]? = some c ∧ c ∈ letters.cps.toList := by decide +kernel
  have c : ∀ s ∈ names14, ∀ c ∈ s.cps.toList, c ∈ signs.cps.toList := by decide +kernel
  exact fun s h => ⟨(a s h).1, (a s h).2, b s h, c s h⟩
theorem names14_nd : names14.Nodup := by decide +kernel
theorem take_nd {ss : List Str} (hp : ss.Perm names14) (n : Nat) : (ss.take n).Nodup := (List.take_sublist n ss).nodup (hp.nodup_iff.mpr names14_nd)
theorem take_ok {ss : List Str} (hp : ss.Perm names14) (n : Nat) : ∀ s ∈ ss.take n, NameOk s := fun s h => names14_ok s (hp.mem_iff.mp (List.mem_of_mem_take h))
theorem take_len {ss : List Str} (hp : ss.Perm names14) {n : Nat} (h : n ≤ 14) : (ss.take n).length = n := by
  rw [List.length_take, hp.length_eq, names14_len]
  omega
/-- another one, round about -/
theorem other_ix {a d n : Int} (a0 : 0 ≤ a) (a1 : a < n) (d0 : 0 ≤ d) (d1 : d < n - 1) : 0 ≤ (a + 1 + d) % n ∧ (a + 1 + d) % n < n ∧ (a + 1 + d) % n ≠ a := by
  refine ⟨Int.emod_nonneg _ (by omega), Int.emod_lt_of_pos _ (by omega), ?_⟩
  by_cases h : a + 1 + d < n
  · rw [Int.emod_eq_of_lt (by omega) h]
    omega
  · have e : (a + 1 + d) % n = a + 1 + d - n := by
      have : (a + 1 + d - n) % n = (a + 1 + d) % n := Int.sub_emod_right _ _
      rw [← this]
      exact Int.emod_eq_of_lt (by omega) (by omega)
    rw [e]
    omega
theorem nd_get {nm : List Str} (nd : nm.Nodup) {i j : Nat} {a b : Str} (ha : nm[i]? = some a) (hb : nm[j]? = some b) (ne : i ≠ j) : a ≠ b := fun e => by
  subst e
  exact ne (nd_ix nd ha hb)
theorem strs_get {nm : List Str} {i : Int} (h0 : 0 ≤ i) (h1 : i < nm.length) : ∃ a, nm[i.toNat]? = some a ∧ (nm.map PyData.str)[i.toNat]? = some (.str a) := by
  have lt : i.toNat < nm.length := by omega
  exact ⟨nm[i.toNat], List.getElem?_eq_getElem lt, by rw [List.getElem?_map, List.getElem?_eq_getElem lt]; rfl⟩
/-- roads of names and ties -/
def mkR (rn : List Str) (us : List (Str × Str)) : List Road := List.zipWith (fun n e => (n, e.1, e.2)) rn us
theorem mkR_len {rn : List Str} {us : List (Str × Str)} (h : rn.length = us.length) : (mkR rn us).length = us.length := by
  unfold mkR
  rw [List.length_zipWith, h, Nat.min_self]
theorem mkR_nm : ∀ {rn : List Str} {us : List (Str × Str)}, rn.length = us.length → rnm (mkR rn us) = rn
  | [], [], _ => rfl
  | [], _ :: _, h => by simp at h
  | _ :: _, [], h => by simp at h
  | n :: rn, e :: us, h => by
    have := mkR_nm (rn := rn) (us := us) (by simpa using h)
    show n :: rnm (mkR rn us) = _
    rw [this]
theorem mkR_mem : ∀ {rn : List Str} {us : List (Str × Str)} {r : Road}, r ∈ mkR rn us → r.1 ∈ rn ∧ r.2 ∈ us
  | [], us, r, h => by unfold mkR at h; rw [List.zipWith_nil_left] at h; cases h
  | n :: rn, [], r, h => by cases h
  | n :: rn, e :: us, r, h => by
    rcases List.mem_cons.mp (show r ∈ (n, e.1, e.2) :: mkR rn us from h) with rfl | h
    · exact ⟨List.mem_cons_self .., List.mem_cons_self ..⟩
    · have := mkR_mem h
      exact ⟨List.mem_cons_of_mem _ this.1, List.mem_cons_of_mem _ this.2⟩
theorem web_of {nm ps rn : List Str} {us : List (Str × Str)} (hp : ps.Perm nm) (n1 : 1 ≤ nm.length) (n2 : nm.length ≤ 10) (nd : nm.Nodup) (nok : ∀ s ∈ nm, NameOk s)
    (rl : rn.length = us.length) (u14 : us.length ≤ 14) (rnd : rn.Nodup) (rok : ∀ s ∈ rn, NameOk s) (t : TiesOk nm us) : WebOk ps (mkR rn us) where
  p := ⟨by rw [hp.length_eq]; exact n1, by rw [hp.length_eq]; exact n2, fun s h => nok s (hp.mem_iff.mp h), hp.nodup_iff.mpr nd⟩
  r := {
    most := by rw [mkR_len rl]; exact u14
    nm := fun r h => rok _ (mkR_mem h).1
    a := fun r h => hp.mem_iff.mpr (t _ (mkR_mem h).2).1
    b := fun r h => hp.mem_iff.mpr (t _ (mkR_mem h).2).2.1
    ne := fun r h => (t _ (mkR_mem h).2).2.2
    nd := by rw [mkR_nm rl]; exact rnd }
/-- several ways to the same place -/
theorem viaI {X : Int → O → Prop} {G : Prop} (Q : Int → O → Prop) (k : (∀ b o, Q b o → X b o) → G) (h : ∀ b o, Q b o → X b o) : G := k h
def roadF : Y → A
  | .two (.d n) (.d (.tuple l)) => .d (.tuple (n :: l))
  | _ => .d .none
theorem zip_road : ∀ (rn : List Str) (us : List (Str × Str)), (zipY (rn.map .str) (us.map endD)).map roadF = ((mkR rn us).map rdD).map A.d
  | [], us => by
    unfold zipY mkR
    rw [List.map_nil, List.zipWith_nil_left, List.zipWith_nil_left]
    rfl
  | n :: rn, [] => rfl
  | n :: rn, e :: us => by
    have := zip_road rn us
    unfold zipY mkR at this ⊢
    rw [List.map_cons, List.map_cons, List.zipWith_cons_cons, List.zipWith_cons_cons, List.map_cons, List.map_cons, List.map_cons, this]
    rfl
theorem zip_get {rn : List Str} {us : List (Str × Str)} {i : Nat} {y : Y} (h : (zipY (rn.map .str) (us.map endD))[i]? = some y) : ∃ n e, y = .two (.d (.str n)) (.d (endD e)) := by
  unfold zipY at h
  rw [List.getElem?_zipWith, List.getElem?_map, List.getElem?_map] at h
  cases a : rn[i]? with
  | none => rw [a] at h; cases h
  | some n =>
    cases b : us[i]? with
    | none => rw [a, b] at h; cases h
    | some e =>
      rw [a, b] at h
      exact ⟨n, e, (Option.some.inj h).symm⟩
theorem zip_len (rn : List Str) (us : List (Str × Str)) : (zipY (rn.map .str) (us.map endD)).length ≤ us.length := by
  unfold zipY
  rw [List.length_zipWith, List.length_map, List.length_map]
  exact Nat.min_le_right ..
/-- names that end with the signs in their sequence -/
def EndsAs (nm : List Str) : Prop := ∀ (i : Nat) s, nm[i]? = some s → NameOk s ∧ s.cps.toList.getLast? = signs.cps.toList[i]?
theorem EndsAs.nil : EndsAs [] := fun i s h => by simp at h
theorem EndsAs.snoc {nm : List Str} {s : Str} (h : EndsAs nm) (a : NameOk s) (b : s.cps.toList.getLast? = signs.cps.toList[nm.length]?) : EndsAs (nm ++ [s]) := fun i u hu => by
  rcases Nat.lt_trichotomy i nm.length with lt | rfl | gt
  · rw [List.getElem?_append_left lt] at hu
    exact h i u hu
  · rw [List.getElem?_append_right (Nat.le_refl _), Nat.sub_self] at hu
    obtain rfl := Option.some.inj hu
    exact ⟨a, b⟩
  · rw [List.getElem?_eq_none (by rw [List.length_append]; simp; omega)] at hu
    cases hu
theorem EndsAs.ok {nm : List Str} (h : EndsAs nm) : ∀ s ∈ nm, NameOk s := fun s hs => by
  obtain ⟨i, hi⟩ := List.mem_iff_getElem?.mp hs
  exact (h i s hi).1
theorem EndsAs.nodup {nm : List Str} (h : EndsAs nm) (l : nm.length ≤ 36) : nm.Nodup := by
  refine List.pairwise_iff_getElem.mpr fun i j hi hj ij e => ?_
  have a := (h i _ (List.getElem?_eq_getElem hi)).2
  have b := (h j _ (List.getElem?_eq_getElem hj)).2
  rw [e, b] at a
  have lj : j < signs.cps.toList.length := by rw [signs_len]; omega
  have li : i < signs.cps.toList.length := by omega
  rw [List.getElem?_eq_getElem lj] at a
  have := nd_ix signs_nd (List.getElem?_eq_getElem lj) a.symm
  omega
def Bd (st : Got) (D : Int) : Prop := ∀ x ∈ st, (0 ≤ x.2.1 ∧ x.2.1 ≤ D) ∧ 0 ≤ x.2.2 ∧ x.2.2 ≤ 20
theorem stepW_bd {rs : List Road} {day D : Int} {k : Nat} {n : Str} {st : Got} (h : Bd st D) (d0 : 0 ≤ day) (d1 : day ≤ D) (hk : k < 20) : Bd (stepW rs day k n st) D := by
  unfold stepW
  split
  · intro x hx
    rcases List.mem_append.mp hx with z | z
    · exact h x z
    · rw [List.mem_singleton.mp z]
      refine ⟨⟨d0, d1⟩, ?_, ?_⟩
      · show (0 : Int) ≤ (k : Int) + 1
        omega
      · show (k : Int) + 1 ≤ 20
        omega
  · exact h
theorem walkF_bd {rs : List Road} {day D : Int} (d0 : 0 ≤ day) (d1 : day ≤ D) : ∀ (ns : List Str) (k : Nat) (st : Got), Bd st D → k + ns.length ≤ 20 → Bd (walkF rs day k ns st) D
  | [], _, _, h, _ => h
  | n :: ns, k, st, h, hl => by
    rw [List.length_cons] at hl
    exact walkF_bd d0 d1 ns (k + 1) _ (stepW_bd h d0 d1 (by omega)) (by omega)
theorem S_bd {rs : List Road} {wk : List (List Str)} {p : Str} {m : Mom} (hw : WeekOk rs wk) (r14 : rs.length ≤ 14) (hm : MomS wk m) : ∀ n, Bd (S rs wk p m n) (m.1 + n)
  | 0 => fun x hx => by
    rw [List.mem_singleton.mp hx]
    have := hm.d1
    have := hm.w1
    have := hm.w2
    have := round_len hw m.1
    exact ⟨⟨by show 0 ≤ m.1; omega, by show m.1 ≤ m.1 + ((0 : Nat) : Int); omega⟩, by show 0 ≤ m.2; omega, by show m.2 ≤ 20; omega⟩
  | n + 1 => by
    have h := S_bd (p := p) hw r14 hm n
    have := hm.d1
    have hl := round_len hw (m.1 + n)
    have hb := beg_le hm n
    have h2 := walkF_bd (rs := rs) (day := m.1 + n) (D := m.1 + n) (by omega) (Int.le_refl _) ((roundAt wk (m.1 + n)).drop (beg m n)) (beg m n) _ h (by rw [List.length_drop]; omega)
    intro x hx
    obtain ⟨⟨a, b⟩, c, d⟩ := h2 x hx
    exact ⟨⟨a, by omega⟩, c, d⟩
/-- small enough to be shown -/
structure Sml (d : PyData) : Prop where
  sh : d.showable = true
  nd : d.hasDict = false
  dp : d.depth ≤ 2
  cl : d.canLay0 = true
  wt : d.weight ≤ 1000
  si : d.intsShort 13 = true
theorem int_small {i : Int} (h0 : 0 ≤ i) (h1 : i < 10 ^ 9) : i.natAbs.log2 < 30 := by
  by_cases z : i.natAbs = 0
  · rw [z]
    decide
  · exact (Nat.log2_lt z).mpr (by omega)
theorem sml_all : ∀ ds : List PyData, (∀ d ∈ ds, Sml d) → PyData.showableAll ds = true ∧ PyData.hasDictAll ds = false ∧ PyData.depthAll ds ≤ 2 ∧ PyData.canLayAll0 ds = true ∧ PyData.weightAll ds ≤ 1001 * ds.length ∧ PyData.intsShortAll 13 ds = true
  | [], _ => ⟨rfl, rfl, by simp [PyData.depthAll], rfl, by simp [PyData.weightAll], rfl⟩
  | d :: ds, h => by
    have s := h d (List.mem_cons_self ..)
    obtain ⟨a, b, c, e, f, g⟩ := sml_all ds fun x hx => h x (List.mem_cons_of_mem _ hx)
    refine ⟨?_, ?_, ?_, ?_, ?_, ?_⟩
    · simp only [PyData.showableAll, s.sh, a, Bool.and_self]
    · simp only [PyData.hasDictAll, s.nd, b, Bool.or_self]
    · have := s.dp
      simp only [PyData.depthAll]
      omega
    · simp only [PyData.canLayAll0, s.cl, e, Bool.and_self]
    · have := s.wt
      simp only [PyData.weightAll, List.length_cons]
      omega
    · simp only [PyData.intsShortAll, s.si, g, Bool.and_self]
def R_law : DR := fun xs μ Pk _ => ∃ ns : List Int, xs = [.d (.list (ns.map .int))] ∧ μ = [] ∧ ns.length ≤ 63 ∧ Bits ns ∧ Pk (.d (.bool true)) []
def shM (D : Int) (x : Mom) : Mom := (x.1 + D, x.2)
def sh (D : Int) (st : Got) : Got := st.map fun q => (q.1, shM D q.2)
theorem round_one (r : List Str) (d : Int) : roundAt [r] d = r := by
  unfold roundAt
  rw [show (([r] : List (List Str)).length : Int) = 1 from rfl, Int.emod_one]
  rfl
theorem valS_nd : ∀ {st : Got} {x : Str × Mom}, (ks st).Nodup → x ∈ st → valS st x.1 = x.2
  | y :: st, x, nd, h => by
    have nd' := List.nodup_cons.mp nd
    unfold valS
    rw [List.find?_cons]
    by_cases e : y.1 = x.1
    · rw [decide_eq_true e]
      rcases List.mem_cons.mp h with rfl | h
      · rfl
      · exact absurd (show y.1 ∈ ks st by rw [e]; exact List.mem_map.mpr ⟨x, h, rfl⟩) nd'.1
    · rw [decide_eq_false e]
      rcases List.mem_cons.mp h with rfl | h
      · exact absurd rfl e
      · exact valS_nd nd'.2 h
structure RotaOk (rs : List Road) (r : List Str) : Prop where
  ok : RoundOk rs r
  len : r.length = rs.length
theorem RotaOk.week {rs : List Road} {r : List Str} (h : RotaOk rs r) : WeekOk rs [r] := ⟨Nat.le_refl _, by show 1 ≤ 4; omega, fun x hx => by rw [List.mem_singleton.mp hx]; exact h.ok⟩
theorem rota_of {rs : List Road} {ss : List Str} (nd : (rnm rs).Nodup) (hp : ss.Perm (rnm rs)) : RotaOk rs ss := ⟨⟨hp.nodup_iff.mpr nd, fun n hn => hp.mem_iff.mp hn⟩, by rw [hp.length_eq, List.length_map]⟩
theorem sml_int {i : Int} (a0 : 0 ≤ i) (a1 : i < 10 ^ 9) : Sml (.int i) := by
  have la := int_small a0 a1
  have na : (PyData.shown (.int i)).length ≤ 10 := by
    have := PySem.W.KT.len_num a0 (Int.lt_trans a1 (by decide))
    simpa only [PyData.shown] using this
  refine ⟨?_, ?_, ?_, ?_, ?_, ?_⟩
  · simp only [PyData.showable, decide_eq_true_eq]
    omega
  · simp only [PyData.hasDict]
  · simp [PyData.depth]
  · simp [PyData.canLay0]
  · simp only [PyData.weight]
    split <;> omega
  · simp only [PyData.intsShort, decide_eq_true_eq]
    omega
abbrev Shown (d : PyData) : Prop := d.showable = true ∧ d.hasDict = false ∧ d.depth ≤ 60 ∧ d.shown.length ≤ sizeLine
def plT : List Str := ["zz", "", "a0"]
def plN (i : Nat) (t : Str) : Str := (("place" : Str) ++ (toString (0 + (i : Int)) : String)) ++ t
def rdN (i r : Nat) : Str := (("road" : Str) ++ (toString (0 + (i : Int)) : String)) ++ cutS "xyz" none (some (r : Int))
def okB (s : Str) : Bool := decide (1 ≤ s.length) && (decide (s.length ≤ 8) && ((match s.cps.toList[0]? with
  | some c => decide (c ∈ letters.cps.toList)
  | none => false) && s.cps.toList.all fun c => decide (c ∈ signs.cps.toList)))
theorem okB_ok {s : Str} (h : okB s = true) : NameOk s := by
  unfold okB at h
  simp only [Bool.and_eq_true, decide_eq_true_eq] at h
  obtain ⟨h1, h2, h3, h4⟩ := h
  refine ⟨h1, h2, ?_, fun c hc => of_decide_eq_true (List.all_eq_true.mp h4 c hc)⟩
  cases e : s.cps.toList[0]? with
  | none => rw [e] at h3; cases h3
  | some c =>
    rw [e] at h3
    exact ⟨c, rfl, of_decide_eq_true h3⟩
theorem plN_ok : ∀ i : Nat, i < 10 → ∀ t ∈ plT, okB (plN i t) = true := by decide +kernel
theorem plN_ne : ∀ i : Nat, i < 10 → ∀ j : Nat, j < 10 → ∀ t ∈ plT, ∀ u ∈ plT, plN i t = plN j u → i = j := by decide +kernel
theorem rdN_ok : ∀ i : Nat, i < 14 → ∀ r : Nat, r < 3 → okB (rdN i r) = true := by decide +kernel
theorem rdN_ne : ∀ i : Nat, i < 14 → ∀ j : Nat, j < 14 → ∀ r : Nat, r < 3 → ∀ u : Nat, u < 3 → rdN i r = rdN j u → i = j := by decide +kernel
def PlN (nm : List Str) : Prop := ∀ (i : Nat) s, nm[i]? = some s → ∃ t ∈ plT, s = plN i t
def RdN (rn : List Str) : Prop := ∀ (i : Nat) s, rn[i]? = some s → ∃ r, r < 3 ∧ s = rdN i r
theorem snoc_get {α : Type} {l : List α} {x u : α} {i : Nat} (h : (l ++ [x])[i]? = some u) : l[i]? = some u ∨ (i = l.length ∧ u = x) := by
  rcases Nat.lt_trichotomy i l.length with lt | rfl | gt
  · rw [List.getElem?_append_left lt] at h
    exact .inl h
  · rw [List.getElem?_append_right (Nat.le_refl _), Nat.sub_self] at h
    exact .inr ⟨rfl, (Option.some.inj h).symm⟩
  · rw [List.getElem?_eq_none (by rw [List.length_append]; simp; omega)] at h
    cases h
theorem PlN.snoc {nm : List Str} {t : Str} (h : PlN nm) (ht : t ∈ plT) : PlN (nm ++ [plN nm.length t]) := fun i s hs => by
  rcases snoc_get hs with e | ⟨rfl, rfl⟩
  · exact h i s e
  · exact ⟨t, ht, rfl⟩
theorem RdN.snoc {nm : List Str} {r : Nat} (h : RdN nm) (hr : r < 3) : RdN (nm ++ [rdN nm.length r]) := fun i s hs => by
  rcases snoc_get hs with e | ⟨rfl, rfl⟩
  · exact h i s e
  · exact ⟨r, hr, rfl⟩
theorem PlN.ok {nm : List Str} (h : PlN nm) (l : nm.length ≤ 10) : ∀ s ∈ nm, NameOk s := fun s hs => by
  obtain ⟨i, hi⟩ := List.mem_iff_getElem?.mp hs
  have lt := (List.getElem?_eq_some_iff.mp hi).1
  obtain ⟨t, ht, rfl⟩ := h i s hi
  exact okB_ok (plN_ok i (by omega) t ht)
theorem RdN.ok {nm : List Str} (h : RdN nm) (l : nm.length ≤ 14) : ∀ s ∈ nm, NameOk s := fun s hs => by
  obtain ⟨i, hi⟩ := List.mem_iff_getElem?.mp hs
  have lt := (List.getElem?_eq_some_iff.mp hi).1
  obtain ⟨t, ht, rfl⟩ := h i s hi
  exact okB_ok (rdN_ok i (by omega) t ht)
theorem PlN.nd {nm : List Str} (h : PlN nm) (l : nm.length ≤ 10) : nm.Nodup := by
  refine List.pairwise_iff_getElem.mpr fun i j hi hj ij e => ?_
  obtain ⟨t, ht, e1⟩ := h i _ (List.getElem?_eq_getElem hi)
  obtain ⟨u, hu, e2⟩ := h j _ (List.getElem?_eq_getElem hj)
  rw [e1, e2] at e
  have := plN_ne i (by omega) j (by omega) t ht u hu e
  omega
theorem RdN.nd {nm : List Str} (h : RdN nm) (l : nm.length ≤ 14) : nm.Nodup := by
  refine List.pairwise_iff_getElem.mpr fun i j hi hj ij e => ?_
  obtain ⟨t, ht, e1⟩ := h i _ (List.getElem?_eq_getElem hi)
  obtain ⟨u, hu, e2⟩ := h j _ (List.getElem?_eq_getElem hj)
  rw [e1, e2] at e
  have := rdN_ne i (by omega) j (by omega) t ht u hu e
  omega
end Rp
set_option Elab.async false
set_option linter.all false
set_option maxRecDepth 100000
set_option maxHeartbeats 4000000
namespace Rp
open PySem PySem.Spec PyProof.Rows L2 Dl
def rdStrB (f : Str → Bool) : A → List A → Mu → DK → Prop := fun x xs μ P => ∃ a, x = .d (.str a) ∧ xs = [] ∧ P (.d (.bool (f a))) μ
theorem s_strB {K : PySem.W.Frag} (f : Str → Bool) : SimM K "str" (fun x xs H Q => ∃ a, x = .str a ∧ xs = [] ∧ True ∧ Q (.bl (f a)) H) (rdStrB f) := fun x xs μ P h F al H v vs S a as Q k => by
  obtain ⟨s, rfl, rfl, h⟩ := h
  cases as
  exact ⟨s, dp_str a, rfl, trivial, k.now h S (.bl _)⟩
theorem signs_asc : ∀ c ∈ signs.cps.toList, (decide (c < 128) = true ∧ Unicode.isAlnum c = true) ∧ (Unicode.isUpper c || Unicode.isTitle c) = false := by decide +kernel
theorem letters_low : ∀ c ∈ letters.cps.toList, Unicode.isLower c = true ∧ Unicode.isAlpha c = true := by decide +kernel
theorem all_arr {s : Str} {f : Nat → Bool} (h : ∀ c ∈ s.cps.toList, f c = true) : s.cps.all f = true := by
  rw [← Array.all_toList]
  exact List.all_eq_true.mpr h
theorem len_pos {s : Str} (h : NameOk s) : decide (s.length > 0) = true := decide_eq_true (by have := h.one; omega)
theorem name_ascii {s : Str} (h : NameOk s) : Txt.isascii s = true := all_arr fun c hc => (signs_asc c (h.all c hc)).1.1
theorem name_alnum {s : Str} (h : NameOk s) : Txt.isalnum s = true := by
  unfold Txt.isalnum
  rw [len_pos h, all_arr fun c hc => (signs_asc c (h.all c hc)).1.2]
  rfl
theorem name_lower {s : Str} (h : NameOk s) : Txt.islower s = true := by
  obtain ⟨c, hc, hl⟩ := h.first
  unfold Txt.islower
  rw [← Array.any_toList, ← Array.any_toList, Bool.and_eq_true, Bool.not_eq_true']
  refine ⟨List.any_eq_true.mpr ⟨c, List.mem_of_getElem? hc, (letters_low c hl).1⟩, Bool.eq_false_iff.mpr fun z => ?_⟩
  obtain ⟨d, hd, e⟩ := List.any_eq_true.mp z
  rw [(signs_asc d (h.all d hd)).2] at e
  cases e
theorem char_alpha {c : Nat} (h : c ∈ letters.cps.toList) : Txt.isalpha ⟨#[c]⟩ = true := by
  unfold Txt.isalpha
  have e : (⟨#[c]⟩ : Str).cps.all Unicode.isAlpha = true := all_arr fun d hd => by
    rw [show d = c from List.mem_singleton.mp hd]
    exact (letters_low c h).2
  rw [e]
  rfl
section
variable {rs : List Road} {wk : List (List Str)} {p : Str} {m : Mom}
theorem S_same {n : Nat} (h : (S rs wk p m (n + 1)).length = (S rs wk p m n).length) : S rs wk p m (n + 1) = S rs wk p m n := by
  obtain ⟨t, e⟩ := S_app (rs := rs) (wk := wk) (p := p) (m := m) n
  rw [e, List.length_append] at h
  have : t = [] := List.eq_nil_of_length_eq_zero (by omega)
  rw [e, this, List.append_nil]
/-- the loop's state: n days, the last j of them idle -/
structure Idle (rs : List Road) (wk : List (List Str)) (p : Str) (m : Mom) (n j : Nat) : Prop where
  le : j ≤ n
  most : j ≤ wk.length + 1
  same : S rs wk p m n = S rs wk p m (n - j)
  few : n + (wk.length + 1) ≤ (S rs wk p m n).length * (wk.length + 1) + j
theorem Idle.start : Idle rs wk p m 0 0 := ⟨Nat.le_refl _, Nat.zero_le _, rfl, by show 0 + (wk.length + 1) ≤ 1 * (wk.length + 1) + 0; omega⟩
theorem Idle.next {n j : Nat} (h : Idle rs wk p m n j) (lj : j ≤ wk.length) (e : S rs wk p m (n + 1) = S rs wk p m n) : Idle rs wk p m (n + 1) (j + 1) :=
  ⟨by have := h.le; omega, by omega, by rw [e, h.same]; congr 1; omega, by rw [e]; have := h.few; omega⟩
theorem Idle.new {n j : Nat} (h : Idle rs wk p m n j) (lj : j ≤ wk.length) (e : S rs wk p m (n + 1) ≠ S rs wk p m n) : Idle rs wk p m (n + 1) 0 := by
  refine ⟨Nat.zero_le _, Nat.zero_le _, rfl, ?_⟩
  have hl : (S rs wk p m n).length + 1 ≤ (S rs wk p m (n + 1)).length := by
    obtain ⟨t, et⟩ := S_app (rs := rs) (wk := wk) (p := p) (m := m) n
    by_cases z : (S rs wk p m (n + 1)).length = (S rs wk p m n).length
    · exact absurd (S_same z) e
    · rw [et, List.length_append] at z ⊢
      omega
  have := Nat.mul_le_mul_right (wk.length + 1) hl
  rw [Nat.succ_mul] at this
  have := h.few
  omega
end
end Rp
set_option Elab.async false
set_option linter.all false
set_option maxRecDepth 100000
set_option maxHeartbeats 4000000
namespace Rp
open PySem PySem.Spec PyProof.Rows L2 Dl
abbrev Tie := Str × Str
def JoinT (e : Tie) (a b : Str) : Prop := (e.1 = a ∧ e.2 = b) ∨ (e.1 = b ∧ e.2 = a)
theorem JoinT.symm {e : Tie} {a b : Str} (h : JoinT e a b) : JoinT e b a := h.elim (fun x => .inr x) fun x => .inl x
/-- a tree seen from one of its places -/
structure Rt (ps : List Str) (ts : List Tie) (p : Str) (up : Str → Option Str) (dep : Str → Nat) : Prop where
  root : up p = none
  par : ∀ q ∈ ps, q ≠ p → ∃ a, up q = some a
  step : ∀ q a, up q = some a → a ∈ ps ∧ q ∈ ps ∧ dep q = dep a + 1 ∧ ∃ e ∈ ts, JoinT e q a
  edge : ∀ e ∈ ts, up e.1 = some e.2 ∨ up e.2 = some e.1
  at_ : ∀ e ∈ ts, e.1 ∈ ps ∧ e.2 ∈ ps
/-- no two ties between the same two -/
def NoPar (ts : List Tie) : Prop := ts.Pairwise fun e f => ¬ JoinT e f.1 f.2
inductive TB : List Str → List Tie → Prop
  | one (x : Str) : TB [x] []
  | add {nm : List Str} {ts : List Tie} {x a : Str} : TB nm ts → x ∉ nm → a ∈ nm → TB (nm ++ [x]) (ts ++ [(x, a)])
theorem TB.at_ {nm : List Str} {ts : List Tie} (h : TB nm ts) : ∀ e ∈ ts, e.1 ∈ nm ∧ e.2 ∈ nm := by
  induction h with
  | one x => intro e he; cases he
  | add _ _ ha ih =>
    intro e he
    rcases List.mem_append.mp he with z | z
    · exact ⟨List.mem_append.mpr (.inl (ih e z).1), List.mem_append.mpr (.inl (ih e z).2)⟩
    · rw [List.mem_singleton.mp z]
      exact ⟨List.mem_append.mpr (.inr (List.mem_singleton.mpr rfl)), List.mem_append.mpr (.inl ha)⟩
theorem TB.noPar {nm : List Str} {ts : List Tie} (h : TB nm ts) : NoPar ts := by
  induction h with
  | one x => exact .nil
  | @add nm ts x a h hx ha ih =>
    refine List.pairwise_append.mpr ⟨ih, List.pairwise_singleton _ _, fun e he f hf j => ?_⟩
    rw [List.mem_singleton.mp hf] at j
    have at_ := h.at_ e he
    rcases j with ⟨e1, _⟩ | ⟨_, e2⟩
    · exact hx ((show e.1 = x from e1) ▸ at_.1)
    · exact hx ((show e.2 = x from e2) ▸ at_.2)
theorem TB.rt {nm : List Str} {ts : List Tie} (h : TB nm ts) : ∀ p ∈ nm, ∃ up dep, Rt nm ts p up dep := by
  induction h with
  | one x =>
    intro p hp
    rw [List.mem_singleton.mp hp]
    exact ⟨fun _ => none, fun _ => 0, rfl, fun q hq ne => absurd (List.mem_singleton.mp hq) ne, (fun q a e => by cases e), (fun e he => by cases he), (fun e he => by cases he)⟩
  | @add nm ts x a h hx ha ih =>
    intro p hp
    rcases List.mem_append.mp hp with hp | hp
    · obtain ⟨up, dep, R⟩ := ih p hp
      have ux : up x = none := by
        cases e : up x with
        | none => rfl
        | some b => exact absurd (R.step x b e).2.1 hx
      refine ⟨fun q => if q = x then some a else up q, fun q => if q = x then dep a + 1 else dep q, ?_, fun q hq ne => ?_, fun q b e => ?_, fun e he => ?_, fun e he => ?_⟩
      · rw [if_neg (fun (e : p = x) => hx (e ▸ hp))]
        exact R.root
      · by_cases z : q = x
        · exact ⟨a, if_pos z⟩
        · rcases List.mem_append.mp hq with hq | hq
          · rw [if_neg z]
            exact R.par q hq ne
          · exact absurd (List.mem_singleton.mp hq) z
      · by_cases z : q = x
        · subst z
          have e' : (if q = q then some a else up q) = some b := e
          rw [if_pos rfl] at e'
          obtain rfl := Option.some.inj e'
          refine ⟨List.mem_append.mpr (.inl ha), List.mem_append.mpr (.inr (List.mem_singleton.mpr rfl)), ?_, (q, a), List.mem_append.mpr (.inr (List.mem_singleton.mpr rfl)), .inl ⟨rfl, rfl⟩⟩
          show (if q = q then _ else _) = (if a = q then _ else _) + 1
          rw [if_pos rfl, if_neg (fun (e : a = q) => hx (e ▸ ha))]
        · have e' : (if q = x then some a else up q) = some b := e
          rw [if_neg z] at e'
          obtain ⟨s1, s2, s3, f, hf, s4⟩ := R.step q b e'
          refine ⟨List.mem_append.mpr (.inl s1), List.mem_append.mpr (.inl s2), ?_, f, List.mem_append.mpr (.inl hf), s4⟩
          show (if q = x then _ else _) = (if b = x then _ else _) + 1
          rw [if_neg z, if_neg (fun (e : b = x) => hx (e ▸ s1))]
          exact s3
      · rcases List.mem_append.mp he with he | he
        · have t := h.at_ e he
          have n1 : e.1 ≠ x := fun z => hx (z ▸ t.1)
          have n2 : e.2 ≠ x := fun z => hx (z ▸ t.2)
          rcases R.edge e he with z | z
          · exact .inl (by rw [if_neg n1]; exact z)
          · exact .inr (by rw [if_neg n2]; exact z)
        · rw [List.mem_singleton.mp he]
          exact .inl (if_pos rfl)
      · rcases List.mem_append.mp he with he | he
        · have t := h.at_ e he
          exact ⟨List.mem_append.mpr (.inl t.1), List.mem_append.mpr (.inl t.2)⟩
        · rw [List.mem_singleton.mp he]
          exact ⟨List.mem_append.mpr (.inr (List.mem_singleton.mpr rfl)), List.mem_append.mpr (.inl ha)⟩
    · obtain rfl := List.mem_singleton.mp hp
      obtain ⟨up, dep, R⟩ := ih a ha
      have ux : up p = none := by
        cases e : up p with
        | none => rfl
        | some b => exact absurd (R.step p b e).2.1 hx
      have pa : a ≠ p := fun e => hx (e ▸ ha)
      refine ⟨fun q => if q = a then some p else up q, fun q => if q = p then 0 else dep q - dep a + 1, ?_, fun q hq ne => ?_, ?_, ?_, ?_⟩
      · rw [if_neg (Ne.symm pa)]
        exact ux
      · by_cases z : q = a
        · exact ⟨p, if_pos z⟩
        · rw [if_neg z]
          rcases List.mem_append.mp hq with hq | hq
          · exact R.par q hq z
          · exact absurd (List.mem_singleton.mp hq) ne
      · -- depths are those behind a
        have low : ∀ n q, dep q ≤ n → q ∈ nm → dep a ≤ dep q := by
          intro n
          induction n with
          | zero =>
            intro q hn hq
            by_cases z : q = a
            · rw [z]
              exact Nat.le_refl _
            · obtain ⟨b, e⟩ := R.par q hq z
              have := (R.step q b e).2.2.1
              omega
          | succ n ihn =>
            intro q hn hq
            by_cases z : q = a
            · rw [z]
              exact Nat.le_refl _
            · obtain ⟨b, e⟩ := R.par q hq z
              obtain ⟨s1, s2, s3, _⟩ := R.step q b e
              have := ihn b (by omega) s1
              omega
        intro q b e
        by_cases z : q = a
        · subst z
          have e' : (if q = q then some p else up q) = some b := e
          rw [if_pos rfl] at e'
          obtain rfl := Option.some.inj e'
          refine ⟨List.mem_append.mpr (.inr (List.mem_singleton.mpr rfl)), List.mem_append.mpr (.inl ha), ?_, (p, q), List.mem_append.mpr (.inr (List.mem_singleton.mpr rfl)), .inr ⟨rfl, rfl⟩⟩
          show (if q = p then _ else _) = (if p = p then _ else _) + 1
          rw [if_pos rfl, if_neg pa]
          omega
        · have e' : (if q = a then some p else up q) = some b := e
          rw [if_neg z] at e'
          obtain ⟨s1, s2, s3, f, hf, s4⟩ := R.step q b e'
          refine ⟨List.mem_append.mpr (.inl s1), List.mem_append.mpr (.inl s2), ?_, f, List.mem_append.mpr (.inl hf), s4⟩
          show (if q = p then _ else _) = (if b = p then _ else _) + 1
          rw [if_neg (fun (e : q = p) => hx (e ▸ s2)), if_neg (fun (e : b = p) => hx (e ▸ s1))]
          have := low _ b (Nat.le_refl _) s1
          omega
      · intro e he
        rcases List.mem_append.mp he with he | he
        · rcases R.edge e he with z | z
          · refine .inl ?_
            have : e.1 ≠ a := fun q => by rw [q, R.root] at z; cases z
            rw [if_neg this]
            exact z
          · refine .inr ?_
            have : e.2 ≠ a := fun q => by rw [q, R.root] at z; cases z
            rw [if_neg this]
            exact z
        · rw [List.mem_singleton.mp he]
          exact .inr (if_pos rfl)
      · intro e he
        rcases List.mem_append.mp he with he | he
        · have t := h.at_ e he
          exact ⟨List.mem_append.mpr (.inl t.1), List.mem_append.mpr (.inl t.2)⟩
        · rw [List.mem_singleton.mp he]
          exact ⟨List.mem_append.mpr (.inr (List.mem_singleton.mpr rfl)), List.mem_append.mpr (.inl ha)⟩
/-- the same ties, some turned about -/
inductive Flips : List Tie → List Tie → Prop
  | nil : Flips [] []
  | keep {e : Tie} {us ts : List Tie} : Flips us ts → Flips (e :: us) (e :: ts)
  | turn {e : Tie} {us ts : List Tie} : Flips us ts → Flips ((e.2, e.1) :: us) (e :: ts)
theorem Flips.snoc {us ts : List Tie} (h : Flips us ts) (e : Tie) : Flips (us ++ [e]) (ts ++ [e]) ∧ Flips (us ++ [(e.2, e.1)]) (ts ++ [e]) := by
  induction h with
  | nil => exact ⟨.keep .nil, .turn .nil⟩
  | keep _ ih => exact ⟨.keep ih.1, .keep ih.2⟩
  | turn _ ih => exact ⟨.turn ih.1, .turn ih.2⟩
theorem Flips.mem {us ts : List Tie} (h : Flips us ts) : (∀ e ∈ us, ∃ f ∈ ts, e = f ∨ e = (f.2, f.1)) ∧ ∀ f ∈ ts, ∃ e ∈ us, e = f ∨ e = (f.2, f.1) := by
  induction h with
  | nil => exact ⟨(fun e he => by cases he), fun e he => by cases he⟩
  | @keep e us ts _ ih =>
    refine ⟨fun x hx => ?_, fun x hx => ?_⟩
    · rcases List.mem_cons.mp hx with rfl | hx
      · exact ⟨x, List.mem_cons_self .., .inl rfl⟩
      · obtain ⟨f, hf, z⟩ := ih.1 x hx
        exact ⟨f, List.mem_cons_of_mem _ hf, z⟩
    · rcases List.mem_cons.mp hx with rfl | hx
      · exact ⟨x, List.mem_cons_self .., .inl rfl⟩
      · obtain ⟨f, hf, z⟩ := ih.2 x hx
        exact ⟨f, List.mem_cons_of_mem _ hf, z⟩
  | @turn e us ts _ ih =>
    refine ⟨fun x hx => ?_, fun x hx => ?_⟩
    · rcases List.mem_cons.mp hx with rfl | hx
      · exact ⟨e, List.mem_cons_self .., .inr rfl⟩
      · obtain ⟨f, hf, z⟩ := ih.1 x hx
        exact ⟨f, List.mem_cons_of_mem _ hf, z⟩
    · rcases List.mem_cons.mp hx with rfl | hx
      · exact ⟨_, List.mem_cons_self .., .inr rfl⟩
      · obtain ⟨f, hf, z⟩ := ih.2 x hx
        exact ⟨f, List.mem_cons_of_mem _ hf, z⟩
theorem JoinT.swap {e : Tie} {a b : Str} : JoinT (e.2, e.1) a b ↔ JoinT e a b :=
  ⟨fun h => h.elim (fun x => .inr ⟨x.2, x.1⟩) fun x => .inl ⟨x.2, x.1⟩, fun h => h.elim (fun x => .inr ⟨x.2, x.1⟩) fun x => .inl ⟨x.2, x.1⟩⟩
theorem Flips.noPar {us ts : List Tie} (h : Flips us ts) : NoPar ts → NoPar us := by
  induction h with
  | nil => exact fun h => h
  | @keep e us ts h ih =>
    intro n
    have n' := List.pairwise_cons.mp n
    refine List.pairwise_cons.mpr ⟨fun f hf j => ?_, ih n'.2⟩
    obtain ⟨g, hg, rfl | rfl⟩ := h.mem.1 f hf
    · exact n'.1 _ hg j
    · exact n'.1 g hg j.symm
  | @turn e us ts h ih =>
    intro n
    have n' := List.pairwise_cons.mp n
    refine List.pairwise_cons.mpr ⟨fun f hf j => ?_, ih n'.2⟩
    have j' := JoinT.swap.mp j
    obtain ⟨g, hg, rfl | rfl⟩ := h.mem.1 f hf
    · exact n'.1 _ hg j'
    · exact n'.1 g hg j'.symm
theorem noPar_perm {us ts : List Tie} (h : us.Perm ts) (n : NoPar ts) : NoPar us := by
  refine h.symm.pairwise n fun {e f} j z => j ?_
  rcases z with ⟨a, b⟩ | ⟨a, b⟩
  · exact .inl ⟨a.symm, b.symm⟩
  · exact .inr ⟨b.symm, a.symm⟩
/-- ties that are the same but for their sequence and directions -/
theorem Rt.same {ps ps' : List Str} {ts us : List Tie} {p : Str} {up : Str → Option Str} {dep : Str → Nat} (R : Rt ps ts p up dep) (hp : ∀ q, q ∈ ps' ↔ q ∈ ps)
    (h1 : ∀ e ∈ us, ∃ f ∈ ts, e = f ∨ e = (f.2, f.1)) (h2 : ∀ f ∈ ts, ∃ e ∈ us, e = f ∨ e = (f.2, f.1)) : Rt ps' us p up dep where
  root := R.root
  par := fun q hq => R.par q ((hp q).mp hq)
  step := fun q a e => by
    obtain ⟨s1, s2, s3, f, hf, s4⟩ := R.step q a e
    obtain ⟨g, hg, rfl | rfl⟩ := h2 f hf
    · exact ⟨(hp a).mpr s1, (hp q).mpr s2, s3, _, hg, s4⟩
    · exact ⟨(hp a).mpr s1, (hp q).mpr s2, s3, _, hg, JoinT.swap.mpr s4⟩
  edge := fun e he => by
    obtain ⟨f, hf, rfl | rfl⟩ := h1 e he
    · exact R.edge _ hf
    · exact (R.edge f hf).symm
  at_ := fun e he => by
    obtain ⟨f, hf, rfl | rfl⟩ := h1 e he
    · exact ⟨(hp _).mpr (R.at_ _ hf).1, (hp _).mpr (R.at_ _ hf).2⟩
    · exact ⟨(hp _).mpr (R.at_ f hf).2, (hp _).mpr (R.at_ f hf).1⟩
abbrev tiesR (rs : List Road) : List Tie := rs.map fun r => r.2
structure TreeOk (ps : List Str) (rs : List Road) : Prop where
  rt : ∀ p ∈ ps, ∃ up dep, Rt ps (tiesR rs) p up dep
  one : NoPar (tiesR rs)
theorem TreeOk.uniq {ps : List Str} {rs : List Road} (h : TreeOk ps rs) {r s : Road} (hr : r ∈ rs) (hs : s ∈ rs) {a b : Str} (jr : JoinT r.2 a b) (js : JoinT s.2 a b) : r = s := by
  obtain ⟨i, hi⟩ := List.mem_iff_getElem?.mp hr
  obtain ⟨j, hj⟩ := List.mem_iff_getElem?.mp hs
  obtain ⟨li, ei⟩ := List.getElem?_eq_some_iff.mp hi
  obtain ⟨lj, ej⟩ := List.getElem?_eq_some_iff.mp hj
  have pw := List.pairwise_iff_getElem.mp h.one
  have key : ∀ i j (li : i < rs.length) (lj : j < rs.length), i < j → JoinT (rs[i]).2 a b → JoinT (rs[j]).2 a b → False := fun i j li lj lt x y => by
    refine pw i j (by rw [List.length_map]; exact li) (by rw [List.length_map]; exact lj) lt ?_
    rw [List.getElem_map, List.getElem_map]
    rcases x with ⟨x1, x2⟩ | ⟨x1, x2⟩ <;> rcases y with ⟨y1, y2⟩ | ⟨y1, y2⟩
    · exact .inl ⟨x1.trans y1.symm, x2.trans y2.symm⟩
    · exact .inr ⟨x1.trans y2.symm, x2.trans y1.symm⟩
    · exact .inr ⟨x1.trans y2.symm, x2.trans y1.symm⟩
    · exact .inl ⟨x1.trans y1.symm, x2.trans y2.symm⟩
  rcases Nat.lt_trichotomy i j with lt | e | gt
  · exact (key i j li lj lt (by rw [ei]; exact jr) (by rw [ej]; exact js)).elim
  · subst e
    rw [← ei, ← ej]
  · exact (key j i lj li gt (by rw [ej]; exact js) (by rw [ei]; exact jr)).elim
theorem tree_of {nm ps : List Str} {ts zs us : List Tie} {rn : List Str} (h : TB nm ts) (hz : zs.Perm ts) (hf : Flips us zs) (rl : rn.length = us.length) (hp : ps.Perm nm) : TreeOk ps (mkR rn us) := by
  have e : tiesR (mkR rn us) = us := by
    clear hf
    induction us generalizing rn with
    | nil => cases rn <;> rfl
    | cons u us ih =>
      cases rn with
      | nil => simp at rl
      | cons n rn =>
        show u :: tiesR (mkR rn us) = u :: us
        rw [ih (by simpa using rl)]
  refine ⟨fun p hpp => ?_, ?_⟩
  · obtain ⟨up, dep, R⟩ := h.rt p (hp.mem_iff.mp hpp)
    refine ⟨up, dep, R.same (fun q => hp.mem_iff) ?_ ?_⟩
    · rw [e]
      intro x hx
      obtain ⟨f, hf', z⟩ := hf.mem.1 x hx
      exact ⟨f, hz.mem_iff.mp hf', z⟩
    · rw [e]
      intro x hx
      exact hf.mem.2 x (hz.mem_iff.mpr hx)
  · rw [e]
    exact hf.noPar (noPar_perm hz h.noPar)
end Rp
set_option Elab.async false
set_option linter.all false
set_option maxRecDepth 100000
set_option maxHeartbeats 4000000
namespace Rp
open PySem PySem.Spec PyProof.Rows L2 Dl
def FinS (rs : List Road) (wk : List (List Str)) (p : Str) (m : Mom) : Got := S rs wk p m 50
section
variable {ps : List Str} {rs : List Road} {wk : List (List Str)} {p : Str} {m : Mom}
theorem fin_all (ok : WebOk ps rs) (hw : WeekOk rs wk) (hp : p ∈ ps) : ∀ M, 50 ≤ M → S rs wk p m M = FinS rs wk p m := fun M hM => by
  obtain ⟨N, hN, st, _⟩ := final_ex (m := m) ok hw hp
  unfold FinS
  rw [st M (by omega), st 50 hN]
theorem fin_inv (ok : WebOk ps rs) (hw : WeekOk rs wk) : Inv0 rs wk p (FinS rs wk p m) := S_inv ok.r.nd hw 50
theorem fin_uniq {st : Got} {q : Str} {t u : Mom} (nd : (ks st).Nodup) (h : (q, t) ∈ st) (h' : (q, u) ∈ st) : t = u := (valS_nd nd h).symm.trans (valS_nd nd h')
theorem mem_ks {st : Got} {q : Str} : q ∈ ks st ↔ ∃ t, (q, t) ∈ st :=
  ⟨fun h => by obtain ⟨x, hx, rfl⟩ := List.mem_map.mp h; exact ⟨x.2, hx⟩, fun ⟨t, h⟩ => List.mem_map.mpr ⟨_, h, rfl⟩⟩
def After (st st' : Got) (day k : Int) : Prop := ∀ x ∈ st', x ∈ st ∨ ¬ le2 x.2 day k
theorem After.refl {st : Got} {d k : Int} : After st st d k := fun _ h => .inl h
theorem After.trans {a b c : Got} {d k : Int} (h : After a b d k) (h' : After b c d k) : After a c d k := fun x hx => (h' x hx).elim (h x) .inr
theorem After.low {a b : Got} {d k d' k' : Int} (h : After a b d k) (l : d' < d ∨ (d' = d ∧ k' ≤ k)) : After a b d' k' := fun x hx => (h x hx).imp id fun n z => n (by
  rcases z with z | ⟨z, y⟩ <;> rcases l with l | ⟨l, u⟩
  · exact .inl (by omega)
  · exact .inl (by omega)
  · exact .inl (by omega)
  · exact .inr ⟨by omega, by omega⟩)
theorem after_step {day : Int} {k : Nat} {n : Str} {st : Got} : After st (stepW rs day k n st) day k := fun x hx => by
  unfold stepW at hx
  split at hx
  · rcases List.mem_append.mp hx with z | z
    · exact .inl z
    · refine .inr ?_
      rw [List.mem_singleton.mp z]
      rintro (y | ⟨_, y⟩)
      · have y' : day < day := y
        omega
      · have y' : (k : Int) + 1 ≤ k := y
        omega
  · exact .inl hx
theorem after_walk {day : Int} : ∀ (ns : List Str) (k : Nat) (st : Got), After st (walkF rs day k ns st) day k
  | [], _, _ => .refl
  | n :: ns, k, st => after_step.trans ((after_walk ns (k + 1) _).low (.inr ⟨rfl, by omega⟩))
theorem after_S (n : Nat) : ∀ j, After (S rs wk p m n) (S rs wk p m (n + j)) (m.1 + n) (beg m n)
  | 0 => .refl
  | j + 1 => by
    refine (after_S n j).trans ?_
    have h : After (S rs wk p m (n + j)) (S rs wk p m (n + (j + 1))) (m.1 + ((n + j : Nat) : Int)) (beg m (n + j)) := after_walk _ _ _
    refine h.low ?_
    cases j with
    | zero => exact .inr ⟨rfl, Int.le_refl _⟩
    | succ j => exact .inl (by omega)
theorem after_mid (n i j : Nat) : After (mid rs wk p m n i) (S rs wk p m (n + 1 + j)) (m.1 + n) ((beg m n + i : Nat) : Int) := by
  have h1 : After (mid rs wk p m n i) (S rs wk p m (n + 1)) (m.1 + n) ((beg m n + i : Nat) : Int) := by
    by_cases h : i ≤ ((roundAt wk (m.1 + n)).drop (beg m n)).length
    · rw [S_next, walkF_take rs (m.1 + n) ((roundAt wk (m.1 + n)).drop (beg m n)) (beg m n) i]
      have a := after_walk (rs := rs) (day := m.1 + n) (((roundAt wk (m.1 + n)).drop (beg m n)).drop i) (beg m n + (((roundAt wk (m.1 + n)).drop (beg m n)).take i).length) (mid rs wk p m n i)
      rw [List.length_take, Nat.min_eq_left h] at a ⊢
      exact a
    · rw [List.length_drop] at h
      rw [mid_end (i := i) (by omega)]
      exact .refl
  refine h1.trans ((after_S (rs := rs) (wk := wk) (p := p) (n + 1) j).low (.inl (by omega)))
theorem mid_sub (n i j : Nat) : ∀ x ∈ mid rs wk p m n i, x ∈ S rs wk p m (n + 1 + j) := fun x hx => by
  have h1 : x ∈ S rs wk p m (n + 1) := by
    rw [S_next, walkF_take rs (m.1 + n) ((roundAt wk (m.1 + n)).drop (beg m n)) (beg m n) i]
    obtain ⟨t, e⟩ := walkF_app rs (m.1 + n) (((roundAt wk (m.1 + n)).drop (beg m n)).drop i) (beg m n + (((roundAt wk (m.1 + n)).drop (beg m n)).take i).length) (walkF rs (m.1 + n) (beg m n) (((roundAt wk (m.1 + n)).drop (beg m n)).take i) (S rs wk p m n))
    rw [e]
    exact List.mem_append.mpr (.inl hx)
  obtain ⟨t, e⟩ := S_le (rs := rs) (wk := wk) (p := p) (m := m) j (n + 1)
  rw [e]
  exact List.mem_append.mpr (.inl h1)
/-- who is not the first has it from somebody -/
def Pre (rs : List Road) (wk : List (List Str)) (p : Str) (m : Mom) (st : Got) : Prop := ∀ x ∈ st, (x = (p, m)) ∨ ∃ a ta e, ∃ k : Nat, (a, ta) ∈ st ∧ (roundAt wk x.2.1)[k]? = some e ∧ x.2.2 = (k : Int) + 1 ∧ JoinT (endsOf rs e) x.1 a ∧ le2 ta x.2.1 k ∧ m.1 ≤ x.2.1
theorem Pre.step {day : Int} {k : Nat} {n : Str} {st : Got} (h : Pre rs wk p m st) (l : Le st day k) (hn : (roundAt wk day)[k]? = some n) (hd : m.1 ≤ day) : Pre rs wk p m (stepW rs day k n st) := by
  unfold stepW
  split
  · rename_i c
    intro x hx
    rcases List.mem_append.mp hx with z | z
    · rcases h x z with y | ⟨a, ta, e, j, h1, h2⟩
      · exact .inl y
      · exact .inr ⟨a, ta, e, j, List.mem_append.mpr (.inl h1), h2⟩
    · refine .inr ?_
      rw [List.mem_singleton.mp z]
      rw [bne_iff_ne, ne_eq] at c
      by_cases a : (endsOf rs n).1 ∈ ks st
      · rw [if_pos a]
        obtain ⟨t, ht⟩ := mem_ks.mp a
        exact ⟨_, t, n, k, List.mem_append.mpr (.inl ht), hn, rfl, .inr ⟨rfl, rfl⟩, l _ ht, hd⟩
      · rw [if_neg a]
        have b : (endsOf rs n).2 ∈ ks st := by
          by_cases b : (endsOf rs n).2 ∈ ks st
          · exact b
          · exact absurd (by rw [decide_eq_false a, decide_eq_false b]) c
        obtain ⟨t, ht⟩ := mem_ks.mp b
        exact ⟨_, t, n, k, List.mem_append.mpr (.inl ht), hn, rfl, .inl ⟨rfl, rfl⟩, l _ ht, hd⟩
  · exact h
theorem Pre.mid (hm : MomS wk m) {n : Nat} (h : Pre rs wk p m (S rs wk p m n)) : ∀ i, Pre rs wk p m (mid rs wk p m n i)
  | 0 => h
  | i + 1 => by
    have ih := Pre.mid hm h i
    cases hx : (roundAt wk (m.1 + n))[beg m n + i]? with
    | none =>
      have : (roundAt wk (m.1 + n)).length ≤ beg m n + i := List.getElem?_eq_none_iff.mp hx
      rw [mid_end (i := i + 1) (by omega), ← mid_end (i := i) (by omega)]
      exact ih
    | some x =>
      rw [mid_succ hx]
      exact ih.step (by have := mid_Le (rs := rs) (wk := wk) (p := p) hm.w1 n i; exact this) hx (by omega)
theorem S_pre (hm : MomS wk m) : ∀ n, Pre rs wk p m (S rs wk p m n)
  | 0 => fun x hx => .inl (List.mem_singleton.mp hx)
  | n + 1 => by
    rw [← mid_end (i := (roundAt wk (m.1 + n)).length) (by omega)]
    exact (S_pre hm n).mid hm _
theorem fin_pre (hm : MomS wk m) : Pre rs wk p m (FinS rs wk p m) := S_pre hm 50
/-- nobody hears it ahead of the moment -/
theorem fin_ge (hm : MomS wk m) : ∀ x ∈ FinS rs wk p m, m.1 < x.2.1 ∨ (m.1 = x.2.1 ∧ m.2 ≤ x.2.2) := fun x hx => by
  have h := after_S (rs := rs) (wk := wk) (p := p) (m := m) 0 50
  rw [Nat.zero_add] at h
  rcases h x hx with z | z
  · rw [List.mem_singleton.mp z]
    exact .inr ⟨rfl, Int.le_refl _⟩
  · have b : ((beg m 0 : Nat) : Int) = m.2 := by
      have := hm.w1
      unfold beg
      rw [if_pos rfl]
      omega
    rw [b] at z
    by_cases c : m.1 < x.2.1
    · exact .inl c
    · by_cases d : m.1 = x.2.1
      · refine .inr ⟨d, ?_⟩
        by_cases e : m.2 ≤ x.2.2
        · exact e
        · exact absurd (.inr ⟨by omega, by omega⟩) z
      · exact absurd (.inl (by omega)) z
/-- news goes on as soon as a road is walked -/
theorem fin_step (ok : WebOk ps rs) (hw : WeekOk rs wk) (hp : p ∈ ps) (hm : MomS wk m) {D : Int} {k : Nat} {e a b : Str} {ta : Mom} (he : (roundAt wk D)[k]? = some e) (ha : (a, ta) ∈ FinS rs wk p m) (hle : le2 ta D k) (j : JoinT (endsOf rs e) a b) :
    ∃ tb, (b, tb) ∈ FinS rs wk p m ∧ le2 tb D (k + 1) := by
  have ge := fin_ge hm _ ha
  have w1 := hm.w1
  have hD : m.1 < D ∨ (m.1 = D ∧ m.2 ≤ k) := by
    have ge' : m.1 < ta.1 ∨ (m.1 = ta.1 ∧ m.2 ≤ ta.2) := ge
    rcases hle with z | ⟨z, y⟩ <;> rcases ge' with g | ⟨g, g2⟩
    · exact .inl (by omega)
    · exact .inl (by omega)
    · exact .inl (by omega)
    · exact .inr ⟨by omega, by omega⟩
  obtain ⟨n, hn⟩ : ∃ n : Nat, D = m.1 + n := ⟨(D - m.1).toNat, by rcases hD with z | ⟨z, _⟩ <;> omega⟩
  subst hn
  have hb : beg m n ≤ k := by
    unfold beg
    split
    · rename_i z
      subst z
      rcases hD with z | ⟨_, z⟩
      · omega
      · omega
    · exact Nat.zero_le _
  obtain ⟨i, rfl⟩ : ∃ i, k = beg m n + i := ⟨k - beg m n, by omega⟩
  have big := fin_all (m := m) ok hw hp (n + 1 + 50) (by omega)
  have am : (a, ta) ∈ mid rs wk p m n i := by
    have := after_mid (rs := rs) (wk := wk) (p := p) (m := m) n i 50
    rw [big] at this
    exact (this _ ha).resolve_right fun z => z hle
  have sub := mid_sub (rs := rs) (wk := wk) (p := p) (m := m) n (i + 1) 50
  rw [big] at sub
  have l := mid_Le (rs := rs) (wk := wk) (p := p) hm.w1 n (i + 1)
  have bm : b ∈ ks (mid rs wk p m n (i + 1)) := by
    have e1 := mid_succ (p := p) (rs := rs) (m := m) he
    have ak : a ∈ ks (mid rs wk p m n i) := mem_ks.mpr ⟨ta, am⟩
    rw [e1]
    by_cases bk : b ∈ ks (mid rs wk p m n i)
    · obtain ⟨t, et⟩ := stepW_app rs (m.1 + n) (beg m n + i) e (mid rs wk p m n i)
      rw [et, ks_app]
      exact List.mem_append.mpr (.inl bk)
    · rcases j with ⟨j1, j2⟩ | ⟨j1, j2⟩
      · rw [stepW_tf (by rw [j1]; exact ak) (by rw [j2]; exact bk), ks_app, j2]
        exact List.mem_append.mpr (.inr (List.mem_singleton.mpr rfl))
      · rw [stepW_ft (by rw [j1]; exact bk) (by rw [j2]; exact ak), ks_app, j1]
        exact List.mem_append.mpr (.inr (List.mem_singleton.mpr rfl))
  obtain ⟨tb, hb'⟩ := mem_ks.mp bm
  refine ⟨tb, sub _ hb', ?_⟩
  have := l _ hb'
  rw [show ((beg m n + (i + 1) : Nat) : Int) = ((beg m n + i : Nat) : Int) + 1 by omega] at this
  exact this
end
end Rp
set_option Elab.async false
set_option linter.all false
set_option maxRecDepth 100000
set_option maxHeartbeats 4000000
namespace Rp
open PySem PySem.Spec PyProof.Rows L2 Dl
def rk (r : List Str) (e : Str) : Nat := r.idxOf e
def nxt (t : Mom) (k : Nat) : Mom := if t.2 ≤ (k : Int) then (t.1, (k : Int) + 1) else (t.1 + 1, (k : Int) + 1)
def goT (r : List Str) (t : Mom) (w : List Str) : Mom := w.foldl (fun t e => nxt t (rk r e)) t
theorem goT_snoc (r : List Str) (t : Mom) (w : List Str) (e : Str) : goT r t (w ++ [e]) = nxt (goT r t w) (rk r e) := by
  unfold goT
  rw [List.foldl_append]
  rfl
theorem goT_cons (r : List Str) (t : Mom) (w : List Str) (e : Str) : goT r t (e :: w) = goT r (nxt t (rk r e)) w := rfl
/-- ways that never turn about -/
inductive Go (rs : List Road) (a : Str) : List Str → Str → Prop
  | nil : Go rs a [] a
  | snoc {w : List Str} {b c : Str} {r : Road} : Go rs a w b → r ∈ rs → JoinT r.2 b c → w.getLast? ≠ some r.1 → Go rs a (w ++ [r.1]) c
theorem Go.cons {rs : List Road} {a b c : Str} {w : List Str} {r : Road} (h : Go rs a w b) (hr : r ∈ rs) (j : JoinT r.2 c a) (n : w.head? ≠ some r.1) : Go rs c (r.1 :: w) b := by
  induction h with
  | nil => exact Go.snoc (w := []) .nil hr j (by simp)
  | @snoc w b' c' s h hs js ns ih =>
    have n' : w.head? ≠ some r.1 := by
      cases w with
      | nil => simp
      | cons x w => exact n
    have g := ih n'
    refine Go.snoc (w := r.1 :: w) g hs js ?_
    cases w with
    | nil =>
      intro e
      have e' : r.1 = s.1 := Option.some.inj e
      exact n (by rw [← e']; rfl)
    | cons x w => exact ns
theorem Go.nil_eq {rs : List Road} {a b : Str} (h : Go rs a [] b) : b = a := by
  generalize hx : ([] : List Str) = x at h
  cases h with
  | nil => rfl
  | snoc => simp at hx
theorem Go.init {rs : List Road} {a b : Str} {w : List Str} {e : Str} (h : Go rs a (w ++ [e]) b) : ∃ c r, Go rs a w c ∧ r ∈ rs ∧ r.1 = e ∧ JoinT r.2 c b ∧ w.getLast? ≠ some e := by
  generalize hx : w ++ [e] = x at h
  cases h with
  | nil => simp at hx
  | @snoc w' b' c r h hr j n =>
    obtain ⟨rfl, z⟩ := List.append_inj' hx rfl
    have z' : e = r.1 := by simpa using z
    subst z'
    exact ⟨_, r, h, hr, rfl, j, n⟩
section
variable {ps : List Str} {rs : List Road} {wk : List (List Str)} {p : Str} {m : Mom} {up : Str → Option Str} {dep : Str → Nat}
/-- in a tree the news comes from the place that is nearer -/
theorem tree_pre (ok : WebOk ps rs) (hw : WeekOk rs wk) (hp : p ∈ ps) (hm : MomS wk m) (R : Rt ps (tiesR rs) p up dep) : ∀ (N : Nat) (q : Str) (t : Mom), (q, t) ∈ FinS rs wk p m → ((t.1 - m.1).toNat * 100 + t.2.toNat) ≤ N → q ≠ p →
    ∃ a ta e, ∃ k : Nat, up q = some a ∧ (a, ta) ∈ FinS rs wk p m ∧ (roundAt wk t.1)[k]? = some e ∧ t.2 = (k : Int) + 1 ∧ JoinT (endsOf rs e) q a ∧ le2 ta t.1 k := by
  intro N
  induction N with
  | zero =>
    intro q t hq hN ne
    rcases fin_pre hm _ hq with z | ⟨a, ta, e, k, h1, h2, h3, h4, h5, h6⟩
    · exact absurd (congrArg Prod.fst z) ne
    · have h3' : t.2 = (k : Int) + 1 := h3
      omega
  | succ N ih =>
    intro q t hq hN ne
    rcases fin_pre hm _ hq with z | ⟨a, ta, e, k, h1, h2, h3, h4, h5, h6⟩
    · exact absurd (congrArg Prod.fst z) ne
    · have h2' : (roundAt wk t.1)[k]? = some e := h2
      have h3' : t.2 = (k : Int) + 1 := h3
      have h4' : JoinT (endsOf rs e) q a := h4
      have h5' : le2 ta t.1 k := h5
      have h6' : m.1 ≤ t.1 := h6
      obtain ⟨r, hr, rfl⟩ := List.mem_map.mp (round_sub hw _ e (List.mem_of_getElem? h2'))
      rw [endsOf_mem ok.r.nd hr] at h4'
      have he := R.edge r.2 (List.mem_map.mpr ⟨r, hr, rfl⟩)
      have two : up q = some a ∨ up a = some q := by
        rcases h4' with ⟨x, y⟩ | ⟨x, y⟩
        · rw [x, y] at he
          exact he
        · rw [x, y] at he
          exact he.symm
      rcases two with z | z
      · exact ⟨a, ta, r.1, k, z, h1, h2', h3', by rw [endsOf_mem ok.r.nd hr]; exact h4', h5'⟩
      · exfalso
        have nd := (fin_inv (p := p) (m := m) ok hw).nd
        have ap : a ≠ p := fun z2 => by rw [z2, R.root] at z; cases z
        obtain ⟨⟨b1, b2⟩, b3, b4⟩ := S_bd (p := p) hw ok.r.most hm 50 _ h1
        have b3' : 0 ≤ ta.2 := b3
        have b4' : ta.2 ≤ 20 := b4
        have ge := fin_ge hm _ h1
        have ge' : m.1 < ta.1 ∨ (m.1 = ta.1 ∧ m.2 ≤ ta.2) := ge
        have lt : (ta.1 - m.1).toNat * 100 + ta.2.toNat < (t.1 - m.1).toNat * 100 + t.2.toNat := by
          rcases h5' with x | ⟨x, y⟩
          · have : (ta.1 - m.1).toNat + 1 ≤ (t.1 - m.1).toNat := by rcases ge' with g | ⟨g, _⟩ <;> omega
            omega
          · rw [x]
            omega
        obtain ⟨b, tb, e', k', u1, u2, u3, u4, u5, u6⟩ := ih a ta h1 (by omega) ap
        rw [z] at u1
        obtain rfl := Option.some.inj u1
        have := fin_uniq nd u2 hq
        subst this
        rcases h5' with x | ⟨x, y⟩ <;> rcases u6 with x2 | ⟨x2, y2⟩ <;> omega
theorem rota_at {r : List Str} (hr : RotaOk rs r) {e : Str} (he : e ∈ rnm rs) : r[rk r e]? = some e := by
  have : e ∈ r := by
    by_cases z : e ∈ r
    · exact z
    · exfalso
      have h := nd_len (e :: r) (rnm rs) (List.nodup_cons.mpr ⟨z, hr.ok.nd⟩) (fun x hx => by
        rcases List.mem_cons.mp hx with rfl | hx
        · exact he
        · exact hr.ok.sub x hx)
      rw [List.length_cons, hr.len, List.length_map] at h
      omega
  unfold rk
  rw [List.getElem?_eq_getElem (List.idxOf_lt_length_of_mem this), List.getElem_idxOf]
theorem rk_of {r : List Str} (hr : RotaOk rs r) {e : Str} {k : Nat} (h : r[k]? = some e) : k = rk r e := by
  have he := hr.ok.sub e (List.mem_of_getElem? h)
  exact nd_ix hr.ok.nd h (rota_at hr he)
/-- the moment behind the next walk -/
theorem tree_time (ok : WebOk ps rs) {r : List Str} (hr : RotaOk rs r) (hp : p ∈ ps) (hm : MomS [r] m) (T : TreeOk ps rs) (R : Rt ps (tiesR rs) p up dep) {q a : Str} {ta : Mom} {s : Road} (u : up q = some a) (ha : (a, ta) ∈ FinS rs [r] p m) (hs : s ∈ rs) (js : JoinT s.2 q a) :
    (q, nxt ta (rk r s.1)) ∈ FinS rs [r] p m := by
  have hw := hr.week
  have nd := (fin_inv (p := p) (m := m) ok hw).nd
  have qp : q ≠ p := fun z => by rw [z, R.root] at u; cases u
  have hs' : s.1 ∈ rnm rs := List.mem_map.mpr ⟨s, hs, rfl⟩
  have jE : JoinT (endsOf rs s.1) a q := by rw [endsOf_mem ok.r.nd hs]; exact js.symm
  obtain ⟨D, hD, hle, hn⟩ : ∃ D, (roundAt [r] D)[rk r s.1]? = some s.1 ∧ le2 ta D (rk r s.1) ∧ nxt ta (rk r s.1) = (D, (rk r s.1 : Int) + 1) := by
    by_cases c : ta.2 ≤ (rk r s.1 : Int)
    · exact ⟨ta.1, by rw [round_one]; exact rota_at hr hs', .inr ⟨rfl, c⟩, if_pos c⟩
    · exact ⟨ta.1 + 1, by rw [round_one]; exact rota_at hr hs', .inl (by omega), if_neg c⟩
  obtain ⟨t, ht, l⟩ := fin_step ok hw hp hm hD ha hle jE
  obtain ⟨b, tb, e, k, u1, u2, u3, u4, u5, u6⟩ := tree_pre ok hw hp hm R _ q t ht (Nat.le_refl _) qp
  rw [u] at u1
  obtain rfl := Option.some.inj u1
  have := fin_uniq nd ha u2
  subst this
  rw [round_one] at u3
  obtain ⟨s2, hs2, rfl⟩ := List.mem_map.mp (hr.ok.sub e (List.mem_of_getElem? u3))
  rw [endsOf_mem ok.r.nd hs2] at u5
  have := T.uniq hs hs2 js u5
  subst this
  have hk := rk_of hr u3
  subst hk
  rw [hn]
  have e2 : t = (D, (rk r s.1 : Int) + 1) := by
    have e1 : t.1 = D := by
      unfold nxt at hn
      split at hn
      · rename_i c
        have := congrArg Prod.fst hn
        have this' : ta.1 = D := this
        rcases l with x | ⟨x, _⟩ <;> rcases u6 with y | ⟨y, _⟩ <;> omega
      · rename_i c
        have := congrArg Prod.fst hn
        have this' : ta.1 + 1 = D := this
        rcases l with x | ⟨x, _⟩ <;> rcases u6 with y | ⟨y, y2⟩ <;> omega
    exact Prod.ext e1 u4
  rw [← e2]
  exact ht
/-- a way that never turns about leads away -/
theorem Go.down (T : TreeOk ps rs) (R : Rt ps (tiesR rs) p up dep) {w : List Str} {q : Str} (h : Go rs p w q) : ∀ {v : List Str} {e : Str}, w = v ++ [e] → ∃ a s, up q = some a ∧ s ∈ rs ∧ s.1 = e ∧ JoinT s.2 q a ∧ Go rs p v a := by
  induction h with
  | nil =>
    intro v e z
    simp at z
  | @snoc w b c r h hr j n ih =>
    intro v e z
    obtain ⟨rfl, z2⟩ := List.append_inj' z rfl
    have z3 : r.1 = e := by simpa using z2
    subst z3
    have ed := R.edge r.2 (List.mem_map.mpr ⟨r, hr, rfl⟩)
    have two : up c = some b ∨ up b = some c := by
      rcases j with ⟨x, y⟩ | ⟨x, y⟩
      · rw [x, y] at ed
        exact ed.symm
      · rw [x, y] at ed
        exact ed
    rcases two with u | u
    · exact ⟨b, r, u, hr, rfl, j.symm, h⟩
    · exfalso
      rcases List.eq_nil_or_concat w with rfl | ⟨w', f, rfl⟩
      · have e : b = p := h.nil_eq
        rw [e, R.root] at u
        cases u
      · obtain ⟨a, s, u1, hs, hf, js, _⟩ := ih (v := w') (e := f) (by simp)
        rw [u] at u1
        obtain rfl := Option.some.inj u1
        have := T.uniq hr hs (a := b) (b := c) j js
        subst this
        exact n (by simp [hf])
theorem go_time (ok : WebOk ps rs) {r : List Str} (hr : RotaOk rs r) (hp : p ∈ ps) (hm : MomS [r] m) (T : TreeOk ps rs) : ∀ (n : Nat) (w : List Str) (q : Str), w.length = n → Go rs p w q → (q, goT r m w) ∈ FinS rs [r] p m
  | 0, w, q, hl, h => by
    obtain rfl := List.length_eq_zero_iff.mp hl
    have e : q = p := h.nil_eq
    subst e
    have i : ks (FinS rs [r] q m) = ks (FinS rs [r] q m) := rfl
    obtain ⟨t, et⟩ := S_le (rs := rs) (wk := [r]) (p := q) (m := m) 50 0
    rw [Nat.zero_add] at et
    show (q, m) ∈ S rs [r] q m 50
    rw [et]
    exact List.mem_append.mpr (.inl (List.mem_singleton.mpr rfl))
  | n + 1, w, q, hl, h => by
    obtain ⟨v, e, rfl⟩ : ∃ v e, w = v ++ [e] := ⟨w.dropLast, w.getLast (by intro z; rw [z] at hl; simp at hl), (List.dropLast_concat_getLast _).symm⟩
    obtain ⟨up, dep, R⟩ := T.rt p hp
    obtain ⟨a, s, u, hs, rfl, js, hv⟩ := h.down T R rfl
    have ih := go_time ok hr hp hm T n v a (by simpa using hl) hv
    rw [goT_snoc]
    exact tree_time ok hr hp hm T R u ih hs js
end
end Rp
set_option Elab.async false
set_option linter.all false
set_option maxRecDepth 100000
set_option maxHeartbeats 4000000
namespace Rp
open PySem PySem.Spec PyProof.Rows L2 Dl
abbrev kd (l : List (Str × PyData)) : List Str := l.map fun q => q.1
theorem dA_in (l : List (Str × PyData)) (q : Str) : (valA (dA l) (.inr q)).isSome = decide (q ∈ kd l) := by
  unfold valA dA
  induction l with
  | nil => rfl
  | cons x st ih =>
    rw [List.map_cons, List.find?_cons]
    by_cases e : x.1 = q
    · rw [decide_eq_true (show (Sum.inr x.1 : Key) = Sum.inr q from congrArg _ e), decide_eq_true (show q ∈ kd (x :: st) from List.mem_cons.mpr (.inl e.symm))]
      rfl
    · rw [decide_eq_false (show ¬ (Sum.inr x.1 : Key) = Sum.inr q from fun z => e (Sum.inr.inj z))]
      refine ih.trans (decide_eq_decide.mpr ⟨List.mem_cons_of_mem _, fun h => ?_⟩)
      rcases List.mem_cons.mp h with z | z
      · exact absurd z.symm e
      · exact z
theorem lookD_at : ∀ {l : List (Str × PyData)} {q : Str} {d : PyData}, (kd l).Nodup → (q, d) ∈ l → lookD l q = d
  | x :: l, q, d, nd, h => by
    have nd' := List.nodup_cons.mp nd
    unfold lookD
    rw [List.find?_cons]
    rcases List.mem_cons.mp h with rfl | h
    · rw [decide_eq_true rfl]
      rfl
    · rw [decide_eq_false (fun e : x.1 = q => nd'.1 (List.mem_map.mpr ⟨(q, d), h, e.symm⟩))]
      exact lookD_at nd'.2 h
theorem dA_at {l : List (Str × PyData)} {q : Str} {d : PyData} (nd : (kd l).Nodup) (h : (q, d) ∈ l) : valA (dA l) (.inr q) = some (.d d) := by
  have a := dA_in l q
  rw [decide_eq_true (List.mem_map.mpr ⟨_, h, rfl⟩)] at a
  have b := valA_d l q
  rw [lookD_at nd h] at b
  cases e : valA (dA l) (.inr q) with
  | none => rw [e] at a; cases a
  | some z => rw [e] at b; exact congrArg some b
abbrev Wys := List (Str × List Str)
abbrev kw (W : Wys) : List Str := W.map fun q => q.1
def wayOf (W : Wys) (q : Str) : List Str := ((W.find? fun x => decide (x.1 = q)).map fun x => x.2).getD []
theorem wayOf_at : ∀ {W : Wys} {q : Str}, q ∈ kw W → (q, wayOf W q) ∈ W
  | x :: W, q, h => by
    unfold wayOf
    rw [List.find?_cons]
    by_cases e : x.1 = q
    · rw [decide_eq_true e]
      subst e
      exact List.mem_cons_self ..
    · rw [decide_eq_false e]
      rcases List.mem_cons.mp h with z | z
      · exact absurd z.symm e
      · exact List.mem_cons_of_mem _ (wayOf_at z)
theorem kw_app (a b : Wys) : kw (a ++ b) = kw a ++ kw b := List.map_append ..
def stepP (W : Wys) (r : Road) : Wys :=
  if r.2.1 ∈ kw W then (if r.2.2 ∈ kw W then W else W ++ [(r.2.2, wayOf W r.2.1 ++ [r.1])])
  else if r.2.2 ∈ kw W then W ++ [(r.2.1, wayOf W r.2.2 ++ [r.1])] else W
def passP (rs : List Road) (W : Wys) : Wys := rs.foldl stepP W
def itP' (rs : List Road) (p : Str) : Nat → Wys
  | 0 => [(p, [])]
  | n + 1 => passP rs (itP' rs p n)
theorem stepP_app (W : Wys) (r : Road) : ∃ t, stepP W r = W ++ t := by
  unfold stepP
  split
  · split
    · exact ⟨[], (List.append_nil _).symm⟩
    · exact ⟨_, rfl⟩
  · split
    · exact ⟨_, rfl⟩
    · exact ⟨[], (List.append_nil _).symm⟩
theorem passP_app : ∀ (rs : List Road) (W : Wys), ∃ t, passP rs W = W ++ t
  | [], W => ⟨[], (List.append_nil _).symm⟩
  | r :: rs, W => by
    obtain ⟨t, e⟩ := stepP_app W r
    obtain ⟨u, e2⟩ := passP_app rs (stepP W r)
    exact ⟨t ++ u, by show passP rs (stepP W r) = _; rw [e2, e, List.append_assoc]⟩
theorem passP_still : ∀ (rs : List Road) (W : Wys), passP rs W = W → ∀ r ∈ rs, (r.2.1 ∈ kw W ↔ r.2.2 ∈ kw W)
  | [], _, _ => fun r hr => by cases hr
  | r :: rs, W, h => by
    obtain ⟨t, e⟩ := stepP_app W r
    obtain ⟨u, e2⟩ := passP_app rs (stepP W r)
    have h' : passP rs (stepP W r) = W := h
    rw [e2, e, List.append_assoc] at h'
    have h2 : t ++ u = [] := List.append_cancel_left (h'.trans (List.append_nil _).symm)
    have ht := (List.append_eq_nil_iff.mp h2).1
    have e3 : stepP W r = W := by rw [e, ht, List.append_nil]
    intro x hx
    rcases List.mem_cons.mp hx with rfl | hx
    · unfold stepP at e3
      split at e3
      · rename_i a
        split at e3
        · rename_i b
          exact ⟨fun _ => b, fun _ => a⟩
        · have := congrArg List.length e3
          simp at this
      · rename_i a
        split at e3
        · have := congrArg List.length e3
          simp at this
        · rename_i b
          exact ⟨fun z => absurd z a, fun z => absurd z b⟩
    · refine passP_still rs W ?_ x hx
      have h3 : passP rs (stepP W r) = W := h
      rw [e3] at h3
      exact h3
structure WI (ps : List Str) (rs : List Road) (p : Str) (up : Str → Option Str) (W : Wys) : Prop where
  nd : (kw W).Nodup
  hd : p ∈ kw W
  sub : ∀ q ∈ kw W, q ∈ ps
  go : ∀ x ∈ W, Go rs p x.2 x.1
  cl : ∀ q ∈ kw W, ∀ a, up q = some a → a ∈ kw W
  sz : ∀ x ∈ W, x.2.length < W.length
section
variable {ps : List Str} {rs : List Road} {p : Str} {up : Str → Option Str} {dep : Str → Nat}
theorem WI.start (hp : p ∈ ps) (R : Rt ps (tiesR rs) p up dep) : WI ps rs p up [(p, [])] where
  nd := List.nodup_cons.mpr ⟨(fun z => by cases z), List.nodup_nil⟩
  hd := List.mem_singleton.mpr rfl
  sub := fun q hq => by rw [List.mem_singleton.mp hq]; exact hp
  go := fun x hx => by rw [List.mem_singleton.mp hx]; exact .nil
  cl := fun q hq a h => by
    rw [List.mem_singleton.mp hq, R.root] at h
    cases h
  sz := fun x hx => by rw [List.mem_singleton.mp hx]; exact Nat.zero_lt_one
theorem WI.add (T : TreeOk ps rs) (R : Rt ps (tiesR rs) p up dep) (nd : (rnm rs).Nodup) {W : Wys} (h : WI ps rs p up W) {r : Road} (hr : r ∈ rs) {a b : Str} (j : JoinT r.2 b a) (ha : a ∈ kw W) (hb : b ∉ kw W) : WI ps rs p up (W ++ [(b, wayOf W a ++ [r.1])]) := by
  have ed := R.edge r.2 (List.mem_map.mpr ⟨r, hr, rfl⟩)
  have at_ := R.at_ r.2 (List.mem_map.mpr ⟨r, hr, rfl⟩)
  have two : up b = some a ∨ up a = some b := by
    rcases j with ⟨x, y⟩ | ⟨x, y⟩
    · rw [x, y] at ed
      exact ed
    · rw [x, y] at ed
      exact ed.symm
  have bp : b ∈ ps := by
    rcases j with ⟨x, y⟩ | ⟨x, y⟩
    · exact x ▸ at_.1
    · exact y ▸ at_.2
  have u : up b = some a := by
    rcases two with z | z
    · exact z
    · exact absurd (h.cl a ha b z) hb
  have wa := wayOf_at ha
  have ga := h.go _ wa
  refine ⟨?_, ?_, fun q hq => ?_, fun x hx => ?_, fun q hq c e => ?_, fun x hx => ?_⟩
  · rw [kw_app]
    refine List.nodup_append.mpr ⟨h.nd, List.nodup_cons.mpr ⟨(fun z => by cases z), List.nodup_nil⟩, fun x hx y hy e => hb ?_⟩
    have e2 : x = b := e.trans (List.mem_singleton.mp hy)
    exact e2 ▸ hx
  · rw [kw_app]
    exact List.mem_append.mpr (.inl h.hd)
  · rw [kw_app] at hq
    rcases List.mem_append.mp hq with z | z
    · exact h.sub q z
    · rw [List.mem_singleton.mp z]
      exact bp
  · rcases List.mem_append.mp hx with z | z
    · exact h.go x z
    · rw [List.mem_singleton.mp z]
      refine ga.snoc hr j.symm fun l => ?_
      rcases List.eq_nil_or_concat (wayOf W a) with e | ⟨v, f, e⟩
      · rw [e] at l
        simp at l
      · rw [e] at l ga
        rw [List.concat_eq_append] at l ga
        have fe : f = r.1 := by simpa using l
        subst fe
        obtain ⟨c, s, u1, hs, es, js, _⟩ := Go.down T R ga rfl
        have e2 : s = r := by
          obtain ⟨i, hi⟩ := List.mem_iff_getElem?.mp hs
          obtain ⟨k, hk⟩ := List.mem_iff_getElem?.mp hr
          have := nd_ix nd (i := i) (j := k) (x := r.1) (by rw [List.getElem?_map, hi]; exact congrArg some es) (by rw [List.getElem?_map, hk]; rfl)
          subst this
          rw [hi] at hk
          exact Option.some.inj hk
        subst e2
        have ca : c = b := by
          have ne : a ≠ b := fun z => hb (z ▸ ha)
          rcases js with ⟨x, y⟩ | ⟨x, y⟩ <;> rcases j with ⟨x2, y2⟩ | ⟨x2, y2⟩
          · exact absurd (x.symm.trans x2) ne
          · exact y.symm.trans y2
          · exact x.symm.trans x2
          · exact absurd (y.symm.trans y2) ne
        subst ca
        exact hb (h.cl a ha c u1)
  · rw [kw_app] at hq ⊢
    rcases List.mem_append.mp hq with z | z
    · exact List.mem_append.mpr (.inl (h.cl q z c e))
    · rw [List.mem_singleton.mp z, u] at e
      obtain rfl := Option.some.inj e
      exact List.mem_append.mpr (.inl ha)
  · rw [List.length_append]
    rcases List.mem_append.mp hx with z | z
    · have := h.sz x z
      show _ < W.length + 1
      omega
    · rw [List.mem_singleton.mp z]
      have := h.sz _ wa
      show (wayOf W a ++ [r.1]).length < W.length + 1
      rw [List.length_append]
      have : (wayOf W a).length < W.length := this
      show _ + 1 < _
      omega
theorem WI.step (T : TreeOk ps rs) (R : Rt ps (tiesR rs) p up dep) (nd : (rnm rs).Nodup) {W : Wys} (h : WI ps rs p up W) {r : Road} (hr : r ∈ rs) : WI ps rs p up (stepP W r) := by
  unfold stepP
  split
  · rename_i a
    split
    · exact h
    · rename_i b
      exact h.add T R nd hr (.inr ⟨rfl, rfl⟩) a b
  · rename_i a
    split
    · rename_i b
      exact h.add T R nd hr (.inl ⟨rfl, rfl⟩) b a
    · exact h
theorem WI.pass (T : TreeOk ps rs) (R : Rt ps (tiesR rs) p up dep) (nd : (rnm rs).Nodup) : ∀ (ss : List Road), (∀ r ∈ ss, r ∈ rs) → ∀ {W : Wys}, WI ps rs p up W → WI ps rs p up (passP ss W)
  | [], _, _, h => h
  | r :: ss, hs, W, h => WI.pass T R nd ss (fun x hx => hs x (List.mem_cons_of_mem _ hx)) (h.step T R nd (hs r (List.mem_cons_self ..)))
theorem WI.len {W : Wys} (h : WI ps rs p up W) : W.length ≤ ps.length := by
  have := nd_len (kw W) ps h.nd h.sub
  rwa [List.length_map] at this
theorem WI.iter (T : TreeOk ps rs) (R : Rt ps (tiesR rs) p up dep) (nd : (rnm rs).Nodup) (hp : p ∈ ps) : ∀ n, WI ps rs p up (itP' rs p n)
  | 0 => .start hp R
  | n + 1 => (WI.iter T R nd hp n).pass T R nd rs fun _ h => h
theorem WI.mid (T : TreeOk ps rs) (R : Rt ps (tiesR rs) p up dep) (nd : (rnm rs).Nodup) (hp : p ∈ ps) (n i : Nat) : WI ps rs p up (passP (rs.take i) (itP' rs p n)) :=
  (WI.iter T R nd hp n).pass T R nd _ fun r h => List.mem_of_mem_take h
theorem closed_all (R : Rt ps (tiesR rs) p up dep) {W : Wys} (h : WI ps rs p up W) (c : ∀ r ∈ rs, (r.2.1 ∈ kw W ↔ r.2.2 ∈ kw W)) : ∀ n q, q ∈ ps → dep q ≤ n → q ∈ kw W := by
  intro n
  induction n with
  | zero =>
    intro q hq hn
    by_cases z : q = p
    · rw [z]; exact h.hd
    · obtain ⟨a, u⟩ := R.par q hq z
      have := (R.step q a u).2.2.1
      omega
  | succ n ih =>
    intro q hq hn
    by_cases z : q = p
    · rw [z]; exact h.hd
    · obtain ⟨a, u⟩ := R.par q hq z
      obtain ⟨s1, s2, s3, e, he, j⟩ := R.step q a u
      obtain ⟨r, hr, rfl⟩ := List.mem_map.mp he
      have ha := ih a s1 (by omega)
      rcases j with ⟨x, y⟩ | ⟨x, y⟩
      · rw [← x]
        exact (c r hr).mpr (y ▸ ha)
      · rw [← y]
        exact (c r hr).mp (x ▸ ha)
theorem iter_full (T : TreeOk ps rs) (R : Rt ps (tiesR rs) p up dep) (nd : (rnm rs).Nodup) (hp : p ∈ ps) : ∀ n, (∀ q ∈ ps, q ∈ kw (itP' rs p n)) ∨ n + 1 ≤ (itP' rs p n).length
  | 0 => .inr (Nat.le_refl _)
  | n + 1 => by
    have I := WI.iter T R nd hp n
    obtain ⟨t, e⟩ := passP_app rs (itP' rs p n)
    rcases iter_full T R nd hp n with h | h
    · refine .inl fun q hq => ?_
      show q ∈ kw (passP rs (itP' rs p n))
      rw [e, kw_app]
      exact List.mem_append.mpr (.inl (h q hq))
    · cases t with
      | nil =>
        rw [List.append_nil] at e
        refine .inl fun q hq => ?_
        show q ∈ kw (passP rs (itP' rs p n))
        rw [e]
        exact closed_all R I (passP_still rs _ e) _ q hq (Nat.le_refl _)
      | cons x t =>
        refine .inr ?_
        show n + 1 + 1 ≤ (passP rs (itP' rs p n)).length
        rw [e, List.length_append, List.length_cons]
        omega
theorem iter_all (T : TreeOk ps rs) (R : Rt ps (tiesR rs) p up dep) (nd : (rnm rs).Nodup) (hp : p ∈ ps) : ∀ q ∈ ps, q ∈ kw (itP' rs p ps.length) := by
  rcases iter_full T R nd hp ps.length with h | h
  · exact h
  · have := (WI.iter T R nd hp ps.length).len
    omega
end
end Rp
set_option Elab.async false
set_option linter.all false
set_option maxRecDepth 100000
set_option maxHeartbeats 4000000
namespace Rp
open PySem PySem.Spec PyProof.Rows L2 Dl
section
variable {μ : Mu} {P : DK} {Ex : DX} {ps : List Str} {rs : List Road} {wk : List (List Str)} {p q : Str} {m : Mom} {r : List Str}
theorem Reach.trans {ss : List Road} {a b c : Str} (h : Reach ss a b) (h' : Reach ss b c) : Reach ss a c := by
  induction h' with
  | refl => exact h
  | go _ hr j ih => exact .go ih hr j
theorem Reach.symm {ss : List Road} {a b : Str} (h : Reach ss a b) : Reach ss b a := by
  induction h with
  | refl => exact .refl
  | @go b c r _ hr j ih =>
    refine Reach.trans (.go .refl hr ?_) ih
    exact j.elim (fun x => .inr ⟨x.2, x.1⟩) fun x => .inl ⟨x.2, x.1⟩
end
theorem tb_one {nm : List Str} (h : 1 ≤ nm.length) : TB (nm.take (0 + 1)) [] := by
  cases nm with
  | nil => simp at h
  | cons x nm => exact .one x
theorem tb_add {nm : List Str} {ts : List Tie} {i j : Nat} {x y : Str} (nd : nm.Nodup) (h : TB (nm.take (i + 1)) ts) (hx : nm[i + 1]? = some x) (hy : nm[j]? = some y) (hj : j ≤ i) : TB (nm.take (i + 1 + 1)) (ts ++ [(x, y)]) := by
  rw [take_get hx]
  refine .add h (fun z => ?_) ?_
  · obtain ⟨l, hl⟩ := List.mem_iff_getElem?.mp z
    rw [List.getElem?_take] at hl
    split at hl
    · have := nd_ix nd hl hx
      omega
    · cases hl
  · refine List.mem_iff_getElem?.mpr ⟨j, ?_⟩
    rw [List.getElem?_take, if_pos (by omega)]
    exact hy
theorem WebOk.perm {ps ps' : List Str} {rs rs' : List Road} (h : WebOk ps rs) (hp : ps'.Perm ps) (hr : rs'.Perm rs) : WebOk ps' rs' where
  p := ⟨by rw [hp.length_eq]; exact h.p.one, by rw [hp.length_eq]; exact h.p.most, fun s hs => h.p.nm s (hp.mem_iff.mp hs), hp.nodup_iff.mpr h.p.nd⟩
  r := ⟨by rw [hr.length_eq]; exact h.r.most, fun r hs => h.r.nm r (hr.mem_iff.mp hs), fun r hs => hp.mem_iff.mpr (h.r.a r (hr.mem_iff.mp hs)), fun r hs => hp.mem_iff.mpr (h.r.b r (hr.mem_iff.mp hs)), fun r hs => h.r.ne r (hr.mem_iff.mp hs), (hr.map _).nodup_iff.mpr h.r.nd⟩
theorem TreeOk.perm {ps ps' : List Str} {rs rs' : List Road} (h : TreeOk ps rs) (hp : ps'.Perm ps) (hr : rs'.Perm rs) : TreeOk ps' rs' where
  rt := fun p hpp => by
    obtain ⟨up, dep, R⟩ := h.rt p (hp.mem_iff.mp hpp)
    have ht : (tiesR rs').Perm (tiesR rs) := hr.map _
    exact ⟨up, dep, R.same (fun q => hp.mem_iff) (fun e he => ⟨e, ht.mem_iff.mp he, .inl rfl⟩) fun e he => ⟨e, ht.mem_iff.mpr he, .inl rfl⟩⟩
  one := noPar_perm (hr.map _) h.one
theorem Flips.refl : ∀ ts : List Tie, Flips ts ts
  | [] => .nil
  | _ :: ts => .keep (Flips.refl ts)
theorem Sml.shown {d : PyData} (h : Sml d) : Shown d := by
  refine ⟨h.sh, h.nd, Nat.le_trans h.dp (by decide), ?_⟩
  refine Nat.le_trans (shown_le13 ?_ h.si) (by decide)
  unfold PyData.layable0
  simp only [Bool.and_eq_true, decide_eq_true_eq]
  refine ⟨⟨h.cl, Nat.le_trans h.dp (by decide)⟩, ?_⟩
  have := h.wt
  have : (2 : Nat) ^ 20 = 1048576 := by decide
  omega
/-- repr(x) != repr(y), the same -/
theorem repr_same {x : Dl.A} {μ : Mu} {d : PyData} {P : DK} (h : Shown d) (hx : DatOf x μ d) (q : P (.d (.str d.shown)) μ) : rdRepU [x] μ P := ⟨x, d, rfl, hx, h.1, h.2.1, h.2.2.1, h.2.2.2, q⟩
theorem Go.names {rs : List Road} {a b : Str} {w : List Str} (h : Go rs a w b) : ∀ e ∈ w, e ∈ rnm rs := by
  induction h with
  | nil => intro e he; cases he
  | @snoc w b c r _ hr _ _ ih =>
    intro e he
    rcases List.mem_append.mp he with z | z
    · exact ih e z
    · rw [List.mem_singleton.mp z]
      exact List.mem_map.mpr ⟨r, hr, rfl⟩
theorem go_ex {rs : List Road} {ps : List Str} {p q : Str} (ok : WebOk ps rs) (T : TreeOk ps rs) (hp : p ∈ ps) (hq : q ∈ ps) : ∃ w, Go rs p w q ∧ w.length ≤ 10 := by
  obtain ⟨up, dep, R⟩ := T.rt p hp
  have I := WI.iter T R ok.r.nd hp ps.length
  have w := wayOf_at (iter_all T R ok.r.nd hp q hq)
  have l := I.sz _ w
  have l2 := I.len
  have l3 := ok.p.most
  exact ⟨_, I.go _ w, by
    have : (wayOf (itP' rs p ps.length) q).length < (itP' rs p ps.length).length := l
    omega⟩
end Rp
set_option Elab.async false
set_option linter.all false
set_option maxRecDepth 100000
set_option maxHeartbeats 4000000
namespace Rp
open PySem PySem.Spec PyProof.Rows L2 Dl
theorem Go.ps {ps : List Str} {rs : List Road} (ok : WebOk ps rs) {p q : Str} {w : List Str} (hp : p ∈ ps) (g : Go rs p w q) : q ∈ ps := by
  cases g with
  | nil => exact hp
  | @snoc w b _ r h hr j n =>
    rcases j with ⟨_, e⟩ | ⟨e, _⟩
    · rw [← e]; exact ok.r.b r hr
    · rw [← e]; exact ok.r.a r hr
end Rp
namespace Rp
open PySem PySem.Spec PyProof.Rows L2 Dl
theorem rk_at {ps : List Str} {x : Str} (h : x ∈ ps) : ps[rk ps x]? = some x := by
  have lt := List.idxOf_lt_length_of_mem h
  unfold rk
  rw [List.getElem?_eq_getElem lt, List.getElem_idxOf lt]
end Rp
set_option Elab.async false
set_option linter.all false
set_option maxRecDepth 100000
set_option maxHeartbeats 4000000
namespace Rp
open PySem PySem.Spec PyProof.Rows L2 Dl
def numD (ps : List Str) (rs : List Road) (e : Str) : PyData := .tuple [.int (rk ps (endsOf rs e).1 : Nat), .int (rk ps (endsOf rs e).2 : Nat)]
theorem rk_eq {ps : List Str} {x y : Str} (hx : x ∈ ps) (hy : y ∈ ps) : rk ps x = rk ps y ↔ x = y := by
  constructor
  · intro h
    have a := rk_at hx
    have b := rk_at hy
    rw [h, b] at a
    exact (Option.some.inj a).symm
  · rintro rfl
    rfl
theorem step_ks (rs : List Road) (day : Int) (k : Nat) (e : Str) (st : Got) (x : Str) : x ∈ ks (stepW rs day k e st) ↔ x ∈ ks st ∨ (((endsOf rs e).1 ∈ ks st ∨ (endsOf rs e).2 ∈ ks st) ∧ (x = (endsOf rs e).1 ∨ x = (endsOf rs e).2)) := by
  unfold stepW
  by_cases h1 : (endsOf rs e).1 ∈ ks st <;> by_cases h2 : (endsOf rs e).2 ∈ ks st
  · simp only [h1, h2, decide_true, bne_self_eq_false, Bool.false_eq_true, if_false]
    constructor
    · exact .inl
    · rintro (h | ⟨_, rfl | rfl⟩)
      · exact h
      · exact h1
      · exact h2
  · rw [if_pos (by simp [h1, h2]), if_pos h1]
    unfold ks at h1 ⊢
    rw [List.map_append, List.mem_append, List.map_singleton, List.mem_singleton]
    constructor
    · rintro (h | h)
      · exact .inl h
      · exact .inr ⟨.inl h1, .inr h⟩
    · rintro (h | ⟨_, rfl | rfl⟩)
      · exact .inl h
      · exact .inl h1
      · exact .inr rfl
  · rw [if_pos (by simp [h1, h2]), if_neg h1]
    unfold ks at h2 ⊢
    rw [List.map_append, List.mem_append, List.map_singleton, List.mem_singleton]
    constructor
    · rintro (h | h)
      · exact .inl h
      · exact .inr ⟨.inr h2, .inl h⟩
    · rintro (h | ⟨_, rfl | rfl⟩)
      · exact .inl h
      · exact .inr rfl
      · exact .inl h2
  · simp only [h1, h2, decide_false, bne_self_eq_false, Bool.false_eq_true, if_false]
    constructor
    · exact .inl
    · rintro (h | ⟨h | h, _⟩)
      · exact h
      · exact h.elim
      · exact h.elim
end Rp
namespace Rp
open PySem PySem.Spec PyProof.Rows L2 Dl
def R_beside : DR := fun xs μ Pk _ => ∃ ps rs, xs = [.d (webD ps rs)] ∧ μ = [] ∧ WebOk ps rs ∧ Pk (.c 0) [.dct (dA (ps.map fun p => (p, .list ((roadsAt rs p).map endD))))]
end Rp
namespace Rp
open PySem PySem.Spec PyProof.Rows L2 Dl
theorem nd_ix {α : Type} {N : List α} (hN : N.Nodup) {i j : Nat} {x : α} (a : N[i]? = some x) (b : N[j]? = some x) : i = j := by
  obtain ⟨h1, e1⟩ := List.getElem?_eq_some_iff.mp a
  obtain ⟨h2, e2⟩ := List.getElem?_eq_some_iff.mp b
  exact (List.getElem_inj hN).mp (e1.trans e2.symm)
theorem dc_ix {α : Type} {ys : List Y} {ok : Mu → Prop} {μ : Mu} {ρ : Rho} {dg : DG} {dk dv : DT} {vs : List Nat} {P : DK} (xs : List α) (kf : α → Key) (vf : Nat → α → Dl.A) (yf : Nat → α → Y) (hl : ys.length = xs.length)
    (hy : ∀ i y, ys[i]? = some y → ∃ x, xs[i]? = some x ∧ y = yf i x) (hok : ok μ) (hz : xs.length ≤ sizeLine) (nd : (xs.map kf).Nodup)
    (hs : ∀ i x, xs[i]? = some x → ∀ Q : Dl.A → Dl.A → Mu → Prop, Q (kD (kf x)) (vf i x) μ → dg (yf i x) (wipeR ρ vs) μ fun ρ3 μ3 => dk ρ3 μ3 fun z μ5 => dv ρ3 μ5 fun u μ6 => Q z u μ6) (q : P (.c μ.length) (μ ++ [.dct (xs.mapIdx fun i x => (kf x, vf i x))])) :
    ∃ Pv : Nat → List (Key × Dl.A) → Mu → Prop, Pv 0 [] μ ∧
      (∀ (i : Nat) y acc μ2, ys[i]? = some y → Pv i acc μ2 → ok μ2 ∧ dg y (wipeR ρ vs) μ2 fun ρ3 μ3 => dtYes ρ3 μ3 fun b μ4 => if b = true then dk ρ3 μ4 fun z μ5 => dv ρ3 μ5 fun u μ6 => ∃ k, z = kD k ∧ acc.length < sizeLine ∧ Pv (i + 1) (putA acc k u) μ6 else Pv (i + 1) acc μ4) ∧
        ∀ acc μ2, Pv ys.length acc μ2 → ok μ2 ∧ dcEnd P acc μ2 := by
  refine ⟨fun i acc μ2 => acc = (xs.take i).mapIdx (fun i x => (kf x, vf i x)) ∧ μ2 = μ, ⟨by rw [List.take_zero]; rfl, rfl⟩, ?_, ?_⟩
  · rintro i y acc μ2 hi ⟨rfl, rfl⟩
    obtain ⟨x, hx, rfl⟩ := hy i y hi
    refine ⟨hok, hs i x hx _ ?_⟩
    have lt := (List.getElem?_eq_some_iff.mp hx).1
    refine ⟨kf x, rfl, ?_, ?_, rfl⟩
    · rw [List.length_mapIdx, List.length_take]
      omega
    · rw [List.take_add_one, hx]
      show _ = (xs.take i ++ [x]).mapIdx _
      rw [List.mapIdx_concat, List.length_take, Nat.min_eq_left (Nat.le_of_lt lt)]
      unfold putA
      rw [if_neg ?_]
      intro z
      obtain ⟨p, hp, e⟩ := List.any_eq_true.mp z
      obtain ⟨j, hj, rfl⟩ := List.mem_mapIdx.mp hp
      have e' : kf (xs.take i)[j] = kf x := of_decide_eq_true e
      rw [List.length_take] at hj
      rw [List.getElem_take] at e'
      have a1 : (xs.map kf)[j]? = some (kf x) := by rw [List.getElem?_map, List.getElem?_eq_getElem (by omega)]; exact congrArg some e'
      have a2 : (xs.map kf)[i]? = some (kf x) := by rw [List.getElem?_map, hx]; rfl
      have := nd_ix nd a1 a2
      omega
  · rintro acc μ2 ⟨rfl, rfl⟩
    rw [hl, List.take_length]
    exact ⟨hok, q⟩
theorem rk_ix {ps : List Str} (nd : ps.Nodup) {i : Nat} {x : Str} (h : ps[i]? = some x) : rk ps x = i := nodup_ix nd (rk_at (List.mem_of_getElem? h)) h
theorem num_dct {ps : List Str} (nd : ps.Nodup) : (ps.mapIdx fun i x => ((Sum.inr x : Key), Dl.A.d (.int (i : Nat)))) = dA (ps.map fun x => (x, PyData.int (rk ps x : Nat))) := by
  unfold dA
  rw [List.map_map]
  refine List.ext_getElem? fun i => ?_
  rw [List.getElem?_mapIdx, List.getElem?_map]
  cases h : ps[i]? with
  | none => rfl
  | some x =>
    show some _ = some (Sum.inr x, Dl.A.d (.int (rk ps x : Nat)))
    rw [rk_ix nd h]
end Rp
namespace Rp
open PySem PySem.Spec PyProof.Rows L2 Dl
theorem mom10 {r : List Str} : MomS [r] (1, 0) := ⟨Int.le_refl _, Int.le_refl _, by show (0 : Int) ≤ _; omega⟩
end Rp
namespace Rp
open PySem PySem.Spec PyProof.Rows L2 Dl
theorem step_dA (st : List (Str × Int)) : stepA st = dA (st.map fun x => (x.1, PyData.int x.2)) := by
  unfold stepA dA
  rw [List.map_map]
  rfl
theorem goT_pos (r : List Str) (t : Mom) {w : List Str} (h : w ≠ []) : 1 ≤ (goT r t w).2 := by
  obtain ⟨v, e, rfl⟩ : ∃ v e, w = v ++ [e] := ⟨w.dropLast, w.getLast h, (List.dropLast_concat_getLast _).symm⟩
  rw [goT_snoc]
  unfold nxt
  split
  · show 1 ≤ (rk r e : Int) + 1
    omega
  · show 1 ≤ (rk r e : Int) + 1
    omega
theorem Go.ne {ps : List Str} {rs : List Road} {r : List Str} {p q : Str} {w : List Str} (ok : WebOk ps rs) (hr : RotaOk rs r) (hp : p ∈ ps) (T : TreeOk ps rs) (g : Go rs p w q) (h : w ≠ []) : q ≠ p := fun e => by
  subst e
  have a := go_time ok hr hp (m := (1, 0)) mom10 T _ w q rfl g
  have b := go_time ok hr hp (m := (1, 0)) mom10 T _ [] q rfl .nil
  have c := fin_uniq (fin_inv ok hr.week).nd a b
  have d := goT_pos r (1, 0) h
  rw [c] at d
  have d' : (1 : Int) ≤ 0 := d
  omega
end Rp
namespace Rp
open PySem PySem.Spec PyProof.Rows L2 Dl
end Rp
namespace Rp
open PySem PySem.Spec PyProof.Rows L2 Dl
end Rp
namespace Rp
open PySem PySem.Spec PyProof.Rows L2 Dl
end Rp
namespace Rp
theorem ifF {b : Bool} {p q : Prop} (h : b = false) (x : q) : if b = true then p else q := by rw [h]; exact x
theorem ifT {b : Bool} {p q : Prop} (h : b = true) (x : p) : if b = true then p else q := by rw [h]; exact x
end Rp
namespace Rp
open PySem PySem.Spec PyProof.Rows L2 Dl
theorem Sml.shaped {d : PyData} (h : Sml d) : SeqAt.shaped d = true := Bool.and_eq_true_iff.mpr ⟨h.cl, decide_eq_true (Nat.le_trans h.dp (by decide))⟩
end Rp
namespace Rp
open PySem PySem.Spec PyProof.Rows L2 Dl
theorem keepR {P : DK} {l : Mu} {j : Nat} {o o' : O} (e : l[j]? = some o) (ho : RfyO 0 (some j) l o o') (h : P (.c 0) [o']) : RetD 0 P (.c j) l := by
  refine ⟨some j, .c 0, [o'], .inr (.inr (.inl ⟨_, rfl, rfl, rfl⟩)), ⟨fun i z => ?_, rfl, fun i u lt => absurd lt (Nat.not_lt_zero _), fun i u z z2 => ?_⟩, h⟩
  · obtain rfl := Option.some.inj z
    exact ⟨Nat.zero_le _, (List.getElem?_eq_some_iff.mp e).1⟩
  · obtain rfl := Option.some.inj z
    obtain rfl : o' = u := Option.some.inj z2
    exact ⟨_, e, ho⟩
/-- lists beside the places, cell by cell, and the dict of them behind -/
def besC (ps : List Str) (f : Str → List PyData) : Mu := ps.map (fun x => O.lst ((f x).map Dl.A.d)) ++ [.dct (ps.mapIdx fun i x => ((Sum.inr x : Key), Dl.A.c i))]
theorem bes_at {ps : List Str} {f : Str → List PyData} {x : Str} (h : x ∈ ps) : (besC ps f)[rk ps x]? = some (.lst ((f x).map Dl.A.d)) := by
  have e := rk_at h
  have lt := (List.getElem?_eq_some_iff.mp e).1
  unfold besC
  rw [List.getElem?_append_left (by rw [List.length_map]; exact lt), List.getElem?_map, e]
  rfl
theorem bes_set {ps : List Str} (nd : ps.Nodup) {f : Str → List PyData} {x : Str} (h : x ∈ ps) (z : PyData) : (besC ps f).set (rk ps x) (.lst ((f x).map Dl.A.d ++ [.d z])) = besC ps fun y => if y = x then f y ++ [z] else f y := by
  have lt := (List.getElem?_eq_some_iff.mp (rk_at h)).1
  unfold besC
  rw [List.set_append_left _ _ (by rw [List.length_map]; exact lt)]
  refine congrArg (· ++ _) ?_
  refine List.ext_getElem? fun i => ?_
  rw [List.getElem?_map]
  by_cases e : rk ps x = i
  · subst e
    rw [List.getElem?_set_self (by rw [List.length_map]; exact lt), rk_at h]
    show some _ = some (O.lst ((if x = x then f x ++ [z] else f x).map Dl.A.d))
    rw [if_pos rfl, List.map_append]
    rfl
  · rw [List.getElem?_set_ne e, List.getElem?_map]
    cases hy : ps[i]? with
    | none => rfl
    | some y =>
      have ne : y ≠ x := fun z => e (by subst z; exact rk_ix nd hy)
      show some _ = some (O.lst ((if y = x then f y ++ [z] else f y).map Dl.A.d))
      rw [if_neg ne]
theorem bes_dct (ps : List Str) (f : Str → List PyData) : (besC ps f)[ps.length]? = some (.dct (ps.mapIdx fun i x => ((Sum.inr x : Key), Dl.A.c i))) := by
  unfold besC
  rw [List.getElem?_append_right (by rw [List.length_map]; exact Nat.le_refl _), List.length_map, Nat.sub_self]
  rfl
theorem bes_val {ps : List Str} {x : Str} (h : x ∈ ps) : valA (ps.mapIdx fun i x => ((Sum.inr x : Key), Dl.A.c i)) (.inr x) = some (.c (rk ps x)) := by
  suffices ∀ (ps : List Str) (k : Nat), x ∈ ps → valA (ps.mapIdx fun i x => ((Sum.inr x : Key), Dl.A.c (k + i))) (.inr x) = some (.c (k + rk ps x)) by
    have := this ps 0 h
    simpa using this
  intro ps
  induction ps with
  | nil => intro k h; cases h
  | cons y ps ih =>
    intro k h
    rw [List.mapIdx_cons]
    unfold valA
    rw [List.find?_cons]
    by_cases e : y = x
    · subst e
      simp [rk]
    · have ne : ¬ (Sum.inr y : Key) = Sum.inr x := fun z => e (Sum.inr.inj z)
      rw [decide_eq_false ne]
      have := ih (k + 1) ((List.mem_cons.mp h).resolve_left fun z => e z.symm)
      unfold valA at this
      have rke : rk (y :: ps) x = rk ps x + 1 := by
        unfold rk
        rw [List.idxOf_cons, cond_eq_if, if_neg (by simpa using e)]
      rw [rke, show k + (rk ps x + 1) = k + 1 + rk ps x by omega, ← this]
      refine congrArg _ (congrArg (List.find? _) ?_)
      refine congrArg (fun g => List.mapIdx g ps) ?_
      funext i x
      rw [show k + (i + 1) = k + 1 + i by omega]
theorem bes_rfy {ps : List Str} (f : Str → List PyData) : RfyO 0 (some ps.length) (besC ps f) (.dct (ps.mapIdx fun i x => ((Sum.inr x : Key), Dl.A.c i))) (.dct (dA (ps.map fun p => (p, .list (f p))))) := by
  show Paired (fun (p q : Key × Dl.A) => p.1 = q.1 ∧ RfyV 0 (some ps.length) (besC ps f) p.2 q.2) _ _
  suffices ∀ (l : List Str) (k : Nat), (∀ i x, l[i]? = some x → (besC ps f)[k + i]? = some (.lst ((f x).map Dl.A.d)) ∧ k + i < ps.length) → Paired (fun (p q : Key × Dl.A) => p.1 = q.1 ∧ RfyV 0 (some ps.length) (besC ps f) p.2 q.2) (l.mapIdx fun i x => ((Sum.inr x : Key), Dl.A.c (k + i))) (dA (l.map fun p => (p, .list (f p)))) by
    have := this ps 0 fun i x hx => by
      have lt := (List.getElem?_eq_some_iff.mp hx).1
      refine ⟨?_, by omega⟩
      unfold besC
      rw [Nat.zero_add, List.getElem?_append_left (by rw [List.length_map]; exact lt), List.getElem?_map, hx]
      rfl
    simpa using this
  intro l
  induction l with
  | nil => intro k _; exact .nil
  | cons y l ih =>
    intro k h
    rw [List.mapIdx_cons]
    obtain ⟨h1, h2⟩ := h 0 y rfl
    refine .cons ⟨rfl, .inl ⟨.list (f y), .c (Nat.zero_le _) (fun z => ?_) h1 (.data _), rfl⟩⟩ ?_
    · have := Option.some.inj z
      omega
    · have := ih (k + 1) fun i x hx => by
        have := h (i + 1) x hx
        rw [show k + 1 + i = k + (i + 1) by omega]
        exact this
      have e : (l.mapIdx fun i x => ((Sum.inr x : Key), Dl.A.c (k + (i + 1)))) = l.mapIdx fun i x => ((Sum.inr x : Key), Dl.A.c (k + 1 + i)) := by
        refine congrArg (fun g => List.mapIdx g l) ?_
        funext i x
        rw [show k + (i + 1) = k + 1 + i by omega]
      rw [e]
      exact this
end Rp
namespace Rp
open PySem PySem.Spec PyProof.Rows L2 Dl
def TI (p : Str) (up : Str → Option Str) (dep : Str → Nat) (st : List (Str × Int)) : Prop := (∀ x d, (x, d) ∈ st → d + (dep p : Int) = (dep x : Int)) ∧ ∀ x ∈ kk st, ∀ a, up x = some a → a ∈ kk st
theorem step_mem {st : List (Str × Int)} (nd : (kk st).Nodup) {q : Str} (h : q ∈ kk st) : ∃ v : Int, valA (stepA st) (.inr q) = some (.d (.int v)) ∧ (q, v) ∈ st := by
  obtain ⟨x, hx, rfl⟩ := List.mem_map.mp h
  refine ⟨x.2, ?_, hx⟩
  rw [step_dA]
  exact dA_at (by unfold kd; rw [List.map_map]; exact nd) (List.mem_map.mpr ⟨x, hx, rfl⟩)
theorem Go.reach {rs : List Road} {p q : Str} {w : List Str} (g : Go rs p w q) : Reach rs p q := by
  induction g with
  | nil => exact .refl
  | snoc h hr j n ih => exact .go ih hr (j.elim (fun z => .inl z) fun z => .inr ⟨z.2, z.1⟩)
end Rp
namespace Rp
open PySem PySem.Spec PyProof.Rows L2 Dl
theorem reach_in {ps : List Str} {rs : List Road} (ok : WebOk ps rs) {p q : Str} (hp : p ∈ ps) (h : Reach rs p q) : q ∈ ps := by
  induction h with
  | refl => exact hp
  | @go a b r _ hr hc ih =>
    rcases hc with ⟨_, e⟩ | ⟨_, e⟩
    · rw [← e]; exact ok.r.b r hr
    · rw [← e]; exact ok.r.a r hr
end Rp
set_option Elab.async false
set_option linter.all false
set_option maxRecDepth 100000
set_option maxHeartbeats 4000000
namespace Rp
open PySem PySem.Spec PyProof.Rows L2 Dl
end Rp
namespace Rp
open PySem PySem.Spec PyProof.Rows L2 Dl
end Rp
namespace Rp
open PySem PySem.Spec PyProof.Rows L2 Dl
end Rp
namespace Rp
open PySem PySem.Spec PyProof.Rows L2 Dl
end Rp
namespace Rp
open PySem PySem.Spec PyProof.Rows L2 Dl
structure SmlB (d : PyData) : Prop where
  sh : d.showable = true
  nd : d.hasDict = false
  dp : d.depth ≤ 3
  cl : d.canLay0 = true
  wt : d.weight ≤ 20000
  si : d.intsShort 13 = true
theorem smlB_tup {ds : List PyData} (h : ∀ d ∈ ds, Sml d) (hl : ds.length ≤ 17) : SmlB (.tuple ds) := by
  obtain ⟨a, b, c, e, f, g⟩ := sml_all ds h
  refine ⟨by simpa only [PyData.showable] using a, by simpa only [PyData.hasDict] using b, ?_, by simpa only [PyData.canLay0] using e, ?_, by simpa only [PyData.intsShort] using g⟩
  · simp only [PyData.depth]
    omega
  · simp only [PyData.weight]
    omega
theorem smlB_all : ∀ ds : List PyData, (∀ d ∈ ds, SmlB d) → PyData.showableAll ds = true ∧ PyData.hasDictAll ds = false ∧ PyData.depthAll ds ≤ 3 ∧ PyData.canLayAll0 ds = true ∧ PyData.weightAll ds ≤ 20001 * ds.length ∧ PyData.intsShortAll 13 ds = true
  | [], _ => ⟨rfl, rfl, by simp [PyData.depthAll], rfl, by simp [PyData.weightAll], rfl⟩
  | d :: ds, h => by
    have s := h d (List.mem_cons_self ..)
    obtain ⟨a, b, c, e, f, g⟩ := smlB_all ds fun x hx => h x (List.mem_cons_of_mem _ hx)
    refine ⟨?_, ?_, ?_, ?_, ?_, ?_⟩
    · simp only [PyData.showableAll, s.sh, a, Bool.and_self]
    · simp only [PyData.hasDictAll, s.nd, b, Bool.or_self]
    · have := s.dp
      simp only [PyData.depthAll]
      omega
    · simp only [PyData.canLayAll0, s.cl, e, Bool.and_self]
    · have := s.wt
      simp only [PyData.weightAll, List.length_cons]
      omega
    · simp only [PyData.intsShortAll, s.si, g, Bool.and_self]
theorem smlB_shown {ds : List PyData} (h : ∀ d ∈ ds, SmlB d) (hl : ds.length ≤ 20) : Shown (.list ds) := by
  obtain ⟨a, b, c, e, f, g⟩ := smlB_all ds h
  have dp : (PyData.list ds).depth ≤ 4 := by
    simp only [PyData.depth]
    omega
  refine ⟨by simpa only [PyData.showable] using a, by simpa only [PyData.hasDict] using b, by omega, ?_⟩
  refine Nat.le_trans (shown_le13 ?_ (by simpa only [PyData.intsShort] using g)) (by decide)
  unfold PyData.layable0
  simp only [Bool.and_eq_true, decide_eq_true_eq]
  refine ⟨⟨by simpa only [PyData.canLay0] using e, by omega⟩, ?_⟩
  simp only [PyData.weight]
  have : (2 : Nat) ^ 20 = 1048576 := by decide
  omega
end Rp
namespace Rp
open PySem PySem.Spec PyProof.Rows L2 Dl
theorem cut_init {α : Type} (l : List α) : cut l none (some (-1)) = l.dropLast := by
  unfold cut
  rw [HT.sIx_none, List.drop_zero, Nat.sub_zero, List.dropLast_eq_take]
  refine congrArg (fun n => List.take n l) ?_
  show ((-1 : Int) + (l.length : Int)).toNat = l.length - 1
  omega
end Rp
set_option Elab.async false
set_option linter.all false
set_option maxRecDepth 100000
set_option maxHeartbeats 4000000
namespace Rp
open PySem PySem.Spec PyProof.Rows L2 Dl
theorem tgtY2 {i j : Nat} {a b : Dl.A} {ρ : Rho} {μ : Mu} {P : RM} (q : P ((ρ.set i (some a)).set j (some b)) μ) : dgTup 2 (dgCons (dgName i) (dgCons (dgName j) dgNil)) (.two a b) ρ μ P :=
  ⟨_, rfl, rfl, _, _, rfl, _, rfl, _, _, rfl, _, rfl, rfl, q⟩
section
variable {α : Type} {ys : List Y} {ok : Mu → Prop} {μ : Mu} {ρ : Rho} {dg : DG} {dt : DTT} {de : DT} {vs : List Nat} {P : DK}
theorem lc_filterY (xs : List α) (yf : α → Y) (h : α → Dl.A) (c : α → Bool) (hy : ys = xs.map yf) (hok : ok μ) (hz : xs.length ≤ sizeLine)
    (hs : ∀ x ∈ xs, ∀ (Q : DK) (N : Mu → Prop), (c x = true → Q (h x) μ) → (c x = false → N μ) → dg (yf x) (wipeR ρ vs) μ fun ρ3 μ3 => dt ρ3 μ3 fun b μ4 => if b = true then de ρ3 μ4 Q else N μ4) (q : lcEnd P ((xs.filter c).map h) μ) :
    ∃ Pv : Nat → List Dl.A → Mu → Prop, Pv 0 [] μ ∧
      (∀ (i : Nat) y acc μ2, ys[i]? = some y → Pv i acc μ2 → ok μ2 ∧ dg y (wipeR ρ vs) μ2 fun ρ3 μ3 => dt ρ3 μ3 fun b μ4 => if b = true then de ρ3 μ4 fun z μ5 => acc.length < sizeLine ∧ Pv (i + 1) (acc ++ [z]) μ5 else Pv (i + 1) acc μ4) ∧
        ∀ acc μ2, Pv ys.length acc μ2 → ok μ2 ∧ lcEnd P acc μ2 := by
  subst hy
  refine ⟨fun i acc μ2 => acc = ((xs.take i).filter c).map h ∧ μ2 = μ, ⟨by rw [List.take_zero]; rfl, rfl⟩, ?_, ?_⟩
  · rintro i y acc μ2 hi ⟨rfl, rfl⟩
    rw [List.getElem?_map] at hi
    obtain ⟨x, hx, rfl⟩ := Option.map_eq_some_iff.mp hi
    have lt := (List.getElem?_eq_some_iff.mp hx).1
    refine ⟨hok, hs x (List.mem_of_getElem? hx) _ _ (fun e => ⟨?_, ?_, rfl⟩) (fun e => ⟨?_, rfl⟩)⟩
    · rw [List.length_map]
      have := List.length_filter_le c (xs.take i)
      rw [List.length_take] at this
      omega
    · rw [List.take_add_one, hx, List.filter_append, List.map_append]
      show _ = _ ++ List.map h (List.filter c [x])
      rw [List.filter_cons, if_pos e]
      rfl
    · rw [List.take_add_one, hx, List.filter_append]
      show _ = List.map h (_ ++ List.filter c [x])
      rw [List.filter_cons, if_neg (by rw [e]; exact Bool.false_ne_true)]
      rw [List.filter_nil, List.append_nil]
  · rintro acc μ2 ⟨rfl, rfl⟩
    refine ⟨hok, ?_⟩
    rw [List.length_map, List.take_length]
    exact q
theorem lc_mapY (xs : List α) (yf : α → Y) (h : α → Dl.A) (hy : ys = xs.map yf) (hok : ok μ) (hz : xs.length ≤ sizeLine)
    (hs : ∀ x ∈ xs, ∀ Q : DK, Q (h x) μ → dg (yf x) (wipeR ρ vs) μ fun ρ3 μ3 => de ρ3 μ3 Q) (q : lcEnd P (xs.map h) μ) :
    ∃ Pv : Nat → List Dl.A → Mu → Prop, Pv 0 [] μ ∧
      (∀ (i : Nat) y acc μ2, ys[i]? = some y → Pv i acc μ2 → ok μ2 ∧ dg y (wipeR ρ vs) μ2 fun ρ3 μ3 => dtYes ρ3 μ3 fun b μ4 => if b = true then de ρ3 μ4 fun z μ5 => acc.length < sizeLine ∧ Pv (i + 1) (acc ++ [z]) μ5 else Pv (i + 1) acc μ4) ∧
        ∀ acc μ2, Pv ys.length acc μ2 → ok μ2 ∧ lcEnd P acc μ2 := by
  refine lc_filterY (dt := dtYes) xs yf h (fun _ => true) hy hok hz (fun x hx Q N a _ => ?_) (by rw [List.filter_eq_self.mpr fun _ _ => rfl]; exact q)
  exact hs x hx Q (a rfl)
end
end Rp
set_option Elab.async false
set_option linter.all false
set_option maxRecDepth 100000
set_option maxHeartbeats 4000000
namespace Rp
open PySem PySem.Spec PyProof.Rows L2 Dl
def Lt2 (a b : Mom) : Prop := a.1 < b.1 ∨ (a.1 = b.1 ∧ a.2 < b.2)
def Le2 (a b : Mom) : Prop := a.1 < b.1 ∨ (a.1 = b.1 ∧ a.2 ≤ b.2)
instance (a b : Mom) : Decidable (Lt2 a b) := by unfold Lt2; exact inferInstance
instance (a b : Mom) : Decidable (Le2 a b) := by unfold Le2; exact inferInstance
theorem Le2.refl (a : Mom) : Le2 a a := .inr ⟨rfl, Int.le_refl _⟩
theorem Le2.trans {a b c : Mom} (h : Le2 a b) (g : Le2 b c) : Le2 a c := by
  unfold Le2 at *
  omega
theorem Lt2.trans_le {a b c : Mom} (h : Lt2 a b) (g : Le2 b c) : Lt2 a c := by
  unfold Le2 at *
  unfold Lt2 at *
  omega
theorem Lt2.le {a b : Mom} (h : Lt2 a b) : Le2 a b := by
  unfold Le2
  unfold Lt2 at h
  omega
theorem Go.split {rs : List Road} {p : Str} : ∀ (n : Nat) (u v : List Str) (x : Str), v.length = n → Go rs p (u ++ v) x → ∃ c, Go rs p u c ∧ Go rs c v x
  | 0, u, v, x, hl, g => by
    obtain rfl := List.eq_nil_of_length_eq_zero hl
    rw [List.append_nil] at g
    exact ⟨x, g, .nil⟩
  | n + 1, u, v, x, hl, g => by
    obtain ⟨v', e, rfl⟩ : ∃ v' e, v = v' ++ [e] := ⟨v.dropLast, v.getLast (by intro z; subst z; cases hl), (List.dropLast_concat_getLast _).symm⟩
    rw [← List.append_assoc] at g
    obtain ⟨c, r, g1, hr, re, j, ne⟩ := g.init
    obtain ⟨d, h1, h2⟩ := Go.split n u v' c (by rw [List.length_append] at hl; simpa using hl) g1
    subst re
    refine ⟨d, h1, .snoc h2 hr j fun z => ?_⟩
    apply ne
    rw [List.getLast?_append, z]
    rfl
theorem joinT_other {ps : List Str} {rs : List Road} (ok : WebOk ps rs) {r : Road} (hr : r ∈ rs) {b c c' : Str} (h : JoinT r.2 b c) (h' : JoinT r.2 b c') : c = c' := by
  have ne := ok.r.ne r hr
  rcases h with ⟨x, y⟩ | ⟨x, y⟩ <;> rcases h' with ⟨x', y'⟩ | ⟨x', y'⟩
  · exact y.symm.trans y'
  · exact absurd (x.trans y'.symm) ne
  · exact absurd (x'.trans y.symm) ne
  · exact x.symm.trans x'
theorem road_eq {ps : List Str} {rs : List Road} (ok : WebOk ps rs) {r s : Road} (hr : r ∈ rs) (hs : s ∈ rs) (e : r.1 = s.1) : r = s := by
  have h1 := endsOf_mem ok.r.nd hr
  have h2 := endsOf_mem ok.r.nd hs
  rw [e, h2] at h1
  exact Prod.ext e h1.symm
theorem Go.one {ps : List Str} {rs : List Road} (ok : WebOk ps rs) {p : Str} : ∀ (n : Nat) (u : List Str) (c c' : Str), u.length = n → Go rs p u c → Go rs p u c' → c = c'
  | 0, u, c, c', hl, g, g' => by
    obtain rfl := List.eq_nil_of_length_eq_zero hl
    exact g.nil_eq.trans g'.nil_eq.symm
  | n + 1, u, c, c', hl, g, g' => by
    obtain ⟨v', e, rfl⟩ : ∃ v' e, u = v' ++ [e] := ⟨u.dropLast, u.getLast (by intro z; subst z; cases hl), (List.dropLast_concat_getLast _).symm⟩
    obtain ⟨d, r, g1, hr, re, j, _⟩ := g.init
    obtain ⟨d', r', g1', hr', re', j', _⟩ := g'.init
    obtain rfl := Go.one ok n v' d d' (by rw [List.length_append] at hl; simpa using hl) g1 g1'
    obtain rfl := road_eq ok hr hr' (re.trans re'.symm)
    exact joinT_other ok hr j j'
theorem nxt_lt (t : Mom) (k : Nat) : Lt2 t (nxt t k) := by
  unfold nxt
  split
  · refine .inr ⟨rfl, ?_⟩
    show t.2 < (k : Int) + 1
    omega
  · refine .inl ?_
    show t.1 < t.1 + 1
    omega
theorem goT_le (r : List Str) : ∀ (w : List Str) (t : Mom), Le2 t (goT r t w)
  | [], t => Le2.refl t
  | e :: w, t => by
    rw [goT_cons]
    exact (nxt_lt t _).le.trans (goT_le r w _)
theorem goT_lt (r : List Str) {w : List Str} (t : Mom) (h : w ≠ []) : Lt2 t (goT r t w) := by
  cases w with
  | nil => exact absurd rfl h
  | cons e w =>
    rw [goT_cons]
    exact (nxt_lt t _).trans_le (goT_le r w _)
def oD : Option Mom → PyData
  | none => .none
  | some m => momD m
section
variable {μ : Mu} {P : DK} {Ex : DX} {ps : List Str} {rs : List Road} {wk : List (List Str)} {p q : Str} {m m' : Mom}
theorem Sml.B {d : PyData} (h : Sml d) : SmlB d := ⟨h.sh, h.nd, Nat.le_trans h.dp (by decide), h.cl, Nat.le_trans h.wt (by decide), h.si⟩
theorem SmlB.shaped {d : PyData} (h : SmlB d) : SeqAt.shaped d = true := Bool.and_eq_true_iff.mpr ⟨h.cl, decide_eq_true (Nat.le_trans h.dp (by decide))⟩
theorem smlB_list {ds : List PyData} (h : ∀ d ∈ ds, SmlB d) : SeqAt.shaped (.list ds) = true := by
  obtain ⟨_, _, c, e, _, _⟩ := smlB_all ds h
  unfold SeqAt.shaped
  refine Bool.and_eq_true_iff.mpr ⟨by simpa only [PyData.canLay0] using e, decide_eq_true ?_⟩
  simp only [PyData.depth]
  omega
end
theorem ix_lstN {ds : List PyData} {j : Nat} {z : PyData} {μ : Mu} {P : DK} (e : ds[j]? = some z) (q : P (.d z) μ) : rdIx (.d (.list ds)) (.d (.int (j : Nat))) μ P :=
  ix_lstI (Int.natCast_nonneg _) (by rw [Int.toNat_natCast]; exact e) q
section
variable {ps : List Str} {rs : List Road} {p r x : Str} {m : Mom} {ss w v : List Str}
theorem Lt2.irrefl (a : Mom) : ¬ Lt2 a a := fun h => by
  unfold Lt2 at h
  omega
end
end Rp
set_option Elab.async false
set_option linter.all false
set_option maxRecDepth 100000
set_option maxHeartbeats 4000000
namespace Rp
open PySem PySem.Spec PyProof.Rows L2 Dl
abbrev Mo : Mom := (1, 0)
structure MskF (ps : List Str) (L : List Nat) (st : Str → Got) : Prop where
  len : L.length = ps.length
  bit : ∀ q ∈ ps, ∀ s ∈ ps, (L.getD (rk ps q) 0).testBit (rk ps s) = decide (q ∈ ks (st s))
  bd : ∀ n ∈ L, n < 2 ^ ps.length
def kbS (ps : List Str) (rs : List Road) (L : List Nat) (e : Str) : List Nat :=
  if L.getD (rk ps (endsOf rs e).1) 0 = L.getD (rk ps (endsOf rs e).2) 0 then L
  else (L.set (rk ps (endsOf rs e).1) (L.getD (rk ps (endsOf rs e).1) 0 ||| L.getD (rk ps (endsOf rs e).2) 0)).set (rk ps (endsOf rs e).2) (L.getD (rk ps (endsOf rs e).1) 0 ||| L.getD (rk ps (endsOf rs e).2) 0)
def kbL (ps : List Str) (rs : List Road) (r : List Str) (L : List Nat) : List Nat := r.foldl (kbS ps rs) L
theorem kbL_snoc (ps : List Str) (rs : List Road) (r : List Str) (e : Str) (L : List Nat) : kbL ps rs (r ++ [e]) L = kbS ps rs (kbL ps rs r L) e := by
  unfold kbL
  rw [List.foldl_append]
  rfl
theorem kbS_len (ps : List Str) (rs : List Road) (L : List Nat) (e : Str) : (kbS ps rs L e).length = L.length := by
  unfold kbS
  split
  · rfl
  · rw [List.length_set, List.length_set]
theorem kbL_len (ps : List Str) (rs : List Road) : ∀ (r : List Str) (L : List Nat), (kbL ps rs r L).length = L.length
  | [], _ => rfl
  | e :: r, L => by
    show (kbL ps rs r (kbS ps rs L e)).length = _
    rw [kbL_len ps rs r, kbS_len]
theorem rk_lt {ps : List Str} {x : Str} (h : x ∈ ps) : rk ps x < ps.length := (List.getElem?_eq_some_iff.mp (rk_at h)).1
theorem getD_set {L : List Nat} {i j : Nat} {v : Nat} (h : i < L.length) : (L.set i v).getD j 0 = if j = i then v else L.getD j 0 := by
  rw [List.getD_eq_getElem?_getD, List.getD_eq_getElem?_getD]
  by_cases e : j = i
  · subst e
    rw [if_pos rfl, List.getElem?_set_self h]
    rfl
  · rw [if_neg e, List.getElem?_set_ne (Ne.symm e)]
theorem MskF.step {ps : List Str} {rs : List Road} {L : List Nat} {st : Str → Got} (h : MskF ps L st) {e : Str} (ha : (endsOf rs e).1 ∈ ps) (hb : (endsOf rs e).2 ∈ ps) (day : Int) (k : Nat) : MskF ps (kbS ps rs L e) (fun s => stepW rs day k e (st s)) := by
  have la := rk_lt ha
  have lb := rk_lt hb
  have bitA := fun s hs => h.bit _ ha s hs
  have bitB := fun s hs => h.bit _ hb s hs
  have getb : ∀ i, L.getD i 0 < 2 ^ ps.length := fun i => by
    rw [List.getD_eq_getElem?_getD]
    cases e : L[i]? with
    | none => exact Nat.two_pow_pos _
    | some n => exact h.bd n (List.mem_of_getElem? e)
  unfold kbS
  by_cases z : L.getD (rk ps (endsOf rs e).1) 0 = L.getD (rk ps (endsOf rs e).2) 0
  · rw [if_pos z]
    refine ⟨h.len, fun q hq s hs => ?_, h.bd⟩
    rw [h.bit q hq s hs]
    have eq : decide ((endsOf rs e).1 ∈ ks (st s)) = decide ((endsOf rs e).2 ∈ ks (st s)) := by rw [← bitA s hs, ← bitB s hs, z]
    have iff : (endsOf rs e).1 ∈ ks (st s) ↔ (endsOf rs e).2 ∈ ks (st s) := by simpa using eq
    refine decide_eq_decide.mpr ?_
    rw [step_ks]
    constructor
    · exact .inl
    · rintro (g | ⟨g | g, rfl | rfl⟩)
      · exact g
      · exact g
      · exact iff.mp g
      · exact iff.mpr g
      · exact g
  · rw [if_neg z]
    refine ⟨by rw [List.length_set, List.length_set, h.len], fun q hq s hs => ?_, fun n hn => ?_⟩
    · rw [getD_set (by rw [List.length_set, h.len]; exact lb), getD_set (by rw [h.len]; exact la)]
      have sk := step_ks rs day k e (st s) q
      have orb : (L.getD (rk ps (endsOf rs e).1) 0 ||| L.getD (rk ps (endsOf rs e).2) 0).testBit (rk ps s) = decide ((endsOf rs e).1 ∈ ks (st s) ∨ (endsOf rs e).2 ∈ ks (st s)) := by
        rw [Nat.testBit_or, bitA s hs, bitB s hs]
        simp
      by_cases q2 : rk ps q = rk ps (endsOf rs e).2
      · rw [if_pos q2, orb]
        have e2 := (rk_eq hq hb).mp q2
        refine decide_eq_decide.mpr ?_
        rw [sk]
        constructor
        · exact fun g => .inr ⟨g, .inr e2⟩
        · rintro (g | ⟨g, _⟩)
          · exact .inr (by rw [← e2]; exact g)
          · exact g
      · rw [if_neg q2]
        by_cases q1 : rk ps q = rk ps (endsOf rs e).1
        · rw [if_pos q1, orb]
          have e1 := (rk_eq hq ha).mp q1
          refine decide_eq_decide.mpr ?_
          rw [sk]
          constructor
          · exact fun g => .inr ⟨g, .inl e1⟩
          · rintro (g | ⟨g, _⟩)
            · exact .inl (by rw [← e1]; exact g)
            · exact g
        · rw [if_neg q1, h.bit q hq s hs]
          refine decide_eq_decide.mpr ?_
          rw [sk]
          constructor
          · exact .inl
          · rintro (g | ⟨_, g | g⟩)
            · exact g
            · exact absurd (by rw [g]) q1
            · exact absurd (by rw [g]) q2
    · have two : ∀ m ∈ L.set (rk ps (endsOf rs e).1) (L.getD (rk ps (endsOf rs e).1) 0 ||| L.getD (rk ps (endsOf rs e).2) 0), m < 2 ^ ps.length := fun m hm => by
        rcases List.mem_or_eq_of_mem_set hm with g | g
        · exact h.bd m g
        · rw [g]
          exact Nat.or_lt_two_pow (getb _) (getb _)
      rcases List.mem_or_eq_of_mem_set hn with g | g
      · exact two n g
      · rw [g]
        exact Nat.or_lt_two_pow (getb _) (getb _)
theorem MskF.walk {ps : List Str} {rs : List Road} (day : Int) : ∀ (ns : List Str) (k : Nat) {L : List Nat} {st : Str → Got}, (∀ e ∈ ns, (endsOf rs e).1 ∈ ps ∧ (endsOf rs e).2 ∈ ps) → MskF ps L st → MskF ps (kbL ps rs ns L) (fun s => walkF rs day k ns (st s))
  | [], _, _, _, _, h => h
  | e :: ns, k, L, st, he, h => MskF.walk day ns (k + 1) (fun x hx => he x (List.mem_cons_of_mem _ hx)) (h.step (he e (List.mem_cons_self ..)).1 (he e (List.mem_cons_self ..)).2 day k)
theorem MskF.iff {ps : List Str} {L : List Nat} {st st' : Str → Got} (h : MskF ps L st) (h' : MskF ps L st') {s q : Str} (hs : s ∈ ps) (hq : q ∈ ps) : q ∈ ks (st s) ↔ q ∈ ks (st' s) := by
  have a := h.bit q hq s hs
  rw [h'.bit q hq s hs] at a
  have : (q ∈ ks (st' s)) ↔ (q ∈ ks (st s)) := by simpa using a
  exact this.symm
theorem nat_bits {n m k : Nat} (hn : n < 2 ^ k) (hm : m < 2 ^ k) (h : ∀ i, i < k → n.testBit i = m.testBit i) : n = m := by
  refine Nat.eq_of_testBit_eq fun i => ?_
  by_cases l : i < k
  · exact h i l
  · rw [Nat.testBit_lt_two_pow (Nat.lt_of_lt_of_le hn (Nat.pow_le_pow_right (by decide) (by omega))), Nat.testBit_lt_two_pow (Nat.lt_of_lt_of_le hm (Nat.pow_le_pow_right (by decide) (by omega)))]
theorem MskF.same {ps : List Str} (nd : ps.Nodup) {L L' : List Nat} {st st' : Str → Got} (h : MskF ps L st) (h' : MskF ps L' st') (e : ∀ s ∈ ps, ∀ q ∈ ps, (q ∈ ks (st s) ↔ q ∈ ks (st' s))) : L = L' := by
  refine List.ext_getElem (by rw [h.len, h'.len]) fun i h1 h2 => ?_
  have li : i < ps.length := by rw [← h.len]; exact h1
  have hq := List.getElem_mem li
  have rq : rk ps ps[i] = i := rk_ix nd (List.getElem?_eq_getElem li)
  refine nat_bits (h.bd _ (List.getElem_mem h1)) (h'.bd _ (List.getElem_mem h2)) fun j lj => ?_
  have hs := List.getElem_mem lj
  have rs' : rk ps ps[j] = j := rk_ix nd (List.getElem?_eq_getElem lj)
  have a := h.bit _ hq _ hs
  have b := h'.bit _ hq _ hs
  rw [rq, rs', List.getD_eq_getElem?_getD, List.getElem?_eq_getElem h1] at a
  rw [rq, rs', List.getD_eq_getElem?_getD, List.getElem?_eq_getElem h2] at b
  have a' : L[i].testBit j = _ := a
  have b' : L'[i].testBit j = _ := b
  rw [a', b']
  exact decide_eq_decide.mpr (e _ hs _ hq)
theorem msk_start {ps : List Str} (nd : ps.Nodup) : MskF ps ((List.range ps.length).map fun i => 1 * 2 ^ i) (fun s => [(s, Mo)]) := by
  refine ⟨by rw [List.length_map, List.length_range], fun q hq s hs => ?_, fun n hn => ?_⟩
  · have lq := rk_lt hq
    rw [List.getD_eq_getElem?_getD, List.getElem?_map, List.getElem?_range lq]
    show (1 * 2 ^ rk ps q).testBit (rk ps s) = decide (q ∈ [s])
    rw [Nat.one_mul, Nat.testBit_two_pow]
    refine decide_eq_decide.mpr ?_
    rw [rk_eq hq hs, List.mem_singleton]
  · obtain ⟨i, hi, rfl⟩ := List.mem_map.mp hn
    rw [Nat.one_mul]
    exact Nat.pow_lt_pow_right (by decide) (List.mem_range.mp hi)
section
variable {ps : List Str} {rs : List Road} {wk : List (List Str)} {p : Str}
theorem S_day (n : Nat) : S rs wk p Mo (n + 1) = walkF rs (1 + n) 0 (roundAt wk (1 + n)) (S rs wk p Mo n) := by
  have b : beg Mo n = 0 := by
    unfold beg
    split <;> rfl
  rw [S_next, b, List.drop_zero]
end
/-- the days' numbers -/
structure KnownOk (ps : List Str) (rs : List Road) (wk : List (List Str)) (Ls : List (List Nat)) : Prop where
  one : 1 ≤ Ls.length
  most : Ls.length ≤ 60
  msk : ∀ d L, Ls[d]? = some L → MskF ps L (fun s => S rs wk s Mo d)
  fin : ∀ s ∈ ps, FinS rs wk s Mo = S rs wk s Mo (Ls.length - 1)
def bitsD (L : List Nat) : PyData := .list (L.map fun (n : Nat) => .int (n : Int))
def R_known_behind : DR := fun xs μ Pk _ => ∃ ps rs, ∃ (r : List Str) (L : List Nat), xs = [.d (.list (r.map (numD ps rs))), .d (bitsD L)] ∧ μ = [] ∧ WebOk ps rs ∧ (r.length ≤ 14 ∧ ∀ e ∈ r, (endsOf rs e).1 ∈ ps ∧ (endsOf rs e).2 ∈ ps) ∧ L.length = ps.length ∧ Pk (.d (bitsD (kbL ps rs r L))) []
theorem ixN_nat {n j : Nat} (h : j < n) : ixN n (j : Int) = some j := by
  unfold ixN
  rw [if_pos (by omega), if_pos (by omega), Int.toNat_natCast]
abbrev bI (L : List Nat) : List PyData := L.map fun (n : Nat) => .int (n : Int)
theorem bI_get {L : List Nat} {i : Nat} (h : i < L.length) : ((bI L).map Dl.A.d)[i]? = some (.d (.int ((L.getD i 0 : Nat) : Int))) := by
  rw [List.map_map, List.getElem?_map, List.getD_eq_getElem?_getD, List.getElem?_eq_getElem h]
  rfl
theorem bI_set (L : List Nat) (i v : Nat) : ((bI L).map Dl.A.d).set i (.d (.int (v : Int))) = (bI (L.set i v)).map Dl.A.d := by
  rw [List.map_map, List.map_map, List.map_set]
  rfl
structure KnRun (ps : List Str) (rs : List Road) (wk : List (List Str)) (Ls : List (List Nat)) (idle : Nat) : Prop where
  one : 1 ≤ Ls.length
  msk : ∀ d L, Ls[d]? = some L → MskF ps L (fun s => S rs wk s Mo d)
  il : idle ≤ Ls.length - 1
  iw : idle ≤ wk.length
  still : ∀ s ∈ ps, ∀ q ∈ ps, (q ∈ ks (S rs wk s Mo (Ls.length - 1)) ↔ q ∈ ks (S rs wk s Mo (Ls.length - 1 - idle)))
  near : Ls.length - 1 - idle ≤ 50
theorem KnRun.start {ps : List Str} {rs : List Road} {wk : List (List Str)} (nd : ps.Nodup) : KnRun ps rs wk [(List.range ps.length).map fun i => 1 * 2 ^ i] 0 where
  one := Nat.le_refl _
  msk d L e := by
    cases d with
    | zero =>
      obtain rfl := Option.some.inj e
      exact msk_start nd
    | succ d => cases e
  il := Nat.zero_le _
  iw := Nat.zero_le _
  still := fun s _ q _ => Iff.rfl
  near := Nat.zero_le _
theorem ends_in {ps : List Str} {rs : List Road} (ok : WebOk ps rs) {e : Str} (h : e ∈ rnm rs) : (endsOf rs e).1 ∈ ps ∧ (endsOf rs e).2 ∈ ps := by
  obtain ⟨r, hr, rfl⟩ := List.mem_map.mp h
  rw [endsOf_mem ok.r.nd hr]
  exact ⟨ok.r.a r hr, ok.r.b r hr⟩
/-- one day more -/
theorem KnRun.next {ps : List Str} {rs : List Road} {wk : List (List Str)} (ok : WebOk ps rs) (hw : WeekOk rs wk) {Ls : List (List Nat)} {idle : Nat} (h : KnRun ps rs wk Ls idle) (li : idle < wk.length) {L : List Nat} (hL : Ls.getLast? = some L) :
    KnRun ps rs wk (Ls ++ [kbL ps rs (roundAt wk (1 + ((Ls.length - 1 : Nat) : Int))) L]) (if kbL ps rs (roundAt wk (1 + ((Ls.length - 1 : Nat) : Int))) L = L then idle + 1 else 0) := by
  have h1 := h.one
  have eL : Ls[Ls.length - 1]? = some L := by rw [← List.getLast?_eq_getElem?]; exact hL
  have m0 := h.msk _ _ eL
  have m1 : MskF ps (kbL ps rs (roundAt wk (1 + ((Ls.length - 1 : Nat) : Int))) L) (fun s => S rs wk s Mo (Ls.length - 1 + 1)) := by
    have := MskF.walk (1 + ((Ls.length - 1 : Nat) : Int)) (roundAt wk (1 + ((Ls.length - 1 : Nat) : Int))) 0 (fun e he => ends_in ok (round_sub hw _ e he)) m0
    have e : (fun s => S rs wk s Mo (Ls.length - 1 + 1)) = fun s => walkF rs (1 + ((Ls.length - 1 : Nat) : Int)) 0 (roundAt wk (1 + ((Ls.length - 1 : Nat) : Int))) (S rs wk s Mo (Ls.length - 1)) := by
      funext s
      exact S_day _
    rw [e]
    exact this
  have ln : (Ls ++ [kbL ps rs (roundAt wk (1 + ((Ls.length - 1 : Nat) : Int))) L]).length - 1 = Ls.length - 1 + 1 := by
    rw [List.length_append]
    show Ls.length + 1 - 1 = _
    omega
  have msk : ∀ d M, (Ls ++ [kbL ps rs (roundAt wk (1 + ((Ls.length - 1 : Nat) : Int))) L])[d]? = some M → MskF ps M (fun s => S rs wk s Mo d) := fun d M e => by
    rcases Nat.lt_or_ge d Ls.length with lt | ge
    · rw [List.getElem?_append_left lt] at e
      exact h.msk d M e
    · rw [List.getElem?_append_right ge] at e
      have lt := (List.getElem?_eq_some_iff.mp e).1
      have lt' : d - Ls.length < 1 := lt
      rw [show d - Ls.length = 0 by omega] at e
      obtain rfl := Option.some.inj e
      rw [show d = Ls.length - 1 + 1 by omega]
      exact m1
  split
  · rename_i same
    rw [same] at m1
    refine ⟨by rw [List.length_append]; omega, msk, by rw [ln]; have := h.il; omega, li, fun s hs q hq => ?_, by rw [ln]; have := h.near; have := h.il; omega⟩
    rw [ln, show Ls.length - 1 + 1 - (idle + 1) = Ls.length - 1 - idle by omega, ← h.still s hs q hq]
    exact m1.iff m0 hs hq
  · rename_i other
    refine ⟨by rw [List.length_append]; omega, msk, Nat.zero_le _, Nat.zero_le _, fun s hs q hq => Iff.rfl, ?_⟩
    rw [ln]
    rcases Nat.lt_or_ge (Ls.length - 1) 50 with lt | ge
    · omega
    · exfalso
      refine other (m1.same ok.p.nd m0 fun s hs q hq => ?_)
      rw [fin_all ok hw hs (Ls.length - 1 + 1) (by omega), fin_all ok hw hs (Ls.length - 1) ge]
theorem KnRun.ok {ps : List Str} {rs : List Road} {wk : List (List Str)} {Ls : List (List Nat)} {idle : Nat} (h : KnRun ps rs wk Ls idle) (hw : WeekOk rs wk) (fin : ∀ s ∈ ps, FinS rs wk s Mo = S rs wk s Mo (Ls.length - 1)) : KnownOk ps rs wk Ls :=
  ⟨h.one, by have := h.near; have := h.iw; have := hw.most; omega, h.msk, fin⟩
/-- a list of lists in cells -/
structure TabAt (c : Nat) (ri : Nat → Nat) (n : Nat) (T : Nat → Nat → PyData) (μ : Mu) : Prop where
  top : μ[c]? = some (.lst ((List.range n).map fun i => Dl.A.c (ri i)))
  row : ∀ i, i < n → μ[ri i]? = some (.lst (((List.range n).map (T i)).map Dl.A.d))
  inj : ∀ i j, i < n → j < n → ri i = ri j → i = j
  ne : ∀ i, i < n → ri i ≠ c
/-- the greatest day of a table, by rows -/
def triI (f : Int × Str × Str) : PyData := .tuple [.int f.1, .str f.2.1, .str f.2.2]
theorem TabAt.congr {c n : Nat} {ri : Nat → Nat} {T T' : Nat → Nat → PyData} {μ : Mu} (h : TabAt c ri n T μ) (e : ∀ i j, i < n → j < n → T i j = T' i j) : TabAt c ri n T' μ :=
  ⟨h.top, fun i hi => by
    rw [h.row i hi]
    congr 2
    congr 1
    exact List.map_congr_left fun j hj => e i j hi (List.mem_range.mp hj), h.inj, h.ne⟩
theorem TabAt.put {c n : Nat} {ri : Nat → Nat} {T : Nat → Nat → PyData} {μ : Mu} (h : TabAt c ri n T μ) {i j : Nat} (hi : i < n) (hj : j < n) (v : PyData) :
    TabAt c ri n (fun a b => if a = i ∧ b = j then v else T a b) (μ.set (ri i) (.lst ((((List.range n).map (T i)).map Dl.A.d).set j (.d v)))) where
  top := get_ne h.top (h.ne i hi)
  row a ha := by
    by_cases e : a = i
    · subst e
      rw [get_set (h.row a ha)]
      congr 2
      refine List.ext_getElem (by rw [List.length_set, List.length_map, List.length_map, List.length_map, List.length_map]) fun k h1 h2 => ?_
      rw [List.getElem_set]
      simp only [List.getElem_map, List.getElem_range]
      by_cases z : j = k
      · subst z
        simp
      · rw [if_neg z, if_neg (fun w => z w.2.symm)]
    · rw [get_ne (h.row a ha) (fun z => e (h.inj i a hi ha z).symm)]
      congr 2
      congr 1
      exact List.map_congr_left fun b _ => (if_neg (fun w => e w.1)).symm
  inj := h.inj
  ne := h.ne
theorem sml_name {s : Str} (h : NameOk s) : Sml (.str s) := by
  have hl : s.cps.size ≤ 8 := h.most
  refine ⟨by simp [PyData.showable], by simp [PyData.hasDict], by simp [PyData.depth], by simpa only [PyData.canLay0] using name_str h, ?_, by simp [PyData.intsShort]⟩
  simp only [PyData.weight]
  omega
theorem SmlB.shown {d : PyData} (h : SmlB d) : Shown d := by
  have h3 := h.dp
  have h5 := h.wt
  refine ⟨h.sh, h.nd, by omega, ?_⟩
  refine Nat.le_trans (shown_le13 ?_ h.si) (by decide)
  unfold PyData.layable0
  simp only [Bool.and_eq_true, decide_eq_true_eq]
  have : (2 : Nat) ^ 20 = 1048576 := by decide
  exact ⟨⟨h.cl, by omega⟩, by omega⟩
theorem TabAt.up {c n : Nat} {ri : Nat → Nat} {T : Nat → Nat → PyData} {ν : Mu} (h : TabAt c ri n T ν) (μ : Mu) : TabAt (μ.length + c) (fun i => μ.length + ri i) n T (μ ++ ν.map (upO μ.length)) where
  top := by
    rw [List.getElem?_append_right (Nat.le_add_right _ _), Nat.add_sub_cancel_left, List.getElem?_map, h.top]
    show some (O.lst (((List.range n).map fun i => Dl.A.c (ri i)).map (upN μ.length))) = _
    rw [List.map_map]
    rfl
  row i hi := by
    rw [List.getElem?_append_right (Nat.le_add_right _ _), Nat.add_sub_cancel_left, List.getElem?_map, h.row i hi]
    show some (O.lst ((((List.range n).map (T i)).map Dl.A.d).map (upN μ.length))) = _
    rw [List.map_map]
    rfl
  inj i j hi hj e := h.inj i j hi hj (by
    have e' : μ.length + ri i = μ.length + ri j := e
    omega)
  ne i hi := fun e => h.ne i hi (by
    have e' : μ.length + ri i = μ.length + c := e
    omega)
end Rp
set_option Elab.async false
set_option linter.all false
set_option maxRecDepth 100000
set_option maxHeartbeats 4000000
namespace Rp
open PySem PySem.Spec PyProof.Rows L2 Dl
theorem TreeOk.reach {ps : List Str} {rs : List Road} (h : TreeOk ps rs) {p : Str} (hp : p ∈ ps) : ∀ q ∈ ps, Reach rs p q := by
  obtain ⟨up, dep, R⟩ := h.rt p hp
  have key : ∀ n q, dep q ≤ n → q ∈ ps → Reach rs p q := by
    intro n
    induction n with
    | zero =>
      intro q hd hq
      by_cases e : q = p
      · exact e ▸ .refl
      · obtain ⟨a, ea⟩ := R.par q hq e
        have := (R.step q a ea).2.2.1
        omega
    | succ n ih =>
      intro q hd hq
      by_cases e : q = p
      · exact e ▸ .refl
      · obtain ⟨a, ea⟩ := R.par q hq e
        obtain ⟨s1, s2, s3, t, ht, j⟩ := R.step q a ea
        obtain ⟨r, hr, rfl⟩ := List.mem_map.mp ht
        refine .go (ih a (by omega) s1) hr ?_
        rcases j with ⟨j1, j2⟩ | ⟨j1, j2⟩
        · exact .inr ⟨j2, j1⟩
        · exact .inl ⟨j1, j2⟩
  exact fun q hq => key (dep q) q (Nat.le_refl _) hq
theorem TreeOk.len {ps : List Str} {rs : List Road} (h : TreeOk ps rs) (nd : ps.Nodup) (one : 1 ≤ ps.length) (nr : (rnm rs).Nodup) : rs.length + 1 = ps.length := by
  obtain ⟨p, hp⟩ : ∃ p, p ∈ ps := by
    cases ps with
    | nil => simp at one
    | cons x l => exact ⟨x, List.mem_cons_self ..⟩
  obtain ⟨up, dep, R⟩ := h.rt p hp
  let c : Road → Str := fun r => if up r.2.1 = some r.2.2 then r.2.1 else r.2.2
  have hc : ∀ r ∈ rs, ∃ a, up (c r) = some a ∧ JoinT r.2 (c r) a := fun r hr => by
    show ∃ a, up (if up r.2.1 = some r.2.2 then r.2.1 else r.2.2) = some a ∧ JoinT r.2 (if up r.2.1 = some r.2.2 then r.2.1 else r.2.2) a
    by_cases e : up r.2.1 = some r.2.2
    · rw [if_pos e]
      exact ⟨_, e, .inl ⟨rfl, rfl⟩⟩
    · rw [if_neg e]
      rcases R.edge r.2 (List.mem_map.mpr ⟨r, hr, rfl⟩) with z | z
      · exact absurd z e
      · exact ⟨_, z, .inr ⟨rfl, rfl⟩⟩
  have rnd : rs.Pairwise fun r s => r.1 ≠ s.1 := List.pairwise_map.mp nr
  have cnd : (rs.map c).Nodup := by
    refine List.pairwise_map.mpr (List.Pairwise.imp_of_mem (fun {r s} hr hs ne e => ne ?_) rnd)
    obtain ⟨a, ea, ja⟩ := hc r hr
    obtain ⟨b, eb, jb⟩ := hc s hs
    rw [e] at ea ja
    rw [ea] at eb
    obtain rfl := Option.some.inj eb
    rw [h.uniq hr hs ja jb]
  have mem : ∀ q, q ∈ rs.map c ↔ q ∈ ps.erase p := fun q => by
    rw [nd.mem_erase_iff]
    constructor
    · intro hq
      obtain ⟨r, hr, rfl⟩ := List.mem_map.mp hq
      obtain ⟨a, ea, _⟩ := hc r hr
      refine ⟨fun e => ?_, (R.step _ a ea).2.1⟩
      rw [e, R.root] at ea
      cases ea
    · rintro ⟨ne, hq⟩
      obtain ⟨a, ea⟩ := R.par q hq ne
      obtain ⟨s1, s2, s3, t, ht, j⟩ := R.step q a ea
      obtain ⟨r, hr, rfl⟩ := List.mem_map.mp ht
      refine List.mem_map.mpr ⟨r, hr, ?_⟩
      obtain ⟨b, eb, jb⟩ := hc r hr
      have db := (R.step _ b eb).2.2.1
      rcases j with ⟨j1, j2⟩ | ⟨j1, j2⟩ <;> rcases jb with ⟨k1, k2⟩ | ⟨k1, k2⟩
      · exact k1.symm.trans j1
      · exfalso
        rw [← k2, j2] at db eb
        rw [← k1, j1] at db
        omega
      · exfalso
        rw [← k1, j1] at db
        rw [← k2, j2] at db
        omega
      · exact k2.symm.trans j2
  have pm : (rs.map c).Perm (ps.erase p) := (List.perm_ext_iff_of_nodup cnd (nd.erase p)).mpr mem
  have := pm.length_eq
  rw [List.length_map, List.length_erase_of_mem hp] at this
  omega
/-- the roads but one -/
def goneR (rs : List Road) (n : Str) : List Road := rs.filter fun r => decide (r.1 ≠ n)
def OnePiece (ps : List Str) (rs : List Road) : Prop := ∀ p, ps[0]? = some p → ∀ q ∈ ps, Reach rs p q
def R_has_one_piece : DR := fun xs μ Pk _ => ∃ ps rs, xs = [.d (webD ps rs)] ∧ μ = [] ∧ WebOk ps rs ∧ ∀ b : Bool, (b = true ↔ OnePiece ps rs) → Pk (.d (.bool b)) []
theorem all_in {α : Type} [DecidableEq α] {k l : List α} (nd : k.Nodup) (sub : ∀ x ∈ k, x ∈ l) (h : k.length = l.length) : ∀ x ∈ l, x ∈ k := fun x hx => by
  rcases Classical.em (x ∈ k) with z | z
  · exact z
  · exfalso
    have := nd_len k (l.erase x) nd fun y hy => by
      have ne : y ≠ x := fun e => z (by rw [← e]; exact hy)
      exact (List.mem_erase_of_ne ne).mpr (sub y hy)
    rw [List.length_erase_of_mem hx] at this
    have := List.length_pos_of_mem hx
    omega
def atRoads (rs : List Road) (p : Str) : List Str := (roadsAt rs p).map (·.1)
theorem depth_strs (l : List Str) : PyData.depthAll (l.map .str) = 0 := by
  induction l with
  | nil => simp [PyData.depthAll]
  | cons x l ih => rw [List.map_cons, PyData.depthAll, ih]; simp [PyData.depth]
theorem cut_from {α : Type} (l : List α) (k : Nat) : cut l (some (k : Int)) none = l.drop k := by
  unfold cut
  rw [HT.sIx_none, show HT.sIx l.length 0 (some (k : Int)) = min k l.length from HT.sIx_nat _ _ k]
  by_cases h : k ≤ l.length
  · rw [Nat.min_eq_left h]
    exact List.take_of_length_le (by rw [List.length_drop]; omega)
  · rw [Nat.min_eq_right (by omega), List.drop_of_length_le (Nat.le_refl _), List.drop_of_length_le (show l.length ≤ k by omega), List.take_nil]
end Rp
set_option Elab.async false
set_option linter.all false
set_option maxRecDepth 100000
set_option maxHeartbeats 4000000
namespace Rp
open PySem PySem.Spec PyProof.Rows L2 Dl
structure KnF (ps : List Str) (K : Str → List Str) (st : Str → Got) : Prop where
  up : ∀ q ∈ ps, (K q).Pairwise fun a b => leS a b = true
  nd : ∀ q ∈ ps, (K q).Nodup
  mem : ∀ q ∈ ps, ∀ p, p ∈ K q ↔ p ∈ ps ∧ q ∈ ks (st p)
theorem ddk_nd (l : List Key) : (ddk l).Nodup := (ddk_aux _ l rfl).2.1
theorem ddS_nd (ss : List Str) : (ddS ss).Nodup := by
  have h := ddk_nd (ss.map Sum.inr)
  rw [ddS_map] at h
  exact List.Pairwise.of_map _ (fun a b ne e => ne (congrArg Sum.inr e)) h
theorem sortS_mem {ss : List Str} {x : Str} : x ∈ sortS ss ↔ x ∈ ss := (sortS_pm ss).mem_iff
def unK (a b : Str) (K : Str → List Str) : Str → List Str := fun q => if q = a ∨ q = b then sortS (ddS (K a ++ K b)) else K q
theorem KnF.step {ps : List Str} {rs : List Road} {K : Str → List Str} {st : Str → Got} (h : KnF ps K st) {e : Str} (ha : (endsOf rs e).1 ∈ ps) (hb : (endsOf rs e).2 ∈ ps) (day : Int) (k : Nat) :
    KnF ps (unK (endsOf rs e).1 (endsOf rs e).2 K) (fun p => stepW rs day k e (st p)) where
  up := fun q hq => by
    unfold unK
    split
    · exact sortS_up _
    · exact h.up q hq
  nd := fun q hq => by
    unfold unK
    split
    · exact (sortS_pm _).nodup_iff.mpr (ddS_nd _)
    · exact h.nd q hq
  mem := fun q hq p => by
    have sk := step_ks rs day k e (st p) q
    rw [sk]
    unfold unK
    by_cases z : q = (endsOf rs e).1 ∨ q = (endsOf rs e).2
    · rw [if_pos z, sortS_mem, ddS_mem, List.mem_append, h.mem _ ha, h.mem _ hb]
      constructor
      · rintro (⟨a, b⟩ | ⟨a, b⟩)
        · exact ⟨a, .inr ⟨.inl b, z⟩⟩
        · exact ⟨a, .inr ⟨.inr b, z⟩⟩
      · rintro ⟨a, b | ⟨b | b, _⟩⟩
        · rcases z with z | z
          · exact .inl ⟨a, z ▸ b⟩
          · exact .inr ⟨a, z ▸ b⟩
        · exact .inl ⟨a, b⟩
        · exact .inr ⟨a, b⟩
    · rw [if_neg z, h.mem q hq]
      constructor
      · exact fun ⟨a, b⟩ => ⟨a, .inl b⟩
      · rintro ⟨a, b | ⟨_, b⟩⟩
        · exact ⟨a, b⟩
        · exact absurd b z
theorem KnF.start (ps : List Str) : KnF ps (fun q => [q]) (fun p => [(p, Mo)]) where
  up := fun q _ => List.pairwise_singleton ..
  nd := fun q _ => by simp
  mem := fun q hq p => by
    rw [List.mem_singleton]
    show _ ↔ p ∈ ps ∧ q ∈ [p]
    rw [List.mem_singleton]
    exact ⟨fun e => ⟨e ▸ hq, e.symm⟩, fun e => e.2.symm⟩
section
variable {ps : List Str} {rs : List Road} {wk : List (List Str)} {p q : Str} {m : Mom}
def leM (a b : Mom) : Prop := le2 a b.1 b.2
theorem leM_anti {a b : Mom} (h : leM a b) (k : leM b a) : a = b := by
  unfold leM le2 at *
  exact Prod.ext (by omega) (by omega)
end
structure MaxK (ps : List Str) (rs : List Road) (wk : List (List Str)) (M : Mom) : Prop where
  at_ : ∃ p ∈ ps, ∃ q ∈ ps, valS (FinS rs wk p Mo) q = M
  all : ∀ p ∈ ps, ∀ q ∈ ps, leM (valS (FinS rs wk p Mo) q) M
theorem MaxK.one {ps : List Str} {rs : List Road} {wk : List (List Str)} {M N : Mom} (h : MaxK ps rs wk M) (k : MaxK ps rs wk N) : M = N := by
  obtain ⟨p, hp, q, hq, rfl⟩ := h.at_
  obtain ⟨r, hr, s, hs, rfl⟩ := k.at_
  exact leM_anti (k.all p hp q hq) (h.all r hr s hs)
/-- the pieces: each the places that one of them reaches -/
structure PiecesOk (ps : List Str) (rs : List Road) (Ls : List (List Str)) : Prop where
  cl : ∀ L ∈ Ls, ∃ p ∈ ps, L.Nodup ∧ L.Pairwise (fun a b => leS a b = true) ∧ ∀ q, q ∈ L ↔ Reach rs p q
  cov : ∀ p ∈ ps, ∃ L ∈ Ls, p ∈ L
  nd : Ls.Pairwise fun L M => ∀ x ∈ L, x ∉ M
  sz : Ls.length ≤ ps.length
theorem strs_sortable {ss : List Str} : PySem.W.AllAlike (ss.map .str) ∧ PySem.W.Sortable (ss.map .str) ∧ PyData.depthAll (ss.map .str) ≤ 60 := by
  refine ⟨fun d hd e he => ?_, .inr fun d hd => ?_, by rw [depth_strs]; decide⟩
  · obtain ⟨x, _, rfl⟩ := List.mem_map.mp hd
    obtain ⟨y, _, rfl⟩ := List.mem_map.mp he
    rfl
  · obtain ⟨x, _, rfl⟩ := List.mem_map.mp hd
    exact ⟨fun e => (by cases e), fun xs e => (by cases e)⟩
theorem sortD_pm (ds : List PyData) : (sortD ds).Perm ds := List.mergeSort_perm _ _
section
variable {ps : List Str} {rs : List Road} {wk : List (List Str)} {p q : Str} {M : Mom}
theorem sml_round {L : List Str} (h : ∀ s ∈ L, NameOk s) (l : L.length ≤ 17) : SmlB (roundD L) :=
  smlB_tup (fun d hd => by
    obtain ⟨s, hs, rfl⟩ := List.mem_map.mp hd
    exact sml_name (h s hs)) (by rw [List.length_map]; exact l)
end
end Rp
namespace Rp
open PySem PySem.Spec PyProof.Rows L2 Dl
end Rp
namespace Rp
open PySem PySem.Spec PyProof.Rows L2 Dl
end Rp
namespace Rp
open PySem PySem.Spec PyProof.Rows L2 Dl
end Rp
namespace Rp
open PySem PySem.Spec PyProof.Rows L2 Dl
end Rp
namespace Rp
open PySem PySem.Spec PyProof.Rows L2 Dl
end Rp
namespace Rp
open PySem PySem.Spec PyProof.Rows L2 Dl
structure DI (rs : List Road) (p : Str) (v : Nat) (st : List (Str × Int)) (todo bey : List Str) : Prop where
  at_ : ∀ x d, (x, d) ∈ st → DistN rs p x d
  all : ∀ x n, WalkN rs p n x → n ≤ v → x ∈ kk st
  td : ∀ x ∈ todo, (x, (v : Int)) ∈ st
  bd : ∀ x ∈ bey, (x, ((v + 1 : Nat) : Int)) ∈ st
theorem walk_zero {rs : List Road} {p x : Str} (h : WalkN rs p 0 x) : x = p := by
  cases h
  rfl
theorem DI.start {rs : List Road} {p : Str} : DI rs p 0 [(p, 0)] [p] [] where
  at_ := fun x d h => by
    have := List.mem_singleton.mp h
    cases this
    exact ⟨0, rfl, .refl, fun _ _ => Nat.zero_le _⟩
  all := fun x n h l => by
    obtain rfl : n = 0 := by omega
    rw [walk_zero h]
    exact List.mem_singleton.mpr rfl
  td := fun x h => by
    rw [List.mem_singleton.mp h]
    exact List.mem_singleton.mpr rfl
  bd := fun x h => by cases h
theorem DI.put {rs : List Road} {p : Str} {v : Nat} {st : List (Str × Int)} {x b : Str} {todo bey : List Str} {u : Int} (h : DI rs p v st (x :: todo) bey) (nd : (kk st).Nodup) (hu : (x, u) ∈ st) (hb : b ∈ nbs rs x) (nb : b ∉ kk st) : DI rs p v (st ++ [(b, u + 1)]) (x :: todo) (bey ++ [b]) := by
  have hx := h.td x (List.mem_cons_self ..)
  have eu : u = (v : Int) := by
    have e1 : (x, u) = (x, (v : Int)) := by
      obtain ⟨i, hi⟩ := List.mem_iff_getElem?.mp hu
      obtain ⟨j, hj⟩ := List.mem_iff_getElem?.mp hx
      have a1 : (kk st)[i]? = some x := by unfold kk; rw [List.getElem?_map, hi]; rfl
      have a2 : (kk st)[j]? = some x := by unfold kk; rw [List.getElem?_map, hj]; rfl
      have := Rp.nd_ix nd a1 a2
      subst this
      rw [hi] at hj
      exact Option.some.inj hj
    exact congrArg Prod.snd e1
  subst eu
  have e2 : (v : Int) + 1 = ((v + 1 : Nat) : Int) := by omega
  obtain ⟨n, en, w, _⟩ := h.at_ _ _ hx
  have en' : v = n := by omega
  subst en'
  obtain ⟨r, hr, j⟩ := mem_nbs.mp hb
  refine ⟨fun y d hy => ?_, fun y n hw hn => ?_, fun y hy => List.mem_append.mpr (.inl (h.td y hy)), fun y hy => ?_⟩
  · rcases List.mem_append.mp hy with hy | hy
    · exact h.at_ y d hy
    · have := List.mem_singleton.mp hy
      cases this
      refine ⟨v + 1, e2, .go w hr j, fun m hm => ?_⟩
      rcases Nat.lt_or_ge v m with z | z
      · exact z
      · exact absurd (h.all b m hm z) nb
  · unfold kk
    rw [List.map_append]
    exact List.mem_append.mpr (.inl (h.all y n hw hn))
  · rcases List.mem_append.mp hy with hy | hy
    · exact List.mem_append.mpr (.inl (h.bd y hy))
    · rw [List.mem_singleton.mp hy, ← e2]
      exact List.mem_append.mpr (.inr (List.mem_singleton.mpr rfl))
theorem DI.next {rs : List Road} {p : Str} {v : Nat} {st : List (Str × Int)} {x : Str} {todo bey : List Str} (h : DI rs p v st (x :: todo) bey) : DI rs p v st todo bey :=
  ⟨h.at_, h.all, fun y hy => h.td y (List.mem_cons_of_mem _ hy), h.bd⟩
theorem DI.turn {rs : List Road} {p : Str} {v : Nat} {st : List (Str × Int)} {bey : List Str} (h : DI rs p v st [] bey) (b : Bfs rs p st [] bey) : DI rs p (v + 1) st bey [] where
  at_ := h.at_
  all := fun x n hw hn => by
    rcases Nat.lt_or_ge v n with z | z
    · obtain rfl : n = v + 1 := by omega
      cases hw with
      | go w hr j =>
        rename_i a r
        have ha := h.all a v w (Nat.le_refl _)
        rcases b.cl a ha with q | q | q
        · cases q
        · obtain ⟨n, en, _, mn⟩ := h.at_ _ _ (h.bd a q)
          have := mn v w
          omega
        · exact q x (mem_nbs.mpr ⟨r, hr, j⟩)
    · exact h.all x n hw z
  td := h.bd
  bd := fun x hx => by cases hx
end Rp
set_option Elab.async false
set_option linter.all false
set_option maxRecDepth 100000
set_option maxHeartbeats 4000000
namespace Rp
open PySem PySem.Spec PyProof.Rows L2 Dl
section
variable {ps : List Str} {rs : List Road} {p q : Str}
theorem snoc_cases {α : Type} (w : List α) : w = [] ∨ ∃ v e, w = v ++ [e] := by
  rcases List.eq_nil_or_concat w with rfl | ⟨v, e, rfl⟩
  · exact .inl rfl
  · exact .inr ⟨v, e, by simp⟩
theorem Go.unique (T : TreeOk ps rs) (hp : p ∈ ps) : ∀ (n : Nat) (w w' : List Str) (q : Str), w.length = n → Go rs p w q → Go rs p w' q → w = w' := by
  obtain ⟨up, dep, R⟩ := T.rt p hp
  have nilR : ∀ {w q}, Go rs p w q → q = p → w = [] := fun {w q} g e => by
    rcases snoc_cases w with h | ⟨v, x, h⟩
    · exact h
    · obtain ⟨a, s, u, _⟩ := g.down T R h
      rw [e, R.root] at u
      cases u
  intro n
  induction n with
  | zero =>
    intro w w' q hl g g'
    obtain rfl := List.length_eq_zero_iff.mp hl
    exact (nilR g' g.nil_eq).symm
  | succ n ih =>
    intro w w' q hl g g'
    rcases snoc_cases w with h | ⟨v, e, h⟩
    · rw [h] at hl; cases hl
    rcases snoc_cases w' with h' | ⟨v', e', h'⟩
    · subst h'
      have := nilR g g'.nil_eq
      rw [this] at hl; cases hl
    obtain ⟨a, s, u, hs, he, js, ga⟩ := g.down T R h
    obtain ⟨a', s', u', hs', he', js', ga'⟩ := g'.down T R h'
    rw [u] at u'
    obtain rfl := Option.some.inj u'
    obtain rfl := T.uniq hs hs' js js'
    rw [h, h', ih v v' a (by rw [h] at hl; simpa using hl) ga ga', ← he, ← he']
open Classical in
noncomputable def pth (rs : List Road) (p q : Str) : List Str := if h : ∃ w, Go rs p w q then h.choose else []
theorem pth_go (ok : WebOk ps rs) (T : TreeOk ps rs) (hp : p ∈ ps) (hq : q ∈ ps) : Go rs p (pth rs p q) q := by
  obtain ⟨w, g, _⟩ := go_ex ok T hp hq
  unfold pth
  rw [dif_pos ⟨w, g⟩]
  exact Exists.choose_spec (⟨w, g⟩ : ∃ w, Go rs p w q)
theorem pth_eq (ok : WebOk ps rs) (T : TreeOk ps rs) (hp : p ∈ ps) {w : List Str} (g : Go rs p w q) : pth rs p q = w := by
  have hq := g.ps ok hp
  exact Go.unique T hp _ _ _ q rfl (pth_go ok T hp hq) g
theorem pth_nil (ok : WebOk ps rs) (T : TreeOk ps rs) (hp : p ∈ ps) (hq : q ∈ ps) : pth rs p q = [] ↔ p = q := by
  constructor
  · intro e
    have g := pth_go ok T hp hq
    rw [e] at g
    exact g.nil_eq.symm
  · intro e
    subst e
    exact pth_eq ok T hp .nil
end
end Rp
namespace Rp
open PySem PySem.Spec PyProof.Rows L2 Dl
theorem snocInd {α : Type} {P : List α → Prop} (h0 : P []) (h1 : ∀ l x, P l → P (l ++ [x])) : ∀ l, P l := fun l => by
  have : ∀ l : List α, P l.reverse := fun l => by
    induction l with
    | nil => exact h0
    | cons x l ih => rw [List.reverse_cons]; exact h1 _ _ ih
  have h := this l.reverse
  rwa [List.reverse_reverse] at h
theorem sum_cast (l : List Nat) : ((l.map fun (n : Nat) => (n : Int)).sum) = ((l.sum : Nat) : Int) := by
  induction l with
  | nil => rfl
  | cons x l ih => rw [List.map_cons, List.sum_cons, List.sum_cons, ih]; omega
end Rp
namespace Rp
open PySem PySem.Spec PyProof.Rows L2 Dl
section
variable {ps : List Str} {rs : List Road} {r : List Str} {p q : Str}
theorem rota_mem (hr : RotaOk rs r) {e : Str} (he : e ∈ rnm rs) : e ∈ r := List.mem_of_getElem? (rota_at hr he)
end
end Rp
namespace Rp
open PySem PySem.Spec PyProof.Rows L2 Dl
end Rp
namespace Rp
open PySem PySem.Spec PyProof.Rows L2 Dl
section
variable {ps : List Str} {rs : List Road} {r : List Str} {p q : Str}
/-- of two roads at one place, the same goes ahead -/
def SameOrd (ps : List Str) (rs : List Road) (r r' : List Str) : Prop := ∀ e ∈ rnm rs, ∀ f ∈ rnm rs, (∃ z ∈ ps, e ∈ atRoads rs z ∧ f ∈ atRoads rs z) → (rk r e < rk r f ↔ rk r' e < rk r' f)
end
end Rp
namespace Rp
open PySem PySem.Spec PyProof.Rows L2 Dl
end Rp
namespace Rp
open PySem PySem.Spec PyProof.Rows L2 Dl
end Rp
namespace Rp
open PySem PySem.Spec PyProof.Rows L2 Dl
end Rp
namespace Rp
open PySem PySem.Spec PyProof.Rows L2 Dl
end Rp
namespace Rp
open PySem PySem.Spec PyProof.Rows L2 Dl
end Rp
namespace Rp
open PySem PySem.Spec PyProof.Rows L2 Dl
/-- only what is said of the cells is kept -/
theorem viaM {G : Mu → Prop} {μ : Mu} (Q : Mu → Prop) (k : ∀ ν, Q ν → G ν) (h : Q μ) : G μ := k μ h
end Rp
set_option Elab.async false
set_option linter.all false
set_option maxRecDepth 100000
set_option maxHeartbeats 4000000
namespace Rp
open PySem PySem.Spec PyProof.Rows L2 Dl
section
variable {ps : List Str} {rs : List Road} {r : List Str} {p q x y z : Str}
theorem join_two {t : Tie} (ne : t.1 ≠ t.2) {a b c d : Str} (h : JoinT t a b) (k : JoinT t c d) : (a = c ∧ b = d) ∨ (a = d ∧ b = c) := by
  rcases h with ⟨rfl, rfl⟩ | ⟨rfl, rfl⟩ <;> rcases k with ⟨rfl, rfl⟩ | ⟨rfl, rfl⟩ <;> simp
theorem road_of (ok : WebOk ps rs) {t s : Road} (ht : t ∈ rs) (hs : s ∈ rs) (e : t.1 = s.1) : t = s := by
  obtain ⟨i, hi⟩ := List.mem_iff_getElem?.mp ht
  obtain ⟨j, hj⟩ := List.mem_iff_getElem?.mp hs
  have a : (rnm rs)[i]? = some t.1 := by rw [List.getElem?_map, hi]; rfl
  have b : (rnm rs)[j]? = some t.1 := by rw [List.getElem?_map, hj, e]; rfl
  have := Rp.nd_ix ok.r.nd a b
  subst this
  rw [hi] at hj
  exact Option.some.inj hj
theorem Go.app {u v : List Str} {a : Str} (g : Go rs p u a) (k : Go rs a v q) (n : ∀ e, u.getLast? = some e → v.head? ≠ some e) : Go rs p (u ++ v) q := by
  induction k with
  | nil => rw [List.append_nil]; exact g
  | @snoc w b c t h ht j m ih =>
    have n' : ∀ e, u.getLast? = some e → w.head? ≠ some e := fun e he hw => n e he (by
      cases w with
      | nil => cases hw
      | cons x l => exact hw)
    have g' := ih n'
    rw [← List.append_assoc]
    refine g'.snoc ht j ?_
    cases w with
    | nil =>
      rw [List.append_nil]
      exact fun he => n _ he rfl
    | cons x l =>
      have l : (u ++ x :: l).getLast? = (x :: l).getLast? := by simp [List.getLast?_append, List.getLast?_cons]
      rw [l]
      exact m
end
end Rp
namespace Rp
open PySem PySem.Spec PyProof.Rows L2 Dl
def maskA (c : Str → Bool) : Nat → List Str → Nat
  | _, [] => 0
  | i, x :: l => (if c x = true then 2 ^ i else 0) + maskA c (i + 1) l
theorem maskA_snoc (c : Str → Bool) (x : Str) : ∀ (l : List Str) (i : Nat), maskA c i (l ++ [x]) = maskA c i l + if c x = true then 2 ^ (i + l.length) else 0
  | [], i => by
    show (if c x = true then 2 ^ i else 0) + 0 = 0 + _
    rw [Nat.add_zero, Nat.zero_add, List.length_nil, Nat.add_zero]
  | y :: l, i => by
    show (if c y = true then 2 ^ i else 0) + maskA c (i + 1) (l ++ [x]) = (if c y = true then 2 ^ i else 0) + maskA c (i + 1) l + _
    rw [maskA_snoc c x l (i + 1), List.length_cons, show i + (l.length + 1) = i + 1 + l.length by omega, Nat.add_assoc (if c y = true then 2 ^ i else 0)]
def maskN (c : Str → Bool) (ps : List Str) : Nat := maskA c 0 ps
theorem mask_ok (c : Str → Bool) : ∀ l : List Str, maskN c l < 2 ^ l.length ∧ ∀ j, (maskN c l).testBit j = (match l[j]? with | some x => c x | none => false) := snocInd ⟨Nat.one_pos, fun j => by rw [List.getElem?_nil]; exact Nat.zero_testBit j⟩ fun l x h => by
  obtain ⟨h1, h2⟩ := h
  have e : maskN c (l ++ [x]) = maskN c l + if c x = true then 2 ^ l.length else 0 := by
    unfold maskN
    rw [maskA_snoc, Nat.zero_add]
  rw [e, List.length_append]
  have p : 2 ^ (l.length + [x].length) = 2 ^ l.length + 2 ^ l.length := by rw [List.length_singleton, Nat.pow_succ]; omega
  refine ⟨by rw [p]; split <;> omega, fun j => ?_⟩
  by_cases j1 : j < l.length
  · rw [List.getElem?_append_left j1, ← h2 j]
    split
    · rw [Nat.add_comm]
      exact Nat.testBit_two_pow_add_gt j1 _
    · rfl
  · by_cases j2 : j = l.length
    · subst j2
      rw [List.getElem?_append_right (Nat.le_refl _), Nat.sub_self]
      show _ = c x
      have z : (maskN c l).testBit l.length = false := Nat.testBit_lt_two_pow h1
      split
      · rename_i cx
        rw [Nat.add_comm, Nat.testBit_two_pow_add_eq, z, cx]
        rfl
      · rename_i cx
        rw [Nat.add_zero, z]
        exact (Bool.eq_false_iff.mpr cx).symm
    · rw [List.getElem?_eq_none (by rw [List.length_append, List.length_singleton]; omega)]
      have b : (maskN c l + if c x = true then 2 ^ l.length else 0) < 2 ^ j := by
        have := Nat.pow_le_pow_right (show 0 < 2 by decide) (show l.length + 1 ≤ j by omega)
        rw [Nat.pow_succ] at this
        split <;> omega
      exact Nat.testBit_lt_two_pow b
theorem mask_at (c : Str → Bool) {ps : List Str} {x : Str} (hx : x ∈ ps) : (maskN c ps).testBit (rk ps x) = c x := by
  rw [(mask_ok c ps).2, show ps[rk ps x]? = some x from rk_at hx]
end Rp
namespace Rp
open PySem PySem.Spec PyProof.Rows L2 Dl
def mN (d k : Nat) : Mom := ((d : Int), (k : Int))
section
variable {ps : List Str} {rs : List Road} {r : List Str} {p q x y z : Str}
def otherE (rs : List Road) (e h : Str) : Str := if (endsOf rs e).1 = h then (endsOf rs e).2 else (endsOf rs e).1
noncomputable def stepL (rs : List Road) (e : Str) (z : Str × Str) : Option (Str × Str) :=
  if (pth rs z.1 z.2).head? = some e then (if otherE rs e z.1 = z.2 then none else some (otherE rs e z.1, z.2)) else some z
structure On (rs : List Road) (r : List Str) (d k : Nat) (x z : Str × Str) (u : List Str) (e : Str) (v : List Str) : Prop where
  q : z.2 = x.2
  w : pth rs x.1 x.2 = u ++ e :: v
  g : Go rs x.1 u z.1
  rest : pth rs z.1 x.2 = e :: v
  le : ¬ Lt2 (mN d k) (goT r (1, 0) u)
  lt : Lt2 (mN d k) (goT r (1, 0) (u ++ [e]))
def StL (rs : List Road) (r : List Str) (d k : Nat) (x : Str × Str) : Option (Str × Str) → Prop
  | none => x.1 ≠ x.2 ∧ ¬ Lt2 (mN d k) (goT r (1, 0) (pth rs x.1 x.2))
  | some z => ∃ u e v, On rs r d k x z u e v
theorem join_in (ok : WebOk ps rs) {t : Road} (ht : t ∈ rs) {a b : Str} (j : JoinT t.2 a b) : a ∈ ps ∧ b ∈ ps := by
  rcases j with ⟨h1, h2⟩ | ⟨h1, h2⟩
  · rw [← h1, ← h2]
    exact ⟨ok.r.a t ht, ok.r.b t ht⟩
  · rw [← h1, ← h2]
    exact ⟨ok.r.b t ht, ok.r.a t ht⟩
theorem other_join (ok : WebOk ps rs) {t : Road} (ht : t ∈ rs) {a b : Str} (j : JoinT t.2 a b) : otherE rs t.1 a = b := by
  have e := endsOf_mem ok.r.nd ht
  have ne := ok.r.ne t ht
  unfold otherE
  rw [e]
  rcases j with ⟨rfl, rfl⟩ | ⟨rfl, rfl⟩
  · rw [if_pos rfl]
  · rw [if_neg ne]
theorem Go.end_one (ok : WebOk ps rs) {w : List Str} {a b : Str} (g : Go rs p w a) : Go rs p w b → a = b := by
  induction g generalizing b with
  | nil => exact fun k => k.nil_eq.symm
  | @snoc w b' c t g ht j n ih =>
    intro k
    obtain ⟨c2, s, gk, hs, se, js, _⟩ := k.init
    have e := ih gk
    subst e
    have := road_of ok hs ht se
    subst this
    rcases join_two (ok.r.ne s hs) js j with ⟨_, e⟩ | ⟨a, b⟩
    · exact e.symm
    · exact (b.trans a).symm
theorem head_go (ok : WebOk ps rs) {e : Str} {v : List Str} {a b : Str} (g : Go rs a (e :: v) b) : ∃ t ∈ rs, ∃ c, t.1 = e ∧ JoinT t.2 a c ∧ Go rs c v b := by
  obtain ⟨c, g1, g2⟩ := Go.split v.length [e] v b rfl g
  obtain ⟨c', s, gc, hs, se, js, _⟩ := Go.init (w := []) g1
  have := gc.nil_eq
  subst this
  exact ⟨s, hs, c, se, js, g2⟩
theorem rk_pos (hr : RotaOk rs r) {k : Nat} {e : Str} (h : r[k]? = some e) : rk r e = k := rk_ix hr.ok.nd h
/-- a step of the day -/
theorem nxt_yes {d k : Nat} {g : Mom} (h1 : ¬ Lt2 (mN d k) g) (h2 : Lt2 (mN d k) (nxt g k)) : nxt g k = mN d (k + 1) := by
  obtain ⟨g1, g2⟩ := g
  unfold nxt at h2 ⊢
  unfold Lt2 mN at *
  split at h2 <;> rename_i c
  · rw [if_pos c]
    have h1' : ¬ ((d : Int) < g1 ∨ ((d : Int) = g1 ∧ (k : Int) < g2)) := h1
    have h2' : ((d : Int) < g1 ∨ ((d : Int) = g1 ∧ (k : Int) < (k : Int) + 1)) := h2
    exact Prod.ext (show g1 = (d : Int) by omega) (show (k : Int) + 1 = ((k + 1 : Nat) : Int) by omega)
  · rw [if_neg c]
    have c' : ¬ g2 ≤ (k : Int) := c
    have h1' : ¬ ((d : Int) < g1 ∨ ((d : Int) = g1 ∧ (k : Int) < g2)) := h1
    have h2' : ((d : Int) < g1 + 1 ∨ ((d : Int) = g1 + 1 ∧ (k : Int) < (k : Int) + 1)) := h2
    exact Prod.ext (show g1 + 1 = (d : Int) by omega) (show (k : Int) + 1 = ((k + 1 : Nat) : Int) by omega)
theorem lt_up {d k : Nat} {g : Mom} (h : ¬ Lt2 (mN d k) g) : ¬ Lt2 (mN d (k + 1)) g := fun z => h (by
  have z' : (d : Int) < g.1 ∨ ((d : Int) = g.1 ∧ ((k + 1 : Nat) : Int) < g.2) := z
  show (d : Int) < g.1 ∨ ((d : Int) = g.1 ∧ ((k : Nat) : Int) < g.2)
  omega)
theorem lt_no {d k j : Nat} {g : Mom} (ne : j ≠ k) (h : Lt2 (mN d k) (nxt g j)) : Lt2 (mN d (k + 1)) (nxt g j) := by
  have e : (nxt g j).2 = (j : Int) + 1 := by unfold nxt; split <;> rfl
  have h' : (d : Int) < (nxt g j).1 ∨ ((d : Int) = (nxt g j).1 ∧ ((k : Nat) : Int) < (nxt g j).2) := h
  show (d : Int) < (nxt g j).1 ∨ ((d : Int) = (nxt g j).1 ∧ ((k + 1 : Nat) : Int) < (nxt g j).2)
  omega
theorem StL.step (ok : WebOk ps rs) (T : TreeOk ps rs) (hr : RotaOk rs r) {d k : Nat} {x : Str × Str} {e : Str} (hx : x.1 ∈ ps) (hy : x.2 ∈ ps) (he : r[k]? = some e) : ∀ {y : Option (Str × Str)}, StL rs r d k x y → StL rs r d (k + 1) x (y.bind (stepL rs e))
  | none, h => ⟨h.1, lt_up h.2⟩
  | some z, ⟨u, f, v, h⟩ => by
    have ek := rk_pos hr he
    obtain ⟨z1, z2⟩ := z
    have e2 : z2 = x.2 := h.q
    subst e2
    have hz : z1 ∈ ps := h.g.ps ok hx
    have gr : Go rs z1 (f :: v) x.2 := by rw [← h.rest]; exact pth_go ok T hz hy
    obtain ⟨t, ht, c, te, j, gc⟩ := head_go ok gr
    have oj := other_join ok ht j
    rw [te] at oj
    show StL rs r d (k + 1) x (stepL rs e (z1, x.2))
    unfold stepL
    show StL rs r d (k + 1) x (if (pth rs z1 x.2).head? = some e then _ else _)
    rw [h.rest]
    show StL rs r d (k + 1) x (if some f = some e then _ else _)
    by_cases fe : f = e
    · subst fe
      rw [if_pos rfl]
      show StL rs r d (k + 1) x (if otherE rs f z1 = x.2 then none else some (otherE rs f z1, x.2))
      rw [oj]
      have lt := h.lt
      rw [goT_snoc, ek] at lt
      have ny := nxt_yes h.le lt
      have now : goT r (1, 0) (u ++ [f]) = mN d (k + 1) := by rw [goT_snoc, ek, ny]
      cases v with
      | nil =>
        have e3 := gc.nil_eq
        rw [if_pos e3.symm]
        refine ⟨fun z => ?_, ?_⟩
        · have := (pth_nil ok T hx hy).mpr z
          rw [h.w] at this
          simp at this
        · rw [h.w, now]
          exact Lt2.irrefl _
      | cons f' v =>
        have hc : c ∈ ps := (join_in ok ht j).2
        have ne : c ≠ x.2 := fun z => by
          subst z
          have cn := pth_eq ok T hc gc
          rw [(pth_nil ok T hy hy).mpr rfl] at cn
          cases cn
        rw [if_neg ne]
        have gw : Go rs x.1 ((u ++ [f]) ++ f' :: v) x.2 := by
          have := pth_go ok T hx hy
          rw [h.w] at this
          simpa using this
        obtain ⟨c', g1, g2⟩ := Go.split (f' :: v).length (u ++ [f]) (f' :: v) x.2 rfl gw
        obtain ⟨c3, s, g3, hs, se, js, _⟩ := g1.init
        have e3 := Go.end_one ok g3 h.g
        subst e3
        have := road_of ok hs ht (se.trans te.symm)
        subst this
        have oj2 := other_join ok hs js
        rw [se] at oj2
        have e4 : c' = c := oj2.symm.trans oj
        subst e4
        refine ⟨u ++ [f], f', v, rfl, by rw [h.w]; simp, g1, pth_eq ok T hc gc, ?_, ?_⟩
        · rw [now]
          exact Lt2.irrefl _
        · rw [goT_snoc, now]
          exact nxt_lt _ _
    · rw [if_neg (fun z => fe (Option.some.inj z))]
      refine ⟨u, f, v, rfl, h.w, h.g, h.rest, lt_up h.le, ?_⟩
      have lt := h.lt
      rw [goT_snoc] at lt ⊢
      refine lt_no (fun z => fe ?_) lt
      have hf : f ∈ r := rota_mem hr (List.mem_map.mpr ⟨t, ht, te⟩)
      have a := rk_at hf
      rw [z, he] at a
      exact (Option.some.inj a).symm
theorem StL.start (ok : WebOk ps rs) (T : TreeOk ps rs) {x : Str × Str} (hx : x.1 ∈ ps) (hy : x.2 ∈ ps) (ne : x.1 ≠ x.2) : StL rs r 1 0 x (some x) := by
  have g := pth_go ok T hx hy
  cases hw : pth rs x.1 x.2 with
  | nil => exact absurd ((pth_nil ok T hx hy).mp hw) ne
  | cons e v => exact ⟨[], e, v, rfl, hw, .nil, hw, Lt2.irrefl (1, 0), goT_lt r (1, 0) (List.cons_ne_nil _ _)⟩
end
end Rp
namespace Rp
open PySem PySem.Spec PyProof.Rows L2 Dl
end Rp
namespace Rp
open PySem PySem.Spec PyProof.Rows L2 Dl
def I4 (d : PyData) : Prop := ∃ a b c e : Int, d = .tuple [.int a, .int b, .int c, .int e]
end Rp
namespace Rp
open PySem PySem.Spec PyProof.Rows L2 Dl
end Rp
namespace Rp
open PySem PySem.Spec PyProof.Rows L2 Dl
end Rp
namespace Rp
open PySem PySem.Spec PyProof.Rows L2 Dl
theorem band_q {n m v : Nat} {μ : Mu} {P : DK} (e : n &&& m = v) (q : P (.d (.int (v : Int))) μ) : rdBand (.d (.int (n : Int))) (.d (.int (m : Int))) μ P := ⟨n, m, rfl, rfl, trivial, by subst e; exact q⟩
end Rp
namespace Rp
open PySem PySem.Spec PyProof.Rows L2 Dl
end Rp
namespace Rp
open PySem PySem.Spec PyProof.Rows L2 Dl
end Rp
namespace Rp
open PySem PySem.Spec PyProof.Rows L2 Dl
end Rp
namespace Rp
open PySem PySem.Spec PyProof.Rows L2 Dl
end Rp
namespace Rp
open PySem PySem.Spec PyProof.Rows L2 Dl
end Rp
set_option Elab.async false
set_option linter.all false
set_option maxRecDepth 100000
set_option maxHeartbeats 4000000
namespace Rp
open PySem PySem.Spec PyProof.Rows L2 Dl
abbrev Row4 := Nat × Nat × Str × Str × Nat
end Rp
namespace Rp
open PySem PySem.Spec PyProof.Rows L2 Dl
end Rp
namespace Rp
open PySem PySem.Spec PyProof.Rows L2 Dl
end Rp
namespace Rp
open PySem PySem.Spec PyProof.Rows L2 Dl
def stepM (e : Str) (M : List Str) (t : Road) : List Str :=
  if t.1 ≠ e ∧ ¬ (t.2.1 ∈ M ↔ t.2.2 ∈ M) then M ++ [if t.2.1 ∈ M then t.2.2 else t.2.1] else M
def passM (e : Str) (l : List Road) (M : List Str) : List Str := l.foldl (stepM e) M
structure MI (rs : List Road) (e p : Str) (M : List Str) : Prop where
  nd : M.Nodup
  re : ∀ x ∈ M, Reach (goneR rs e) p x
  p : p ∈ M
theorem MI.step {rs : List Road} {e p : Str} {M : List Str} (h : MI rs e p M) {t : Road} (ht : t ∈ rs) : MI rs e p (stepM e M t) := by
  unfold stepM
  by_cases c : t.1 ≠ e ∧ ¬ (t.2.1 ∈ M ↔ t.2.2 ∈ M)
  · rw [if_pos c]
    have tg : t ∈ goneR rs e := List.mem_filter.mpr ⟨ht, decide_eq_true c.1⟩
    by_cases a : t.2.1 ∈ M
    · rw [if_pos a]
      have b : t.2.2 ∉ M := fun b => c.2 ⟨fun _ => b, fun _ => a⟩
      refine ⟨List.nodup_append.mpr ⟨h.nd, List.nodup_cons.mpr ⟨List.not_mem_nil, List.nodup_nil⟩, fun x hx y hy e => b (by rw [← List.mem_singleton.mp hy, ← e]; exact hx)⟩, fun x hx => ?_, List.mem_append.mpr (.inl h.p)⟩
      rcases List.mem_append.mp hx with hx | hx
      · exact h.re x hx
      · rw [List.mem_singleton.mp hx]
        exact .go (h.re _ a) tg (.inl ⟨rfl, rfl⟩)
    · rw [if_neg a]
      have b : t.2.2 ∈ M := Classical.byContradiction fun b => c.2 ⟨fun z => absurd z a, fun z => absurd z b⟩
      refine ⟨List.nodup_append.mpr ⟨h.nd, List.nodup_cons.mpr ⟨List.not_mem_nil, List.nodup_nil⟩, fun x hx y hy e => a (by rw [← List.mem_singleton.mp hy, ← e]; exact hx)⟩, fun x hx => ?_, List.mem_append.mpr (.inl h.p)⟩
      rcases List.mem_append.mp hx with hx | hx
      · exact h.re x hx
      · rw [List.mem_singleton.mp hx]
        exact .go (h.re _ b) tg (.inr ⟨rfl, rfl⟩)
  · rw [if_neg c]
    exact h
theorem MI.pass {rs : List Road} {e p : Str} : ∀ (l : List Road) (M : List Str), (∀ t ∈ l, t ∈ rs) → MI rs e p M → MI rs e p (passM e l M)
  | [], _, _, h => h
  | t :: l, M, hl, h => MI.pass l _ (fun x hx => hl x (List.mem_cons_of_mem _ hx)) (h.step (hl t List.mem_cons_self))
def ClosM (l : List Road) (e : Str) (M : List Str) : Prop := ∀ t ∈ l, t.1 ≠ e → (t.2.1 ∈ M ↔ t.2.2 ∈ M)
theorem ClosM.pass {l : List Road} {e : Str} : ∀ {l' : List Road} {M : List Str}, (∀ t ∈ l', t ∈ l) → ClosM l e M → passM e l' M = M
  | [], _, _, _ => rfl
  | t :: l', M, hs, h => by
    have : stepM e M t = M := by
      unfold stepM
      rw [if_neg fun c => c.2 (h t (hs t List.mem_cons_self) c.1)]
    show passM e l' (stepM e M t) = M
    rw [this]
    exact ClosM.pass (fun x hx => hs x (List.mem_cons_of_mem _ hx)) h
end Rp
namespace Rp
open PySem PySem.Spec PyProof.Rows L2 Dl
end Rp
namespace Rp
open PySem PySem.Spec PyProof.Rows L2 Dl
end Rp
namespace Rp
open PySem PySem.Spec PyProof.Rows L2 Dl
theorem valT_put (ks : List (List Key × A)) (k k' : List Key) (v : A) : valT (putT ks k v) k' = if k' = k then some v else valT ks k' := by
  unfold putT
  by_cases h : (ks.any fun p => decide (p.1 = k)) = true
  · rw [if_pos h]
    unfold valT
    induction ks with
    | nil => simp at h
    | cons p l ih =>
      rw [List.map_cons, List.find?_cons, List.find?_cons]
      by_cases pk : p.1 = k
      · rw [if_pos pk]
        by_cases kk : k' = k
        · rw [if_pos kk, show decide ((p.1, v).1 = k') = true from decide_eq_true (pk.trans kk.symm)]
          rfl
        · have ne : ¬ p.1 = k' := fun z => kk (z.symm.trans pk)
          rw [if_neg kk, show decide ((p.1, v).1 = k') = false from decide_eq_false ne]
          show Option.map (fun x => x.2) (List.find? (fun x => decide (x.1 = k')) (l.map fun p => if p.1 = k then (p.1, v) else p)) = Option.map (fun x => x.2) (List.find? (fun x => decide (x.1 = k')) l)
          by_cases h2 : (l.any fun p => decide (p.1 = k)) = true
          · have := ih h2
            rw [if_neg kk] at this
            exact this
          · have e : l.map (fun p => if p.1 = k then (p.1, v) else p) = l := by
              refine (List.map_congr_left fun x hx => ?_).trans (List.map_id _)
              rw [if_neg fun z => h2 (List.any_eq_true.mpr ⟨x, hx, decide_eq_true z⟩)]
              rfl
            rw [e]
      · rw [if_neg pk]
        have h2 : (l.any fun p => decide (p.1 = k)) = true := by
          rw [List.any_cons, decide_eq_false pk, Bool.false_or] at h
          exact h
        by_cases pk' : p.1 = k'
        · have kk : ¬ k' = k := fun z => pk (pk'.trans z)
          rw [if_neg kk, decide_eq_true pk']
        · rw [decide_eq_false pk']
          exact ih h2
  · rw [if_neg h]
    unfold valT
    rw [List.find?_append]
    by_cases kk : k' = k
    · subst kk
      have n : ks.find? (fun x => decide (x.1 = k')) = none := List.find?_eq_none.mpr fun x hx z => h (List.any_eq_true.mpr ⟨x, hx, z⟩)
      rw [n, if_pos rfl]
      simp
    · rw [if_neg kk]
      have : [(k, v)].find? (fun x => decide (x.1 = k')) = none := List.find?_eq_none.mpr fun x hx z => kk (by rw [List.mem_singleton.mp hx] at z; exact (of_decide_eq_true z).symm)
      rw [this]
      cases ks.find? fun x => decide (x.1 = k') <;> rfl
theorem putT_len (ks : List (List Key × A)) (k : List Key) (v : A) : (putT ks k v).length ≤ ks.length + 1 := by
  unfold putT
  split
  · rw [List.length_map]
    omega
  · rw [List.length_append]
    exact Nat.le_refl _
def sumE (l : List Row4) (e z : Str) : Nat := ((l.filter fun y => decide (y.2.2.1 = e ∧ y.2.2.2.1 = z)).map fun y => y.2.2.2.2).sum
theorem sumE_app (l m : List Row4) (e z : Str) : sumE (l ++ m) e z = sumE l e z + sumE m e z := by
  unfold sumE
  rw [List.filter_append, List.map_append, List.sum_append]
theorem sumE_one (y : Row4) (e z : Str) : sumE [y] e z = if y.2.2.1 = e ∧ y.2.2.2.1 = z then y.2.2.2.2 else 0 := by
  unfold sumE
  rw [List.filter_cons]
  by_cases h : y.2.2.1 = e ∧ y.2.2.2.1 = z
  · rw [if_pos (decide_eq_true h), if_pos h]
    simp
  · rw [if_neg (by simpa using h), if_neg h]
    rfl
def SumOk (ks : List (List Key × A)) (l : List Row4) : Prop := ks.length ≤ l.length ∧ ∀ e z, (valT ks [.inr e, .inr z]).getD (.d (.int 0)) = .d (.int (sumE l e z : Nat))
theorem SumOk.start : SumOk [] [] := ⟨Nat.le_refl _, fun e z => rfl⟩
theorem SumOk.put {ks : List (List Key × A)} {l : List Row4} (h : SumOk ks l) (y : Row4) : SumOk (putT ks [.inr y.2.2.1, .inr y.2.2.2.1] (.d (.int ((sumE l y.2.2.1 y.2.2.2.1 : Nat) + (y.2.2.2.2 : Nat))))) (l ++ [y]) := by
  refine ⟨?_, fun e z => ?_⟩
  · have := putT_len ks [.inr y.2.2.1, .inr y.2.2.2.1] (.d (.int ((sumE l y.2.2.1 y.2.2.2.1 : Nat) + (y.2.2.2.2 : Nat))))
    have := h.1
    rw [List.length_append, List.length_singleton]
    omega
  · rw [valT_put, sumE_app, sumE_one]
    by_cases c : y.2.2.1 = e ∧ y.2.2.2.1 = z
    · obtain ⟨c1, c2⟩ := c
      rw [if_pos (by rw [c1, c2]), if_pos ⟨c1, c2⟩, c1, c2]
      rfl
    · rw [if_neg, if_neg c, Nat.add_zero]
      · exact h.2 e z
      · intro k
        have k1 := Sum.inr.inj (List.cons.inj k).1
        have k2 := Sum.inr.inj (List.cons.inj (List.cons.inj k).2).1
        exact c ⟨k1.symm, k2.symm⟩
end Rp
namespace Rp
open PySem PySem.Spec PyProof.Rows L2 Dl
end Rp
namespace Rp
open PySem PySem.Spec PyProof.Rows L2 Dl
theorem roads_shaped {ps : List Str} {rs : List Road} (ok : WebOk ps rs) : SeqAt.shaped (.tuple (rs.map rdD)) = true := by
  have h : ∀ d ∈ rs.map rdD, SmlB d := fun d hd => by
    obtain ⟨t, ht, rfl⟩ := List.mem_map.mp hd
    refine smlB_tup (fun z hz => ?_) (by show 3 ≤ 17; decide)
    simp only [List.mem_cons, List.not_mem_nil, or_false] at hz
    rcases hz with rfl | rfl | rfl
    · exact sml_name (ok.r.nm t ht)
    · exact sml_name (ok.p.nm _ (ok.r.a t ht))
    · exact sml_name (ok.p.nm _ (ok.r.b t ht))
  obtain ⟨a, b, c, e, f, g⟩ := smlB_all _ h
  refine Bool.and_eq_true_iff.mpr ⟨by simpa only [PyData.canLay0] using e, decide_eq_true ?_⟩
  simp only [PyData.depth]
  omega
end Rp
namespace Rp
open PySem PySem.Spec PyProof.Rows L2 Dl
theorem sum_castN {α : Type} (f : α → Nat) (l : List α) : (l.map fun x => ((f x : Nat) : Int)).sum = (((l.map f).sum : Nat) : Int) := by
  have := sum_cast (l.map f)
  rw [List.map_map] at this
  exact this
end Rp
set_option Elab.async false
set_option linter.all false
set_option maxRecDepth 100000
set_option maxHeartbeats 4000000
namespace Rp
open PySem PySem.Spec PyProof.Rows L2 Dl
end Rp
namespace Rp
open PySem PySem.Spec PyProof.Rows L2 Dl
end Rp
namespace Rp
open PySem PySem.Spec PyProof.Rows L2 Dl
section
variable {α : Type} {ys : List Y} {ok : Mu → Prop} {μ : Mu} {ρ : Rho} {dg : DG} {dt : DTT} {de dk dv : DT} {vs : List Nat} {P : DK}
/-- the items may leave cells behind -/
theorem lc_mapJ (xs : List α) (g h : α → PyData) (hy : ys = ones xs g) (hok : ∀ μ, ok μ) (hz : xs.length ≤ sizeLine)
    (hs : ∀ x ∈ xs, ∀ (μ : Mu) (Q : DK), (∀ μ', Q (.d (h x)) μ') → dg (.one (.d (g x))) (wipeR ρ vs) μ fun ρ3 μ3 => de ρ3 μ3 Q) (q : ∀ μ', P (.d (.list (xs.map h))) μ') :
    ∃ Pv : Nat → List A → Mu → Prop, Pv 0 [] μ ∧
      (∀ (i : Nat) y acc μ2, ys[i]? = some y → Pv i acc μ2 → ok μ2 ∧ dg y (wipeR ρ vs) μ2 fun ρ3 μ3 => dtYes ρ3 μ3 fun b μ4 => if b = true then de ρ3 μ4 fun z μ5 => acc.length < sizeLine ∧ Pv (i + 1) (acc ++ [z]) μ5 else Pv (i + 1) acc μ4) ∧
        ∀ acc μ2, Pv ys.length acc μ2 → ok μ2 ∧ lcEnd P acc μ2 := by
  subst hy
  refine ⟨fun i acc μ2 => acc = ((xs.take i).map h).map A.d, by show [] = ((xs.take 0).map h).map A.d; rw [List.take_zero]; rfl, ?_, ?_⟩
  · rintro i y acc μ2 hi rfl
    obtain ⟨x, hx, rfl⟩ := ones_get hi
    refine ⟨hok _, hs x (List.mem_of_getElem? hx) _ _ fun μ' => ?_⟩
    have lt := (List.getElem?_eq_some_iff.mp hx).1
    refine ⟨?_, ?_⟩
    · rw [List.length_map, List.length_map, List.length_take]
      omega
    · show _ = ((xs.take (i + 1)).map h).map A.d
      rw [List.take_add_one, hx, List.map_append, List.map_append]
      rfl
  · rintro acc μ2 rfl
    refine ⟨hok _, .inl ⟨_, rfl, ?_⟩⟩
    rw [List.length_map, List.take_length]
    exact q _
end
end Rp
namespace Rp
open PySem PySem.Spec PyProof.Rows L2 Dl
end Rp
namespace Rp
open PySem PySem.Spec PyProof.Rows L2 Dl
theorem DistN.one {rs : List Road} {p q : Str} {d e : Int} (h : DistN rs p q d) (k : DistN rs p q e) : d = e := by
  obtain ⟨n, rfl, h1, h2⟩ := h
  obtain ⟨m, rfl, k1, k2⟩ := k
  have := h2 _ k1
  have := k2 _ h1
  omega
noncomputable def disO (rs : List Road) (q x : Str) : Nat := open Classical in if h : ∃ n : Nat, DistN rs q x n then Classical.choose h else 0
theorem disO_eq {rs : List Road} {q x : Str} {d : Int} (h : DistN rs q x d) : d = (disO rs q x : Nat) := by
  obtain ⟨n, rfl, w⟩ := h
  have h : ∃ n : Nat, DistN rs q x n := ⟨n, n, rfl, w⟩
  unfold disO
  rw [dif_pos h]
  exact DistN.one ⟨n, rfl, w⟩ (Classical.choose_spec h)
end Rp
namespace Rp
open PySem PySem.Spec PyProof.Rows L2 Dl
theorem roadsAt_mem {rs : List Road} {x : Str} {s : Str × Str} : s ∈ roadsAt rs x ↔ ∃ t ∈ rs, t.1 = s.1 ∧ JoinT t.2 x s.2 := by
  unfold roadsAt
  rw [List.mem_flatMap]
  constructor
  · rintro ⟨t, ht, h⟩
    unfold atR at h
    rcases List.mem_append.mp h with h | h
    · split at h
      · rename_i c
        rw [List.mem_singleton.mp h]
        exact ⟨t, ht, rfl, .inl ⟨c, rfl⟩⟩
      · cases h
    · split at h
      · rename_i c
        rw [List.mem_singleton.mp h]
        exact ⟨t, ht, rfl, .inr ⟨rfl, c⟩⟩
      · cases h
  · rintro ⟨t, ht, e, j⟩
    refine ⟨t, ht, ?_⟩
    unfold atR
    rcases j with ⟨a, b⟩ | ⟨a, b⟩
    · refine List.mem_append.mpr (.inl ?_)
      rw [if_pos a]
      exact List.mem_singleton.mpr (Prod.ext e.symm b.symm)
    · refine List.mem_append.mpr (.inr ?_)
      rw [if_pos b]
      exact List.mem_singleton.mpr (Prod.ext e.symm a.symm)
/-- one road nearer -/
theorem near_step {rs : List Road} {q x : Str} {n : Nat} (h : DistN rs q x (n : Nat)) (ne : x ≠ q) (all : ∀ y, Reach rs q y → ∃ m : Nat, DistN rs q y (m : Nat)) (hr : Reach rs q x) :
    ∃ s, (roadsAt rs x).find? (fun s => decide (disO rs q s.2 < disO rs q x)) = some s ∧ s ∈ roadsAt rs x ∧ Reach rs q s.2 ∧ disO rs q s.2 + 1 = n ∧ disO rs q x = n := by
  have ex : disO rs q x = n := by
    have := disO_eq h
    omega
  obtain ⟨m, em, w, low⟩ := h
  have em' : n = m := by omega
  subst em'
  have sub : ∀ s ∈ roadsAt rs x, Reach rs q s.2 := fun s hs => by
    obtain ⟨t, ht, _, j⟩ := roadsAt_mem.mp hs
    exact .go hr ht (j.elim (fun z => .inl z) fun z => .inr ⟨z.2, z.1⟩)
  have ge : ∀ s ∈ roadsAt rs x, n ≤ disO rs q s.2 + 1 := fun s hs => by
    obtain ⟨k, hk⟩ := all s.2 (sub s hs)
    have ek := disO_eq hk
    obtain ⟨k', ek', wk, _⟩ := hk
    obtain ⟨t, ht, _, j⟩ := roadsAt_mem.mp hs
    have := low _ (.go wk ht (j.elim (fun z => .inr ⟨z.2, z.1⟩) fun z => .inl ⟨z.1, z.2⟩))
    omega
  have some_ : ∃ s ∈ roadsAt rs x, disO rs q s.2 < n := by
    cases w with
    | refl => exact absurd rfl ne
    | @go m a b t wa ht j =>
      have ra : Reach rs q a := by
        have hs : (t.1, a) ∈ roadsAt rs x := roadsAt_mem.mpr ⟨t, ht, rfl, j.elim (fun z => .inr ⟨z.1, z.2⟩) fun z => .inl ⟨z.2, z.1⟩⟩
        exact sub _ hs
      obtain ⟨k, hk⟩ := all a ra
      have ek := disO_eq hk
      obtain ⟨k', ek', _, lk⟩ := hk
      have := lk _ wa
      exact ⟨(t.1, a), roadsAt_mem.mpr ⟨t, ht, rfl, j.elim (fun z => .inr ⟨z.1, z.2⟩) fun z => .inl ⟨z.2, z.1⟩⟩, by show disO rs q a < _; omega⟩
  cases hf : (roadsAt rs x).find? fun s => decide (disO rs q s.2 < disO rs q x) with
  | none =>
    obtain ⟨s, hs, l⟩ := some_
    exact absurd (decide_eq_true (show disO rs q s.2 < disO rs q x by omega)) (List.find?_eq_none.mp hf s hs)
  | some s =>
    have hs := List.mem_of_find?_eq_some hf
    have l0 : decide (disO rs q s.2 < disO rs q x) = true := List.find?_some (p := fun s : Str × Str => decide (disO rs q s.2 < disO rs q x)) hf
    have l := of_decide_eq_true l0
    have := ge s hs
    exact ⟨s, rfl, hs, sub s hs, by omega, ex⟩
end Rp
namespace Rp
open PySem PySem.Spec PyProof.Rows L2 Dl
theorem disO_lt {ps : List Str} {rs : List Road} {q : Str} (ok : WebOk ps rs) (hq : q ∈ ps) (all : ∀ y, Reach rs q y → ∃ m : Nat, DistN rs q y (m : Nat)) : ∀ (n : Nat) (x : Str), Reach rs q x → disO rs q x = n → ∃ l : List Str, l.Nodup ∧ (∀ y ∈ l, y ∈ ps ∧ disO rs q y ≤ n) ∧ l.length = n + 1
  | 0, x, hr, e => ⟨[x], List.nodup_cons.mpr ⟨List.not_mem_nil, List.nodup_nil⟩, fun y hy => by rw [List.mem_singleton.mp hy]; exact ⟨reach_in ok hq hr, by omega⟩, rfl⟩
  | n + 1, x, hr, e => by
    obtain ⟨m, hm⟩ := all x hr
    have em := disO_eq hm
    have em' : m = n + 1 := by omega
    subst em'
    have ne : x ≠ q := fun z => by
      subst z
      obtain ⟨k, ek, _, low⟩ := hm
      have := low 0 .refl
      omega
    obtain ⟨s, _, _, rs', e1, _⟩ := near_step hm ne all hr
    obtain ⟨l, h1, h2, h3⟩ := disO_lt ok hq all n s.2 rs' (by omega)
    refine ⟨x :: l, List.nodup_cons.mpr ⟨fun h => ?_, h1⟩, fun y hy => ?_, by rw [List.length_cons, h3]⟩
    · have := (h2 x h).2
      omega
    · rcases List.mem_cons.mp hy with rfl | hy
      · exact ⟨reach_in ok hq hr, by omega⟩
      · exact ⟨(h2 y hy).1, Nat.le_trans (h2 y hy).2 (Nat.le_succ _)⟩
end Rp
set_option Elab.async false
set_option linter.all false
set_option maxRecDepth 100000
set_option maxHeartbeats 4000000
namespace Rp
open PySem PySem.Spec PyProof.Rows L2 Dl
section
variable {ps : List Str} {rs : List Road} {r : List Str} {p q : Str} {m : Mom}
theorem walk_reach {n : Nat} (h : WalkN rs p n q) : Reach rs p q := by
  induction h with
  | refl => exact .refl
  | go w ht j ih => exact .go ih ht j
theorem reach_walk (h : Reach rs p q) : ∃ n, WalkN rs p n q := by
  induction h with
  | refl => exact ⟨0, .refl⟩
  | go w ht j ih => exact ⟨_, .go ih.choose_spec ht j⟩
theorem least_ex {P : Nat → Prop} (h : ∃ n, P n) : ∃ n, P n ∧ ∀ m, P m → n ≤ m := by
  obtain ⟨n, hn⟩ := h
  induction n using Nat.strongRecOn with
  | _ n ih =>
    by_cases c : ∃ m, m < n ∧ P m
    · obtain ⟨m, lt, hm⟩ := c
      exact ih m lt hm
    · refine ⟨n, hn, fun m hm => ?_⟩
      by_cases lt : m < n
      · exact absurd ⟨m, lt, hm⟩ c
      · omega
theorem dist_ex (h : Reach rs p q) : ∃ n : Nat, DistN rs p q (n : Nat) := by
  obtain ⟨n, w, low⟩ := least_ex (reach_walk h)
  exact ⟨n, n, rfl, w, low⟩
theorem dis_dist (h : Reach rs p q) : DistN rs p q (disO rs p q : Nat) := by
  obtain ⟨n, hn⟩ := dist_ex h
  have := disO_eq hn
  rw [this] at hn
  exact hn
theorem dis_walk (h : Reach rs p q) : WalkN rs p (disO rs p q) q ∧ ∀ m, WalkN rs p m q → disO rs p q ≤ m := by
  obtain ⟨n, e, w, low⟩ := dis_dist h
  have : disO rs p q = n := by omega
  rw [this]
  exact ⟨w, low⟩
/-- the day on which news of the dawn comes -/
def dyN (rs : List Road) (r : List Str) (p q : Str) : Int := (valS (FinS rs [r] p Mo) q).1
structure Lv (rs : List Road) (p : Str) (n : Nat) (st : List (Str × Int)) : Prop where
  nd : (kk st).Nodup
  at_ : ∀ q d, (q, d) ∈ st → DistN rs p q d ∧ d ≤ (n : Int)
  all : ∀ q m, WalkN rs p m q → m ≤ n → q ∈ kk st
structure Md (rs : List Road) (p : Str) (n : Nat) (ds : List (Str × Str)) (st : List (Str × Int)) : Prop where
  nd : (kk st).Nodup
  at_ : ∀ q d, (q, d) ∈ st → DistN rs p q d ∧ d ≤ (n : Int) + 1
  all : ∀ q m, WalkN rs p m q → m ≤ n → q ∈ kk st
  go : ∀ a b, (a, b) ∈ ds → (a, (n : Int)) ∈ st → b ∈ kk st
theorem Lv.start : Lv rs p 0 [(p, 0)] where
  nd := List.nodup_cons.mpr ⟨List.not_mem_nil, List.nodup_nil⟩
  at_ := fun q d h => by
    have h := List.mem_singleton.mp h
    cases h
    exact ⟨⟨0, rfl, .refl, fun _ _ => Nat.zero_le _⟩, Int.le_refl _⟩
  all := fun q m w hm => by
    obtain rfl : m = 0 := by omega
    cases w
    exact List.mem_singleton.mpr rfl
theorem Lv.mid {n : Nat} {st : List (Str × Int)} (h : Lv rs p n st) : Md rs p n [] st := ⟨h.nd, fun q d hd => ⟨(h.at_ q d hd).1, by have := (h.at_ q d hd).2; omega⟩, h.all, fun _ _ z => by cases z⟩
def ends2 (t : Road) : List (Str × Str) := [(t.2.1, t.2.2), (t.2.2, t.2.1)]
theorem Md.put {n : Nat} {ds : List (Str × Str)} {st : List (Str × Int)} {a b : Str} {t : Road} (h : Md rs p n ds st) (ht : t ∈ rs) (hab : (a, b) ∈ ends2 t) (ha : (a, (n : Int)) ∈ st) (hb : b ∉ kk st) : Md rs p n (ds ++ [(a, b)]) (st ++ [(b, (n : Int) + 1)]) where
  nd := by
    show ((st ++ [(b, (n : Int) + 1)]).map fun q => q.1).Nodup
    rw [List.map_append]
    refine List.nodup_append.mpr ⟨h.nd, List.nodup_cons.mpr ⟨List.not_mem_nil, List.nodup_nil⟩, fun x hx y hy e => ?_⟩
    have hy := List.mem_singleton.mp hy
    subst hy
    subst e
    exact hb hx
  at_ := fun q d hd => by
    rcases List.mem_append.mp hd with hd | hd
    · exact h.at_ q d hd
    · cases List.mem_singleton.mp hd
      refine ⟨?_, Int.le_refl _⟩
      obtain ⟨k, ek, w, _⟩ := (h.at_ _ _ ha).1
      have : k = n := by omega
      subst this
      have j : (t.2.1 = a ∧ t.2.2 = b) ∨ (t.2.2 = a ∧ t.2.1 = b) := by
        unfold ends2 at hab
        rcases List.mem_cons.mp hab with z | z
        · cases z
          exact .inl ⟨rfl, rfl⟩
        · cases List.mem_singleton.mp z
          exact .inr ⟨rfl, rfl⟩
      refine ⟨k + 1, by omega, .go w ht j, fun m hm => ?_⟩
      by_cases lt : m ≤ k
      · exact absurd (h.all b m hm lt) hb
      · omega
  all := fun q m w hm => by
    show q ∈ (st ++ [(b, (n : Int) + 1)]).map fun q => q.1
    rw [List.map_append]
    exact List.mem_append.mpr (.inl (h.all q m w hm))
  go := fun x y hx hm => by
    have sub : ∀ z, z ∈ kk st → z ∈ (st ++ [(b, (n : Int) + 1)]).map fun q => q.1 := fun z hz => by
      rw [List.map_append]
      exact List.mem_append.mpr (.inl hz)
    rcases List.mem_append.mp hm with hm | hm
    · rcases List.mem_append.mp hx with hx | hx
      · exact sub _ (h.go x y hx hm)
      · cases List.mem_singleton.mp hx
        show b ∈ (st ++ [(b, (n : Int) + 1)]).map fun q => q.1
        rw [List.map_append]
        exact List.mem_append.mpr (.inr (List.mem_singleton.mpr rfl))
    · have := List.mem_singleton.mp hm
      have e2 : (n : Int) = (n : Int) + 1 := congrArg Prod.snd this
      omega
theorem dis_few (ok : WebOk ps rs) (hp : p ∈ ps) (h : Reach rs p q) : disO rs p q < ps.length := by
  obtain ⟨l, h1, h2, h3⟩ := disO_lt ok hp (fun y hy => dist_ex hy) _ q h rfl
  have := nd_len _ _ h1 fun y hy => (h2 y hy).1
  omega
theorem Lv.done {n : Nat} {st : List (Str × Int)} (ok : WebOk ps rs) (hp : p ∈ ps) (h : Lv rs p n st) (hn : ps.length ≤ n) : ∀ q, q ∈ st.map (·.1) ↔ Reach rs p q := fun q => by
  constructor
  · intro hq
    obtain ⟨⟨q', d⟩, hd, rfl⟩ := List.mem_map.mp hq
    obtain ⟨k, _, w, _⟩ := (h.at_ _ _ hd).1
    exact walk_reach w
  · intro hr
    have := dis_few ok hp hr
    exact h.all q _ (dis_walk hr).1 (by omega)
theorem Lv.len {n : Nat} {st : List (Str × Int)} (ok : WebOk ps rs) (hp : p ∈ ps) (h : Lv rs p n st) : st.length ≤ ps.length := by
  have := nd_len _ _ h.nd fun x hx => by
    obtain ⟨⟨q', d⟩, hd, rfl⟩ := List.mem_map.mp hx
    obtain ⟨k, _, w, _⟩ := (h.at_ _ _ hd).1
    exact reach_in ok hp (walk_reach w)
  rwa [List.length_map] at this
theorem Md.len {n : Nat} {ds : List (Str × Str)} {st : List (Str × Int)} (ok : WebOk ps rs) (hp : p ∈ ps) (h : Md rs p n ds st) : st.length ≤ ps.length := by
  have := nd_len _ _ h.nd fun x hx => by
    obtain ⟨⟨q', d⟩, hd, rfl⟩ := List.mem_map.mp hx
    obtain ⟨k, _, w, _⟩ := (h.at_ _ _ hd).1
    exact reach_in ok hp (walk_reach w)
  rwa [List.length_map] at this
end
theorem reach_tr {rs : List Road} {a b c : Str} (h : Reach rs a b) (k : Reach rs b c) : Reach rs a c := by
  induction k with
  | refl => exact h
  | go w ht j ih => exact .go ih ht j
theorem one_reach {ps : List Str} {rs : List Road} {p q : Str} (op : OnePiece ps rs) (hp : p ∈ ps) (hq : q ∈ ps) : Reach rs p q := by
  cases ps with
  | nil => cases hp
  | cons h l => exact reach_tr (op h rfl p hp).symm (op h rfl q hq)
theorem out0 {Ex : DX} {C : Value} {o : Flds} {ρ : Rho} {l : Mu} (h : Ex C o []) : OutD 0 Ex C o ρ l :=
  ⟨[], ⟨fun _ e => (by cases e), rfl, fun i o lt => absurd lt (Nat.not_lt_zero _), fun _ _ e => (by cases e)⟩, h⟩
theorem hd_yes {mg : Str → Option Value} {D : DEnds} {y : Str} {io : Option Nat} {ds : DHS} {l : List (Str × Option Nat × DHS)} {xn : Str} {ρ : Rho} {μ : Mu} (h : same xn y = true) (q : ∀ a, ds a xn (dEnd0 io D) (dSlot0 mg io a xn ρ) μ) : dHd mg D ((y, io, ds) :: l) xn ρ μ := by
  unfold dHd
  rw [if_pos h]
  exact q
theorem disO_self {rs : List Road} {p : Str} : disO rs p p = 0 := by
  have := (dis_walk (p := p) (q := p) (rs := rs) .refl).2 0 .refl
  omega
end Rp
set_option Elab.async false
set_option linter.all false
set_option maxRecDepth 100000
set_option maxHeartbeats 4000000
namespace Rp
open PySem PySem.Spec PyProof.Rows L2 Dl
section
variable {ps : List Str} {rs : List Road} {r : List Str} {p q : Str}
/-- days, 0 for the same place -/
def dz (rs : List Road) (r : List Str) (p q : Str) : Int := if p = q then 0 else dyN rs r p q
end
end Rp
namespace Rp
open PySem PySem.Spec PyProof.Rows L2 Dl
end Rp
namespace Rp
open PySem PySem.Spec PyProof.Rows L2 Dl
theorem rota_perm {rs : List Road} {r s : List Str} (nd : (rnm rs).Nodup) (hp : r.Perm (rnm rs)) (h : s.Perm r) : RotaOk rs s := rota_of nd (h.trans hp)
end Rp
namespace Rp
open PySem PySem.Spec PyProof.Rows L2 Dl
end Rp
namespace Rp
open PySem PySem.Spec PyProof.Rows L2 Dl
end Rp
namespace Rp
open PySem PySem.Spec PyProof.Rows L2 Dl
end Rp
namespace Rp
open PySem PySem.Spec PyProof.Rows L2 Dl
end Rp
namespace Rp
open PySem PySem.Spec PyProof.Rows L2 Dl
end Rp
namespace Rp
open PySem PySem.Spec PyProof.Rows L2 Dl
end Rp
namespace Rp
end Rp
namespace Rp
open PySem PySem.Spec PyProof.Rows L2 Dl
end Rp
set_option Elab.async false
set_option linter.all false
set_option maxRecDepth 100000
set_option maxHeartbeats 4000000
namespace Rp
open PySem PySem.Spec PyProof.Rows L2 Dl
def Ahd (a b I J : Nat) : Prop := a < I ∨ (a = I ∧ b < J)
structure LonAt (ps : List Str) (rs : List Road) (I J i j : Nat) (F : Int × Str × Str) : Prop where
  l : ps[i]? = some F.2.1
  r : ps[j]? = some F.2.2
  v : F.1 = (disO rs F.2.1 F.2.2 : Nat)
  all : ∀ a b p q, ps[a]? = some p → ps[b]? = some q → Ahd a b I J → (disO rs p q : Int) < F.1 ∨ ((disO rs p q : Int) = F.1 ∧ (i < a ∨ (i = a ∧ j ≤ b)))
section
variable {ps : List Str} {rs : List Road} {I J i j : Nat} {F : Int × Str × Str} {p q : Str}
theorem LonAt.start {y : Str} (h : ps[0]? = some y) : LonAt ps rs 0 0 0 0 (0, y, y) where
  l := h
  r := h
  v := by rw [disO_self]; rfl
  all := fun a b p q _ _ h => by
    rcases h with h | ⟨_, h⟩ <;> exact absurd h (Nat.not_lt_zero _)
theorem LonAt.keep (h : LonAt ps rs I J i j F) (hp : ps[I]? = some p) (hq : ps[J]? = some q) (le : ¬ F.1 < (disO rs p q : Int)) (fst : i < I ∨ (i = I ∧ j ≤ J)) : LonAt ps rs I (J + 1) i j F where
  l := h.l
  r := h.r
  v := h.v
  all := fun a b x y hx hy ha => by
    by_cases c : a = I ∧ b = J
    · obtain ⟨rfl, rfl⟩ := c
      rw [hp] at hx
      rw [hq] at hy
      cases hx
      cases hy
      by_cases e : (disO rs p q : Int) < F.1
      · exact .inl e
      · exact .inr ⟨by omega, fst⟩
    · refine h.all a b x y hx hy ?_
      rcases ha with z | ⟨z, y⟩
      · exact .inl z
      · exact .inr ⟨z, by omega⟩
theorem LonAt.put (h : LonAt ps rs I J i j F) (hp : ps[I]? = some p) (hq : ps[J]? = some q) (lt : F.1 < (disO rs p q : Int)) : LonAt ps rs I (J + 1) I J ((disO rs p q : Nat), p, q) where
  l := hp
  r := hq
  v := rfl
  all := fun a b x y hx hy ha => by
    by_cases c : a = I ∧ b = J
    · obtain ⟨rfl, rfl⟩ := c
      rw [hp] at hx
      rw [hq] at hy
      cases hx
      cases hy
      exact .inr ⟨rfl, .inr ⟨rfl, Nat.le_refl _⟩⟩
    · refine .inl (Int.lt_of_le_of_lt ?_ lt)
      rcases h.all a b x y hx hy (by
        rcases ha with z | ⟨z, y⟩
        · exact .inl z
        · exact .inr ⟨z, by omega⟩) with z | z
      · exact Int.le_of_lt z
      · exact Int.le_of_eq z.1
theorem LonAt.next (h : LonAt ps rs I ps.length i j F) : LonAt ps rs (I + 1) 0 i j F where
  l := h.l
  r := h.r
  v := h.v
  all := fun a b x y hx hy ha => by
    have lb := (List.getElem?_eq_some_iff.mp hy).1
    refine h.all a b x y hx hy ?_
    rcases ha with z | ⟨_, z⟩
    · by_cases c : a = I
      · exact .inr ⟨c, lb⟩
      · exact .inl (by omega)
    · exact absurd z (Nat.not_lt_zero _)
theorem LonAt.one {i' j' : Nat} {G : Int × Str × Str} (h : LonAt ps rs ps.length 0 i j F) (k : LonAt ps rs ps.length 0 i' j' G) : F = G ∧ i = i' ∧ j = j' := by
  have li := (List.getElem?_eq_some_iff.mp h.l).1
  have li' := (List.getElem?_eq_some_iff.mp k.l).1
  have a := h.all i' j' _ _ k.l k.r (.inl li')
  have b := k.all i j _ _ h.l h.r (.inl li)
  rw [← k.v] at a
  rw [← h.v] at b
  have e : i = i' ∧ j = j' := by omega
  obtain ⟨rfl, rfl⟩ := e
  have e1 := h.l.symm.trans k.l
  have e2 := h.r.symm.trans k.r
  refine ⟨Prod.ext (by omega) (Prod.ext (Option.some.inj e1) (Option.some.inj e2)), rfl, rfl⟩
theorem LonAt.shown (ok : WebOk ps rs) (op : OnePiece ps rs) (h : LonAt ps rs I J i j F) : Shown (triI F) := by
  have h1 := List.mem_of_getElem? h.l
  have h2 := List.mem_of_getElem? h.r
  have d := dis_few ok h1 (one_reach op h1 h2)
  have p10 := ok.p.most
  have v := h.v
  refine (smlB_tup (fun x hx => ?_) (by show 3 ≤ 17; decide)).shown
  simp only [List.mem_cons, List.not_mem_nil, or_false] at hx
  rcases hx with rfl | rfl | rfl
  · exact sml_int (by omega) (by omega)
  · exact sml_name (ok.p.nm _ h1)
  · exact sml_name (ok.p.nm _ h2)
end
abbrev Tri := Int × Int × Int
def lt3 (x y : Tri) : Prop := x.1 < y.1 ∨ (x.1 = y.1 ∧ (x.2.1 < y.2.1 ∨ (x.2.1 = y.2.1 ∧ x.2.2 < y.2.2)))
instance (x y : Tri) : Decidable (lt3 x y) := inferInstanceAs (Decidable (x.1 < y.1 ∨ (x.1 = y.1 ∧ (x.2.1 < y.2.1 ∨ (x.2.1 = y.2.1 ∧ x.2.2 < y.2.2)))))
/-- the rows of the places up to I, up to J of the last -/
structure RowsOk (ps : List Str) (rs : List Road) (I : Nat) (L : List Tri) : Prop where
  mem : ∀ x ∈ L, ∃ (i j : Nat) (p q : Str), i < I ∧ ps[i]? = some p ∧ ps[j]? = some q ∧ Reach rs p q ∧ x = (-(disO rs p q : Int), (i : Int), (j : Int))
  all : ∀ (i j : Nat) (p q : Str), i < I → ps[i]? = some p → ps[j]? = some q → Reach rs p q → ((-(disO rs p q : Int), (i : Int), (j : Int)) : Tri) ∈ L
  len : L.length ≤ 10 * I
section
variable {ps : List Str} {rs : List Road} {r : List Str} {p q : Str}
theorem RowsOk.nil : RowsOk ps rs 0 [] := ⟨fun _ h => (by cases h), fun i _ _ _ h => absurd h (Nat.not_lt_zero _), Nat.zero_le _⟩
open Classical in
noncomputable def rowOf (rs : List Road) (I : Nat) (p : Str) (x : Str × Nat) : Option Tri := if Reach rs p x.1 then some (-(disO rs p x.1 : Int), (I : Int), (x.2 : Int)) else none
theorem RowsOk.snoc {I : Nat} {L : List Tri} (ok : WebOk ps rs) (h : RowsOk ps rs I L) (hp : ps[I]? = some p) : RowsOk ps rs (I + 1) (L ++ ps.zipIdx.filterMap (rowOf rs I p)) where
  mem := fun x hx => by
    rcases List.mem_append.mp hx with hx | hx
    · obtain ⟨i, j, p, q, lt, r⟩ := h.mem x hx
      exact ⟨i, j, p, q, by omega, r⟩
    · obtain ⟨⟨q, j⟩, hj, e⟩ := List.mem_filterMap.mp hx
      have hj := List.mem_zipIdx_iff_getElem?.mp hj
      unfold rowOf at e
      split at e
      · rename_i c
        exact ⟨I, j, p, q, by omega, hp, hj, c, (Option.some.inj e).symm⟩
      · cases e
  all := fun i j x y lt hx hy hr => by
    by_cases c : i = I
    · subst c
      rw [hp] at hx
      obtain rfl := Option.some.inj hx
      refine List.mem_append.mpr (.inr (List.mem_filterMap.mpr ⟨(y, j), List.mem_zipIdx_iff_getElem?.mpr hy, ?_⟩))
      exact if_pos hr
    · exact List.mem_append.mpr (.inl (h.all i j x y (by omega) hx hy hr))
  len := by
    have := List.length_filterMap_le (rowOf rs I p) ps.zipIdx
    rw [List.length_zipIdx] at this
    have p10 := ok.p.most
    have := h.len
    rw [List.length_append]
    omega
theorem PiecesOk.put {Ls : List (List Str)} {i : Nat} {x : Str} {ys : List Str} (h : PiecesOk (ps.take i) rs Ls) (hx : ps[i]? = some x) (nd : ys.Nodup) (up : ys.Pairwise fun a b => leS a b = true) (my : ∀ y, y ∈ ys ↔ Reach rs x y) (new : ys ∉ Ls) : PiecesOk (ps.take (i + 1)) rs (Ls ++ [ys]) := by
  have tk : ps.take (i + 1) = ps.take i ++ [x] := take_get hx
  refine ⟨fun L hL' => ?_, fun p hp => ?_, ?_, by have := h.sz; rw [tk, List.length_append, List.length_append, List.length_singleton, List.length_singleton]; omega⟩
  · rcases List.mem_append.mp hL' with h' | h'
    · obtain ⟨p, hp, h'⟩ := h.cl L h'
      exact ⟨p, by rw [tk]; exact List.mem_append.mpr (.inl hp), h'⟩
    · rw [List.mem_singleton.mp h']
      exact ⟨x, by rw [tk]; exact List.mem_append.mpr (.inr (List.mem_singleton.mpr rfl)), nd, up, my⟩
  · rw [tk] at hp
    rcases List.mem_append.mp hp with hp | hp
    · obtain ⟨L, h1, h2⟩ := h.cov p hp
      exact ⟨L, List.mem_append.mpr (.inl h1), h2⟩
    · rw [List.mem_singleton.mp hp]
      exact ⟨ys, List.mem_append.mpr (.inr (List.mem_singleton.mpr rfl)), (my x).mpr .refl⟩
  · refine List.pairwise_append.mpr ⟨h.nd, List.pairwise_singleton .., fun L hL' M hM y hy hy' => ?_⟩
    rw [List.mem_singleton.mp hM] at hy'
    obtain ⟨p, hp, ndL, upL, hL⟩ := h.cl L hL'
    refine new ?_
    have e : L = ys := sorted_one ((List.perm_ext_iff_of_nodup ndL nd).mpr fun z => ?_) upL up
    · exact e ▸ hL'
    · rw [hL z, my z]
      have a := (hL y).mp hy
      have b := (my y).mp hy'
      exact ⟨fun c => b.trans (a.symm.trans c), fun c => a.trans (b.symm.trans c)⟩
theorem PiecesOk.old {Ls : List (List Str)} {i : Nat} {x : Str} {ys : List Str} (h : PiecesOk (ps.take i) rs Ls) (hx : ps[i]? = some x) (my : ∀ y, y ∈ ys ↔ Reach rs x y) (old : ys ∈ Ls) : PiecesOk (ps.take (i + 1)) rs Ls := by
  have tk : ps.take (i + 1) = ps.take i ++ [x] := take_get hx
  refine ⟨fun L hL' => ?_, fun p hp => ?_, h.nd, by have := h.sz; rw [tk, List.length_append, List.length_singleton]; omega⟩
  · obtain ⟨p, hp, h'⟩ := h.cl L hL'
    exact ⟨p, by rw [tk]; exact List.mem_append.mpr (.inl hp), h'⟩
  · rw [tk] at hp
    rcases List.mem_append.mp hp with hp | hp
    · exact h.cov p hp
    · rw [List.mem_singleton.mp hp]
      exact ⟨ys, old, (my x).mpr .refl⟩
theorem PiecesOk.shown {Ls : List (List Str)} (ok : WebOk ps rs) (h : PiecesOk ps rs Ls) : Shown (.list (sortD (Ls.map roundD))) := by
  have p10 := ok.p.most
  have sz := h.sz
  refine smlB_shown (fun d hd => ?_) ?_
  · obtain ⟨L, hL, rfl⟩ := List.mem_map.mp ((sortD_pm _).mem_iff.mp hd)
    obtain ⟨p, hp, nd, _, hm⟩ := h.cl L hL
    have inn : ∀ s ∈ L, s ∈ ps := fun s hs => reach_in ok hp ((hm s).mp hs)
    have := nd_len _ _ nd inn
    exact sml_round (fun s hs => ok.p.nm s (inn s hs)) (by omega)
  · rw [(sortD_pm _).length_eq, List.length_map]
    omega
theorem PiecesOk.ne {Ls : List (List Str)} (h : PiecesOk ps rs Ls) : ∀ L ∈ Ls, L ≠ [] := fun L hL e => by
  obtain ⟨p, hp, _, _, hm⟩ := h.cl L hL
  have := (hm p).mpr .refl
  rw [e] at this
  cases this
end
open Classical in
/-- the piece of a place, ascending -/
noncomputable def clsS (ps : List Str) (rs : List Road) (x : Str) : List Str := sortS (ps.filter fun y => decide (Reach rs x y))
section
variable {ps : List Str} {rs : List Road} {x : Str}
open Classical in
theorem cls_eq (ok : WebOk ps rs) (hx : x ∈ ps) {ys : List Str} (nd : ys.Nodup) (up : ys.Pairwise fun a b => leS a b = true) (my : ∀ y, y ∈ ys ↔ Reach rs x y) : ys = clsS ps rs x := by
  refine sorted_one (List.Perm.trans ?_ (sortS_pm _).symm) up (sortS_up _)
  refine (List.perm_ext_iff_of_nodup nd (ok.p.nd.filter _)).mpr fun y => ?_
  rw [my y, List.mem_filter, decide_eq_true_iff]
  exact ⟨fun h => ⟨reach_in ok hx h, h⟩, fun h => h.2⟩
open Classical in
theorem PiecesOk.has {qs : List Str} {Ls : List (List Str)} (ok : WebOk ps rs) (h : PiecesOk qs rs Ls) (hx : x ∈ ps) : (∃ L ∈ Ls, x ∈ L) ↔ clsS ps rs x ∈ Ls := by
  constructor
  · rintro ⟨L, hL, m⟩
    obtain ⟨p, _, nd, up, hm⟩ := h.cl L hL
    have rx := (hm x).mp m
    rw [← cls_eq ok hx nd up fun y => ⟨fun z => rx.symm.trans ((hm y).mp z), fun z => (hm y).mpr (rx.trans z)⟩]
    exact hL
  · intro hL
    refine ⟨_, hL, ?_⟩
    unfold clsS
    rw [(sortS_pm _).mem_iff, List.mem_filter, decide_eq_true_iff]
    exact ⟨hx, .refl⟩
theorem strs_shaped {xs : List Str} (h : ∀ s ∈ xs, NameOk s) : SeqAt.shaped (.list (xs.map .str)) = true := smlB_list fun d hd => by
  obtain ⟨s, hs, rfl⟩ := List.mem_map.mp hd
  exact (sml_name (h s hs)).B
end
end Rp
namespace Rp
open PySem PySem.Spec PyProof.Rows L2 Dl
end Rp
namespace Rp
open PySem PySem.Spec PyProof.Rows L2 Dl
end Rp
namespace Rp
open PySem PySem.Spec PyProof.Rows L2 Dl
end Rp
namespace Rp
open PySem PySem.Spec PyProof.Rows L2 Dl
end Rp
namespace Rp
open PySem PySem.Spec PyProof.Rows L2 Dl
end Rp
set_option Elab.async false
set_option linter.all false
set_option maxRecDepth 100000
set_option maxHeartbeats 4000000
namespace Rp
open PySem PySem.Spec PyProof.Rows L2 Dl
end Rp
namespace Rp
open PySem PySem.Spec PyProof.Rows L2 Dl
end Rp
namespace Rp
open PySem PySem.Spec PyProof.Rows L2 Dl
/-- distances from q, told -/
structure StOk (rs : List Road) (q : Str) (st : List (Str × Int)) : Prop where
  nd : (kk st).Nodup
  mem : ∀ x, x ∈ kk st ↔ Reach rs q x
  val : ∀ x d, (x, d) ∈ st → DistN rs q x d
theorem StOk.at_ {rs : List Road} {q x : Str} {st : List (Str × Int)} (h : StOk rs q st) (hx : Reach rs q x) : valA (stepA st) (.inr x) = some (.d (.int (disO rs q x : Nat))) := by
  obtain ⟨v, e, m⟩ := step_mem h.nd ((h.mem x).mpr hx)
  rw [e, disO_eq (h.val _ _ m)]
end Rp
namespace Rp
open PySem PySem.Spec PyProof.Rows L2 Dl
theorem fr_mid {R : DR} {μ : Mu} {P : DK} {Ex : DX} {n : Nat} {o : O} (pre post : List PyData) (h : μ[n]? = some o) (ho : dO o)
    (r : R (pre.map A.d ++ .c 0 :: post.map A.d) [o] (fun y ν => (∀ o ∈ ν, dO o) ∧ P (upA [n] μ.length y) (Dl.putAll μ [n] ν ++ ν.drop 1)) fun C u ν => (∀ o ∈ ν, dO o) ∧ Ex C u (Dl.putAll μ [n] ν ++ ν.drop 1)) : FR R (pre.map A.d ++ .c n :: post.map A.d) μ P Ex := by
  refine ⟨[n], pre.map A.d ++ .c 0 :: post.map A.d, [o], pick1 h ho, ?_, fun z hz => ?_, r⟩
  · rw [List.map_append, map_up_d, List.map_cons, map_up_d]
    rfl
  · rcases List.mem_append.mp hz with hz | hz
    · obtain ⟨d, _, rfl⟩ := List.mem_map.mp hz
      trivial
    · rcases List.mem_cons.mp hz with rfl | hz
      · exact Nat.zero_lt_one
      · obtain ⟨d, _, rfl⟩ := List.mem_map.mp hz
        trivial
theorem set_self {μ : Mu} {n : Nat} {o : O} (h : μ[n]? = some o) : μ.set n o = μ := by
  refine List.ext_getElem? fun i => ?_
  rw [List.getElem?_set]
  split
  · rename_i e
    subst e
    split
    · exact h.symm
    · rename_i c
      exact absurd (List.getElem?_eq_some_iff.mp h).1 c
  · rfl
end Rp
namespace Rp
open PySem PySem.Spec PyProof.Rows L2 Dl
end Rp
namespace Rp
open PySem PySem.Spec PyProof.Rows L2 Dl
end Rp
namespace Dl
open PySem PySem.Spec PyProof.Rows L2
end Dl
set_option Elab.async false
set_option linter.all false
set_option maxRecDepth 100000
set_option maxHeartbeats 4000000
namespace Rp
open PySem PySem.Spec PyProof.Rows L2 Dl
end Rp
namespace Rp
open PySem PySem.Spec PyProof.Rows L2 Dl
end Rp
namespace Rp
open PySem PySem.Spec PyProof.Rows L2 Dl
end Rp
namespace Rp
open PySem PySem.Spec PyProof.Rows L2 Dl
end Rp
namespace Rp
open PySem PySem.Spec PyProof.Rows L2 Dl
theorem turned_at {r : List Str} {c i : Nat} (hc : c ≤ r.length) (hi : i < r.length) : (r.drop c ++ r.take c)[i]? = r[(i + c) % r.length]? := by
  by_cases z : i + c < r.length
  · rw [List.getElem?_append_left (by rw [List.length_drop]; omega), List.getElem?_drop, Nat.mod_eq_of_lt z, Nat.add_comm]
  · have e : (i + c) % r.length = i + c - r.length := by
      rw [Nat.mod_eq_sub_mod (by omega), Nat.mod_eq_of_lt (by omega)]
    rw [List.getElem?_append_right (by rw [List.length_drop]; omega), List.length_drop, List.getElem?_take_of_lt (by omega), e]
    congr 1
    omega
end Rp
namespace Rp
open PySem PySem.Spec PyProof.Rows L2 Dl
end Rp
set_option Elab.async false
set_option linter.all false
set_option maxRecDepth 100000
set_option maxHeartbeats 4000000
namespace Rp
open PySem PySem.Spec PyProof.Rows L2 Dl
def wholeB : PyData → Option Bool
  | .none => some false
  | .bool _ => some false
  | .int _ => some true
  | .str _ => some false
  | .list _ => some false
  | .tuple _ => some false
  | .dict _ => some false
def countB (x : PyData) (a b : Int) : Option Bool := match x with
  | .int i => some (decide (a ≤ i) && decide (i ≤ b))
  | x => wholeB x
end Rp
namespace Rp
open PySem PySem.Spec PyProof.Rows L2 Dl
end Rp
namespace Rp
open PySem PySem.Spec PyProof.Rows L2 Dl
end Rp
namespace Rp
open PySem PySem.Spec PyProof.Rows L2 Dl
end Rp
namespace Rp
open PySem PySem.Spec PyProof.Rows L2 Dl
end Rp
namespace Rp
open PySem PySem.Spec PyProof.Rows L2 Dl
end Rp
namespace Rp
open PySem PySem.Spec PyProof.Rows L2 Dl
end Rp
set_option Elab.async false
set_option linter.all false
set_option maxRecDepth 100000
set_option maxHeartbeats 4000000
namespace Rp
open PySem PySem.Spec PyProof.Rows L2 Dl
structure Cyc (rs : List Road) (nm g : List Str) : Prop where
  len : nm.length = g.length
  two : 2 ≤ g.length
  nnd : nm.Nodup
  gnd : g.Nodup
  sub : ∀ e ∈ g, e ∈ rnm rs
  jn : ∀ i, i < g.length → ∃ e a b, g[i]? = some e ∧ nm[i]? = some a ∧ nm[(i + 1) % g.length]? = some b ∧ JoinT (endsOf rs e) a b
theorem mod_two {i c m : Nat} : ((i + 1) % m + c) % m = ((i + c) % m + 1) % m := by
  rw [Nat.mod_add_mod, Nat.mod_add_mod]
  congr 1
  omega
theorem Cyc.turn {rs : List Road} {nm g : List Str} (C : Cyc rs nm g) {c : Nat} (hc : c ≤ g.length) : Cyc rs (nm.drop c ++ nm.take c) (g.drop c ++ g.take c) := by
  have t := C.two
  have l := C.len
  have pn : (nm.drop c ++ nm.take c).Perm nm := (List.perm_append_comm).trans (List.Perm.of_eq (List.take_append_drop c nm))
  have pg : (g.drop c ++ g.take c).Perm g := (List.perm_append_comm).trans (List.Perm.of_eq (List.take_append_drop c g))
  refine ⟨by rw [pn.length_eq, pg.length_eq, l], by rw [pg.length_eq]; exact t, pn.nodup_iff.mpr C.nnd, pg.nodup_iff.mpr C.gnd, fun e he => C.sub e (pg.mem_iff.mp he), fun i hi => ?_⟩
  rw [pg.length_eq] at hi ⊢
  obtain ⟨e, a, b, he, ha, hb, j⟩ := C.jn ((i + c) % g.length) (Nat.mod_lt _ (by omega))
  refine ⟨e, a, b, by rw [turned_at hc hi]; exact he, by rw [turned_at (by omega) (by omega), l]; exact ha, ?_, j⟩
  rw [turned_at (by omega) (by rw [l]; exact Nat.mod_lt _ (by omega)), l, mod_two]
  exact hb
abbrev TriR := Str × Str × Nat
def TriOk (nm : List Str) (us : List TriR) : Prop := ∀ t ∈ us, t.1 ∈ nm ∧ t.2.1 ∈ nm ∧ t.1 ≠ t.2.1
def JnOk (nm : List Str) (m : Nat) (us : List TriR) : Prop := ∀ t ∈ us, t.2.2 < 99 → ∃ a b, nm[t.2.2]? = some a ∧ nm[(t.2.2 + 1) % m]? = some b ∧ JoinT (t.1, t.2.1) a b
def below (l : List Nat) : List Nat := l.filter fun n => decide (n < 99)
theorem TriOk.snoc {nm : List Str} {us : List TriR} {t : TriR} (h : TriOk nm us) (k : t.1 ∈ nm ∧ t.2.1 ∈ nm ∧ t.1 ≠ t.2.1) : TriOk nm (us ++ [t]) := fun x hx => by
  rcases List.mem_append.mp hx with hx | hx
  · exact h x hx
  · rw [List.mem_singleton.mp hx]; exact k
theorem JnOk.snoc {nm : List Str} {m : Nat} {us : List TriR} {t : TriR} (h : JnOk nm m us) (k : t.2.2 < 99 → ∃ a b, nm[t.2.2]? = some a ∧ nm[(t.2.2 + 1) % m]? = some b ∧ JoinT (t.1, t.2.1) a b) : JnOk nm m (us ++ [t]) := fun x hx => by
  rcases List.mem_append.mp hx with hx | hx
  · exact h x hx
  · rw [List.mem_singleton.mp hx]; exact k
theorem atI_neg {α : Type} {xs : List α} {j : Nat} {x : α} (h1 : 1 ≤ j) (h2 : j ≤ xs.length) (h : xs[xs.length - j]? = some x) : atI xs (-(j : Int)) = some x := by
  have e : ixN xs.length (-(j : Int)) = some (xs.length - j) := by
    unfold ixN
    rw [if_neg (by omega), if_pos (by omega)]
    exact congrArg some (by omega)
  unfold atI
  rw [e]
  exact h
theorem JnOk.add {nm : List Str} {m : Nat} {us : List TriR} {a b : Str} (h : JnOk nm m us) : JnOk nm m (us ++ [(a, b, 99)]) := h.snoc fun k => absurd (show 99 < 99 from k) (by decide)
end Rp
set_option Elab.async false
set_option linter.all false
set_option maxRecDepth 100000
set_option maxHeartbeats 4000000
namespace Rp
open PySem PySem.Spec PyProof.Rows L2 Dl
theorem in_tupS {neg : Bool} {s : Str} {ps : List Str} {μ : Mu} {P : DK} (q : P (.d (.bool (neg ^^ decide (s ∈ ps)))) μ) : rdInU neg (.d (.str s)) (.d (.tuple (ps.map .str))) μ P := by
  refine ⟨_, .inr (.inl rfl), rfl, strs_flat ps, ?_⟩
  rw [any_mem]
  exact q
end Rp
set_option Elab.async false
set_option linter.all false
set_option maxRecDepth 100000
set_option maxHeartbeats 4000000
namespace Rp
open PySem PySem.Spec PyProof.Rows L2 Dl
mutual
def plainB : PyData → Bool
  | .dict _ => true
  | .str s => decide (s.length ≤ 1000)
  | .list l => decide (l.length ≤ 1000) && plainAll l
  | .tuple l => decide (l.length ≤ 1000) && plainAll l
  | .none => true
  | .bool _ => true
  | .int _ => true
def plainAll : List PyData → Bool
  | [] => true
  | x :: l => plainB x && plainAll l
end
theorem plain_mem : ∀ {l : List PyData}, plainAll l = true → ∀ x ∈ l, plainB x = true
  | [], _, x, hx => by cases hx
  | y :: l, h, x, hx => by
    rw [plainAll, Bool.and_eq_true] at h
    rcases List.mem_cons.mp hx with rfl | hx
    · exact h.1
    · exact plain_mem h.2 x hx
theorem plain_all : ∀ {l : List PyData}, (∀ x ∈ l, plainB x = true) → plainAll l = true
  | [], _ => by rw [plainAll]
  | y :: l, h => by
    rw [plainAll, Bool.and_eq_true]
    exact ⟨h y (List.mem_cons_self ..), plain_all fun x hx => h x (List.mem_cons_of_mem _ hx)⟩
theorem plain_tup {l : List PyData} : plainB (.tuple l) = true ↔ l.length ≤ 1000 ∧ ∀ x ∈ l, plainB x = true := by
  rw [plainB, Bool.and_eq_true, decide_eq_true_iff]
  exact ⟨fun h => ⟨h.1, plain_mem h.2⟩, fun h => ⟨h.1, plain_all h.2⟩⟩
theorem plain_lst {l : List PyData} : plainB (.list l) = true ↔ l.length ≤ 1000 ∧ ∀ x ∈ l, plainB x = true := by
  rw [plainB, Bool.and_eq_true, decide_eq_true_iff]
  exact ⟨fun h => ⟨h.1, plain_mem h.2⟩, fun h => ⟨h.1, plain_all h.2⟩⟩
theorem plain_str {s : Str} : plainB (.str s) = true ↔ s.length ≤ 1000 := by
  rw [plainB, decide_eq_true_iff]
def tupB : PyData → Bool
  | .tuple _ => true
  | _ => false
def strB : PyData → Bool
  | .str _ => true
  | _ => false
def textOf : PyData → Str
  | .str s => s
  | _ => ""
def nameB (s : Str) : Bool := decide (1 ≤ s.length) && decide (s.length ≤ 8) && (Txt.isascii s && (Txt.isalnum s && (Txt.islower s && match s.cps.toList[0]? with
  | some c => Txt.isalpha ⟨#[c]⟩
  | none => false)))
def nameD : PyData → Bool
  | .str s => nameB s
  | _ => false
def placesB : PyData → Bool
  | .tuple l => decide (1 ≤ l.length) && decide (l.length ≤ 10) && (l.all nameD && decide ((l.map textOf).Nodup))
  | _ => false
def roadB (ps : List Str) : PyData → Bool
  | .tuple [n, .str a, .str b] => nameD n && (decide (a ∈ ps) && (decide (b ∈ ps) && !decide (a = b)))
  | _ => false
def headOf : PyData → Str
  | .tuple (n :: _) => textOf n
  | _ => ""
def roadsB (ps : List Str) : PyData → Bool
  | .tuple l => decide (l.length ≤ 14) && (l.all (roadB ps) && decide ((l.map headOf).Nodup))
  | _ => false
def textsOf : PyData → List Str
  | .tuple l => l.map textOf
  | _ => []
def webB : PyData → Bool
  | .tuple [p, r] => placesB p && roadsB (textsOf p) r
  | _ => false
def unlikeB (rs : List Road) : PyData → Bool
  | .tuple l => decide (l.length ≤ rs.length) && (l.all (fun x => strB x && decide (textOf x ∈ rnm rs)) && decide ((l.map textOf).Nodup))
  | _ => false
def lenT : PyData → Nat
  | .tuple l => l.length
  | _ => 0
def rotaB (rs : List Road) (d : PyData) : Bool := unlikeB rs d && decide (lenT d = rs.length)
theorem nameB_ok {s : Str} (h : NameOk s) : nameB s = true := by
  obtain ⟨c, hc, hl⟩ := h.first
  unfold nameB
  rw [decide_eq_true h.one, decide_eq_true h.most, name_ascii h, name_alnum h, name_lower h, hc]
  show Txt.isalpha ⟨#[c]⟩ = true
  exact char_alpha hl
theorem strs_back : ∀ {l : List PyData}, l.all nameD = true → l = (l.map textOf).map .str
  | [], _ => rfl
  | x :: l, h => by
    rw [List.all_cons, Bool.and_eq_true] at h
    have ih := strs_back h.2
    cases x with
    | str s =>
      rw [List.map_cons, List.map_cons, ← ih]
      rfl
    | _ => cases h.1
theorem places_ok {ps : List Str} (h : PlacesOk ps) : placesB (.tuple (ps.map .str)) = true := by
  have e : (ps.map PyData.str).map textOf = ps := by rw [List.map_map]; exact List.map_id' ps
  show (decide (1 ≤ (ps.map PyData.str).length) && decide ((ps.map PyData.str).length ≤ 10) && ((ps.map PyData.str).all nameD && decide (((ps.map PyData.str).map textOf).Nodup))) = true
  rw [List.length_map, e, decide_eq_true h.one, decide_eq_true h.most, decide_eq_true h.nd, Bool.true_and, Bool.true_and, Bool.and_true, List.all_map]
  exact List.all_eq_true.mpr fun s hs => nameB_ok (h.nm s hs)
theorem road_ok {ps : List Str} {rs : List Road} (h : RoadsOk ps rs) {r : Road} (hr : r ∈ rs) : roadB ps (rdD r) = true := by
  show (nameB r.1 && (decide _ && (decide _ && !decide _))) = true
  rw [nameB_ok (h.nm r hr), decide_eq_true (h.a r hr), decide_eq_true (h.b r hr), decide_eq_false (h.ne r hr)]
  rfl
theorem roads_ok {ps : List Str} {rs : List Road} (h : RoadsOk ps rs) : roadsB ps (.tuple (rs.map rdD)) = true := by
  have e : (rs.map rdD).map headOf = rnm rs := by rw [List.map_map]; rfl
  show (decide ((rs.map rdD).length ≤ 14) && ((rs.map rdD).all (roadB ps) && decide (((rs.map rdD).map headOf).Nodup))) = true
  rw [List.length_map, e, decide_eq_true h.most, decide_eq_true h.nd, Bool.and_true, List.all_map]
  exact List.all_eq_true.mpr fun r hr => road_ok h hr
theorem web_okB {ps : List Str} {rs : List Road} (h : WebOk ps rs) : webB (webD ps rs) = true := by
  show (placesB (.tuple (ps.map .str)) && roadsB ((ps.map PyData.str).map textOf) (.tuple (rs.map rdD))) = true
  rw [places_ok h.p, show (ps.map PyData.str).map textOf = ps by rw [List.map_map]; exact List.map_id' ps, roads_ok h.r]
  rfl
theorem plain_name {s : Str} (h : NameOk s) : plainB (.str s) = true := plain_str.mpr (Nat.le_trans h.most (by decide))
theorem plainS {ps : List Str} (l : ps.length ≤ 1000) (h : ∀ s ∈ ps, s.length ≤ 1000) : plainB (.tuple (ps.map .str)) = true := plain_tup.mpr ⟨by rw [List.length_map]; exact l, fun x hx => by
  obtain ⟨s, hs, rfl⟩ := List.mem_map.mp hx
  exact plain_str.mpr (h s hs)⟩
theorem name_1000 {s : Str} (h : NameOk s) : s.length ≤ 1000 := Nat.le_trans h.most (by decide)
theorem plain_places {ps : List Str} (h : PlacesOk ps) : plainB (.tuple (ps.map .str)) = true := plainS (Nat.le_trans h.most (by decide)) fun s hs => name_1000 (h.nm s hs)
theorem plain_road {ps : List Str} {rs : List Road} (hp : PlacesOk ps) (h : RoadsOk ps rs) {r : Road} (hr : r ∈ rs) : plainB (rdD r) = true := plain_tup.mpr ⟨show 3 ≤ 1000 by decide, fun x hx => by
  simp only [List.mem_cons, List.not_mem_nil, or_false] at hx
  rcases hx with rfl | rfl | rfl
  · exact plain_name (h.nm r hr)
  · exact plain_name (hp.nm _ (h.a r hr))
  · exact plain_name (hp.nm _ (h.b r hr))⟩
theorem plain_roads {ps : List Str} {rs : List Road} (hp : PlacesOk ps) (h : RoadsOk ps rs) : plainB (.tuple (rs.map rdD)) = true := plain_tup.mpr ⟨by rw [List.length_map]; exact Nat.le_trans h.most (by decide), fun x hx => by
  obtain ⟨r, hr, rfl⟩ := List.mem_map.mp hx
  exact plain_road hp h hr⟩
theorem plain_web {ps : List Str} {rs : List Road} (h : WebOk ps rs) : plainB (webD ps rs) = true := plain_tup.mpr ⟨show 2 ≤ 1000 by decide, fun x hx => by
  simp only [List.mem_cons, List.not_mem_nil, or_false] at hx
  rcases hx with rfl | rfl
  · exact plain_places h.p
  · exact plain_roads h.p h.r⟩
/-- roads, told by their data -/
def roadOf : PyData → Road
  | .tuple [n, a, b] => (textOf n, textOf a, textOf b)
  | _ => ("", "", "")
theorem road_back {ps : List Str} {x : PyData} (h : roadB ps x = true) : x = rdD (roadOf x) ∧ headOf x = (roadOf x).1 := by
  unfold roadB at h
  split at h
  · rename_i n a b
    rw [Bool.and_eq_true] at h
    cases n with
    | str s => exact ⟨rfl, rfl⟩
    | _ => cases h.1
  · cases h
theorem roads_back {ps : List Str} : ∀ {l : List PyData}, l.all (roadB ps) = true → l = (l.map roadOf).map rdD ∧ l.map headOf = rnm (l.map roadOf)
  | [], _ => ⟨rfl, rfl⟩
  | x :: l, h => by
    rw [List.all_cons, Bool.and_eq_true] at h
    obtain ⟨a, b⟩ := roads_back h.2
    obtain ⟨c, d⟩ := road_back h.1
    refine ⟨?_, ?_⟩
    · rw [List.map_cons, List.map_cons, ← a, ← c]
    · show headOf x :: l.map headOf = (roadOf x).1 :: rnm (l.map roadOf)
      rw [d, b]
theorem isi_tup {K : PySem.W.Frag} {d : PyData} {μ : Mu} {P : DK} (h : plainB d = true) (q : P (.d (.bool (tupB d))) μ) : rdIsiC K [.d d, .v (.ty "tuple")] μ P := by
  cases d with
  | dict l => exact ⟨_, _, _, false, rfl, .inl rfl, rfl, q⟩
  | tuple l => exact ⟨_, _, _, true, rfl, .inl rfl, rfl, q⟩
  | list l => exact ⟨_, _, _, false, rfl, .inl rfl, rfl, q⟩
  | str l => exact ⟨_, _, _, false, rfl, .inl rfl, rfl, q⟩
  | int l => exact ⟨_, _, _, false, rfl, .inl rfl, rfl, q⟩
  | bool l => exact ⟨_, _, _, false, rfl, .inl rfl, rfl, q⟩
  | none => exact ⟨_, _, _, false, rfl, .inl rfl, rfl, q⟩
theorem isi_str {K : PySem.W.Frag} {d : PyData} {μ : Mu} {P : DK} (h : plainB d = true) (q : P (.d (.bool (strB d))) μ) : rdIsiC K [.d d, .v (.ty "str")] μ P := by
  cases d with
  | dict l => exact ⟨_, _, _, false, rfl, .inl rfl, rfl, q⟩
  | tuple l => exact ⟨_, _, _, false, rfl, .inl rfl, rfl, q⟩
  | list l => exact ⟨_, _, _, false, rfl, .inl rfl, rfl, q⟩
  | str l => exact ⟨_, _, _, true, rfl, .inl rfl, rfl, q⟩
  | int l => exact ⟨_, _, _, false, rfl, .inl rfl, rfl, q⟩
  | bool l => exact ⟨_, _, _, false, rfl, .inl rfl, rfl, q⟩
  | none => exact ⟨_, _, _, false, rfl, .inl rfl, rfl, q⟩
def notD : PyData → Bool
  | .dict _ => true
  | _ => true
theorem isn_str {K : PySem.W.Frag} {d : PyData} {μ : Mu} {P : DK} (h : notD d = true) (q : P (.d (.bool (strB d))) μ) : rdIsiC K [.d d, .v (.ty "str")] μ P := by
  cases d with
  | dict l => exact ⟨_, _, _, false, rfl, .inl rfl, rfl, q⟩
  | tuple l => exact ⟨_, _, _, false, rfl, .inl rfl, rfl, q⟩
  | list l => exact ⟨_, _, _, false, rfl, .inl rfl, rfl, q⟩
  | str l => exact ⟨_, _, _, true, rfl, .inl rfl, rfl, q⟩
  | int l => exact ⟨_, _, _, false, rfl, .inl rfl, rfl, q⟩
  | bool l => exact ⟨_, _, _, false, rfl, .inl rfl, rfl, q⟩
  | none => exact ⟨_, _, _, false, rfl, .inl rfl, rfl, q⟩
def R_is_nameX : DR := fun xs μ Pk _ => ∃ x, xs = [.d x] ∧ μ = [] ∧ plainB x = true ∧ Pk (.d (.bool (nameD x))) []
def R_are_placesX : DR := fun xs μ Pk _ => ∃ x, xs = [.d x] ∧ μ = [] ∧ plainB x = true ∧ Pk (.d (.bool (placesB x))) []
def R_is_road_betweenX : DR := fun xs μ Pk _ => ∃ ps x, xs = [.d (.tuple (ps.map .str)), .d x] ∧ μ = [] ∧ plainB x = true ∧ Pk (.d (.bool (roadB ps x))) []
def R_are_roads_betweenX : DR := fun xs μ Pk _ => ∃ ps x, xs = [.d (.tuple (ps.map .str)), .d x] ∧ μ = [] ∧ plainB x = true ∧ Pk (.d (.bool (roadsB ps x))) []
def R_is_webX : DR := fun xs μ Pk _ => ∃ x, xs = [.d x] ∧ μ = [] ∧ plainB x = true ∧ Pk (.d (.bool (webB x))) []
def R_need_webX (mg : Str → Option Value) : DR := fun xs μ Pk Ex => ∃ x, xs = [.d x] ∧ μ = [] ∧ plainB x = true ∧ (webB x = true → Pk (.d .none) []) ∧ (webB x = false → Ex (errV mg "BadWeb") none [])
structure NamesIn (ps : List Str) (rs : List Road) : Prop where
  p : ∀ s ∈ ps, s ∈ names14
  r : ∀ s ∈ rnm rs, s ∈ names14
theorem mkR_in {rn : List Str} {us : List (Str × Str)} {l : List Str} (h : ∀ s ∈ rn, s ∈ l) : ∀ s ∈ rnm (mkR rn us), s ∈ l := fun s hs => by
  obtain ⟨t, ht, rfl⟩ := List.mem_map.mp hs
  exact h _ (mkR_mem ht).1
theorem placesB_snoc {l : List PyData} {x : PyData} (h : nameD x = false) : placesB (.tuple (l ++ [x])) = false := by
  show (_ && _ && ((l ++ [x]).all nameD && _)) = false
  rw [List.all_append, show [x].all nameD = false by rw [List.all_cons, h]; rfl, Bool.and_false, Bool.false_and, Bool.and_false]
theorem placesB_dup {p : Str} {t : List PyData} : placesB (.tuple (.str p :: t ++ [.str p])) = false := by
  have e : decide ((PyData.str p :: t ++ [PyData.str p]).map textOf).Nodup = false := decide_eq_false fun nd => by
    rw [List.cons_append, List.map_cons, List.map_append] at nd
    exact (List.nodup_cons.mp nd).1 (List.mem_append_right _ (List.mem_singleton.mpr rfl))
  show (_ && _ && (_ && decide ((PyData.str p :: t ++ [PyData.str p]).map textOf).Nodup)) = false
  rw [e, Bool.and_false, Bool.and_false]
theorem webB_p {a b : PyData} (h : placesB a = false) : webB (.tuple [a, b]) = false := by
  show (placesB a && _) = false
  rw [h, Bool.false_and]
theorem webB_r {ps : List Str} {b : PyData} (h : roadsB ps b = false) : webB (.tuple [.tuple (ps.map .str), b]) = false := by
  show (_ && roadsB ((ps.map PyData.str).map textOf) b) = false
  rw [show (ps.map PyData.str).map textOf = ps by rw [List.map_map]; exact List.map_id' ps, h, Bool.and_false]
theorem roadsB_snoc {ps : List Str} {l : List PyData} {x : PyData} (h : roadB ps x = false) : roadsB ps (.tuple (l ++ [x])) = false := by
  show (_ && ((l ++ [x]).all (roadB ps) && _)) = false
  rw [List.all_append, show [x].all (roadB ps) = false by rw [List.all_cons, h]; rfl, Bool.and_false, Bool.false_and, Bool.and_false]
theorem roadsB_twice {ps : List Str} {l : List PyData} {x : PyData} : roadsB ps (.tuple (l ++ [x, x])) = false := by
  have e : decide ((l ++ [x, x]).map headOf).Nodup = false := decide_eq_false fun nd => by
    rw [List.map_append] at nd
    have := (List.nodup_append.mp nd).2.1
    exact (List.nodup_cons.mp this).1 (List.mem_singleton.mpr rfl)
  show (_ && (_ && decide ((l ++ [x, x]).map headOf).Nodup)) = false
  rw [e, Bool.and_false, Bool.and_false]
theorem roadB_same {ps : List Str} {n : PyData} {a : Str} : roadB ps (.tuple [n, .str a, .str a]) = false := by
  show (_ && (_ && (_ && !decide (a = a)))) = false
  rw [decide_eq_true rfl]
  simp
theorem roadB_off {ps : List Str} {n : PyData} {a b : Str} (h : b ∉ ps) : roadB ps (.tuple [n, .str a, .str b]) = false := by
  show (_ && (_ && (decide (b ∈ ps) && _))) = false
  rw [decide_eq_false h]
  simp
theorem plain2 {a b : PyData} (h : plainB a = true) (k : plainB b = true) : plainB (.tuple [a, b]) = true := plain_tup.mpr ⟨show 2 ≤ 1000 by decide, fun x hx => by
  simp only [List.mem_cons, List.not_mem_nil, or_false] at hx
  rcases hx with rfl | rfl
  · exact h
  · exact k⟩
theorem plain1 {a : PyData} (h : plainB a = true) : plainB (.tuple [a]) = true := plain_tup.mpr ⟨show 1 ≤ 1000 by decide, fun x hx => by rw [List.mem_singleton.mp hx]; exact h⟩
theorem plain3 {a b c : PyData} (h : plainB a = true) (k : plainB b = true) (j : plainB c = true) : plainB (.tuple [a, b, c]) = true := plain_tup.mpr ⟨show 3 ≤ 1000 by decide, fun x hx => by
  simp only [List.mem_cons, List.not_mem_nil, or_false] at hx
  rcases hx with rfl | rfl | rfl
  · exact h
  · exact k
  · exact j⟩
theorem plain_snoc {l m : List PyData} (h : plainB (.tuple l) = true) (hl : l.length ≤ 100) (k : plainB (.tuple m) = true) (hm : m.length ≤ 100) : plainB (.tuple (l ++ m)) = true := plain_tup.mpr ⟨by rw [List.length_append]; omega, fun x hx => by
  rcases List.mem_append.mp hx with hx | hx
  · exact (plain_tup.mp h).2 x hx
  · exact (plain_tup.mp k).2 x hx⟩
theorem plain_toL {l : List PyData} (h : plainB (.tuple l) = true) : plainB (.list l) = true := plain_lst.mpr (plain_tup.mp h)
/-- a list of what is no web -/
def BadWebs (ds : List PyData) : Prop := ∀ d ∈ ds, plainB d = true ∧ webB d = false
theorem BadWebs.app {l m : List PyData} (h : BadWebs l) (k : BadWebs m) : BadWebs (l ++ m) := fun d hd => (List.mem_append.mp hd).elim (h d) (k d)
def BadRotas (rs : List Road) (ds : List PyData) : Prop := ∀ d ∈ ds, plainB d = true ∧ rotaB rs d = false
theorem BadRotas.app {rs : List Road} {l m : List PyData} (h : BadRotas rs l) (k : BadRotas rs m) : BadRotas rs (l ++ m) := fun d hd => (List.mem_append.mp hd).elim (h d) (k d)
theorem cut_last1 {α : Type} (l : List α) (h : l ≠ []) : cut l (some (-1)) none = l.drop (l.length - 1) := by
  have l1 : 0 < l.length := List.length_pos_iff.mpr h
  unfold cut
  rw [HT.sIx_none]
  have e : HT.sIx l.length 0 (some (-1 : Int)) = l.length - 1 := by
    show ((-1 : Int) + (l.length : Int)).toNat = l.length - 1
    omega
  rw [e]
  exact List.take_of_length_le (by rw [List.length_drop]; omega)
structure Cnt (ks : List (Key × A)) : Prop where
  nd : (ks.map (·.1)).Nodup
  k : ∀ x ∈ ks, ∃ n : Nat, n < 2 ^ 14 ∧ x.1 = .inl (n : Int)
  v : ∀ x ∈ ks, ∃ v : Int, x.2 = .d (.int v)
theorem Cnt.len {ks : List (Key × A)} (h : Cnt ks) : ks.length ≤ 2 ^ 14 := by
  have := nd_len (ks.map (·.1)) ((List.range (2 ^ 14)).map fun (n : Nat) => (Sum.inl (n : Int) : Key)) h.nd fun x hx => by
    obtain ⟨y, hy, rfl⟩ := List.mem_map.mp hx
    obtain ⟨n, hn, e⟩ := h.k y hy
    exact List.mem_map.mpr ⟨n, List.mem_range.mpr hn, e.symm⟩
  rwa [List.length_map, List.length_map, List.length_range] at this
theorem Cnt.nil : Cnt [] := ⟨List.nodup_nil, fun _ h => (by cases h), fun _ h => (by cases h)⟩
theorem Cnt.one : Cnt [(.inl 0, .d (.int 1))] := ⟨by simp, fun x hx => by rw [List.mem_singleton.mp hx]; exact ⟨0, by decide, rfl⟩, fun x hx => by rw [List.mem_singleton.mp hx]; exact ⟨1, rfl⟩⟩
theorem Cnt.put {ks : List (Key × A)} (h : Cnt ks) {n : Nat} (hn : n < 2 ^ 14) (v : Int) : Cnt (putA ks (.inl (n : Int)) (.d (.int v))) := by
  unfold putA
  split
  · have e : (ks.map fun p => if p.1 = Sum.inl (n : Int) then (p.1, Dl.A.d (.int v)) else p).map (·.1) = ks.map (·.1) := by
      rw [List.map_map]
      refine List.map_congr_left fun p _ => ?_
      show (if p.1 = Sum.inl (n : Int) then (p.1, Dl.A.d (.int v)) else p).1 = p.1
      split <;> rfl
    refine ⟨by rw [e]; exact h.nd, fun x hx => ?_, fun x hx => ?_⟩
    · obtain ⟨p, hp, rfl⟩ := List.mem_map.mp hx
      obtain ⟨m, hm, em⟩ := h.k p hp
      refine ⟨m, hm, ?_⟩
      split <;> exact em
    · obtain ⟨p, hp, rfl⟩ := List.mem_map.mp hx
      by_cases c : p.1 = Sum.inl (n : Int)
      · rw [if_pos c]
        exact ⟨v, rfl⟩
      · rw [if_neg c]
        exact h.v p hp
  · rename_i c
    refine ⟨?_, fun x hx => ?_, fun x hx => ?_⟩
    · rw [List.map_append]
      refine List.nodup_append.mpr ⟨h.nd, by simp, fun a ha b hb e => c ?_⟩
      have hb : b = Sum.inl (n : Int) := List.mem_singleton.mp hb
      obtain ⟨p, hp, rfl⟩ := List.mem_map.mp ha
      exact List.any_eq_true.mpr ⟨p, hp, decide_eq_true (e.trans hb)⟩
    · rcases List.mem_append.mp hx with hx | hx
      · exact h.k x hx
      · rw [List.mem_singleton.mp hx]
        exact ⟨n, hn, rfl⟩
    · rcases List.mem_append.mp hx with hx | hx
      · exact h.v x hx
      · rw [List.mem_singleton.mp hx]
        exact ⟨v, rfl⟩
theorem Cnt.get {ks : List (Key × A)} (h : Cnt ks) (k : Key) : ∃ v : Int, (valA ks k).getD (.d (.int 0)) = .d (.int v) := by
  unfold valA
  cases hf : ks.find? (fun p => decide (p.1 = k)) with
  | none => exact ⟨0, rfl⟩
  | some x =>
    obtain ⟨v, e⟩ := h.v x (List.mem_of_find?_eq_some hf)
    exact ⟨v, e⟩
end Rp
set_option Elab.async false
set_option linter.all false
set_option maxRecDepth 100000
set_option maxHeartbeats 4000000
namespace Rp
open PySem PySem.Spec PyProof.Rows L2 Dl
abbrev DaySt := Str → Option Int
def absD (st : Got) : DaySt := fun q => (st.find? fun x => decide (x.1 = q)).map fun x => x.2.1
def Apart (rs : List Road) (e f : Str) : Prop := (endsOf rs e).1 ≠ (endsOf rs f).1 ∧ (endsOf rs e).1 ≠ (endsOf rs f).2 ∧ (endsOf rs e).2 ≠ (endsOf rs f).1 ∧ (endsOf rs e).2 ≠ (endsOf rs f).2
instance (rs : List Road) (e f : Str) : Decidable (Apart rs e f) := inferInstanceAs (Decidable (_ ∧ _))
theorem Apart.symm {rs : List Road} {e f : Str} (h : Apart rs e f) : Apart rs f e := ⟨h.1.symm, h.2.2.1.symm, h.2.1.symm, h.2.2.2.symm⟩
/-- two neighbours exchanged -/
def swapL (r : List Str) (i : Nat) : List Str := r.take i ++ [r.getD (i + 1) "", r.getD i ""] ++ r.drop (i + 2)
theorem cut_pair {r : List Str} {i : Nat} (h : i + 1 < r.length) : r = r.take i ++ [r.getD i "", r.getD (i + 1) ""] ++ r.drop (i + 2) := by
  have e1 : r.getD i "" = r[i] := by rw [List.getD_eq_getElem?_getD, List.getElem?_eq_getElem (by omega)]; rfl
  have e2 : r.getD (i + 1) "" = r[i + 1] := by rw [List.getD_eq_getElem?_getD, List.getElem?_eq_getElem h]; rfl
  rw [e1, e2]
  conv => lhs; rw [← List.take_append_drop i r, List.drop_eq_getElem_cons (show i < r.length by omega), List.drop_eq_getElem_cons h]
  rw [List.append_assoc]
  rfl
end Rp
namespace Rp
open PySem PySem.Spec PyProof.Rows L2 Dl
end Rp
namespace Rp
open PySem PySem.Spec PyProof.Rows L2 Dl
def tO (rs : List Road) (r : List Str) (p q : Str) : Option Int := if p = q then some 0 else absD (FinS rs [r] p Mo) q
def tD : Option Int → PyData
  | some d => .int d
  | none => .none
end Rp
namespace Rp
open PySem PySem.Spec PyProof.Rows L2 Dl
end Rp
namespace Rp
open PySem PySem.Spec PyProof.Rows L2 Dl
end Rp
namespace Rp
open PySem PySem.Spec PyProof.Rows L2 Dl
end Rp
namespace Rp
open PySem PySem.Spec PyProof.Rows L2 Dl
end Rp
set_option Elab.async false
set_option linter.all false
set_option maxRecDepth 100000
set_option maxHeartbeats 4000000
namespace Rp
open PySem PySem.Spec PyProof.Rows L2 Dl
section
variable {ps : List Str} {rs : List Road} {r s m : List Str}
theorem SameOrd.refl : SameOrd ps rs r r := fun _ _ _ _ _ => Iff.rfl
theorem SameOrd.symm (h : SameOrd ps rs r s) : SameOrd ps rs s r := fun e he f hf z => (h e he f hf z).symm
theorem SameOrd.trans (h : SameOrd ps rs r s) (k : SameOrd ps rs s m) : SameOrd ps rs r m := fun e he f hf z => (h e he f hf z).trans (k e he f hf z)
end
end Rp
namespace Rp
open PySem PySem.Spec PyProof.Rows L2 Dl
end Rp
namespace Rp
open PySem PySem.Spec PyProof.Rows L2 Dl
end Rp
namespace Rp
open PySem PySem.Spec PyProof.Rows L2 Dl
end Rp
namespace Rp
open PySem PySem.Spec PyProof.Rows L2 Dl
end Rp
set_option Elab.async false
set_option linter.all false
set_option maxRecDepth 100000
set_option maxHeartbeats 4000000
namespace Rp
open PySem PySem.Spec PyProof.Rows L2 Dl
def longer (ns m : List Str) : List (List Str) := (ns.filter fun n => decide (n ∉ m)).map fun n => m ++ [n]
def allR (ns : List Str) : Nat → List (List Str)
  | 0 => [[]]
  | k + 1 => (allR ns k).flatMap (longer ns)
theorem longer_mem {ns m x : List Str} : x ∈ longer ns m ↔ ∃ n ∈ ns, n ∉ m ∧ x = m ++ [n] := by
  unfold longer
  rw [List.mem_map]
  constructor
  · rintro ⟨n, hn, rfl⟩
    have := List.mem_filter.mp hn
    exact ⟨n, this.1, of_decide_eq_true this.2, rfl⟩
  · rintro ⟨n, hn, nm, rfl⟩
    exact ⟨n, List.mem_filter.mpr ⟨hn, decide_eq_true nm⟩, rfl⟩
theorem allR_mem {ns : List Str} : ∀ (k : Nat) (m : List Str), m ∈ allR ns k ↔ m.Nodup ∧ (∀ n ∈ m, n ∈ ns) ∧ m.length = k
  | 0, m => by
    show m ∈ [[]] ↔ _
    rw [List.mem_singleton]
    constructor
    · rintro rfl
      exact ⟨List.nodup_nil, fun _ h => (by cases h), rfl⟩
    · exact fun h => List.eq_nil_of_length_eq_zero h.2.2
  | k + 1, m => by
    show m ∈ (allR ns k).flatMap (longer ns) ↔ _
    rw [List.mem_flatMap]
    constructor
    · rintro ⟨m0, h0, h⟩
      obtain ⟨n, hn, nm, rfl⟩ := longer_mem.mp h
      obtain ⟨a, b, c⟩ := (allR_mem k m0).mp h0
      refine ⟨?_, fun x hx => ?_, by rw [List.length_append, c]; rfl⟩
      · rw [List.nodup_append]
        refine ⟨a, by simp, fun x hx y hy e => ?_⟩
        rw [List.mem_singleton] at hy
        subst hy e
        exact nm hx
      · rcases List.mem_append.mp hx with z | z
        · exact b x z
        · rw [List.mem_singleton.mp z]
          exact hn
    · rintro ⟨a, b, c⟩
      have ne : m ≠ [] := fun e => by rw [e] at c; cases c
      have em := List.dropLast_concat_getLast ne
      refine ⟨m.dropLast, (allR_mem k _).mpr ⟨?_, fun x hx => b x ((List.dropLast_sublist m).subset hx), by rw [List.length_dropLast, c]; rfl⟩, longer_mem.mpr ⟨m.getLast ne, b _ (List.getLast_mem ne), fun z => ?_, em.symm⟩⟩
      · rw [← em] at a
        exact (List.nodup_append.mp a).1
      · rw [← em] at a
        exact (List.nodup_append.mp a).2.2 _ z _ (List.mem_singleton.mpr rfl) rfl
theorem sum_le {c : Nat} : ∀ l : List Nat, (∀ x ∈ l, x ≤ c) → l.sum ≤ l.length * c
  | [], _ => Nat.zero_le _
  | x :: l, h => by
    have a := h x (List.mem_cons_self ..)
    have b := sum_le l fun y hy => h y (List.mem_cons_of_mem _ hy)
    rw [List.sum_cons, List.length_cons, Nat.add_mul]
    omega
theorem allR_len {ns : List Str} : ∀ k : Nat, (allR ns k).length ≤ ns.length ^ k
  | 0 => Nat.le_refl _
  | k + 1 => by
    show ((allR ns k).flatMap (longer ns)).length ≤ _
    rw [List.length_flatMap]
    have h := sum_le (c := ns.length) ((allR ns k).map fun a => (longer ns a).length) fun x hx => by
      obtain ⟨m, _, rfl⟩ := List.mem_map.mp hx
      unfold longer
      rw [List.length_map]
      exact List.length_filter_le ..
    rw [List.length_map] at h
    rw [Nat.pow_succ]
    exact Nat.le_trans h (Nat.mul_le_mul_right _ (allR_len k))
section
variable {ps : List Str} {rs : List Road} {r s m : List Str}
theorem allR_rota : m ∈ allR (rnm rs) rs.length ↔ RotaOk rs m := by
  rw [allR_mem]
  exact ⟨fun h => ⟨⟨h.1, h.2.1⟩, h.2.2⟩, fun h => ⟨h.ok.nd, h.ok.sub, h.len⟩⟩
/-- on the way: Q is what is still to be looked at, m0 is looked at up to t -/
structure Dfs (ps : List Str) (rs : List Road) (r : List Str) (L Q m0 : List (List Str)) (t : Nat) : Prop where
  nd : L.Nodup
  here : r ∈ L
  ok : ∀ m ∈ L, RotaOk rs m ∧ SameOrd ps rs r m
  sub : ∀ m ∈ Q, m ∈ L
  cl : ∀ m ∈ L, m ∉ Q → m ∉ m0 → ∀ i, i + 1 < m.length → Rp.Apart rs (m.getD i "") (m.getD (i + 1) "") → swapL m i ∈ L
  now : ∀ m ∈ m0, m ∈ L ∧ ∀ i, i < t → i + 1 < m.length → Rp.Apart rs (m.getD i "") (m.getD (i + 1) "") → swapL m i ∈ L
theorem Dfs.few {L Q m0 : List (List Str)} {t : Nat} (h : Dfs ps rs r L Q m0 t) : L.length ≤ (allR (rnm rs) rs.length).length := nd_len _ _ h.nd fun m hm => allR_rota.mpr (h.ok m hm).1
theorem pow_few (h : rs.length ≤ 6) : (allR (rnm rs) rs.length).length ≤ 46656 := by
  have a := allR_len (ns := rnm rs) rs.length
  have e : (rnm rs).length = rs.length := List.length_map ..
  rw [e] at a
  refine Nat.le_trans a ?_
  have b : ∀ n, n ≤ 6 → n ^ n ≤ 46656 := by decide
  exact b _ h
end
end Rp
set_option Elab.async false
set_option linter.all false
set_option maxRecDepth 100000
set_option maxHeartbeats 4000000
namespace Rp
open PySem PySem.Spec PyProof.Rows L2 Dl
def rotasD (rs : List Road) : PyData := .list ((allR (rnm rs) rs.length).map roundD)
def R__law_all_rotas : DR := fun xs μ Pk _ => ∃ ps rs, xs = [.d (webD ps rs)] ∧ μ = [] ∧ WebOk ps rs ∧ rs.length ≤ 6 ∧ Pk (.d (rotasD rs)) []
end Rp
namespace Rp
open PySem PySem.Spec PyProof.Rows L2 Dl
end Rp
namespace Rp
open PySem PySem.Spec PyProof.Rows L2 Dl
end Rp
namespace Rp
open PySem PySem.Spec PyProof.Rows L2 Dl
end Rp
set_option Elab.async false
set_option linter.all false
set_option maxRecDepth 100000
set_option maxHeartbeats 4000000
namespace Rp
open PySem PySem.Spec PyProof.Rows L2 Dl
def Steps (rs : List Road) : List Str → List Nat → List Str → Prop
  | r, [], s => r = s
  | r, i :: l, s => i + 1 < r.length ∧ Rp.Apart rs (r.getD i "") (r.getD (i + 1) "") ∧ Steps rs (swapL r i) l s
theorem Steps.app {rs : List Road} : ∀ {r m s : List Str} {a b : List Nat}, Steps rs r a m → Steps rs m b s → Steps rs r (a ++ b) s
  | _, _, _, [], _, h, k => by
    have h : _ = _ := h
    rw [h]
    exact k
  | _, _, _, _ :: _, _, h, k => ⟨h.1, h.2.1, Steps.app h.2.2 k⟩
end Rp
namespace Rp
open PySem PySem.Spec PyProof.Rows L2 Dl
end Rp
namespace Rp
open PySem PySem.Spec PyProof.Rows L2 Dl
end Rp
namespace Rp
open PySem PySem.Spec PyProof.Rows L2 Dl
end Rp
namespace Rp
open PySem PySem.Spec PyProof.Rows L2 Dl
theorem eqv_sh {d : PyData} (h : SeqAt.shaped d = true) : PyData.eqv d d = true := SeqAt.eqv_refl d (Bool.and_eq_true_iff.mp h).1
end Rp
namespace Rp
open PySem PySem.Spec PyProof.Rows L2 Dl
end Rp
namespace Rp
open PySem PySem.Spec PyProof.Rows L2 Dl
end Rp
namespace Rp
open PySem PySem.Spec PyProof.Rows L2 Dl
end Rp
namespace Rp
open PySem PySem.Spec PyProof.Rows L2 Dl
theorem eq_selfD {b : Bool} {d : PyData} {μ : Mu} {P : DK} (s : SeqAt.shaped d = true) (h : P (.d (.bool (b ^^ true))) μ) : rdEq b (.d d) (.d d) μ P := by
  cases d with
  | int i =>
    show P (.d (.bool (b ^^ decide (i = i)))) μ
    rw [decide_eq_true rfl]
    exact h
  | str i =>
    show P (.d (.bool (b ^^ decide (i = i)))) μ
    rw [decide_eq_true rfl]
    exact h
  | _ => exact ⟨_, _, rfl, rfl, s, s, by rw [eqv_sh s]; exact h⟩
end Rp
set_option Elab.async false
set_option linter.all false
set_option maxRecDepth 100000
set_option maxHeartbeats 4000000
namespace Rp
open PySem PySem.Spec PyProof.Rows L2 Dl
end Rp
namespace Rp
open PySem PySem.Spec PyProof.Rows L2 Dl
end Rp
namespace Rp
open PySem PySem.Spec PyProof.Rows L2 Dl
end Rp
namespace Rp
open PySem PySem.Spec PyProof.Rows L2 Dl
end Rp
namespace Rp
open PySem PySem.Spec PyProof.Rows L2 Dl
end Rp
namespace Rp
open PySem PySem.Spec PyProof.Rows L2 Dl
end Rp
namespace Rp
open PySem PySem.Spec PyProof.Rows L2 Dl
def Itm (d : PyData) : Prop := d = .none ∨ (∃ b, d = .bool b) ∨ d = .str "0" ∨ d = .list [] ∨ ∃ i : Int, d = .int i ∧ -1 ≤ i ∧ i ≤ 14
structure RowI (r : List PyData) (n : Nat) : Prop where
  all : ∀ d ∈ r, Itm d
  len : r.length ≤ n
theorem RowI.app {a b : List PyData} {n m : Nat} (h : RowI a n) (k : RowI b m) : RowI (a ++ b) (n + m) := ⟨fun d hd => (List.mem_append.mp hd).elim (h.all d) (k.all d), by have := h.len; have := k.len; rw [List.length_append]; omega⟩
theorem RowI.sub {a b : List PyData} {n : Nat} (h : RowI a n) (s : ∀ d ∈ b, d ∈ a) (l : b.length ≤ n) : RowI b n := ⟨fun d hd => h.all d (s d hd), l⟩
theorem add_lstD {a b : List PyData} {μ : Mu} {P : DK} (h : a.length + b.length ≤ sizeLine) (q : P (.d (.list (a ++ b))) μ) : rdAdd (.d (.list a)) (.d (.list b)) μ P := ⟨_, _, rfl, rfl, by rw [List.length_map, List.length_map]; exact h, .inl ⟨a ++ b, (List.map_append ..).symm, q⟩⟩
end Rp
namespace Rp
open PySem PySem.Spec PyProof.Rows L2 Dl
end Rp
namespace Rp
open PySem PySem.Spec PyProof.Rows L2 Dl
end Rp
namespace Rp
open PySem PySem.Spec PyProof.Rows L2 Dl
end Rp
namespace Rp
open PySem PySem.Spec PyProof.Rows L2 Dl
end Rp
namespace Rp
open PySem PySem.Spec PyProof.Rows L2 Dl
end Rp
set_option Elab.async false
set_option linter.all false
set_option maxRecDepth 100000
set_option maxHeartbeats 4000000
namespace Rp
open PySem PySem.Spec PyProof.Rows L2 Dl
def placeB (ps : List Str) (d : PyData) : Bool := strB d && decide (textOf d ∈ ps)
def weekB (rs : List Road) : PyData → Bool
  | .tuple l => (decide (1 ≤ l.length) && decide (l.length ≤ 4)) && l.all (unlikeB rs)
  | _ => false
def momB (wk : List (List Str)) : PyData → Bool
  | .tuple [a, b] => countB a 1 1000000 == some true && (match a with | .int d => countB b 0 (roundAt wk d).length == some true | _ => false)
  | _ => false
def R_need_placeX (mg : Str → Option Value) : DR := fun xs μ Pk Ex => ∃ ps rs x, xs = [.d (webD ps rs), .d x] ∧ μ = [] ∧ (placeB ps x = true → Pk (.d .none) []) ∧ (placeB ps x = false → Ex (errV mg "BadPlace") none [])
/-- what beliefs are asked of: all good, or what is wrong first -/
def SixB (mg : Str → Option Value) (a b c d e f : PyData) (Ex : DX) (P : List Str → List Road → List (List Str) → Str → Mom → Str → Mom → Prop) : Prop :=
  (∃ ps rs wk p m q m', a = webD ps rs ∧ b = weekD wk ∧ c = .str p ∧ d = momD m ∧ e = .str q ∧ f = momD m' ∧ WebOk ps rs ∧ WeekOk rs wk ∧ p ∈ ps ∧ MomOk wk m ∧ q ∈ ps ∧ MomOk wk m' ∧ P ps rs wk p m q m') ∨
  (webB a = false ∧ plainB a = true ∧ Ex (errV mg "BadWeb") none []) ∨
  (∃ ps rs, a = webD ps rs ∧ WebOk ps rs ∧ plainB b = true ∧ weekB rs b = false ∧ Ex (errV mg "BadWeek") none []) ∨
  (∃ ps rs wk, a = webD ps rs ∧ WebOk ps rs ∧ b = weekD wk ∧ WeekOk rs wk ∧ placeB ps c = false ∧ Ex (errV mg "BadPlace") none []) ∨
  (∃ ps rs wk p, a = webD ps rs ∧ WebOk ps rs ∧ b = weekD wk ∧ WeekOk rs wk ∧ c = .str p ∧ p ∈ ps ∧ momB wk d = false ∧ Ex (errV mg "BadMoment") none []) ∨
  (∃ ps rs wk p m, a = webD ps rs ∧ WebOk ps rs ∧ b = weekD wk ∧ WeekOk rs wk ∧ c = .str p ∧ p ∈ ps ∧ d = momD m ∧ MomOk wk m ∧ placeB ps e = false ∧ Ex (errV mg "BadPlace") none []) ∨
  (∃ ps rs wk p m q, a = webD ps rs ∧ WebOk ps rs ∧ b = weekD wk ∧ WeekOk rs wk ∧ c = .str p ∧ p ∈ ps ∧ d = momD m ∧ MomOk wk m ∧ e = .str q ∧ q ∈ ps ∧ momB wk f = false ∧ Ex (errV mg "BadMoment") none [])
end Rp
namespace Rp
open PySem PySem.Spec PyProof.Rows L2 Dl
end Rp
namespace Rp
open PySem PySem.Spec PyProof.Rows L2 Dl
theorem place_okB {ps : List Str} {p : Str} (h : p ∈ ps) : placeB ps (.str p) = true := decide_eq_true h
end Rp
namespace Rp
open PySem PySem.Spec PyProof.Rows L2 Dl
end Rp
namespace Rp
open PySem PySem.Spec PyProof.Rows L2 Dl
end Rp
namespace Rp
open PySem PySem.Spec PyProof.Rows L2 Dl
end Rp
namespace Rp
open PySem PySem.Spec PyProof.Rows L2 Dl
end Rp
set_option Elab.async false
set_option linter.all false
set_option maxRecDepth 100000
set_option maxHeartbeats 4000000
namespace Rp
open PySem PySem.Spec PyProof.Rows L2 Dl
end Rp
namespace Rp
open PySem PySem.Spec PyProof.Rows L2 Dl
end Rp
namespace Rp
open PySem PySem.Spec PyProof.Rows L2 Dl
theorem SixB.imp {mg : Str → Option Value} {a b c d e f : PyData} {Ex Ex' : DX} {P P' : List Str → List Road → List (List Str) → Str → Mom → Str → Mom → Prop}
    (h : SixB mg a b c d e f Ex P) (hx : ∀ xn ∈ (["BadWeb", "BadWeek", "BadPlace", "BadMoment"] : List Str), Ex (errV mg xn) none [] → Ex' (errV mg xn) none [])
    (hp : ∀ ps rs wk p m q m', WebOk ps rs → P ps rs wk p m q m' → P' ps rs wk p m q m') : SixB mg a b c d e f Ex' P' := by
  rcases h with ⟨ps, rs, wk, p, m, q, m', rfl, rfl, rfl, rfl, rfl, rfl, ok, hw, hpp, hm, hq, hm', qq⟩ | ⟨wb, wp, q⟩ | ⟨ps, rs, rfl, ok, bp, bb, q⟩ | ⟨ps, rs, wk, rfl, ok, rfl, hw, bb, q⟩ | ⟨ps, rs, wk, p, rfl, ok, rfl, hw, rfl, hpp, bb, q⟩ | ⟨ps, rs, wk, p, m, rfl, ok, rfl, hw, rfl, hpp, rfl, hm, bb, q⟩ | ⟨ps, rs, wk, p, m, r, rfl, ok, rfl, hw, rfl, hpp, rfl, hm, rfl, hq, bb, q⟩
  · exact .inl ⟨ps, rs, wk, p, m, q, m', rfl, rfl, rfl, rfl, rfl, rfl, ok, hw, hpp, hm, hq, hm', hp _ _ _ _ _ _ _ ok qq⟩
  · exact .inr (.inl ⟨wb, wp, hx _ (by decide) q⟩)
  · exact .inr (.inr (.inl ⟨ps, rs, rfl, ok, bp, bb, hx _ (by decide) q⟩))
  · exact .inr (.inr (.inr (.inl ⟨ps, rs, wk, rfl, ok, rfl, hw, bb, hx _ (by decide) q⟩)))
  · exact .inr (.inr (.inr (.inr (.inl ⟨ps, rs, wk, p, rfl, ok, rfl, hw, rfl, hpp, bb, hx _ (by decide) q⟩))))
  · exact .inr (.inr (.inr (.inr (.inr (.inl ⟨ps, rs, wk, p, m, rfl, ok, rfl, hw, rfl, hpp, rfl, hm, bb, hx _ (by decide) q⟩)))))
  · exact .inr (.inr (.inr (.inr (.inr (.inr ⟨ps, rs, wk, p, m, r, rfl, ok, rfl, hw, rfl, hpp, rfl, hm, rfl, hq, bb, hx _ (by decide) q⟩)))))
end Rp
namespace Rp
open PySem PySem.Spec PyProof.Rows L2 Dl
end Rp
namespace Rp
open PySem PySem.Spec PyProof.Rows L2 Dl
end Rp
set_option Elab.async false
set_option linter.all false
set_option maxRecDepth 100000
set_option maxHeartbeats 4000000
namespace Rp
open PySem PySem.Spec PyProof.Rows L2 Dl
def nrD (ps : List Str) (rs : List Road) (e : Str) : PyData := .tuple [.str e, .int (rk ps (endsOf rs e).1 : Nat), .int (rk ps (endsOf rs e).2 : Nat)]
inductive Fl (ps : List Str) (rs : List Road) (r : List Str) (B : Str → Bool) : Str → Prop
  | base {q : Str} : q ∈ ps → B q = true → Fl ps rs r B q
  | go1 {e : Str} : e ∈ r → Fl ps rs r B (endsOf rs e).1 → Fl ps rs r B (endsOf rs e).2
  | go2 {e : Str} : e ∈ r → Fl ps rs r B (endsOf rs e).2 → Fl ps rs r B (endsOf rs e).1
def fsS (ps : List Str) (rs : List Road) (v : Nat) (e : Str) : Nat := if v.testBit (rk ps (endsOf rs e).1) = v.testBit (rk ps (endsOf rs e).2) then v else (v ||| 1 * 2 ^ rk ps (endsOf rs e).1) ||| 1 * 2 ^ rk ps (endsOf rs e).2
def flS (ps : List Str) (rs : List Road) (r : List Str) (v : Nat) : Nat := r.foldl (fsS ps rs) v
theorem flS_snoc (ps : List Str) (rs : List Road) (r : List Str) (e : Str) (v : Nat) : flS ps rs (r ++ [e]) v = fsS ps rs (flS ps rs r v) e := by
  unfold flS
  rw [List.foldl_append]
  rfl
theorem fsS_le (ps : List Str) (rs : List Road) (v : Nat) (e : Str) : v ≤ fsS ps rs v e := by
  unfold fsS
  split
  · exact Nat.le_refl _
  · exact Nat.le_trans Nat.left_le_or Nat.left_le_or
theorem flS_le (ps : List Str) (rs : List Road) : ∀ (r : List Str) (v : Nat), v ≤ flS ps rs r v
  | [], v => Nat.le_refl _
  | e :: r, v => Nat.le_trans (fsS_le ps rs v e) (flS_le ps rs r (fsS ps rs v e))
theorem fsS_same {ps : List Str} {rs : List Road} {v : Nat} {e : Str} (h : fsS ps rs v e = v) : v.testBit (rk ps (endsOf rs e).1) = v.testBit (rk ps (endsOf rs e).2) := by
  unfold fsS at h
  split at h
  · assumption
  · have a : v.testBit (rk ps (endsOf rs e).1) = true := by
      rw [← h, Nat.testBit_or, Nat.testBit_or, Nat.one_mul, Nat.testBit_two_pow_self, Bool.or_true, Bool.true_or]
    have b : v.testBit (rk ps (endsOf rs e).2) = true := by
      rw [← h, Nat.testBit_or, Nat.one_mul (2 ^ rk ps (endsOf rs e).2), Nat.testBit_two_pow_self, Bool.or_true]
    rw [a, b]
theorem flS_same {ps : List Str} {rs : List Road} : ∀ (r : List Str) {v : Nat}, flS ps rs r v = v → ∀ e ∈ r, v.testBit (rk ps (endsOf rs e).1) = v.testBit (rk ps (endsOf rs e).2)
  | [], _, _, _, h => by cases h
  | x :: r, v, h, e, he => by
    have s1 : flS ps rs r (fsS ps rs v x) = v := h
    have l1 := fsS_le ps rs v x
    have l2 := flS_le ps rs r (fsS ps rs v x)
    have e1 : fsS ps rs v x = v := by omega
    rcases List.mem_cons.mp he with rfl | he
    · exact fsS_same e1
    · rw [e1] at s1
      exact flS_same r s1 e he
structure FlI (ps : List Str) (rs : List Road) (r : List Str) (B : Str → Bool) (v : Nat) : Prop where
  bd : v < 2 ^ ps.length
  hi : ∀ q ∈ ps, v.testBit (rk ps q) = true → Fl ps rs r B q
  lo : ∀ q ∈ ps, B q = true → v.testBit (rk ps q) = true
theorem or_pow {v i : Nat} (j : Nat) : (v ||| 1 * 2 ^ i).testBit j = true ↔ v.testBit j = true ∨ i = j := by
  rw [Nat.testBit_or, Nat.one_mul, Nat.testBit_two_pow, Bool.or_eq_true, decide_eq_true_iff]
theorem FlI.step {ps : List Str} {rs : List Road} {r : List Str} {B : Str → Bool} {v : Nat} (h : FlI ps rs r B v) {e : Str} (he : e ∈ r) (ha : (endsOf rs e).1 ∈ ps) (hb : (endsOf rs e).2 ∈ ps) : FlI ps rs r B (fsS ps rs v e) := by
  unfold fsS
  split
  · exact h
  · rename_i ne
    have la := rk_lt ha
    have lb := rk_lt hb
    have both : Fl ps rs r B (endsOf rs e).1 ∧ Fl ps rs r B (endsOf rs e).2 := by
      cases z : v.testBit (rk ps (endsOf rs e).1) with
      | true => exact ⟨h.hi _ ha z, .go1 he (h.hi _ ha z)⟩
      | false =>
        have z2 : v.testBit (rk ps (endsOf rs e).2) = true := by
          cases z2 : v.testBit (rk ps (endsOf rs e).2) with
          | true => rfl
          | false => exact absurd (z.trans z2.symm) ne
        exact ⟨.go2 he (h.hi _ hb z2), h.hi _ hb z2⟩
    refine ⟨Nat.or_lt_two_pow (Nat.or_lt_two_pow h.bd (by rw [Nat.one_mul]; exact Nat.pow_lt_pow_right (by decide) la)) (by rw [Nat.one_mul]; exact Nat.pow_lt_pow_right (by decide) lb), fun q hq hv => ?_, fun q hq hB => ?_⟩
    · rcases (or_pow _).mp hv with hv | hv
      · rcases (or_pow _).mp hv with hv | hv
        · exact h.hi q hq hv
        · rw [← (rk_eq ha hq).mp hv]
          exact both.1
      · rw [← (rk_eq hb hq).mp hv]
        exact both.2
    · exact (or_pow _).mpr (.inl ((or_pow _).mpr (.inl (h.lo q hq hB))))
theorem FlI.fin {ps : List Str} {rs : List Road} {r : List Str} {B : Str → Bool} {v : Nat} (h : FlI ps rs r B v) (hr : ∀ e ∈ r, (endsOf rs e).1 ∈ ps ∧ (endsOf rs e).2 ∈ ps) (same : ∀ e ∈ r, v.testBit (rk ps (endsOf rs e).1) = v.testBit (rk ps (endsOf rs e).2)) {q : Str} (hq : q ∈ ps) : v.testBit (rk ps q) = true ↔ Fl ps rs r B q := by
  refine ⟨h.hi q hq, fun f => ?_⟩
  clear hq
  have : q ∈ ps ∧ v.testBit (rk ps q) = true := by
    induction f with
    | base hq hB => exact ⟨hq, h.lo _ hq hB⟩
    | go1 he _ ih => exact ⟨(hr _ he).2, by rw [← same _ he]; exact ih.2⟩
    | go2 he _ ih => exact ⟨(hr _ he).1, by rw [same _ he]; exact ih.2⟩
  exact this.2
theorem Fl.mono {ps : List Str} {rs : List Road} {r : List Str} {B C : Str → Bool} (h : ∀ q ∈ ps, B q = true → C q = true) {q : Str} (f : Fl ps rs r B q) : Fl ps rs r C q := by
  induction f with
  | base hq hB => exact .base hq (h _ hq hB)
  | go1 he _ ih => exact .go1 he ih
  | go2 he _ ih => exact .go2 he ih
theorem all_bits {n v : Nat} (h : v < 2 ^ n) : v = 2 ^ n - 1 ↔ ∀ i, i < n → v.testBit i = true := by
  constructor
  · rintro rfl i hi
    rw [Nat.testBit_two_pow_sub_one]
    exact decide_eq_true hi
  · intro g
    refine nat_bits h (by have := Nat.two_pow_pos n; omega) fun i hi => ?_
    rw [g i hi, Nat.testBit_two_pow_sub_one]
    exact (decide_eq_true hi).symm
theorem all_bits_ps {ps : List Str} (nd : ps.Nodup) {v : Nat} (h : v < 2 ^ ps.length) : v = 2 ^ ps.length - 1 ↔ ∀ q ∈ ps, v.testBit (rk ps q) = true := by
  rw [all_bits h]
  constructor
  · exact fun g q hq => g _ (rk_lt hq)
  · intro g i hi
    have := g _ (List.getElem_mem hi)
    rwa [rk_ix nd (List.getElem?_eq_getElem hi)] at this
theorem sum_pows (f : Nat → Bool) (c : Str → Bool) : ∀ l : List Str, (∀ i x, l[i]? = some x → f i = c x) → (((List.range l.length).filter f).map fun i => 1 * 2 ^ i).sum = maskN c l := snocInd (fun _ => rfl) fun l x ih h => by
  have i1 := ih fun i y hy => h i y (by rw [List.getElem?_append_left (List.getElem?_eq_some_iff.mp hy).1]; exact hy)
  have hx := h l.length x (by rw [List.getElem?_append_right (Nat.le_refl _), Nat.sub_self]; rfl)
  have e : maskN c (l ++ [x]) = maskN c l + if c x = true then 2 ^ l.length else 0 := by
    unfold maskN
    rw [maskA_snoc, Nat.zero_add]
  rw [e, List.length_append, List.length_singleton, List.range_succ, List.filter_append, List.map_append, List.sum_append, i1]
  congr 1
  rw [List.filter_cons, hx]
  split
  · show 1 * 2 ^ l.length + 0 = _
    omega
  · rfl
def hasB (ps : List Str) (L : List Nat) (s q : Str) : Bool := (L.getD (rk ps q) 0).testBit (rk ps s)
def goP (ps : List Str) (rs : List Road) (r : List Str) (L : List Nat) (s : Str) (i : Nat) (e : Str) : Prop :=
  hasB ps L s (endsOf rs e).1 = true ∨ hasB ps L s (endsOf rs e).2 = true ∨ ∀ q ∈ ps, Fl ps rs (r.take i ++ r.drop (i + 1)) (hasB ps L s) q
structure KeepI (ps : List Str) (rs : List Road) (s : Str) (r : List Str) (L : List Nat) (got : List Str) : Prop where
  pm : (got ++ r).Perm (rnm rs)
  len : L.length = ps.length
  bd : ∀ n ∈ L, n < 2 ^ ps.length
  all : ∀ q ∈ ps, Fl ps rs r (hasB ps L s) q
theorem KeepI.ends {ps : List Str} {rs : List Road} {s : Str} {r : List Str} {L : List Nat} {got : List Str} (ok : WebOk ps rs) (h : KeepI ps rs s r L got) : ∀ e ∈ r, (endsOf rs e).1 ∈ ps ∧ (endsOf rs e).2 ∈ ps := fun e he => ends_in ok (h.pm.mem_iff.mp (List.mem_append_right _ he))
theorem KeepI.some {ps : List Str} {rs : List Road} {s : Str} {r : List Str} {L : List Nat} {got : List Str} (ok : WebOk ps rs) (h : KeepI ps rs s r L got) (ne : r ≠ []) : ∃ i e, r[i]? = some e ∧ goP ps rs r L s i e := by
  by_cases t : ∃ e ∈ r, hasB ps L s (endsOf rs e).1 = true ∨ hasB ps L s (endsOf rs e).2 = true
  · obtain ⟨e, he, t⟩ := t
    obtain ⟨i, hi⟩ := List.mem_iff_getElem?.mp he
    exact ⟨i, e, hi, t.elim .inl fun t => .inr (.inl t)⟩
  · exfalso
    have no : ∀ q, Fl ps rs r (hasB ps L s) q → hasB ps L s q = true := fun q f => by
      induction f with
      | base _ hB => exact hB
      | go1 he _ ih => exact absurd ⟨_, he, .inl ih⟩ t
      | go2 he _ ih => exact absurd ⟨_, he, .inr ih⟩ t
    cases r with
    | nil => exact ne rfl
    | cons e r => exact t ⟨e, List.mem_cons_self, .inl (no _ (h.all _ (h.ends ok e List.mem_cons_self).1))⟩
theorem kbS_more {ps : List Str} {rs : List Road} {L : List Nat} {e s : Str} (hl : L.length = ps.length) (ha : (endsOf rs e).1 ∈ ps) (hb : (endsOf rs e).2 ∈ ps) :
    (∀ q ∈ ps, hasB ps L s q = true → hasB ps (kbS ps rs L e) s q = true) ∧ ((hasB ps L s (endsOf rs e).1 = true ∨ hasB ps L s (endsOf rs e).2 = true) → hasB ps (kbS ps rs L e) s (endsOf rs e).1 = true ∧ hasB ps (kbS ps rs L e) s (endsOf rs e).2 = true) := by
  have la : rk ps (endsOf rs e).1 < L.length := by rw [hl]; exact rk_lt ha
  have lb : rk ps (endsOf rs e).2 < L.length := by rw [hl]; exact rk_lt hb
  unfold hasB kbS
  by_cases z : L.getD (rk ps (endsOf rs e).1) 0 = L.getD (rk ps (endsOf rs e).2) 0
  · rw [if_pos z]
    exact ⟨fun _ _ h => h, fun h => by rw [z] at h ⊢; exact ⟨h.elim id id, h.elim id id⟩⟩
  · rw [if_neg z]
    have gt : ∀ q, ((L.set (rk ps (endsOf rs e).1) (L.getD (rk ps (endsOf rs e).1) 0 ||| L.getD (rk ps (endsOf rs e).2) 0)).set (rk ps (endsOf rs e).2) (L.getD (rk ps (endsOf rs e).1) 0 ||| L.getD (rk ps (endsOf rs e).2) 0)).getD (rk ps q) 0
        = if rk ps q = rk ps (endsOf rs e).2 then (L.getD (rk ps (endsOf rs e).1) 0 ||| L.getD (rk ps (endsOf rs e).2) 0) else if rk ps q = rk ps (endsOf rs e).1 then (L.getD (rk ps (endsOf rs e).1) 0 ||| L.getD (rk ps (endsOf rs e).2) 0) else L.getD (rk ps q) 0 := fun q => by
      rw [getD_set (by rw [List.length_set]; exact lb), getD_set la]
    refine ⟨fun q hq h => ?_, fun h => ?_⟩
    · rw [gt]
      split
      · rename_i e2
        rw [e2] at h
        rw [Nat.testBit_or, h, Bool.or_true]
      · split
        · rename_i e1
          rw [e1] at h
          rw [Nat.testBit_or, h, Bool.true_or]
        · exact h
    · have o : (L.getD (rk ps (endsOf rs e).1) 0 ||| L.getD (rk ps (endsOf rs e).2) 0).testBit (rk ps s) = true := by
        rw [Nat.testBit_or, Bool.or_eq_true]
        exact h
      rw [gt, gt]
      refine ⟨?_, by rw [if_pos rfl]; exact o⟩
      split
      · exact o
      · rw [if_pos rfl]; exact o
theorem kbS_bd {ps : List Str} {rs : List Road} {L : List Nat} {e : Str} (bd : ∀ n ∈ L, n < 2 ^ ps.length) : ∀ n ∈ kbS ps rs L e, n < 2 ^ ps.length := by
  have getb : ∀ i, L.getD i 0 < 2 ^ ps.length := fun i => by
    rw [List.getD_eq_getElem?_getD]
    cases z : L[i]? with
    | none => exact Nat.two_pow_pos _
    | some x => exact bd x (List.mem_of_getElem? z)
  unfold kbS
  split
  · exact bd
  · intro n hn
    rcases List.mem_or_eq_of_mem_set hn with g | g
    · rcases List.mem_or_eq_of_mem_set g with g | g
      · exact bd n g
      · rw [g]
        exact Nat.or_lt_two_pow (getb _) (getb _)
    · rw [g]
      exact Nat.or_lt_two_pow (getb _) (getb _)
theorem cut_at {α : Type} {r : List α} {i : Nat} {e : α} (h : r[i]? = some e) : r = r.take i ++ e :: r.drop (i + 1) := by
  obtain ⟨lt, rfl⟩ := List.getElem?_eq_some_iff.mp h
  rw [List.getElem_cons_drop]
  exact (List.take_append_drop i r).symm
theorem KeepI.step {ps : List Str} {rs : List Road} {s : Str} {r : List Str} {L : List Nat} {got : List Str} (ok : WebOk ps rs) (h : KeepI ps rs s r L got) {i : Nat} {e : Str} (hi : r[i]? = .some e) (g : goP ps rs r L s i e) :
    KeepI ps rs s (r.take i ++ r.drop (i + 1)) (kbL ps rs [e] L) (got ++ [e]) := by
  have he := List.mem_of_getElem? hi
  obtain ⟨ha, hb⟩ := h.ends ok e he
  have m := kbS_more (s := s) h.len ha hb
  refine ⟨?_, by rw [kbL_len, h.len], kbS_bd h.bd, fun q hq => ?_⟩
  · refine List.Perm.trans ?_ h.pm
    rw [List.append_assoc]
    refine List.Perm.append_left _ ?_
    conv => rhs; rw [cut_at hi]
    show (e :: (r.take i ++ r.drop (i + 1))).Perm _
    exact List.perm_middle.symm
  · show Fl ps rs _ (hasB ps (kbS ps rs L e) s) q
    have touch : (hasB ps L s (endsOf rs e).1 = true ∨ hasB ps L s (endsOf rs e).2 = true) → Fl ps rs (r.take i ++ r.drop (i + 1)) (hasB ps (kbS ps rs L e) s) q := fun t => by
      obtain ⟨b1, b2⟩ := m.2 t
      have sub : ∀ x ∈ r, x ≠ e → x ∈ r.take i ++ r.drop (i + 1) := fun x hx ne => by
        rw [cut_at hi] at hx
        rcases List.mem_append.mp hx with hx | hx
        · exact List.mem_append_left _ hx
        · rcases List.mem_cons.mp hx with rfl | hx
          · exact absurd rfl ne
          · exact List.mem_append_right _ hx
      have f := h.all q hq
      induction f with
      | base hq hB => exact .base hq (m.1 _ hq hB)
      | @go1 x hx f ih =>
        by_cases xe : x = e
        · subst xe
          exact .base hb b2
        · exact .go1 (sub x hx xe) (ih ((h.ends ok x hx).1))
      | @go2 x hx f ih =>
        by_cases xe : x = e
        · subst xe
          exact .base ha b1
        · exact .go2 (sub x hx xe) (ih ((h.ends ok x hx).2))
    rcases g with g | g | g
    · exact touch (.inl g)
    · exact touch (.inr g)
    · exact (g q hq).mono m.1
theorem KeepI.start {ps : List Str} {rs : List Road} {s : Str} (ok : WebOk ps rs) (op : OnePiece ps rs) (hs : s ∈ ps) : KeepI ps rs s (rnm rs) ((List.range ps.length).map fun i => 1 * 2 ^ i) [] := by
  have gt : ∀ q ∈ ps, ((List.range ps.length).map fun i => 1 * 2 ^ i).getD (rk ps q) 0 = 1 * 2 ^ rk ps q := fun q hq => by
    rw [List.getD_eq_getElem?_getD, List.getElem?_map, List.getElem?_range (rk_lt hq)]
    rfl
  refine ⟨List.Perm.refl _, by rw [List.length_map, List.length_range], fun n hn => ?_, fun q hq => ?_⟩
  · obtain ⟨i, hi, rfl⟩ := List.mem_map.mp hn
    show 1 * 2 ^ i < _
    rw [Nat.one_mul]
    exact Nat.pow_lt_pow_right (by decide) (List.mem_range.mp hi)
  · have h := one_reach op hs hq
    clear hq
    induction h with
    | refl =>
      refine .base hs ?_
      unfold hasB
      rw [gt s hs, Nat.one_mul, Nat.testBit_two_pow_self]
    | @go a b t _ ht j ih =>
      have et := endsOf_mem ok.r.nd ht
      have mt : t.1 ∈ rnm rs := List.mem_map.mpr ⟨t, ht, rfl⟩
      rcases j with ⟨j1, j2⟩ | ⟨j1, j2⟩
      · rw [← j2, ← et]
        exact .go1 mt (by rw [et, j1]; exact ih)
      · rw [← j2, ← et]
        exact .go2 mt (by rw [et, j1]; exact ih)
theorem bit_and (v i : Nat) : (v / 2 ^ i) &&& 1 = (v.testBit i).toNat := by
  rw [Nat.testBit_eq_decide_div_mod_eq, Nat.and_one_is_mod]
  rcases Nat.mod_two_eq_zero_or_one (v / 2 ^ i) with h | h <;> rw [h] <;> rfl
theorem bit_q {v i : Nat} {μ : Mu} {P : DK} (q : P (.d (.int (((v.testBit i).toNat : Nat) : Int))) μ) : rdBand (.d (.int ((v / 2 ^ i : Nat) : Int))) (.d (.int 1)) μ P := band_q (m := 1) (bit_and v i) q
theorem shr_q {v i : Nat} {μ : Mu} {P : DK} (q : P (.d (.int ((v / 2 ^ i : Nat) : Int))) μ) : rdShr (.d (.int (v : Int))) (.d (.int (i : Int))) μ P := ⟨v, i, rfl, rfl, trivial, q⟩
theorem bor_q {v i : Nat} {μ : Mu} {P : DK} (q : P (.d (.int ((v ||| i : Nat) : Int))) μ) : rdBor (.d (.int (v : Int))) (.d (.int (i : Int))) μ P := ⟨v, i, rfl, rfl, trivial, q⟩
theorem shl_q {j : Nat} {μ : Mu} {P : DK} (h : j ≤ 20) (q : P (.d (.int ((1 * 2 ^ j : Nat) : Int))) μ) : rdShl (.d (.int 1)) (.d (.int (j : Int))) μ P := ⟨1, j, rfl, rfl, ⟨by omega, by decide⟩, q⟩
theorem bit_inj {a b : Bool} (h : ((a.toNat : Nat) : Int) = ((b.toNat : Nat) : Int)) : a = b := by
  cases a <;> cases b <;> first | rfl | exact absurd h (by decide)
def R_flooded : DR := fun xs μ Pk _ => ∃ ps rs r, ∃ (m : Nat) (B : Str → Bool), xs = [.d (.list (r.map (nrD ps rs))), .d (.int (m : Nat))] ∧ μ = [] ∧ WebOk ps rs ∧ (r.length ≤ 14 ∧ ∀ e ∈ r, (endsOf rs e).1 ∈ ps ∧ (endsOf rs e).2 ∈ ps) ∧ m = maskN B ps ∧
  ∀ v : Nat, v < 2 ^ ps.length → (∀ q ∈ ps, v.testBit (rk ps q) = true ↔ Fl ps rs r B q) → Pk (.d (.int (v : Nat))) []
def R_goes_out : DR := fun xs μ Pk _ => ∃ ps rs r L s, ∃ (i : Nat) (e : Str), xs = [.d (.list (r.map (nrD ps rs))), .d (bitsD L), .d (.int (rk ps s : Nat)), .d (.int (i : Nat))] ∧ μ = [] ∧ WebOk ps rs ∧ s ∈ ps ∧ (r.length ≤ 14 ∧ ∀ e ∈ r, (endsOf rs e).1 ∈ ps ∧ (endsOf rs e).2 ∈ ps) ∧ L.length = ps.length ∧ (∀ n ∈ L, n < 2 ^ ps.length) ∧ r[i]? = some e ∧
  ∀ b : Bool, (b = true ↔ goP ps rs r L s i e) → Pk (.d (.bool b)) []
section
variable {μ : Mu} {P : DK} {Ex : DX} {ps : List Str} {rs : List Road} {r : List Str} {L : List Nat} {s e : Str} {mg : Str → Option Value} {f : Addr} {i : Nat}
theorem fr_flood {B : Str → Bool} (ok : WebOk ps rs) (hr : r.length ≤ 14 ∧ ∀ e ∈ r, (endsOf rs e).1 ∈ ps ∧ (endsOf rs e).2 ∈ ps) (h : ∀ v : Nat, v < 2 ^ ps.length → (∀ q ∈ ps, v.testBit (rk ps q) = true ↔ Fl ps rs r B q) → P (.d (.int (v : Nat))) μ) :
    FR R_flooded [.d (.list (r.map (nrD ps rs))), .d (.int (maskN B ps : Nat))] μ P Ex := fr_d [_, _] ⟨ps, rs, r, _, B, rfl, rfl, ok, hr, rfl, fun v h1 h2 => bk (h v h1 h2)⟩
theorem fr_goesO (ok : WebOk ps rs) (hs : s ∈ ps) (hr : r.length ≤ 14 ∧ ∀ e ∈ r, (endsOf rs e).1 ∈ ps ∧ (endsOf rs e).2 ∈ ps) (hl : L.length = ps.length) (bd : ∀ n ∈ L, n < 2 ^ ps.length) (hi : r[i]? = some e) (h : ∀ b : Bool, (b = true ↔ goP ps rs r L s i e) → P (.d (.bool b)) μ) :
    FR R_goes_out [.d (.list (r.map (nrD ps rs))), .d (bitsD L), .d (.int (rk ps s : Nat)), .d (.int (i : Nat))] μ P Ex := fr_d [_, _, _, _] ⟨ps, rs, r, L, s, i, e, rfl, rfl, ok, hs, hr, hl, bd, hi, fun b hb => bk (h b hb)⟩
theorem fr_kb (ok : WebOk ps rs) (he : (endsOf rs e).1 ∈ ps ∧ (endsOf rs e).2 ∈ ps) (hl : L.length = ps.length) (h : P (.d (bitsD (kbL ps rs [e] L))) μ) :
    FR R_known_behind [.d (.list [numD ps rs e]), .d (bitsD L)] μ P Ex := fr_d [_, _] ⟨ps, rs, [e], L, rfl, rfl, ok, ⟨(show 1 ≤ 14 by decide), fun x hx => by rw [List.mem_singleton.mp hx]; exact he⟩, hl, bk h⟩
theorem add_lsE {a b : List PyData} (h : a.length + b.length ≤ sizeLine) (q : P (.d (.list (a ++ b))) μ) : rdAdd (.d (.list a)) (.d (.list b)) μ P := ⟨_, _, rfl, rfl, by rw [List.length_map, List.length_map]; exact h, .inl ⟨a ++ b, (List.map_append ..).symm, q⟩⟩
theorem cutE_map (h : α → PyData) (l : List α) (n : Nat) : cut (l.map h) none (some (n : Int)) = (l.take n).map h := by rw [cut_nat, List.map_take]
theorem cutE_mapF (h : α → PyData) (l : List α) (n : Nat) : cut (l.map h) (some ((n : Int) + 1)) none = (l.drop (n + 1)).map h := by rw [show (n : Int) + 1 = ((n + 1 : Nat) : Int) by rfl, cut_from, List.map_drop]
end
end Rp
set_option Elab.async false
set_option linter.all false
set_option maxRecDepth 100000
set_option maxHeartbeats 4000000
namespace Rp
open PySem PySem.Spec PyProof.Rows L2 Dl
end Rp
set_option Elab.async false
set_option linter.all false
set_option maxRecDepth 100000
set_option maxHeartbeats 4000000
namespace Rp
open PySem PySem.Spec PyProof.Rows L2 Dl
def TBin (nm : List Str) (ts : List Tie) : Prop := ∃ t0, TB nm t0 ∧ ∀ e ∈ t0, e ∈ ts
theorem TBin.more {nm : List Str} {ts : List Tie} (h : TBin nm ts) (l : List Tie) : TBin nm (ts ++ l) := by
  obtain ⟨t0, h1, h2⟩ := h
  exact ⟨t0, h1, fun e he => List.mem_append_left _ (h2 e he)⟩
theorem TB.bin {nm : List Str} {ts : List Tie} (h : TB nm ts) : TBin nm ts := ⟨ts, h, fun _ he => he⟩
theorem mkR_tie {rn : List Str} {us : List Tie} (rl : rn.length = us.length) {e : Tie} (he : e ∈ us) : ∃ t ∈ mkR rn us, t.2 = e := by
  obtain ⟨i, hi⟩ := List.mem_iff_getElem?.mp he
  have li := (List.getElem?_eq_some_iff.mp hi).1
  have ln : i < rn.length := by rw [rl]; exact li
  refine ⟨(rn[i], e.1, e.2), List.mem_of_getElem? (i := i) ?_, rfl⟩
  unfold mkR
  rw [List.getElem?_zipWith, hi, List.getElem?_eq_getElem ln]
theorem one_of {nm ps : List Str} {ts zs us : List Tie} {rn : List Str} (h : TBin nm ts) (hz : zs.Perm ts) (hf : Flips us zs) (rl : rn.length = us.length) (hp : ps.Perm nm) : OnePiece ps (mkR rn us) := by
  obtain ⟨t0, h1, h2⟩ := h
  have T : TreeOk ps (mkR (List.replicate t0.length "") t0) := tree_of h1 (List.Perm.refl _) (Flips.refl _) (by rw [List.length_replicate]) hp
  intro p hp0 q hq
  have R := T.reach (List.mem_of_getElem? hp0) q hq
  clear hq
  induction R with
  | refl => exact .refl
  | @go a b t _ ht j ih =>
    have te : t.2 ∈ t0 := (mkR_mem ht).2
    obtain ⟨e, he, hee⟩ := (Flips.mem hf).2 t.2 (hz.mem_iff.mpr (h2 _ te))
    obtain ⟨u, hu, ue⟩ := mkR_tie rl he
    refine .go ih hu ?_
    rcases hee with hee | hee
    · rw [ue, hee]
      exact j
    · rw [ue, hee]
      rcases j with ⟨j1, j2⟩ | ⟨j1, j2⟩
      · exact .inr ⟨j1, j2⟩
      · exact .inl ⟨j1, j2⟩
def R__law_sized : DR := fun xs μ Pk _ => ∃ o k, ∃ m c : Nat, xs = [.c 0, .d (.int (m : Int)), .d (.int (c : Int))] ∧ μ = [o] ∧ FD k o ∧ k < 10 ^ 16 ∧ (1 ≤ m ∧ m ≤ 10) ∧ m + c ≤ 15 ∧ ∀ ps rs o', WebOk ps rs → NamesIn ps rs → ps.length = m → OnePiece ps rs → (c = 0 → TreeOk ps rs) → rs.length ≤ m - 1 + c → FD (k + 200) o' → Pk (.d (webD ps rs)) [o']
def R__law_rotas : DR := R__law_all_rotas
end Rp
set_option Elab.async false
set_option linter.all false
set_option maxRecDepth 100000
set_option maxHeartbeats 4000000
namespace Rp
open PySem PySem.Spec PyProof.Rows L2 Dl
def insS (H : List Str) (q : Str) : List Str := if q ∈ H then H else H ++ [q]
def hvS (rs : List Road) (H : List Str) (e : Str) : List Str := if (endsOf rs e).1 ∈ H ∨ (endsOf rs e).2 ∈ H then insS (insS H (endsOf rs e).1) (endsOf rs e).2 else H
def hvL (rs : List Road) (H r : List Str) : List Str := r.foldl (hvS rs) H
def hvA (H : List Str) : List (Key × A) := dA (H.map fun q => (q, PyData.bool true))
theorem ins_mem {H : List Str} {q x : Str} : x ∈ insS H q ↔ x ∈ H ∨ x = q := by
  unfold insS
  split
  · rename_i h
    exact ⟨.inl, fun z => z.elim id fun z => by rw [z]; exact h⟩
  · rw [List.mem_append, List.mem_singleton]
theorem ins_nd {H : List Str} {q : Str} (h : H.Nodup) : (insS H q).Nodup := by
  unfold insS
  split
  · exact h
  · rename_i n
    rw [List.nodup_append]
    refine ⟨h, by simp, fun a ha b hb e => ?_⟩
    rw [List.mem_singleton] at hb
    subst hb e
    exact n ha
section
variable {ps : List Str} {rs : List Road} {r H : List Str} {e x q s : Str}
theorem hvS_mem : x ∈ hvS rs H e ↔ x ∈ H ∨ (((endsOf rs e).1 ∈ H ∨ (endsOf rs e).2 ∈ H) ∧ (x = (endsOf rs e).1 ∨ x = (endsOf rs e).2)) := by
  unfold hvS
  split
  · rename_i h
    rw [ins_mem, ins_mem, or_assoc]
    exact ⟨fun z => z.elim .inl fun z => .inr ⟨h, z⟩, fun z => z.elim .inl fun z => .inr z.2⟩
  · rename_i h
    exact ⟨.inl, fun z => z.elim id fun z => absurd z.1 h⟩
theorem hvS_nd (h : H.Nodup) : (hvS rs H e).Nodup := by
  unfold hvS
  split
  · exact ins_nd (ins_nd h)
  · exact h
theorem hvS_no (h1 : (endsOf rs e).1 ∉ H) (h2 : (endsOf rs e).2 ∉ H) : hvS rs H e = H := if_neg fun z => z.elim h1 h2
theorem hvL_snoc : hvL rs H (r ++ [e]) = hvS rs (hvL rs H r) e := by
  unfold hvL
  rw [List.foldl_append]
  rfl
theorem hvL_app {u : List Str} : hvL rs H (r ++ u) = hvL rs (hvL rs H r) u := List.foldl_append
theorem hvL_nd : ∀ (r : List Str) {H : List Str}, H.Nodup → (hvL rs H r).Nodup
  | [], _, h => h
  | _ :: r, _, h => hvL_nd r (hvS_nd h)
theorem hvL_sub : ∀ (r : List Str) {H : List Str}, (∀ e ∈ r, (endsOf rs e).1 ∈ ps ∧ (endsOf rs e).2 ∈ ps) → (∀ q ∈ H, q ∈ ps) → ∀ q ∈ hvL rs H r, q ∈ ps
  | [], _, _, h => h
  | e :: r, H, he, h => hvL_sub r (fun f hf => he f (List.mem_cons_of_mem _ hf)) fun q hq => (hvS_mem.mp hq).elim (h q) fun z => z.2.elim (fun z => by rw [z]; exact (he e List.mem_cons_self).1) fun z => by rw [z]; exact (he e List.mem_cons_self).2
theorem hvL_len (hr : ∀ e ∈ r, (endsOf rs e).1 ∈ ps ∧ (endsOf rs e).2 ∈ ps) (h : H.Nodup) (hs : ∀ q ∈ H, q ∈ ps) : (hvL rs H r).length ≤ ps.length := nd_len _ _ (hvL_nd r h) fun q hq => hvL_sub r hr hs q hq
/-- what is walked comes no further than what is joined -/
theorem fl_hv {R : List Str} {B : Str → Bool} (hR : ∀ e ∈ R, (endsOf rs e).1 ∈ ps ∧ (endsOf rs e).2 ∈ ps) : ∀ (r : List Str) {H : List Str}, (∀ e ∈ r, e ∈ R) → (∀ q ∈ H, Fl ps rs R B q) → ∀ q ∈ hvL rs H r, Fl ps rs R B q
  | [], _, _, h => h
  | e :: r, H, he, h => fl_hv hR r (fun f hf => he f (List.mem_cons_of_mem _ hf)) fun q hq => by
    have e1 := he e List.mem_cons_self
    rcases hvS_mem.mp hq with z | ⟨z, y⟩
    · exact h q z
    · have both : Fl ps rs R B (endsOf rs e).1 ∧ Fl ps rs R B (endsOf rs e).2 := by
        rcases z with z | z
        · exact ⟨h _ z, .go1 e1 (h _ z)⟩
        · exact ⟨.go2 e1 (h _ z), h _ z⟩
      rcases y with rfl | rfl
      · exact both.1
      · exact both.2
theorem Fl.less {R R' : List Str} {B : Str → Bool} (h : ∀ e ∈ R, e ∈ R') (f : Fl ps rs R B q) : Fl ps rs R' B q := by
  induction f with
  | base hq hB => exact .base hq hB
  | go1 he _ ih => exact .go1 (h _ he) ih
  | go2 he _ ih => exact .go2 (h _ he) ih
def restOf (rs : List Road) (got : List Str) (e : Str) : List Str := (rnm rs).filter fun f => decide (f ≠ e) && decide (f ∉ got)
def inB (H : List Str) (q : Str) : Bool := decide (q ∈ H)
def goF (ps : List Str) (rs : List Road) (s : Str) (got : List Str) (e : Str) : Prop :=
  (endsOf rs e).1 ∈ hvL rs [s] got ∨ (endsOf rs e).2 ∈ hvL rs [s] got ∨ ∀ q ∈ ps, Fl ps rs (restOf rs got e) (inB (hvL rs [s] got)) q
/-- each road is the first that can go -/
structure FirstW (ps : List Str) (rs : List Road) (s : Str) (r : List Str) : Prop where
  ro : RotaOk rs r
  all : ∀ q ∈ ps, q ∈ hvL rs [s] r
  low : ∀ (i : Nat) x, r[i]? = some x → ∀ e ∈ rnm rs, e ∉ r.take i → rk (rnm rs) e < rk (rnm rs) x → ¬ goF ps rs s (r.take i) e
theorem rest_of (hr : RotaOk rs r) {i : Nat} (hi : r[i]? = some x) : ∀ f ∈ r.drop (i + 1), f ∈ restOf rs (r.take i) x := fun f hf => by
  have e := cut_at hi
  have nd := hr.ok.nd
  rw [e] at nd
  obtain ⟨n1, n2, n3⟩ := List.nodup_append.mp nd
  obtain ⟨n4, n5⟩ := List.nodup_cons.mp n2
  refine List.mem_filter.mpr ⟨hr.ok.sub _ (List.mem_of_mem_drop hf), Bool.and_eq_true_iff.mpr ⟨decide_eq_true fun z => n4 (by rw [← z]; exact hf), decide_eq_true fun z => n3 _ z _ (List.mem_cons_of_mem _ hf) rfl⟩⟩
/-- where all places have it at last, each road could go -/
theorem go_all (ok : WebOk ps rs) (hs : s ∈ ps) (hr : RotaOk rs r) (all : ∀ q ∈ ps, q ∈ hvL rs [s] r) {i : Nat} (hi : r[i]? = some x) : goF ps rs s (r.take i) x := by
  refine Classical.byContradiction fun n => ?_
  have n1 : (endsOf rs x).1 ∉ hvL rs [s] (r.take i) := fun z => n (.inl z)
  have n2 : (endsOf rs x).2 ∉ hvL rs [s] (r.take i) := fun z => n (.inr (.inl z))
  refine n (.inr (.inr fun q hq => ?_))
  have h := all q hq
  rw [cut_at hi, hvL_app] at h
  have h' : q ∈ hvL rs (hvS rs (hvL rs [s] (r.take i)) x) (r.drop (i + 1)) := h
  rw [hvS_no n1 n2] at h'
  have ends : ∀ e ∈ rnm rs, (endsOf rs e).1 ∈ ps ∧ (endsOf rs e).2 ∈ ps := fun e he => ends_in ok he
  refine fl_hv (fun e he => ends e (List.mem_filter.mp he).1) _ (rest_of hr hi) (fun y hy => .base ?_ (decide_eq_true hy)) q h'
  exact hvL_sub (r.take i) (fun e he => ends e (hr.ok.sub _ (List.mem_of_mem_take he))) (fun y hy => by rw [List.mem_singleton.mp hy]; exact hs) y hy
theorem same_or {r u : List Str} : ∀ {n : Nat}, r.length = n → u.length = n → r = u ∨ ∃ (i : Nat) (x y : Str), r.take i = u.take i ∧ r[i]? = some x ∧ u[i]? = some y ∧ x ≠ y := by
  intro n
  induction n generalizing r u with
  | zero => exact fun h1 h2 => .inl (by rw [List.eq_nil_of_length_eq_zero h1, List.eq_nil_of_length_eq_zero h2])
  | succ n ih =>
    intro h1 h2
    cases r with
    | nil => cases h1
    | cons a r =>
      cases u with
      | nil => cases h2
      | cons b u =>
        by_cases e : a = b
        · subst e
          rcases ih (r := r) (u := u) (by simpa using h1) (by simpa using h2) with z | ⟨i, x, y, z1, z2, z3, z4⟩
          · exact .inl (by rw [z])
          · exact .inr ⟨i + 1, x, y, by rw [List.take_succ_cons, List.take_succ_cons, z1], z2, z3, z4⟩
        · exact .inr ⟨0, a, b, rfl, rfl, rfl, e⟩
/-- no other rota that does it has, at the first place where they differ, the earlier road -/
theorem FirstW.before {u : List Str} (ok : WebOk ps rs) (hs : s ∈ ps) (h : FirstW ps rs s r) (hu : RotaOk rs u) (all : ∀ q ∈ ps, q ∈ hvL rs [s] u) : r = u ∨ ∃ (i : Nat) (x y : Str), r.take i = u.take i ∧ r[i]? = some x ∧ u[i]? = some y ∧ rk (rnm rs) x < rk (rnm rs) y := by
  rcases same_or h.ro.len hu.len with z | ⟨i, x, y, z1, z2, z3, z4⟩
  · exact .inl z
  · refine .inr ⟨i, x, y, z1, z2, z3, ?_⟩
    refine Classical.byContradiction fun n => ?_
    have hx := h.ro.ok.sub _ (List.mem_of_getElem? z2)
    have hy := hu.ok.sub _ (List.mem_of_getElem? z3)
    have ne : rk (rnm rs) x ≠ rk (rnm rs) y := fun z => z4 ((rk_eq hx hy).mp z)
    have nin : y ∉ r.take i := fun z => by
      rw [z1] at z
      have nd := hu.ok.nd
      rw [cut_at z3] at nd
      exact (List.nodup_append.mp nd).2.2 _ z _ List.mem_cons_self rfl
    have g := go_all ok hs hu all z3
    rw [← z1] at g
    exact h.low i x z2 y hy nin (by omega) g
theorem FirstW.one {u : List Str} (ok : WebOk ps rs) (hs : s ∈ ps) (h : FirstW ps rs s r) (h' : FirstW ps rs s u) : r = u := by
  rcases h.before ok hs h'.ro h'.all with z | ⟨i, x, y, z1, z2, z3, z4⟩
  · exact z
  · have nd := h.ro.ok.nd
    rw [cut_at z2] at nd
    have nin : x ∉ u.take i := fun z => by
      rw [← z1] at z
      exact (List.nodup_append.mp nd).2.2 _ z _ List.mem_cons_self rfl
    have g := go_all ok hs h.ro h.all z2
    rw [z1] at g
    exact absurd g (h'.low i y z3 x (h.ro.ok.sub _ (List.mem_of_getElem? z2)) nin z4)
def Bef (ns : List Str) (r u : List Str) : Prop := ∃ (i : Nat) (x y : Str), r.take i = u.take i ∧ r[i]? = some x ∧ u[i]? = some y ∧ rk ns x < rk ns y
theorem pw_ns {ns : List Str} (nd : ns.Nodup) : ns.Pairwise fun a b => rk ns a < rk ns b := by
  rw [List.pairwise_iff_getElem]
  intro i j hi hj ij
  rw [rk_ix nd (List.getElem?_eq_getElem hi), rk_ix nd (List.getElem?_eq_getElem hj)]
  exact ij
theorem allR_pw {ns : List Str} (nd : ns.Nodup) : ∀ k : Nat, (allR ns k).Pairwise (Bef ns)
  | 0 => List.pairwise_singleton _ _
  | k + 1 => by
    show ((allR ns k).flatMap (longer ns)).Pairwise _
    rw [List.pairwise_flatMap]
    refine ⟨fun m hm => ?_, (allR_pw nd k).imp_of_mem fun {a b} ha hb h x hx y hy => ?_⟩
    · unfold longer
      rw [List.pairwise_map]
      refine ((pw_ns nd).sublist List.filter_sublist).imp fun {x y} xy => ⟨m.length, x, y, ?_, ?_, ?_, xy⟩
      · rw [List.take_left, List.take_left]
      · rw [List.getElem?_append_right (Nat.le_refl _), Nat.sub_self]; rfl
      · rw [List.getElem?_append_right (Nat.le_refl _), Nat.sub_self]; rfl
    · obtain ⟨i, u, v, h1, h2, h3, h4⟩ := h
      obtain ⟨n, _, _, rfl⟩ := longer_mem.mp hx
      obtain ⟨n', _, _, rfl⟩ := longer_mem.mp hy
      have l1 := (List.getElem?_eq_some_iff.mp h2).1
      have l2 := (List.getElem?_eq_some_iff.mp h3).1
      refine ⟨i, u, v, ?_, by rw [List.getElem?_append_left l1]; exact h2, by rw [List.getElem?_append_left l2]; exact h3, h4⟩
      rw [List.take_append_of_le_length (Nat.le_of_lt l1), List.take_append_of_le_length (Nat.le_of_lt l2), h1]
theorem bef_asym {ns r u : List Str} (h : Bef ns r u) : ¬ Bef ns u r := by
  rintro ⟨j, x', y', g1, g2, g3, g4⟩
  obtain ⟨i, x, y, h1, h2, h3, h4⟩ := h
  rcases Nat.lt_trichotomy i j with lt | rfl | lt
  · have a : (u.take j)[i]? = (r.take j)[i]? := by rw [g1]
    rw [List.getElem?_take_of_lt lt, List.getElem?_take_of_lt lt, h2, h3] at a
    obtain rfl := Option.some.inj a
    omega
  · rw [h3] at g2
    rw [h2] at g3
    obtain rfl := Option.some.inj g2
    obtain rfl := Option.some.inj g3
    omega
  · have a : (r.take i)[j]? = (u.take i)[j]? := by rw [h1]
    rw [List.getElem?_take_of_lt lt, List.getElem?_take_of_lt lt, g2, g3] at a
    obtain rfl := Option.some.inj a
    omega
theorem pw_head {α : Type} {R : α → α → Prop} (as : ∀ a b, R a b → ¬ R b a) {p : α → Bool} {x : α} : ∀ {l : List α}, l.Pairwise R → x ∈ l → p x = true → (∀ y ∈ l, p y = true → x = y ∨ R x y) → ∃ t, l.filter p = x :: t
  | [], _, h, _, _ => by cases h
  | a :: l, pw, h, px, low => by
    obtain ⟨p1, p2⟩ := List.pairwise_cons.mp pw
    rw [List.filter_cons]
    by_cases pa : p a = true
    · rw [if_pos pa]
      rcases low a List.mem_cons_self pa with z | z
      · exact ⟨_, by rw [z]⟩
      · rcases List.mem_cons.mp h with z2 | z2
        · exact ⟨_, by rw [z2]⟩
        · exact absurd z (as _ _ (p1 x z2))
    · rw [if_neg pa]
      rcases List.mem_cons.mp h with z2 | z2
      · rw [z2] at px
        exact absurd px pa
      · exact pw_head as p2 z2 px fun y hy => low y (List.mem_cons_of_mem _ hy)
def fullB (ps : List Str) (rs : List Road) (s : Str) (r : List Str) : Bool := decide ((hvL rs [s] r).length = ps.length)
theorem full_iff (ok : WebOk ps rs) (hs : s ∈ ps) (hr : ∀ e ∈ r, e ∈ rnm rs) : fullB ps rs s r = true ↔ ∀ q ∈ ps, q ∈ hvL rs [s] r := by
  have ends : ∀ e ∈ r, (endsOf rs e).1 ∈ ps ∧ (endsOf rs e).2 ∈ ps := fun e he => ends_in ok (hr e he)
  have sub := hvL_sub (H := [s]) r ends fun y hy => by rw [List.mem_singleton.mp hy]; exact hs
  have nd : (hvL rs [s] r).Nodup := hvL_nd r (by simp)
  unfold fullB
  rw [decide_eq_true_iff]
  constructor
  · exact fun h q hq => all_in nd sub (by omega) q hq
  · exact fun h => Nat.le_antisymm (nd_len _ _ nd sub) (nd_len _ _ ok.p.nd h)
theorem FirstW.head (ok : WebOk ps rs) (hs : s ∈ ps) (h : FirstW ps rs s r) : ∃ t, (allR (rnm rs) rs.length).filter (fullB ps rs s) = r :: t := by
  refine pw_head (R := Bef (rnm rs)) (fun a b => bef_asym) (allR_pw ok.r.nd _) (allR_rota.mpr h.ro) ((full_iff ok hs h.ro.ok.sub).mpr h.all) fun y hy py => ?_
  have ry := allR_rota.mp hy
  exact h.before ok hs ry ((full_iff ok hs ry.ok.sub).mp py)
theorem kbS_iff {L : List Nat} (hl : L.length = ps.length) (ha : (endsOf rs e).1 ∈ ps) (hb : (endsOf rs e).2 ∈ ps) (hq : q ∈ ps) :
    hasB ps (kbS ps rs L e) s q = true ↔ hasB ps L s q = true ∨ ((hasB ps L s (endsOf rs e).1 = true ∨ hasB ps L s (endsOf rs e).2 = true) ∧ (q = (endsOf rs e).1 ∨ q = (endsOf rs e).2)) := by
  have la : rk ps (endsOf rs e).1 < L.length := by rw [hl]; exact rk_lt ha
  have lb : rk ps (endsOf rs e).2 < L.length := by rw [hl]; exact rk_lt hb
  unfold hasB kbS
  by_cases z : L.getD (rk ps (endsOf rs e).1) 0 = L.getD (rk ps (endsOf rs e).2) 0
  · rw [if_pos z]
    refine ⟨.inl, fun h => h.elim id fun h => ?_⟩
    rw [z] at h
    rcases h.2 with w | w
    · rw [w, z]; exact h.1.elim id id
    · rw [w]; exact h.1.elim id id
  · rw [if_neg z, getD_set (by rw [List.length_set]; exact lb), getD_set la]
    have o : (L.getD (rk ps (endsOf rs e).1) 0 ||| L.getD (rk ps (endsOf rs e).2) 0).testBit (rk ps s) = true ↔ (L.getD (rk ps (endsOf rs e).1) 0).testBit (rk ps s) = true ∨ (L.getD (rk ps (endsOf rs e).2) 0).testBit (rk ps s) = true := by
      rw [Nat.testBit_or, Bool.or_eq_true]
    by_cases w2 : rk ps q = rk ps (endsOf rs e).2
    · rw [if_pos w2, o]
      have := (rk_eq hq hb).mp w2
      exact ⟨fun h => .inr ⟨h, .inr this⟩, fun h => h.elim (fun h => .inr (by rw [← w2]; exact h)) fun h => h.1⟩
    · rw [if_neg w2]
      by_cases w1 : rk ps q = rk ps (endsOf rs e).1
      · rw [if_pos w1, o]
        have := (rk_eq hq ha).mp w1
        exact ⟨fun h => .inr ⟨h, .inl this⟩, fun h => h.elim (fun h => .inl (by rw [← w1]; exact h)) fun h => h.1⟩
      · rw [if_neg w1]
        exact ⟨.inl, fun h => h.elim id fun h => h.2.elim (fun w => absurd (by rw [w]) w1) fun w => absurd (by rw [w]) w2⟩
theorem cut_filter {r : List Str} (nd : r.Nodup) {i : Nat} (hi : r[i]? = some e) : r.take i ++ r.drop (i + 1) = r.filter fun f => decide (f ≠ e) := by
  conv => rhs; rw [cut_at hi]
  rw [cut_at hi] at nd
  obtain ⟨n1, n2, n3⟩ := List.nodup_append.mp nd
  have n4 := (List.nodup_cons.mp n2).1
  have f1 : (r.take i).filter (fun f => decide (f ≠ e)) = r.take i := List.filter_eq_self.mpr fun f hf => decide_eq_true fun z => n3 _ hf _ List.mem_cons_self z
  have f2 : (r.drop (i + 1)).filter (fun f => decide (f ≠ e)) = r.drop (i + 1) := List.filter_eq_self.mpr fun f hf => decide_eq_true fun z => n4 (by rw [← z]; exact hf)
  rw [List.filter_append, List.filter_cons, if_neg (by simp), f1, f2]
structure KeepJ (ps : List Str) (rs : List Road) (s : Str) (r : List Str) (L : List Nat) (got : List Str) : Prop where
  I : KeepI ps rs s r L got
  rr : r = (rnm rs).filter fun f => decide (f ∉ got)
  hb : ∀ q ∈ ps, hasB ps L s q = true ↔ q ∈ hvL rs [s] got
  low : ∀ (i : Nat) x, got[i]? = some x → ∀ e ∈ rnm rs, e ∉ got.take i → rk (rnm rs) e < rk (rnm rs) x → ¬ goF ps rs s (got.take i) e
section
variable {L : List Nat} {got : List Str} {i : Nat}
theorem KeepJ.nd (ok : WebOk ps rs) (h : KeepJ ps rs s r L got) : r.Nodup := by
  rw [h.rr]
  exact ok.r.nd.sublist List.filter_sublist
theorem KeepJ.go_iff (ok : WebOk ps rs) (h : KeepJ ps rs s r L got) (hi : r[i]? = some e) : goP ps rs r L s i e ↔ goF ps rs s got e := by
  have he := List.mem_of_getElem? hi
  obtain ⟨ha, hb⟩ := h.I.ends ok e he
  have mem : ∀ f, f ∈ r.take i ++ r.drop (i + 1) ↔ f ∈ restOf rs got e := fun f => by
    rw [cut_filter (h.nd ok) hi]
    unfold restOf
    rw [h.rr, List.filter_filter, List.mem_filter]
  unfold goP goF
  rw [h.hb _ ha, h.hb _ hb]
  refine or_congr Iff.rfl (or_congr Iff.rfl (forall_congr' fun q => forall_congr' fun hq => ?_))
  constructor
  · exact fun f => (f.less fun x hx => (mem x).mp hx).mono fun x hx hB => decide_eq_true ((h.hb x hx).mp hB)
  · exact fun f => (f.less fun x hx => (mem x).mpr hx).mono fun x hx hB => (h.hb x hx).mpr (of_decide_eq_true hB)
theorem KeepJ.step (ok : WebOk ps rs) (h : KeepJ ps rs s r L got) (hi : r[i]? = some e) (g : goP ps rs r L s i e) (no : ∀ (j : Nat) f, j < i → r[j]? = some f → ¬ goP ps rs r L s j f) :
    KeepJ ps rs s (r.take i ++ r.drop (i + 1)) (kbL ps rs [e] L) (got ++ [e]) := by
  have he := List.mem_of_getElem? hi
  obtain ⟨ha, hb⟩ := h.I.ends ok e he
  refine ⟨h.I.step ok hi g, ?_, fun q hq => ?_, fun k x hx f hf nf lt => ?_⟩
  · rw [cut_filter (h.nd ok) hi, h.rr, List.filter_filter]
    refine List.filter_congr fun f _ => ?_
    rw [Bool.eq_iff_iff, Bool.and_eq_true_iff, decide_eq_true_iff, decide_eq_true_iff, decide_eq_true_iff, List.mem_append, List.mem_singleton]
    exact ⟨fun z w => w.elim z.2 z.1, fun z => ⟨fun w => z (.inr w), fun w => z (.inl w)⟩⟩
  · show hasB ps (kbS ps rs L e) s q = true ↔ _
    rw [kbS_iff h.I.len ha hb hq, hvL_snoc, hvS_mem, h.hb q hq, h.hb _ ha, h.hb _ hb]
  · rcases Nat.lt_or_ge k got.length with lk | lk
    · rw [List.getElem?_append_left lk] at hx
      rw [List.take_append_of_le_length (Nat.le_of_lt lk)] at nf ⊢
      exact h.low k x hx f hf nf lt
    · have kl := (List.getElem?_eq_some_iff.mp hx).1
      rw [List.length_append, List.length_singleton] at kl
      obtain rfl : k = got.length := by omega
      rw [List.getElem?_append_right (Nat.le_refl _), Nat.sub_self] at hx
      obtain rfl : e = x := Option.some.inj hx
      rw [List.take_left] at nf ⊢
      have fr : f ∈ r := by
        rw [h.rr]
        exact List.mem_filter.mpr ⟨hf, decide_eq_true nf⟩
      obtain ⟨j, hj⟩ := List.mem_iff_getElem?.mp fr
      have pw : r.Pairwise fun a b => rk (rnm rs) a < rk (rnm rs) b := by
        rw [h.rr]
        exact (pw_ns ok.r.nd).sublist List.filter_sublist
      rw [List.pairwise_iff_getElem] at pw
      obtain ⟨li, ei⟩ := List.getElem?_eq_some_iff.mp hi
      obtain ⟨lj, ej⟩ := List.getElem?_eq_some_iff.mp hj
      have ji : j < i := by
        rcases Nat.lt_trichotomy j i with z | z | z
        · exact z
        · subst z
          rw [ei] at ej
          subst ej
          exact absurd lt (Nat.lt_irrefl _)
        · have := pw i j li lj z
          rw [ei, ej] at this
          omega
      exact fun z => no j f ji hj ((h.go_iff ok hj).mpr z)
theorem KeepJ.start (ok : WebOk ps rs) (op : OnePiece ps rs) (hs : s ∈ ps) : KeepJ ps rs s (rnm rs) ((List.range ps.length).map fun i => 1 * 2 ^ i) [] := by
  refine ⟨KeepI.start ok op hs, ?_, fun q hq => ?_, fun i x h => by cases h⟩
  · exact (List.filter_eq_self.mpr fun f _ => rfl).symm
  · show hasB ps _ s q = true ↔ q ∈ [s]
    unfold hasB
    rw [List.getD_eq_getElem?_getD, List.getElem?_map, List.getElem?_range (rk_lt hq), List.mem_singleton]
    show (1 * 2 ^ rk ps q).testBit (rk ps s) = true ↔ _
    rw [Nat.one_mul, Nat.testBit_two_pow, decide_eq_true_iff]
    exact rk_eq hq hs
theorem KeepJ.fin (ok : WebOk ps rs) (h : KeepJ ps rs s [] L got) : FirstW ps rs s got := by
  refine ⟨rota_of ok.r.nd (by have := h.I.pm; rwa [List.append_nil] at this), fun q hq => (h.hb q hq).mp ?_, h.low⟩
  have f := h.I.all q hq
  clear hq
  induction f with
  | base _ hB => exact hB
  | go1 he _ _ => cases he
  | go2 he _ _ => cases he
end
def R_need_one_pieceW (mg : Str → Option Value) : DR := fun xs μ Pk Ex => ∃ x, xs = [.d x] ∧ μ = [] ∧ ((∃ ps rs, x = webD ps rs ∧ WebOk ps rs ∧ ((OnePiece ps rs ∧ Pk (.d .none) []) ∨ (¬ OnePiece ps rs ∧ Ex (errV mg "BadPieces") none []))) ∨ (plainB x = true ∧ webB x = false ∧ Ex (errV mg "BadWeb") none []))
/-- a web of one piece and a place of it, or what is wrong first -/
def OneB (mg : Str → Option Value) (a b : PyData) (Ex : DX) (P : List Str → List Road → Str → Prop) : Prop :=
  (∃ ps rs s, a = webD ps rs ∧ b = .str s ∧ WebOk ps rs ∧ OnePiece ps rs ∧ s ∈ ps ∧ P ps rs s) ∨ (plainB a = true ∧ webB a = false ∧ Ex (errV mg "BadWeb") none []) ∨ (∃ ps rs, a = webD ps rs ∧ WebOk ps rs ∧ ¬ OnePiece ps rs ∧ Ex (errV mg "BadPieces") none []) ∨
  (∃ ps rs, a = webD ps rs ∧ WebOk ps rs ∧ OnePiece ps rs ∧ placeB ps b = false ∧ Ex (errV mg "BadPlace") none [])
def R_best_fromX (mg : Str → Option Value) : DR := fun xs μ Pk Ex => ∃ a b, xs = [.d a, .d b] ∧ μ = [] ∧ OneB mg a b Ex fun ps rs s => ∀ r, FirstW ps rs s r → Pk (.d (roundD r)) []
def R__law_walked : DR := fun xs μ Pk _ => ∃ ps rs r H y, xs = [.d (webD ps rs), .d y, .c 0] ∧ μ = [.dct (hvA H)] ∧ WebOk ps rs ∧ (y = roundD r ∨ y = .list (r.map .str)) ∧ (∀ e ∈ r, e ∈ rnm rs) ∧ r.length ≤ 14 ∧ H.Nodup ∧ (∀ q ∈ H, q ∈ ps) ∧ Pk (.c 1) [.dct (hvA H), .dct (hvA (hvL rs H r))]
def R__law_flags44 : DR := fun xs μ Pk _ => ∃ a b, xs = [.d a, .d b] ∧ μ = [] ∧ ((plainB a = true ∧ webB a = false ∧ Pk (.d (.list [.bool true, .bool false, .bool false])) []) ∨ (∃ ps rs, a = webD ps rs ∧ WebOk ps rs ∧ ¬ OnePiece ps rs ∧ Pk (.d (.list [.bool false, .bool true, .bool false])) []) ∨
  (∃ ps rs, a = webD ps rs ∧ WebOk ps rs ∧ OnePiece ps rs ∧ placeB ps b = false ∧ Pk (.d (.list [.bool false, .bool false, .bool true])) []))
def R__law_no_web : DR := fun xs μ Pk _ => ∃ o k ps rs, xs = [.c 0, .d (webD ps rs)] ∧ μ = [o] ∧ WebOk ps rs ∧ NamesIn ps rs ∧ FD k o ∧ k < 10 ^ 17 ∧ ∀ x o', plainB x = true → webB x = false → FD (k + 1) o' → Pk (.d x) [o']
/-- a web of several pieces, or what is none -/
def BadW (x : PyData) (b : Bool) : Prop := (b = true ∧ ∃ ps rs, x = webD ps rs ∧ WebOk ps rs ∧ ¬ OnePiece ps rs) ∨ (b = false ∧ plainB x = true ∧ webB x = false)
def R__law_bad_web44 : DR := fun xs μ Pk _ => ∃ o k ps rs, xs = [.c 0, .d (webD ps rs)] ∧ μ = [o] ∧ WebOk ps rs ∧ NamesIn ps rs ∧ FD k o ∧ k < 10 ^ 16 ∧ ∀ x b o', BadW x b → FD (k + 10) o' → Pk (.d (.tuple [x, .bool b])) [o']
def R__law_bad_place44 : DR := fun xs μ Pk _ => ∃ o k ps rs, xs = [.c 0, .d (webD ps rs)] ∧ μ = [o] ∧ WebOk ps rs ∧ NamesIn ps rs ∧ FD k o ∧ k < 10 ^ 17 ∧ ∀ x o', plainB x = true → placeB ps x = false → FD (k + 1) o' → Pk (.d x) [o']
end
theorem dO_hv (H : List Str) : dO (.dct (hvA H)) := fun x hx => by
  obtain ⟨y, hy, rfl⟩ := List.mem_map.mp hx
  exact ⟨_, rfl⟩
theorem old_hv {n : Nat} (H : List Str) : oldO n (.dct (hvA H)) := fun x hx => by
  obtain ⟨y, hy, rfl⟩ := List.mem_map.mp hx
  trivial
theorem hv_in (H : List Str) (q : Str) : (valA (hvA H) (.inr q)).isSome = decide (q ∈ H) := by
  rw [Bool.eq_iff_iff, decide_eq_true_iff]
  unfold valA hvA dA
  rw [Option.isSome_map, List.find?_isSome]
  constructor
  · rintro ⟨x, hx, e⟩
    rw [List.map_map] at hx
    obtain ⟨y, hy, rfl⟩ := List.mem_map.mp hx
    have : (Sum.inr y : Key) = Sum.inr q := by simpa using e
    rw [← Sum.inr.inj this]
    exact hy
  · exact fun h => ⟨(.inr q, .d (.bool true)), by rw [List.map_map]; exact List.mem_map.mpr ⟨q, h, rfl⟩, by simp⟩
theorem hv_len (H : List Str) : (hvA H).length = H.length := by
  unfold hvA dA
  rw [List.length_map, List.length_map]
theorem hvS_tell {rs : List Road} {H : List Str} {e a b : Str} (h : endsOf rs e = (a, b)) : hvS rs H e = if a ∈ H ∨ b ∈ H then insS (insS H a) b else H := by
  unfold hvS
  rw [h]
theorem hv_put {H : List Str} {q : Str} : putA (hvA H) (.inr q) (.d (.bool true)) = hvA (insS H q) := by
  unfold insS
  split
  · rename_i h
    unfold putA
    rw [show ((hvA H).any fun p => decide (p.1 = Sum.inr q)) = true from ?_, if_pos rfl]
    · unfold hvA dA
      rw [List.map_map, List.map_map, List.map_map]
      refine List.map_congr_left fun x _ => ?_
      show (if (Sum.inr x : Key) = Sum.inr q then ((Sum.inr x : Key), Dl.A.d (.bool true)) else (Sum.inr x, .d (.bool true))) = (Sum.inr x, .d (.bool true))
      split <;> rfl
    · refine List.any_eq_true.mpr ⟨(.inr q, .d (.bool true)), ?_, by simp⟩
      unfold hvA dA
      rw [List.map_map]
      exact List.mem_map.mpr ⟨q, h, rfl⟩
  · rename_i h
    unfold hvA dA
    rw [List.map_map, List.map_map, putA_new fun x hx e => ?_, List.map_append]
    · rfl
    · exact h (by rw [← Sum.inr.inj e]; exact hx)
theorem ins_len {H : List Str} {q : Str} : (insS H q).length ≤ H.length + 1 := by
  unfold insS
  split
  · exact Nat.le_succ _
  · rw [List.length_append, List.length_singleton]
    exact Nat.le_refl _
theorem noq : ∀ s ∈ names14, (s ++ "q" : Str) ∉ names14 := by decide
theorem ix_ngT {ds : List PyData} {z : PyData} {μ : Mu} {P : DK} (h1 : 1 ≤ ds.length) (e : ds[ds.length - 1]? = some z) (q : P (.d z) μ) : rdIx (.d (.tuple ds)) (.d (.int (-1))) μ P := ⟨_, rfl, .inl ⟨ds, _, .inr rfl, atI_neg (j := 1) (by decide) h1 e, q⟩⟩
theorem ne_selfL {xs : List Str} {μ : Mu} {P : DK} (hx : ∀ s ∈ xs, NameOk s) (q : P (.d (.bool false)) μ) : rdEq true (.d (.list (xs.map .str))) (.d (.list (xs.map .str))) μ P := eq_selfD (strs_shaped hx) q
theorem rota_pmF {ps : List Str} {rs : List Road} {r : List Str} (ok : WebOk ps rs) (hr : RotaOk rs r) : r.Perm (rnm rs) := (List.perm_ext_iff_of_nodup hr.ok.nd ok.r.nd).mpr fun x => ⟨hr.ok.sub x, fun hx => rota_mem hr hx⟩
theorem dO_two {H J : List Str} : ∀ o ∈ [O.dct (hvA H), O.dct (hvA J)], dO o := fun o ho => by
  rcases List.mem_cons.mp ho with rfl | ho
  · exact dO_hv _
  · rw [List.mem_singleton.mp ho]
    exact dO_hv _
theorem fr_walked {μ : Mu} {P : DK} {Ex : DX} {n : Nat} {ps : List Str} {rs : List Road} {r H : List Str} {y : PyData} (h : μ[n]? = some (.dct (hvA H))) (ok : WebOk ps rs) (hy : y = roundD r ∨ y = .list (r.map .str)) (sub : ∀ e ∈ r, e ∈ rnm rs) (r14 : r.length ≤ 14) (nd : H.Nodup) (inn : ∀ q ∈ H, q ∈ ps)
    (k : P (.c μ.length) (μ ++ [.dct (hvA (hvL rs H r))])) : FR R__law_walked [.d (webD ps rs), .d y, .c n] μ P Ex :=
  fr_mid [_, _] [] h (dO_hv H) ⟨ps, rs, r, H, y, rfl, rfl, ok, hy, sub, r14, nd, inn, dO_two, by
    rw [show Dl.putAll μ [n] [O.dct (hvA H), O.dct (hvA (hvL rs H r))] = μ from Rp.set_self h]
    exact k⟩
theorem eqv_nilT (l : List PyData) : PyData.eqv (.tuple l) (.tuple []) = decide (l = []) := by
  cases l <;> simp [PyData.eqv, PyData.eqvAll]
theorem ne_nilTu {l : List PyData} {μ : Mu} {P : DK} (s : SeqAt.shaped (.tuple l) = true) (q : P (.d (.bool (true ^^ decide (l = [])))) μ) : rdEq true (.d (.tuple l)) (.d (.tuple [])) μ P := ⟨_, _, rfl, rfl, s, rfl, by rw [eqv_nilT]; exact q⟩
theorem map_mix {α β γ : Type} {f : Nat → α → β} {g : β → γ} (l : List α) : (l.mapIdx f).map g = l.mapIdx fun i x => g (f i x) := by
  refine List.ext_getElem? fun i => ?_
  rw [List.getElem?_map, List.getElem?_mapIdx, List.getElem?_mapIdx, Option.map_map]
  rfl
theorem mix_map {α β γ : Type} {f : Nat → β → γ} {h : α → β} (l : List α) : (l.map h).mapIdx f = l.mapIdx fun i x => f i (h x) := by
  refine List.ext_getElem? fun i => ?_
  rw [List.getElem?_mapIdx, List.getElem?_map, List.getElem?_mapIdx, Option.map_map]
  rfl
def nw3 (i : Nat) : Str := ("new" : Str) ++ (toString (i : Int) : String)
theorem nw3_ok : ∀ m : Nat, m < 3 → okB (nw3 m) = true := by decide +kernel
theorem nw3_no : ∀ m : Nat, m < 3 → nw3 m ∉ names14 := by decide +kernel
theorem nw3_inj : ∀ m : Nat, m < 3 → ∀ n : Nat, n < 3 → nw3 m = nw3 n → m = n := by
  have h : ∀ m : Nat, m < 3 → ∀ n : Nat, n < 3 → (nw3 m == nw3 n) = decide (m = n) := by decide +kernel
  intro m hm n hn e
  have := h m hm n hn
  rw [e, beq_self_eq_true] at this
  exact of_decide_eq_true this.symm
def twR (R : List Road) : List Road := R.mapIdx fun i t => (nw3 i, t.2.1, t.2.2)
def lonePs (ps : List Str) : List Str := ps.take 9 ++ [("lone9" : Str)]
def keptR (ps : List Str) (rs : List Road) : List Road := rs.filter fun t => decide (t.2.1 ∈ ps.take 9) && decide (t.2.2 ∈ ps.take 9)
theorem lone_web {ps : List Str} {rs : List Road} (ok : WebOk ps rs) (ni : NamesIn ps rs) {a : Nat} (a3 : a ≤ 3) (ha : (keptR ps rs).length + a ≤ 14) :
    WebOk (lonePs ps) (keptR ps rs ++ twR ((keptR ps rs).take a)) ∧ ¬ OnePiece (lonePs ps) (keptR ps rs ++ twR ((keptR ps rs).take a)) := by
  have nw : ("lone9" : Str) ∉ ps := fun h => absurd (ni.p _ h) (by decide)
  have sub : ∀ t ∈ keptR ps rs, t ∈ rs ∧ t.2.1 ∈ ps.take 9 ∧ t.2.2 ∈ ps.take 9 := fun t ht => by
    have := List.mem_filter.mp ht
    have h2 := Bool.and_eq_true_iff.mp this.2
    exact ⟨this.1, of_decide_eq_true h2.1, of_decide_eq_true h2.2⟩
  have tw : ∀ t ∈ twR ((keptR ps rs).take a), ∃ i u, i < 3 ∧ u ∈ keptR ps rs ∧ t = (nw3 i, u.2.1, u.2.2) := fun t ht => by
    obtain ⟨i, hi, rfl⟩ := List.mem_mapIdx.mp ht
    rw [List.length_take] at hi
    exact ⟨i, _, by omega, List.mem_of_mem_take (List.getElem_mem _), rfl⟩
  have ends : ∀ t ∈ keptR ps rs ++ twR ((keptR ps rs).take a), t.2.1 ∈ ps.take 9 ∧ t.2.2 ∈ ps.take 9 ∧ t.2.1 ≠ t.2.2 := fun t ht => by
    rcases List.mem_append.mp ht with h | h
    · exact ⟨(sub t h).2.1, (sub t h).2.2, ok.r.ne t (sub t h).1⟩
    · obtain ⟨i, u, _, hu, rfl⟩ := tw t h
      exact ⟨(sub u hu).2.1, (sub u hu).2.2, ok.r.ne u (sub u hu).1⟩
  refine ⟨⟨⟨by unfold lonePs; rw [List.length_append]; exact Nat.le_add_left _ _, by unfold lonePs; rw [List.length_append, List.length_take]; show _ + 1 ≤ 10; omega, fun p hp => ?_, ?_⟩, ⟨?_, fun t ht => ?_, fun t ht => List.mem_append_left _ (ends t ht).1, fun t ht => List.mem_append_left _ (ends t ht).2.1, fun t ht => (ends t ht).2.2, ?_⟩⟩, fun op => ?_⟩
  · rcases List.mem_append.mp hp with h | h
    · exact ok.p.nm p (List.mem_of_mem_take h)
    · rw [List.mem_singleton.mp h]
      exact okB_ok (by decide +kernel)
  · unfold lonePs
    rw [List.nodup_append]
    refine ⟨ok.p.nd.sublist (List.take_sublist ..), by simp, fun x hx y hy e => ?_⟩
    rw [List.mem_singleton.mp hy] at e
    rw [e] at hx
    exact nw (List.mem_of_mem_take hx)
  · unfold twR
    rw [List.length_append, List.length_mapIdx, List.length_take]
    omega
  · rcases List.mem_append.mp ht with h | h
    · exact ok.r.nm t (sub t h).1
    · obtain ⟨i, u, hi, hu, rfl⟩ := tw t h
      exact okB_ok (nw3_ok i hi)
  · unfold rnm
    rw [List.map_append, List.nodup_append]
    refine ⟨ok.r.nd.sublist (List.Sublist.map _ List.filter_sublist), ?_, fun x hx y hy e => ?_⟩
    · unfold twR
      rw [map_mix]
      refine List.pairwise_iff_getElem.mpr fun i j hi hj ij e => ?_
      rw [List.length_mapIdx, List.length_take] at hj
      rw [List.getElem_mapIdx, List.getElem_mapIdx] at e
      have := nw3_inj i (by omega) j (by omega) e
      omega
    · obtain ⟨t, ht, rfl⟩ := List.mem_map.mp hx
      obtain ⟨u, hu, rfl⟩ := List.mem_map.mp hy
      obtain ⟨i, v, hi, hv, rfl⟩ := tw u hu
      have e' : t.1 = nw3 i := e
      exact nw3_no i hi (by rw [← e']; exact ni.r _ (List.mem_map.mpr ⟨t, (sub t ht).1, rfl⟩))
  · obtain ⟨p, hp⟩ : ∃ p, ps[0]? = some p := ⟨_, List.getElem?_eq_getElem (show 0 < ps.length from ok.p.one)⟩
    have hp2 : (lonePs ps)[0]? = some p := by
      unfold lonePs
      rw [List.getElem?_append_left (by rw [List.length_take]; have := ok.p.one; omega), List.getElem?_take_of_lt (by decide)]
      exact hp
    have R := op p hp2 "lone9" (List.mem_append_right _ (List.mem_singleton.mpr rfl))
    generalize hz : ("lone9" : Str) = z at R
    cases R with
    | refl => exact nw (by rw [hz]; exact List.mem_of_getElem? hp)
    | go _ ht j =>
      rcases j with ⟨_, j⟩ | ⟨_, j⟩
      · exact nw (by rw [hz, ← j]; exact List.mem_of_mem_take (ends _ ht).2.1)
      · exact nw (by rw [hz, ← j]; exact List.mem_of_mem_take (ends _ ht).1)
theorem fr_noweb {μ : Mu} {P : DK} {Ex : DX} {n : Nat} {o : O} {k : Int} {ps : List Str} {rs : List Road} (h : μ[n]? = some o) (hk : FD k o) (k1 : k < 10 ^ 17) (ok : WebOk ps rs) (ni : NamesIn ps rs) (q : ∀ x o', plainB x = true → webB x = false → FD (k + 1) o' → P (.d x) (μ.set n o')) : FR R__law_no_web [.c n, .d (webD ps rs)] μ P Ex :=
  fr_feed [_] h hk.dO ⟨o, k, ps, rs, rfl, rfl, ok, ni, hk, k1, fun x o' h1 h2 hk' => bkf hk'.dO (q x o' h1 h2 hk')⟩
theorem fr_badweb44 {μ : Mu} {P : DK} {Ex : DX} {n : Nat} {o : O} {k : Int} {ps : List Str} {rs : List Road} (h : μ[n]? = some o) (hk : FD k o) (k1 : k < 10 ^ 16) (ok : WebOk ps rs) (ni : NamesIn ps rs) (q : ∀ x b o', BadW x b → FD (k + 10) o' → P (.d (.tuple [x, .bool b])) (μ.set n o')) : FR R__law_bad_web44 [.c n, .d (webD ps rs)] μ P Ex :=
  fr_feed [_] h hk.dO ⟨o, k, ps, rs, rfl, rfl, ok, ni, hk, k1, fun x b o' h1 hk' => bkf hk'.dO (q x b o' h1 hk')⟩
theorem fr_badplace44 {μ : Mu} {P : DK} {Ex : DX} {n : Nat} {o : O} {k : Int} {ps : List Str} {rs : List Road} (h : μ[n]? = some o) (hk : FD k o) (k1 : k < 10 ^ 17) (ok : WebOk ps rs) (ni : NamesIn ps rs) (q : ∀ x o', plainB x = true → placeB ps x = false → FD (k + 1) o' → P (.d x) (μ.set n o')) : FR R__law_bad_place44 [.c n, .d (webD ps rs)] μ P Ex :=
  fr_feed [_] h hk.dO ⟨o, k, ps, rs, rfl, rfl, ok, ni, hk, k1, fun x o' h1 h2 hk' => bkf hk'.dO (q x o' h1 h2 hk')⟩
section
variable {μ : Mu} {P : DK} {Ex : DX} {n : Nat} {o : O} {k : Int} {ps : List Str} {rs : List Road} {r : List Str} {s : Str} {mg : Str → Option Value} {a b : PyData}
theorem fr_sized44 {m c : Nat} (h : μ[n]? = some o) (hk : FD k o) (k1 : k < 10 ^ 16) (hm : 1 ≤ m ∧ m ≤ 10) (hc : m + c ≤ 15) (q : ∀ ps rs o', WebOk ps rs → NamesIn ps rs → ps.length = m → OnePiece ps rs → (c = 0 → TreeOk ps rs) → rs.length ≤ m - 1 + c → FD (k + 200) o' → P (.d (webD ps rs)) (μ.set n o')) : FR R__law_sized [.c n, .d (.int (m : Int)), .d (.int (c : Int))] μ P Ex :=
  fr_feed [_, _] h hk.dO ⟨o, k, m, c, rfl, rfl, hk, k1, hm, hc, fun ps rs o' h1 h2 h3 h4 h5 h6 hk' => bkf hk'.dO (q ps rs o' h1 h2 h3 h4 h5 h6 hk')⟩
theorem fr_rotas44 (ok : WebOk ps rs) (r6 : rs.length ≤ 6) (h : P (.d (rotasD rs)) μ) : FR R__law_rotas [.d (webD ps rs)] μ P Ex := fr_d [_] ⟨ps, rs, rfl, rfl, ok, r6, bk h⟩
theorem fr_best44 (ok : WebOk ps rs) (op : OnePiece ps rs) (hs : s ∈ ps) (h : ∀ r, FirstW ps rs s r → P (.d (roundD r)) μ) : FR (R_best_fromX mg) [.d (webD ps rs), .d (.str s)] μ P Ex :=
  fr_d [_, _] ⟨_, _, rfl, rfl, .inl ⟨ps, rs, s, rfl, rfl, ok, op, hs, fun r hr => bk (h r hr)⟩⟩
theorem fr_flags44 (h : (plainB a = true ∧ webB a = false ∧ P (.d (.list [.bool true, .bool false, .bool false])) μ) ∨ (∃ ps rs, a = webD ps rs ∧ WebOk ps rs ∧ ¬ OnePiece ps rs ∧ P (.d (.list [.bool false, .bool true, .bool false])) μ) ∨
    (∃ ps rs, a = webD ps rs ∧ WebOk ps rs ∧ OnePiece ps rs ∧ placeB ps b = false ∧ P (.d (.list [.bool false, .bool false, .bool true])) μ)) : FR R__law_flags44 [.d a, .d b] μ P Ex := by
  refine fr_d [_, _] ⟨a, b, rfl, rfl, ?_⟩
  rcases h with ⟨h1, h2, h⟩ | ⟨ps, rs, h1, h2, h3, h⟩ | ⟨ps, rs, h1, h2, h3, h4, h⟩
  · exact .inl ⟨h1, h2, bk h⟩
  · exact .inr (.inl ⟨ps, rs, h1, h2, h3, bk h⟩)
  · exact .inr (.inr ⟨ps, rs, h1, h2, h3, h4, bk h⟩)
end
theorem round_sh {ps : List Str} {rs : List Road} {r : List Str} (ok : WebOk ps rs) (hr : RotaOk rs r) : Shown (roundD r) := by
  refine (smlB_tup (ds := r.map .str) (fun z hz => ?_) (by rw [List.length_map]; have := hr.len; have := ok.r.most; omega)).shown
  obtain ⟨s, hs, rfl⟩ := List.mem_map.mp hz
  obtain ⟨t, ht, rfl⟩ := List.mem_map.mp (hr.ok.sub s hs)
  exact sml_name (ok.r.nm t ht)
theorem plain_round {ps : List Str} {rs : List Road} {r : List Str} (ok : WebOk ps rs) (hr : RotaOk rs r) : plainB (roundD r) = true := plainS (by have := hr.len; have := ok.r.most; omega) fun s hs => by
  obtain ⟨t, ht, rfl⟩ := List.mem_map.mp (hr.ok.sub s hs)
  exact name_1000 (ok.r.nm t ht)
theorem seq_cutB {A R : DS} {D : DEnds} {ρ : Rho} {μ : Mu} (Q : Rho → Mu → Prop) (h1 : ∀ N : RM, (∀ ρ' μ', Q ρ' μ' → N ρ' μ') → A { nx := N, rt := D.rt, bk := D.bk, ct := D.ct, ex := D.ex } ρ μ) (h2 : ∀ ρ' μ', Q ρ' μ' → R D ρ' μ') : dsSeq A R D ρ μ := h1 _ h2
theorem tgtN {i j l : Nat} {a b c : PyData} {ρ : Rho} {μ : Mu} {P : RM} (q : P (((ρ.set i (some (.d a))).set j (some (.d b))).set l (some (.d c))) μ) : dgTup 2 (dgCons (dgTup 2 (dgCons (dgName i) (dgCons (dgName j) dgNil))) (dgCons (dgName l) dgNil)) (.one (.d (.tuple [.tuple [a, b], c]))) ρ μ P :=
  ⟨_, rfl, rfl, _, _, rfl, ⟨_, rfl, rfl, _, _, rfl, _, rfl, _, _, rfl, _, rfl, rfl, _, _, rfl, _, rfl, rfl, q⟩⟩
theorem fl3_shaped (a b c : Bool) : SeqAt.shaped (.list [.bool a, .bool b, .bool c]) = true := by rfl
theorem keep1 {P : DK} {l : Mu} {j : Nat} {o0 o : O} (e0 : l[0]? = some o0) (h0 : oldO 1 o0) (e : l[j]? = some o) (ho : oldO 1 o) (j1 : 1 ≤ j) (h : P (.c 1) [o0, o]) : RetD 1 P (.c j) l := by
  refine ⟨some j, .c 1, [o0, o], .inr (.inr (.inl ⟨_, rfl, rfl, rfl⟩)), ⟨fun i z => ?_, rfl, fun i u lt z => ?_, fun i u z z2 => ?_⟩, h⟩
  · obtain rfl := Option.some.inj z
    exact ⟨j1, (List.getElem?_eq_some_iff.mp e).1⟩
  · obtain rfl : i = 0 := by omega
    obtain rfl : o0 = u := Option.some.inj z
    exact ⟨_, e0, rfyO_old h0⟩
  · obtain rfl := Option.some.inj z
    obtain rfl : o = u := Option.some.inj z2
    exact ⟨_, e, rfyO_old ho⟩
section
variable {μ : Mu} {P : DK} {Ex : DX} {ps : List Str} {rs : List Road} {r : List Str} {s : Str} {mg : Str → Option Value} {f : Addr}
theorem fr_needW (ok : WebOk ps rs) (k : P (.d .none) μ) : FR (R_need_webX mg) [.d (webD ps rs)] μ P Ex := fr_d [_] ⟨_, rfl, rfl, plain_web ok, fun _ => ⟨noO, (bk k).2⟩, fun e => by rw [web_okB ok] at e; cases e⟩
end
end Rp
set_option Elab.async false
set_option linter.all false
set_option maxRecDepth 100000
set_option maxHeartbeats 4000000
namespace Rp
open PySem PySem.Spec PyProof.Rows L2 Dl
section
variable {ps : List Str} {rs : List Road} {r R H G got : List Str} {e f x q s a b : Str}
def eqB (s q : Str) : Bool := decide (q = s)
/-- over the roads R, joined with s -/
abbrev Hm (ps : List Str) (rs : List Road) (R : List Str) (s q : Str) : Prop := Fl ps rs R (eqB s) q
def homF (ps : List Str) (rs : List Road) (s : Str) (got : List Str) (e : Str) : Prop :=
  ∀ x ∈ ps, (endsOf rs e).1 ∈ hvL rs [x] got ∨ (endsOf rs e).2 ∈ hvL rs [x] got ∨ ∃ q ∈ ps, Hm ps rs (restOf rs got e) s q ∧ q ∈ hvL rs [x] got
structure FirstH (ps : List Str) (rs : List Road) (s : Str) (r : List Str) : Prop where
  ro : RotaOk rs r
  all : ∀ x ∈ ps, s ∈ hvL rs [x] r
  low : ∀ (i : Nat) x, r[i]? = some x → ∀ e ∈ rnm rs, e ∉ r.take i → rk (rnm rs) e < rk (rnm rs) x → ¬ homF ps rs s (r.take i) e
theorem hm_of (hR : ∀ e ∈ R, (endsOf rs e).1 ∈ ps ∧ (endsOf rs e).2 ∈ ps) (hs : s ∈ ps) : ∀ (l : List Str) {H : List Str}, (∀ e ∈ l, e ∈ R) → s ∈ hvL rs H l → ∃ q ∈ H, Hm ps rs R s q
  | [], H, _, h => ⟨s, h, .base hs (decide_eq_true rfl)⟩
  | e :: l, H, sub, h => by
    obtain ⟨q, hq, f⟩ := hm_of hR hs l (fun f hf => sub f (List.mem_cons_of_mem _ hf)) h
    have e1 := sub e List.mem_cons_self
    rcases hvS_mem.mp hq with z | ⟨z, y⟩
    · exact ⟨q, z, f⟩
    · have both : Hm ps rs R s (endsOf rs e).1 ∧ Hm ps rs R s (endsOf rs e).2 := by
        rcases y with rfl | rfl
        · exact ⟨f, .go1 e1 f⟩
        · exact ⟨.go2 e1 f, f⟩
      rcases z with z | z
      · exact ⟨_, z, both.1⟩
      · exact ⟨_, z, both.2⟩
theorem hom_all (ok : WebOk ps rs) (hs : s ∈ ps) (hr : RotaOk rs r) (all : ∀ x ∈ ps, s ∈ hvL rs [x] r) {i : Nat} (hi : r[i]? = some e) : homF ps rs s (r.take i) e := fun x hx => by
  have h := all x hx
  rw [cut_at hi, hvL_app] at h
  have h' : s ∈ hvL rs (hvS rs (hvL rs [x] (r.take i)) e) (r.drop (i + 1)) := h
  have ends : ∀ e ∈ rnm rs, (endsOf rs e).1 ∈ ps ∧ (endsOf rs e).2 ∈ ps := fun e he => ends_in ok he
  obtain ⟨q, hq, f⟩ := hm_of (R := restOf rs (r.take i) e) (fun e he => ends e (List.mem_filter.mp he).1) hs _ (rest_of hr hi) h'
  rcases hvS_mem.mp hq with z | ⟨z, y⟩
  · refine .inr (.inr ⟨q, ?_, f, z⟩)
    exact hvL_sub (r.take i) (fun e he => ends e (hr.ok.sub _ (List.mem_of_mem_take he))) (fun y hy => by rw [List.mem_singleton.mp hy]; exact hx) q z
  · exact z.elim .inl fun z => .inr (.inl z)
theorem FirstH.before {u : List Str} (ok : WebOk ps rs) (hs : s ∈ ps) (h : FirstH ps rs s r) (hu : RotaOk rs u) (all : ∀ x ∈ ps, s ∈ hvL rs [x] u) : r = u ∨ Bef (rnm rs) r u := by
  rcases same_or h.ro.len hu.len with z | ⟨i, x, y, z1, z2, z3, z4⟩
  · exact .inl z
  · refine .inr ⟨i, x, y, z1, z2, z3, ?_⟩
    refine Classical.byContradiction fun n => ?_
    have hx := h.ro.ok.sub _ (List.mem_of_getElem? z2)
    have hy := hu.ok.sub _ (List.mem_of_getElem? z3)
    have ne : rk (rnm rs) x ≠ rk (rnm rs) y := fun z => z4 ((rk_eq hx hy).mp z)
    have nin : y ∉ r.take i := fun z => by
      rw [z1] at z
      have nd := hu.ok.nd
      rw [cut_at z3] at nd
      exact (List.nodup_append.mp nd).2.2 _ z _ List.mem_cons_self rfl
    have g := hom_all ok hs hu all z3
    rw [← z1] at g
    exact h.low i x z2 y hy nin (by omega) g
theorem FirstH.one {u : List Str} (ok : WebOk ps rs) (hs : s ∈ ps) (h : FirstH ps rs s r) (h' : FirstH ps rs s u) : r = u := by
  rcases h.before ok hs h'.ro h'.all with z | z
  · exact z
  · rcases h'.before ok hs h.ro h.all with y | y
    · exact y.symm
    · exact absurd y (bef_asym z)
def homB (ps : List Str) (rs : List Road) (s : Str) (r : List Str) : Bool := ps.all fun x => decide (s ∈ hvL rs [x] r)
theorem homB_iff : homB ps rs s r = true ↔ ∀ x ∈ ps, s ∈ hvL rs [x] r := by
  unfold homB
  rw [List.all_eq_true]
  exact forall_congr' fun x => forall_congr' fun _ => decide_eq_true_iff
theorem FirstH.head (ok : WebOk ps rs) (hs : s ∈ ps) (h : FirstH ps rs s r) : ∃ t, (allR (rnm rs) rs.length).filter (homB ps rs s) = r :: t :=
  pw_head (R := Bef (rnm rs)) (fun a b => bef_asym) (allR_pw ok.r.nd _) (allR_rota.mpr h.ro) (homB_iff.mpr h.all) fun y hy py => h.before ok hs (allR_rota.mp hy) (homB_iff.mp py)
/-- backwards: a paper comes from x to s just if, backwards, one comes from s to x -/
theorem hv_back : ∀ (r : List Str) {H : List Str}, s ∈ hvL rs H r ↔ ∃ q ∈ H, q ∈ hvL rs [s] r.reverse
  | [], H => ⟨fun h => ⟨s, h, List.mem_singleton.mpr rfl⟩, fun ⟨q, h1, h2⟩ => by rw [← List.mem_singleton.mp h2]; exact h1⟩
  | e :: l, H => by
    show s ∈ hvL rs (hvS rs H e) l ↔ _
    rw [hv_back l, List.reverse_cons, hvL_snoc]
    generalize hvL rs [s] l.reverse = G
    constructor
    · rintro ⟨q, h1, h2⟩
      rcases hvS_mem.mp h1 with z | ⟨z, y⟩
      · exact ⟨q, z, hvS_mem.mpr (.inl h2)⟩
      · have tG : (endsOf rs e).1 ∈ G ∨ (endsOf rs e).2 ∈ G := by
          rcases y with rfl | rfl
          · exact .inl h2
          · exact .inr h2
        rcases z with z | z
        · exact ⟨_, z, hvS_mem.mpr (.inr ⟨tG, .inl rfl⟩)⟩
        · exact ⟨_, z, hvS_mem.mpr (.inr ⟨tG, .inr rfl⟩)⟩
    · rintro ⟨q, h1, h2⟩
      rcases hvS_mem.mp h2 with z | ⟨z, y⟩
      · exact ⟨q, hvS_mem.mpr (.inl h1), z⟩
      · have tH : (endsOf rs e).1 ∈ H ∨ (endsOf rs e).2 ∈ H := by
          rcases y with rfl | rfl
          · exact .inl h1
          · exact .inr h1
        rcases z with z | z
        · exact ⟨_, hvS_mem.mpr (.inr ⟨tH, .inl rfl⟩), z⟩
        · exact ⟨_, hvS_mem.mpr (.inr ⟨tH, .inr rfl⟩), z⟩
theorem home_back {u : List Str} : (∀ x ∈ ps, s ∈ hvL rs [x] u) ↔ ∀ x ∈ ps, x ∈ hvL rs [s] u.reverse := by
  refine forall_congr' fun x => forall_congr' fun _ => ?_
  rw [hv_back]
  exact ⟨fun ⟨q, h1, h2⟩ => by rw [← List.mem_singleton.mp h1]; exact h2, fun h => ⟨x, List.mem_singleton.mpr rfl, h⟩⟩
def less (R : List Str) (e : Str) : List Str := R.filter fun f => decide (f ≠ e)
open Classical in
noncomputable def comN (ps : List Str) (rs : List Road) (s : Str) (R : List Str) (e : Str) : Nat := (ps.filter fun q => decide (Hm ps rs (less R e) s q)).length
theorem max_at {α : Type} (c : α → Nat) : ∀ {l : List α}, l ≠ [] → ∃ x ∈ l, ∀ y ∈ l, c y ≤ c x
  | [], h => absurd rfl h
  | [x], _ => ⟨x, List.mem_cons_self, fun y hy => by rw [List.mem_singleton.mp hy]; exact Nat.le_refl _⟩
  | x :: z :: l, _ => by
    obtain ⟨m, hm, up⟩ := max_at c (l := z :: l) (by simp)
    by_cases h : c m ≤ c x
    · exact ⟨x, List.mem_cons_self, fun y hy => (List.mem_cons.mp hy).elim (fun e => by rw [e]; exact Nat.le_refl _) fun hy => Nat.le_trans (up y hy) h⟩
    · exact ⟨m, List.mem_cons_of_mem _ hm, fun y hy => (List.mem_cons.mp hy).elim (fun e => by rw [e]; omega) fun hy => up y hy⟩
theorem filt_lt {l : List Str} {c d : Str → Bool} (h : ∀ x ∈ l, c x = true → d x = true) {b : Str} (hb : b ∈ l) (nc : c b = false) (db : d b = true) : (l.filter c).length < (l.filter d).length := by
  induction l with
  | nil => cases hb
  | cons x l ih =>
    have le : (l.filter c).length ≤ (l.filter d).length := by
      clear ih hb
      induction l with
      | nil => exact Nat.le_refl _
      | cons y l ih2 =>
        have i2 := ih2 fun z hz hc => h z (by rcases List.mem_cons.mp hz with r | r; exact r ▸ List.mem_cons_self; exact List.mem_cons_of_mem _ (List.mem_cons_of_mem _ r)) hc
        rw [List.filter_cons, List.filter_cons]
        by_cases cy : c y = true
        · rw [if_pos cy, if_pos (h y (List.mem_cons_of_mem _ List.mem_cons_self) cy)]
          exact Nat.succ_le_succ i2
        · rw [if_neg cy]
          split
          · exact Nat.le_succ_of_le i2
          · exact i2
    rw [List.filter_cons, List.filter_cons]
    by_cases cx : c x = true
    · rw [if_pos cx, if_pos (h x List.mem_cons_self cx)]
      rcases List.mem_cons.mp hb with r | r
      · rw [r] at nc
        exact absurd (nc.symm.trans cx) (by decide)
      · exact Nat.succ_lt_succ (ih (fun z hz => h z (List.mem_cons_of_mem _ hz)) r)
    · rw [if_neg cx]
      rcases List.mem_cons.mp hb with r | r
      · rw [r] at db
        rw [if_pos db]
        exact Nat.lt_succ_of_le le
      · have i1 := ih (fun z hz => h z (List.mem_cons_of_mem _ hz)) r
        split
        · exact Nat.lt_succ_of_lt i1
        · exact i1
open Classical in
/-- some road of those left parts at most one of its own ends from s -/
theorem some_road (hR : ∀ e ∈ R, (endsOf rs e).1 ∈ ps ∧ (endsOf rs e).2 ∈ ps) (hs : s ∈ ps) (ne : R ≠ []) : ∃ e ∈ R, ∀ q, Hm ps rs R s q → Hm ps rs (less R e) s q ∨ q = (endsOf rs e).1 ∨ q = (endsOf rs e).2 := by
  obtain ⟨e, he, up⟩ := max_at (comN ps rs s R) ne
  refine ⟨e, he, fun w hw => ?_⟩
  refine byContradiction fun no => ?_
  have nA : ¬ Hm ps rs (less R e) s w := fun z => no (.inl z)
  have n1 : w ≠ (endsOf rs e).1 := fun z => no (.inr (.inl z))
  have n2 : w ≠ (endsOf rs e).2 := fun z => no (.inr (.inr z))
  have inL : ∀ f ∈ R, f ≠ e → f ∈ less R e := fun f hf fe => List.mem_filter.mpr ⟨hf, decide_eq_true fe⟩
  -- the last road to w
  obtain ⟨f, hf, fe, f1, f2⟩ : ∃ f ∈ R, f ≠ e ∧ ¬ Hm ps rs (less R e) s (endsOf rs f).1 ∧ ¬ Hm ps rs (less R e) s (endsOf rs f).2 := by
    cases hw with
    | base hq hB => exact absurd (.base hq hB) nA
    | @go1 f hf h =>
      have fe : f ≠ e := fun z => n2 (by rw [z])
      exact ⟨f, hf, fe, fun z => nA (.go1 (inL f hf fe) z), nA⟩
    | @go2 f hf h =>
      have fe : f ≠ e := fun z => n1 (by rw [z])
      exact ⟨f, hf, fe, nA, fun z => nA (.go2 (inL f hf fe) z)⟩
  have inF : ∀ g ∈ R, g ≠ f → g ∈ less R f := fun g hg gf => List.mem_filter.mpr ⟨hg, decide_eq_true gf⟩
  have keep : ∀ q, Hm ps rs (less R e) s q → Hm ps rs (less R f) s q := fun q h => by
    induction h with
    | base hq hB => exact .base hq hB
    | @go1 g hg h ih =>
      refine .go1 (inF g (List.mem_filter.mp hg).1 fun z => f1 (by rw [← z]; exact h)) ih
    | @go2 g hg h ih =>
      refine .go2 (inF g (List.mem_filter.mp hg).1 fun z => f2 (by rw [← z]; exact h)) ih
  -- e leads out of what is joined without it
  have out : ∃ b ∈ ps, ¬ Hm ps rs (less R e) s b ∧ Hm ps rs (less R f) s b := by
    have ef : e ≠ f := fun z => fe z.symm
    have eF := inF e he ef
    by_cases a1 : Hm ps rs (less R e) s (endsOf rs e).1
    · by_cases a2 : Hm ps rs (less R e) s (endsOf rs e).2
      · exfalso
        refine nA ?_
        clear no n1 n2
        induction hw with
        | base hq hB => exact .base hq hB
        | @go1 g hg h ih =>
          by_cases ge : g = e
          · rw [ge]; exact a2
          · exact .go1 (inL g hg ge) (byContradiction fun z => z (ih z))
        | @go2 g hg h ih =>
          by_cases ge : g = e
          · rw [ge]; exact a1
          · exact .go2 (inL g hg ge) (byContradiction fun z => z (ih z))
      · exact ⟨_, (hR e he).2, a2, .go1 eF (keep _ a1)⟩
    · by_cases a2 : Hm ps rs (less R e) s (endsOf rs e).2
      · exact ⟨_, (hR e he).1, a1, .go2 eF (keep _ a2)⟩
      · exfalso
        refine nA ?_
        clear no n1 n2
        induction hw with
        | base hq hB => exact .base hq hB
        | @go1 g hg h ih =>
          by_cases ge : g = e
          · rw [ge] at ih; exact absurd (byContradiction fun z => z (ih z)) a1
          · exact .go1 (inL g hg ge) (byContradiction fun z => z (ih z))
        | @go2 g hg h ih =>
          by_cases ge : g = e
          · rw [ge] at ih; exact absurd (byContradiction fun z => z (ih z)) a2
          · exact .go2 (inL g hg ge) (byContradiction fun z => z (ih z))
  obtain ⟨b, hb, nb, yb⟩ := out
  have lt : comN ps rs s R e < comN ps rs s R f := by
    unfold comN
    exact filt_lt (fun x _ hx => decide_eq_true (keep x (of_decide_eq_true hx))) hb (decide_eq_false nb) (decide_eq_true yb)
  have := up f hf
  omega
theorem hm_cut (h : Hm ps rs R s q) : Hm ps rs (less R e) s q ∨ Hm ps rs (less R e) s (endsOf rs e).1 ∨ Hm ps rs (less R e) s (endsOf rs e).2 := by
  induction h with
  | base hq hB => exact .inl (.base hq hB)
  | @go1 g hg h ih =>
    rcases ih with z | z
    · by_cases ge : g = e
      · rw [ge] at z
        exact .inr (.inl z)
      · exact .inl (.go1 (List.mem_filter.mpr ⟨hg, decide_eq_true ge⟩) z)
    · exact .inr z
  | @go2 g hg h ih =>
    rcases ih with z | z
    · by_cases ge : g = e
      · rw [ge] at z
        exact .inr (.inr z)
      · exact .inl (.go2 (List.mem_filter.mpr ⟨hg, decide_eq_true ge⟩) z)
    · exact .inr z
end
def homP (ps : List Str) (rs : List Road) (r : List Str) (L : List Nat) (s : Str) (i : Nat) (e : Str) : Prop :=
  ∀ x ∈ ps, hasB ps L x (endsOf rs e).1 = true ∨ hasB ps L x (endsOf rs e).2 = true ∨ ∃ q ∈ ps, Hm ps rs (r.take i ++ r.drop (i + 1)) s q ∧ hasB ps L x q = true
structure KeepH (ps : List Str) (rs : List Road) (s : Str) (r : List Str) (L : List Nat) (got : List Str) : Prop where
  pm : (got ++ r).Perm (rnm rs)
  len : L.length = ps.length
  bd : ∀ n ∈ L, n < 2 ^ ps.length
  all : ∀ x ∈ ps, ∃ q ∈ ps, Hm ps rs r s q ∧ hasB ps L x q = true
  rr : r = (rnm rs).filter fun f => decide (f ∉ got)
  hb : ∀ x ∈ ps, ∀ q ∈ ps, hasB ps L x q = true ↔ q ∈ hvL rs [x] got
  low : ∀ (i : Nat) x, got[i]? = some x → ∀ e ∈ rnm rs, e ∉ got.take i → rk (rnm rs) e < rk (rnm rs) x → ¬ homF ps rs s (got.take i) e
section
variable {ps : List Str} {rs : List Road} {r got : List Str} {L : List Nat} {i : Nat} {e s q : Str}
theorem KeepH.ends (ok : WebOk ps rs) (h : KeepH ps rs s r L got) : ∀ e ∈ r, (endsOf rs e).1 ∈ ps ∧ (endsOf rs e).2 ∈ ps := fun e he => ends_in ok (h.pm.mem_iff.mp (List.mem_append_right _ he))
theorem KeepH.nd (ok : WebOk ps rs) (h : KeepH ps rs s r L got) : r.Nodup := by
  rw [h.rr]
  exact ok.r.nd.sublist List.filter_sublist
theorem KeepH.some (ok : WebOk ps rs) (hs : s ∈ ps) (h : KeepH ps rs s r L got) (ne : r ≠ []) : ∃ i e, r[i]? = some e ∧ homP ps rs r L s i e := by
  obtain ⟨e, he, k⟩ := some_road (h.ends ok) hs ne
  obtain ⟨i, hi⟩ := List.mem_iff_getElem?.mp he
  refine ⟨i, e, hi, fun x hx => ?_⟩
  obtain ⟨q, hq, f, hB⟩ := h.all x hx
  rw [cut_filter (h.nd ok) hi]
  rcases k q f with z | z | z
  · exact .inr (.inr ⟨q, hq, z, hB⟩)
  · exact .inl (by rw [← z]; exact hB)
  · exact .inr (.inl (by rw [← z]; exact hB))
theorem KeepH.go_iff (ok : WebOk ps rs) (h : KeepH ps rs s r L got) (hi : r[i]? = Option.some e) : homP ps rs r L s i e ↔ homF ps rs s got e := by
  have he := List.mem_of_getElem? hi
  obtain ⟨ha, hb⟩ := h.ends ok e he
  have mem : r.take i ++ r.drop (i + 1) = restOf rs got e := by
    rw [cut_filter (h.nd ok) hi]
    unfold restOf
    rw [h.rr, List.filter_filter]
  unfold homP homF
  rw [mem]
  refine forall_congr' fun x => forall_congr' fun hx => ?_
  rw [h.hb x hx _ ha, h.hb x hx _ hb]
  refine or_congr Iff.rfl (or_congr Iff.rfl ?_)
  exact ⟨fun ⟨q, h1, h2, h3⟩ => ⟨q, h1, h2, (h.hb x hx q h1).mp h3⟩, fun ⟨q, h1, h2, h3⟩ => ⟨q, h1, h2, (h.hb x hx q h1).mpr h3⟩⟩
theorem KeepH.step (ok : WebOk ps rs) (h : KeepH ps rs s r L got) (hi : r[i]? = Option.some e) (g : homP ps rs r L s i e) (no : ∀ (j : Nat) f, j < i → r[j]? = Option.some f → ¬ homP ps rs r L s j f) :
    KeepH ps rs s (r.take i ++ r.drop (i + 1)) (kbL ps rs [e] L) (got ++ [e]) := by
  have he := List.mem_of_getElem? hi
  obtain ⟨ha, hb⟩ := h.ends ok e he
  have K := fun x q (hq : q ∈ ps) => kbS_iff (s := x) (L := L) h.len ha hb hq
  refine ⟨?_, by rw [kbL_len, h.len], kbS_bd h.bd, fun x hx => ?_, ?_, fun x hx q hq => ?_, fun k x hx f hf nf lt => ?_⟩
  · refine List.Perm.trans ?_ h.pm
    rw [List.append_assoc]
    refine List.Perm.append_left _ ?_
    conv => rhs; rw [cut_at hi]
    show (e :: (r.take i ++ r.drop (i + 1))).Perm _
    exact List.perm_middle.symm
  · show ∃ q ∈ ps, _ ∧ hasB ps (kbS ps rs L e) x q = true
    have touch : (hasB ps L x (endsOf rs e).1 = true ∨ hasB ps L x (endsOf rs e).2 = true) → ∃ q ∈ ps, Hm ps rs (r.take i ++ r.drop (i + 1)) s q ∧ hasB ps (kbS ps rs L e) x q = true := fun t => by
      obtain ⟨q, hq, f, hB⟩ := h.all x hx
      rw [cut_filter (h.nd ok) hi]
      rcases hm_cut (e := e) f with z | z | z
      · exact ⟨q, hq, z, (K x q hq).mpr (.inl hB)⟩
      · exact ⟨_, ha, z, (K x _ ha).mpr (.inr ⟨t, .inl rfl⟩)⟩
      · exact ⟨_, hb, z, (K x _ hb).mpr (.inr ⟨t, .inr rfl⟩)⟩
    rcases g x hx with z | z | ⟨q, hq, f, hB⟩
    · exact touch (.inl z)
    · exact touch (.inr z)
    · exact ⟨q, hq, f, (K x q hq).mpr (.inl hB)⟩
  · rw [cut_filter (h.nd ok) hi, h.rr, List.filter_filter]
    refine List.filter_congr fun f _ => ?_
    rw [Bool.eq_iff_iff, Bool.and_eq_true_iff, decide_eq_true_iff, decide_eq_true_iff, decide_eq_true_iff, List.mem_append, List.mem_singleton]
    exact ⟨fun z w => w.elim z.2 z.1, fun z => ⟨fun w => z (.inr w), fun w => z (.inl w)⟩⟩
  · show hasB ps (kbS ps rs L e) x q = true ↔ _
    rw [K x q hq, hvL_snoc, hvS_mem, h.hb x hx q hq, h.hb x hx _ ha, h.hb x hx _ hb]
  · rcases Nat.lt_or_ge k got.length with lk | lk
    · rw [List.getElem?_append_left lk] at hx
      rw [List.take_append_of_le_length (Nat.le_of_lt lk)] at nf ⊢
      exact h.low k x hx f hf nf lt
    · have kl := (List.getElem?_eq_some_iff.mp hx).1
      rw [List.length_append, List.length_singleton] at kl
      obtain rfl : k = got.length := by omega
      rw [List.getElem?_append_right (Nat.le_refl _), Nat.sub_self] at hx
      obtain rfl : e = x := Option.some.inj hx
      rw [List.take_left] at nf ⊢
      have fr : f ∈ r := by
        rw [h.rr]
        exact List.mem_filter.mpr ⟨hf, decide_eq_true nf⟩
      obtain ⟨j, hj⟩ := List.mem_iff_getElem?.mp fr
      have pw : r.Pairwise fun a b => rk (rnm rs) a < rk (rnm rs) b := by
        rw [h.rr]
        exact (pw_ns ok.r.nd).sublist List.filter_sublist
      rw [List.pairwise_iff_getElem] at pw
      obtain ⟨li, ei⟩ := List.getElem?_eq_some_iff.mp hi
      obtain ⟨lj, ej⟩ := List.getElem?_eq_some_iff.mp hj
      have ji : j < i := by
        rcases Nat.lt_trichotomy j i with z | z | z
        · exact z
        · subst z
          rw [ei] at ej
          subst ej
          exact absurd lt (Nat.lt_irrefl _)
        · have := pw i j li lj z
          rw [ei, ej] at this
          omega
      exact fun z => no j f ji hj ((h.go_iff ok hj).mpr z)
theorem KeepH.start (ok : WebOk ps rs) (op : OnePiece ps rs) (hs : s ∈ ps) : KeepH ps rs s (rnm rs) ((List.range ps.length).map fun i => 1 * 2 ^ i) [] := by
  have J := KeepJ.start ok op hs
  have B : ∀ x ∈ ps, ∀ q ∈ ps, hasB ps ((List.range ps.length).map fun i => 1 * 2 ^ i) x q = true ↔ q ∈ [x] := fun x hx q hq => (KeepJ.start ok op hx).hb q hq
  refine ⟨J.I.pm, J.I.len, J.I.bd, fun x hx => ⟨x, hx, (J.I.all x hx).mono fun q hq h => ?_, (B x hx x hx).mpr (List.mem_singleton.mpr rfl)⟩, J.rr, B, fun i x h => by cases h⟩
  exact decide_eq_true (List.mem_singleton.mp ((B s hs q hq).mp h))
theorem KeepH.fin (ok : WebOk ps rs) (hs : s ∈ ps) (h : KeepH ps rs s [] L got) : FirstH ps rs s got := by
  refine ⟨rota_of ok.r.nd (by have := h.pm; rwa [List.append_nil] at this), fun x hx => ?_, h.low⟩
  obtain ⟨q, hq, f, hB⟩ := h.all x hx
  cases f with
  | base _ hB2 =>
    have : q = s := of_decide_eq_true hB2
    rw [this] at hB
    exact (h.hb x hx s hs).mp hB
  | go1 he _ => cases he
  | go2 he _ => cases he
end
def R_comes_home : DR := fun xs μ Pk _ => ∃ ps rs r L s, ∃ (i : Nat) (e : Str), xs = [.d (.list (r.map (nrD ps rs))), .d (bitsD L), .d (.int (rk ps s : Nat)), .d (.int (i : Nat))] ∧ μ = [] ∧ WebOk ps rs ∧ s ∈ ps ∧ (r.length ≤ 14 ∧ ∀ e ∈ r, (endsOf rs e).1 ∈ ps ∧ (endsOf rs e).2 ∈ ps) ∧ L.length = ps.length ∧ (∀ n ∈ L, n < 2 ^ ps.length) ∧ r[i]? = some e ∧
  ∀ b : Bool, (b = true ↔ homP ps rs r L s i e) → Pk (.d (.bool b)) []
def R_first_kept45 (mg : Str → Option Value) : DR := fun xs μ Pk _ => ∃ ps rs s f, xs = [.d (webD ps rs), .d (.str s), .v (.ref f)] ∧ μ = [] ∧ WebOk ps rs ∧ OnePiece ps rs ∧ s ∈ ps ∧ ((mg "goes_out" = some (.ref f) ∧ ∀ r, FirstW ps rs s r → Pk (.d (roundD r)) []) ∨ (mg "comes_home" = some (.ref f) ∧ ∀ r, FirstH ps rs s r → Pk (.d (roundD r)) []))
def R_best_homeX (mg : Str → Option Value) : DR := fun xs μ Pk Ex => ∃ a b, xs = [.d a, .d b] ∧ μ = [] ∧ OneB mg a b Ex fun ps rs s => ∀ r, FirstH ps rs s r → Pk (.d (roundD r)) []
def R__law_brings : DR := fun xs μ Pk _ => ∃ ps rs s r, xs = [.d (webD ps rs), .d (roundD r), .d (.str s)] ∧ μ = [] ∧ WebOk ps rs ∧ s ∈ ps ∧ RotaOk rs r ∧ Pk (.d (.bool (homB ps rs s r))) []
def R__law_flags45 : DR := R__law_flags44
def R__law_is_first45 : DR := fun xs μ Pk _ => ∃ ps rs s r, xs = [.d (webD ps rs), .d (.str s), .d (roundD r)] ∧ μ = [] ∧ WebOk ps rs ∧ s ∈ ps ∧ FirstH ps rs s r ∧ Pk (.d (.bool true)) []
def R__law_can_bring : DR := fun xs μ Pk _ => ∃ (ps : List Str) (rs : List Road) (s : Str) (R : List Str) (n : Nat) (cs : List Nat) (Hs : List (List Str)), xs = [.d (webD ps rs), .d (.list (R.map .str)), .c n, .d (.str s)] ∧ μ[n]? = some (.lst (cs.map Dl.A.c)) ∧ cs.length = Hs.length ∧ (∀ (j c : Nat) (H : List Str), cs[j]? = some c → Hs[j]? = some H → μ[c]? = some (.dct (hvA H)) ∧ H.length ≤ 10) ∧ cs.length ≤ 10 ∧
  WebOk ps rs ∧ s ∈ ps ∧ (∀ e ∈ R, e ∈ rnm rs) ∧ R.length ≤ 14 ∧ ∀ J : List Str, (∀ q ∈ J, Hm ps rs R s q) → Pk (.d (.bool (Hs.all fun H => H.any fun q => decide (q ∈ J)))) μ
section
variable {μ : Mu} {P : DK} {Ex : DX} {ps : List Str} {rs : List Road} {r : List Str} {L : List Nat} {s e : Str} {i : Nat} {mg : Str → Option Value} {f : Addr}
theorem fr_pass3 {R : DR} {a b : PyData} (h : R [.d a, .d b, .v (.ref f)] [] (fun y ν => (∀ o ∈ ν, dO o) ∧ P (upA [] μ.length y) (μ ++ ν)) fun C o ν => (∀ o ∈ ν, dO o) ∧ Ex C o (μ ++ ν)) : FR R [.d a, .d b, .v (.ref f)] μ P Ex := by
  refine ⟨[], [.d a, .d b, .v (.ref f)], [], pick0, rfl, fun z hz => ?_, ?_⟩
  · rcases List.mem_cons.mp hz with rfl | hz
    · trivial
    · rcases List.mem_cons.mp hz with rfl | hz
      · trivial
      · rw [List.mem_singleton.mp hz]
        trivial
  · simp only [putAll_nil, List.length_nil, List.drop_zero]
    exact h
theorem fr_kept45W (hf : mg "goes_out" = some (.ref f)) (ok : WebOk ps rs) (op : OnePiece ps rs) (hs : s ∈ ps) (h : ∀ r, FirstW ps rs s r → P (.d (roundD r)) μ) : FR (R_first_kept45 mg) [.d (webD ps rs), .d (.str s), .v (.ref f)] μ P Ex :=
  fr_pass3 ⟨ps, rs, s, f, rfl, rfl, ok, op, hs, .inl ⟨hf, fun r hr => bk (h r hr)⟩⟩
theorem fr_kept45H (hf : mg "comes_home" = some (.ref f)) (ok : WebOk ps rs) (op : OnePiece ps rs) (hs : s ∈ ps) (h : ∀ r, FirstH ps rs s r → P (.d (roundD r)) μ) : FR (R_first_kept45 mg) [.d (webD ps rs), .d (.str s), .v (.ref f)] μ P Ex :=
  fr_pass3 ⟨ps, rs, s, f, rfl, rfl, ok, op, hs, .inr ⟨hf, fun r hr => bk (h r hr)⟩⟩
theorem fr_home (ok : WebOk ps rs) (op : OnePiece ps rs) (hs : s ∈ ps) (h : ∀ r, FirstH ps rs s r → P (.d (roundD r)) μ) : FR (R_best_homeX mg) [.d (webD ps rs), .d (.str s)] μ P Ex :=
  fr_d [_, _] ⟨_, _, rfl, rfl, .inl ⟨ps, rs, s, rfl, rfl, ok, op, hs, fun r hr => bk (h r hr)⟩⟩
theorem fr_comes (ok : WebOk ps rs) (hs : s ∈ ps) (hr : r.length ≤ 14 ∧ ∀ e ∈ r, (endsOf rs e).1 ∈ ps ∧ (endsOf rs e).2 ∈ ps) (hl : L.length = ps.length) (bd : ∀ n ∈ L, n < 2 ^ ps.length) (hi : r[i]? = some e) (h : ∀ b : Bool, (b = true ↔ homP ps rs r L s i e) → P (.d (.bool b)) μ) :
    FR R_comes_home [.d (.list (r.map (nrD ps rs))), .d (bitsD L), .d (.int (rk ps s : Nat)), .d (.int (i : Nat))] μ P Ex := fr_d [_, _, _, _] ⟨ps, rs, r, L, s, i, e, rfl, rfl, ok, hs, hr, hl, bd, hi, fun b hb => bk (h b hb)⟩
theorem fr_brings (ok : WebOk ps rs) (hs : s ∈ ps) (hr : RotaOk rs r) (h : P (.d (.bool (homB ps rs s r))) μ) : FR R__law_brings [.d (webD ps rs), .d (roundD r), .d (.str s)] μ P Ex := fr_d [_, _, _] ⟨ps, rs, s, r, rfl, rfl, ok, hs, hr, bk h⟩
theorem fr_isfirst45 (ok : WebOk ps rs) (hs : s ∈ ps) (F : FirstH ps rs s r) (h : P (.d (.bool true)) μ) : FR R__law_is_first45 [.d (webD ps rs), .d (.str s), .d (roundD r)] μ P Ex := fr_d [_, _, _] ⟨ps, rs, s, r, rfl, rfl, ok, hs, F, bk h⟩
end
theorem mask_one {ps : List Str} {s : Str} (ok : PlacesOk ps) (hs : s ∈ ps) : maskN (eqB s) ps = 1 * 2 ^ rk ps s := by
  have lt := rk_lt hs
  obtain ⟨m1, m2⟩ := mask_ok (eqB s) ps
  refine nat_bits m1 (by rw [Nat.one_mul]; exact Nat.pow_lt_pow_right (by decide) lt) fun j hj => ?_
  rw [m2, Nat.one_mul, Nat.testBit_two_pow, List.getElem?_eq_getElem hj]
  show decide (ps[j] = s) = decide (rk ps s = j)
  refine decide_eq_decide.mpr ⟨fun e => ?_, fun e => ?_⟩
  · rw [← e, rk_ix ok.nd (List.getElem?_eq_getElem hj)]
  · have := rk_at hs
    rw [e, List.getElem?_eq_getElem hj] at this
    exact Option.some.inj this
theorem in_tru5 {α : Type} {l : List α} {c : α → Bool} {μ : Mu} {P : DK} (q : P (.d (.bool (l.any c))) μ) : rdInU false (.d (.bool true)) (.d (.list (l.map fun x => PyData.bool (c x)))) μ P := by
  refine ⟨_, .inl rfl, rfl, ?_, ?_⟩
  · rw [List.all_map]
    exact List.all_eq_true.mpr fun _ _ => rfl
  · have e : (false ^^ (l.map fun x => PyData.bool (c x)).any fun e => eqF e (.bool true)) = l.any c := by
      rw [Bool.false_xor, List.any_map]
      clear q
      induction l with
      | nil => rfl
      | cons x l ih =>
        rw [List.any_cons, List.any_cons, ih]
        congr 1
        show eqF (.bool (c x)) (.bool true) = c x
        cases c x <;> rfl
    rw [e]
    exact q
theorem nin_fls5 {α : Type} {l : List α} {c : α → Bool} {μ : Mu} {P : DK} (q : P (.d (.bool (l.all c))) μ) : rdInU true (.d (.bool false)) (.d (.list (l.map fun x => PyData.bool (c x)))) μ P := by
  refine ⟨_, .inl rfl, rfl, ?_, ?_⟩
  · rw [List.all_map]
    exact List.all_eq_true.mpr fun _ _ => rfl
  · have e : (true ^^ (l.map fun x => PyData.bool (c x)).any fun e => eqF e (.bool false)) = l.all c := by
      rw [List.any_map]
      clear q
      induction l with
      | nil => rfl
      | cons x l ih =>
        rw [List.any_cons, List.all_cons, ← ih]
        have : ((fun e => eqF e (.bool false)) ∘ fun x => PyData.bool (c x)) x = !(c x) := by
          show eqF (.bool (c x)) (.bool false) = !(c x)
          cases c x <;> rfl
        rw [this]
        cases c x <;> simp
    rw [e]
    exact q
end Rp
set_option Elab.async false
set_option linter.all false
set_option maxRecDepth 100000
set_option maxHeartbeats 4000000
namespace K45
open PySem PySem.Spec PyProof.Rows L2 Dl Rp
local macro_rules | `(tactic| and_intros) => `(tactic| repeat (first | refine ⟨_, rfl, ?_⟩ | refine iteT ?_ | refine iteF ?_ | refine ⟨_, _, rfl, rfl, ?_⟩ | refine add_int ?_ | refine len_tup ?_ | refine len_lst ?_ | refine tgt2 ?_ | refine tgt3 ?_ | refine ⟨[_], rfl, len1, ?_⟩ | refine ⟨[_, _], rfl, len2, ?_⟩ | refine ⟨[_, _, _], rfl, len3, ?_⟩))
def topS (i : Nat) : Stmt := PySem.Challenge.pw_roundpost_k45_best_home_backwards.main.body.getD i (.Pass ⟨0, 0, 0, 0⟩)
def blt : List Str := ["len", "max", "min", "int", "sum", "list", "tuple", "range", "enumerate", "zip", "all", "any", "isinstance", "str", "bool", "repr", "set", "sorted", "dict", "divmod"]
abbrev es : List Str := ["BadWeb", "BadPieces", "BadPlace", "PostError"]
abbrev st_is_name : Stmt := topS 9
abbrev ns_is_name : List Str := ["thing"]
theorem sc_is_name : FnScope ns_is_name ["thing"] (defScope st_is_name) := ⟨rfl, rfl, rfl, by decide +kernel, rfl, by decide +kernel, by decide +kernel⟩
abbrev st_are_places : Stmt := topS 10
abbrev ns_are_places : List Str := ["thing", "place"]
theorem sc_are_places : FnScope ns_are_places ["thing"] (defScope st_are_places) := ⟨rfl, rfl, rfl, by decide +kernel, rfl, by decide +kernel, by decide +kernel⟩
abbrev st_is_road_between : Stmt := topS 11
abbrev ns_is_road_between : List Str := ["places", "thing", "name", "near", "far"]
theorem sc_is_road_between : FnScope ns_is_road_between ["places", "thing"] (defScope st_is_road_between) := ⟨rfl, rfl, rfl, by decide +kernel, rfl, by decide +kernel, by decide +kernel⟩
abbrev st_are_roads_between : Stmt := topS 12
abbrev ns_are_roads_between : List Str := ["places", "thing", "road"]
theorem sc_are_roads_between : FnScope ns_are_roads_between ["places", "thing"] (defScope st_are_roads_between) := ⟨rfl, rfl, rfl, by decide +kernel, rfl, by decide +kernel, by decide +kernel⟩
abbrev st_is_web : Stmt := topS 13
abbrev ns_is_web : List Str := ["thing", "places", "roads"]
theorem sc_is_web : FnScope ns_is_web ["thing"] (defScope st_is_web) := ⟨rfl, rfl, rfl, by decide +kernel, rfl, by decide +kernel, by decide +kernel⟩
abbrev st_need_web : Stmt := topS 14
abbrev ns_need_web : List Str := ["web"]
theorem sc_need_web : FnScope ns_need_web ["web"] (defScope st_need_web) := ⟨rfl, rfl, rfl, by decide +kernel, rfl, by decide +kernel, by decide +kernel⟩
abbrev st_need_place : Stmt := topS 15
abbrev ns_need_place : List Str := ["web", "place"]
theorem sc_need_place : FnScope ns_need_place ["web", "place"] (defScope st_need_place) := ⟨rfl, rfl, rfl, by decide +kernel, rfl, by decide +kernel, by decide +kernel⟩
abbrev st_need_one_piece : Stmt := topS 16
abbrev ns_need_one_piece : List Str := ["web"]
theorem sc_need_one_piece : FnScope ns_need_one_piece ["web"] (defScope st_need_one_piece) := ⟨rfl, rfl, rfl, by decide +kernel, rfl, by decide +kernel, by decide +kernel⟩
abbrev st_beside : Stmt := topS 17
abbrev ns_beside : List Str := ["web", "found", "name", "near", "far", "place"]
theorem sc_beside : FnScope ns_beside ["web"] (defScope st_beside) := ⟨rfl, rfl, rfl, by decide +kernel, rfl, by decide +kernel, by decide +kernel⟩
abbrev st_steps_from : Stmt := topS 18
abbrev ns_steps_from : List Str := ["web", "place", "roads", "steps", "border", "beyond", "here", "_", "there"]
theorem sc_steps_from : FnScope ns_steps_from ["web", "place"] (defScope st_steps_from) := ⟨rfl, rfl, rfl, by decide +kernel, rfl, by decide +kernel, by decide +kernel⟩
abbrev st_has_one_piece : Stmt := topS 19
abbrev ns_has_one_piece : List Str := ["web"]
theorem sc_has_one_piece : FnScope ns_has_one_piece ["web"] (defScope st_has_one_piece) := ⟨rfl, rfl, rfl, by decide +kernel, rfl, by decide +kernel, by decide +kernel⟩
abbrev st_known_behind : Stmt := topS 21
abbrev ns_known_behind : List Str := ["ends", "known", "after", "near", "far", "both"]
theorem sc_known_behind : FnScope ns_known_behind ["ends", "known"] (defScope st_known_behind) := ⟨rfl, rfl, rfl, by decide +kernel, rfl, by decide +kernel, by decide +kernel⟩
abbrev st_best_from : Stmt := topS 23
abbrev ns_best_from : List Str := ["web", "place"]
theorem sc_best_from : FnScope ns_best_from ["web", "place"] (defScope st_best_from) := ⟨rfl, rfl, rfl, by decide +kernel, rfl, by decide +kernel, by decide +kernel⟩
abbrev st_best_home : Stmt := topS 24
abbrev ns_best_home : List Str := ["web", "place"]
theorem sc_best_home : FnScope ns_best_home ["web", "place"] (defScope st_best_home) := ⟨rfl, rfl, rfl, by decide +kernel, rfl, by decide +kernel, by decide +kernel⟩
abbrev st_goes_out : Stmt := topS 25
abbrev ns_goes_out : List Str := ["left", "known", "start", "at", "_", "near", "far", "holders", "one"]
theorem sc_goes_out : FnScope ns_goes_out ["left", "known", "start", "at"] (defScope st_goes_out) := ⟨rfl, rfl, rfl, by decide +kernel, rfl, by decide +kernel, by decide +kernel⟩
abbrev st_comes_home : Stmt := topS 26
abbrev ns_comes_home : List Str := ["left", "known", "start", "at", "_", "near", "far", "home", "gathered", "one"]
theorem sc_comes_home : FnScope ns_comes_home ["left", "known", "start", "at"] (defScope st_comes_home) := ⟨rfl, rfl, rfl, by decide +kernel, rfl, by decide +kernel, by decide +kernel⟩
abbrev st_flooded : Stmt := topS 27
abbrev ns_flooded : List Str := ["left", "bits", "held", "more", "_", "near", "far"]
theorem sc_flooded : FnScope ns_flooded ["left", "bits"] (defScope st_flooded) := ⟨rfl, rfl, rfl, by decide +kernel, rfl, by decide +kernel, by decide +kernel⟩
abbrev st_first_kept : Stmt := topS 28
abbrev ns_first_kept : List Str := ["web", "place", "can_go", "numbers", "left", "known", "rota", "at", "name", "near", "far", "one"]
theorem sc_first_kept : FnScope ns_first_kept ["web", "place", "can_go"] (defScope st_first_kept) := ⟨rfl, rfl, rfl, by decide +kernel, rfl, by decide +kernel, by decide +kernel⟩
abbrev st__law_feed : Stmt := topS 30
abbrev ns__law_feed : List Str := ["_law_script", "_law_k", "_law_cell"]
theorem sc__law_feed : FnScope ns__law_feed ["_law_script", "_law_k"] (defScope st__law_feed) := ⟨rfl, rfl, rfl, by decide +kernel, rfl, by decide +kernel, by decide +kernel⟩
abbrev st__law_draw : Stmt := topS 31
abbrev ns__law_draw : List Str := ["_law_feed_here", "_law_many", "_law_rest", "_law_got", "_law_stir"]
theorem sc__law_draw : FnScope ns__law_draw ["_law_feed_here", "_law_many"] (defScope st__law_draw) := ⟨rfl, rfl, rfl, by decide +kernel, rfl, by decide +kernel, by decide +kernel⟩
abbrev st__law_one : Stmt := topS 32
abbrev ns__law_one : List Str := ["_law_feed_here", "_law_things"]
theorem sc__law_one : FnScope ns__law_one ["_law_feed_here", "_law_things"] (defScope st__law_one) := ⟨rfl, rfl, rfl, by decide +kernel, rfl, by decide +kernel, by decide +kernel⟩
abbrev st__law_mixed : Stmt := topS 33
abbrev ns__law_mixed : List Str := ["_law_feed_here", "_law_things", "_law_pool", "_law_got", "_law_turn"]
theorem sc__law_mixed : FnScope ns__law_mixed ["_law_feed_here", "_law_things"] (defScope st__law_mixed) := ⟨rfl, rfl, rfl, by decide +kernel, rfl, by decide +kernel, by decide +kernel⟩
abbrev st__law_names : Stmt := topS 34
abbrev ns__law_names : List Str := ["_law_feed_here", "_law_many"]
theorem sc__law_names : FnScope ns__law_names ["_law_feed_here", "_law_many"] (defScope st__law_names) := ⟨rfl, rfl, rfl, by decide +kernel, rfl, by decide +kernel, by decide +kernel⟩
abbrev st__law_sized : Stmt := topS 35
abbrev ns__law_sized : List Str := ["_law_feed_here", "_law_many", "_law_more", "_law_shape", "_law_names_here", "_law_ties", "_law_at", "_law_back", "_law_turn", "_law_one_here", "_law_roads", "_law_tie", "_law_road"]
theorem sc__law_sized : FnScope ns__law_sized ["_law_feed_here", "_law_many", "_law_more"] (defScope st__law_sized) := ⟨rfl, rfl, rfl, by decide +kernel, rfl, by decide +kernel, by decide +kernel⟩
abbrev st__law_rotas : Stmt := topS 36
abbrev ns__law_rotas : List Str := ["_law_web", "_law_got", "_law_turn", "_law_longer", "_law_row", "_law_road"]
theorem sc__law_rotas : FnScope ns__law_rotas ["_law_web"] (defScope st__law_rotas) := ⟨rfl, rfl, rfl, by decide +kernel, rfl, by decide +kernel, by decide +kernel⟩
abbrev st__law_no_web : Stmt := topS 37
abbrev ns__law_no_web : List Str := ["_law_feed_here", "_law_web", "_law_places", "_law_roads", "_law_one_here", "_law_new", "_law_some"]
theorem sc__law_no_web : FnScope ns__law_no_web ["_law_feed_here", "_law_web"] (defScope st__law_no_web) := ⟨rfl, rfl, rfl, by decide +kernel, rfl, by decide +kernel, by decide +kernel⟩
abbrev st__law_bad_web : Stmt := topS 38
abbrev ns__law_bad_web : List Str := ["_law_feed_here", "_law_web", "_law_places", "_law_roads", "_law_twins", "_law_k", "_law_road"]
theorem sc__law_bad_web : FnScope ns__law_bad_web ["_law_feed_here", "_law_web"] (defScope st__law_bad_web) := ⟨rfl, rfl, rfl, by decide +kernel, rfl, by decide +kernel, by decide +kernel⟩
abbrev st__law_bad_place : Stmt := topS 39
abbrev ns__law_bad_place : List Str := ["_law_feed_here", "_law_web", "_law_names_here", "_law_some", "_law_road"]
theorem sc__law_bad_place : FnScope ns__law_bad_place ["_law_feed_here", "_law_web"] (defScope st__law_bad_place) := ⟨rfl, rfl, rfl, by decide +kernel, rfl, by decide +kernel, by decide +kernel⟩
abbrev st__law_walked : Stmt := topS 40
abbrev ns__law_walked : List Str := ["_law_web", "_law_rota", "_law_have", "_law_ends", "_law_got", "_law_road", "_law_one_here", "_law_other"]
theorem sc__law_walked : FnScope ns__law_walked ["_law_web", "_law_rota", "_law_have"] (defScope st__law_walked) := ⟨rfl, rfl, rfl, by decide +kernel, rfl, by decide +kernel, by decide +kernel⟩
abbrev st__law_brings : Stmt := topS 41
abbrev ns__law_brings : List Str := ["_law_web", "_law_rota", "_law_place", "_law_start"]
theorem sc__law_brings : FnScope ns__law_brings ["_law_web", "_law_rota", "_law_place"] (defScope st__law_brings) := ⟨rfl, rfl, rfl, by decide +kernel, rfl, by decide +kernel, by decide +kernel⟩
abbrev st__law_can_bring : Stmt := topS 42
abbrev ns__law_can_bring : List Str := ["_law_web", "_law_roads", "_law_haves", "_law_place", "_law_home", "_law_turn", "_law_have", "_law_one_here"]
theorem sc__law_can_bring : FnScope ns__law_can_bring ["_law_web", "_law_roads", "_law_haves", "_law_place"] (defScope st__law_can_bring) := ⟨rfl, rfl, rfl, by decide +kernel, rfl, by decide +kernel, by decide +kernel⟩
abbrev st__law_is_first : Stmt := topS 43
abbrev ns__law_is_first : List Str := ["_law_web", "_law_place", "_law_rota", "_law_names_here", "_law_index", "_law_road", "_law_haves", "_law_start", "_law_one_here"]
theorem sc__law_is_first : FnScope ns__law_is_first ["_law_web", "_law_place", "_law_rota"] (defScope st__law_is_first) := ⟨rfl, rfl, rfl, by decide +kernel, rfl, by decide +kernel, by decide +kernel⟩
abbrev st__law_flags : Stmt := topS 44
abbrev ns__law_flags : List Str := ["_law_web", "_law_place", "_law_caught", "e"]
theorem sc__law_flags : FnScope ns__law_flags ["_law_web", "_law_place"] (defScope st__law_flags) := ⟨rfl, rfl, rfl, by decide +kernel, rfl, by decide +kernel, by decide +kernel⟩
abbrev st_law : Stmt := topS 45
abbrev ns_law : List Str := ["_law_script", "_law_k", "_law_feed_here", "_law_many", "_law_web", "_law_place", "_law_rota", "_law_due", "_law_bad", "_law_is_web", "_law_none", "_law_some"]
theorem sc_law : FnScope ns_law ["_law_script"] (defScope st_law) := ⟨rfl, rfl, rfl, by decide +kernel, rfl, by decide +kernel, by decide +kernel⟩
end K45
set_option Elab.async false
set_option linter.all false
set_option maxRecDepth 100000
set_option maxHeartbeats 4000000
namespace K45
open PySem PySem.Spec PyProof.Rows L2 Dl Rp
local macro_rules | `(tactic| and_intros) => `(tactic| repeat (first | refine ⟨_, rfl, ?_⟩ | refine iteT ?_ | refine iteF ?_ | refine ⟨_, _, rfl, rfl, ?_⟩ | refine add_int ?_ | refine len_tup ?_ | refine len_lst ?_ | refine tgt2 ?_ | refine tgt3 ?_ | refine ⟨[_], rfl, len1, ?_⟩ | refine ⟨[_, _], rfl, len2, ?_⟩ | refine ⟨[_, _, _], rfl, len3, ?_⟩))
def RK_best_home (mg : Str → Option Value) : DR := fun xs μ Pk Ex => ∃ x0 x1, xs = [x0, x1] ∧ R_best_homeX mg [x1, x0] μ Pk Ex
end K45
set_option Elab.async false
set_option linter.all false
set_option maxRecDepth 100000
set_option maxHeartbeats 4000000
namespace K45
open PySem PySem.Spec PyProof.Rows L2 Dl Rp
local macro_rules | `(tactic| and_intros) => `(tactic| repeat (first | refine ⟨_, rfl, ?_⟩ | refine iteT ?_ | refine iteF ?_ | refine ⟨_, _, rfl, rfl, ?_⟩ | refine add_int ?_ | refine len_tup ?_ | refine len_lst ?_ | refine tgt2 ?_ | refine tgt3 ?_ | refine ⟨[_], rfl, len1, ?_⟩ | refine ⟨[_, _], rfl, len2, ?_⟩ | refine ⟨[_, _, _], rfl, len3, ?_⟩))
section
variable {P : Program} {w : World} {K : PySem.W.Frag} {mg : Str → Option Value} {base : Heap}
theorem ok_law {f : Addr} {fd : FuncData} (F : FunV K "law" "law" st_law f fd) (Z : ∀ x, x ∈ blt → mg x = none) (C__law_bad_place : CalG P w K mg base "_law_bad_place" 3 R__law_bad_place44) (C__law_bad_web : CalG P w K mg base "_law_bad_web" 4 R__law_bad_web44) (C__law_brings : CalG P w K mg base "_law_brings" 2 R__law_brings) (C__law_draw : CalG P w K mg base "_law_draw" 1 R__law_draw) (C__law_feed : CalG P w K mg base "_law_feed" 1 R__law_feed) (C__law_flags : CalG P w K mg base "_law_flags" 8 R__law_flags45) (C__law_is_first : CalG P w K mg base "_law_is_first" 3 R__law_is_first45) (C__law_one : CalG P w K mg base "_law_one" 2 R__law_one) (C__law_rotas : CalG P w K mg base "_law_rotas" 1 R__law_rotas) (C__law_sized : CalG P w K mg base "_law_sized" 4 R__law_sized) (C__law_walked : CalG P w K mg base "_law_walked" 1 R__law_walked) (C_best_from : CalG P w K mg base "best_from" 7 (R_best_fromX mg)) (C_best_home : CalG P w K mg base "best_home" 7 (R_best_homeX mg)) (CK_best_home : CalK P w K mg base "best_home" 7 ["place", "web"] (RK_best_home mg))  : FnG P w K mg base (L2.CX P w) 9 f fd ["_law_script"] (SpD K R_law) := by
  refine cal_ofG F sc_law ?_ (fun cd A ou s H E W hg hr tk po => ?_)
  rotate_left
  have hN := sc_law.nd
  have hu := hr.units
  have hu65 := hr.units65
  refine ⟨_, (dss_cons (ds_for po rfl (di_range1 (da_cons d_int da_nil) (Z "range" (by decide))) (dg_name (i := 1) hN) (dss_cons (ds_set (i := 2) hN (d_calG C__law_feed hg (hr.mono (by omega)) (da_cons (d_var 0) (da_cons (d_var 1) da_nil)))) (dss_cons (ds_set (i := 3) hN (dAdd d_int (d_calG C__law_draw hg (hr.mono (by omega)) (da_cons (d_var 2) (da_cons (dIx (d_lstU (da_cons d_int (da_cons d_int da_nil))) (d_calG C__law_draw hg (hr.mono (by omega)) (da_cons (d_var 2) (da_cons d_int da_nil)))) da_nil))))) (dss_cons (ds_set (i := 4) hN (d_calG C__law_sized hg (hr.mono (by omega)) (da_cons (d_var 2) (da_cons (d_var 3) (da_cons (d_if (tLt (d_var 3) d_int) (d_calG C__law_draw hg (hr.mono (by omega)) (da_cons (d_var 2) (da_cons (d_sub d_int (d_var 3)) da_nil))) (d_calG C__law_draw hg (hr.mono (by omega)) (da_cons (d_var 2) (da_cons d_int da_nil)))) da_nil))))) (dss_cons (ds_if (tEq hu (d_calG C__law_draw hg (hr.mono (by omega)) (da_cons (d_var 2) (da_cons d_int da_nil))) d_int) (dss_one (ds_set (i := 4) hN (d_calG C__law_sized hg (hr.mono (by omega)) (da_cons (d_var 2) (da_cons (d_var 3) (da_cons d_int da_nil)))))) dss_nil) (dss_cons (ds_for po rfl (di_any (dIx (d_var 4) d_int)) (dg_name (i := 5) hN) (dss_cons (ds_set (i := 6) hN (d_calG C_best_home hg (hr.mono (by omega)) (da_cons (d_var 4) (da_cons (d_var 5) da_nil)))) (dss_cons (ds_if (dt_w (dw_or (dt_not (dt_truth (d_callB call_isi s_isiC (da_cons (d_var 6) (da_cons (d_ty (T := "tuple") (Z "tuple" (by decide))) da_nil)) (Z "isinstance" (by decide))))) (dw_or (tNe hu (d_callB (cr_rep hg hu) s_repU (da_cons (d_calK CK_best_home hg (hr.mono (by omega)) (dk_cons (d_var 5) (dk_cons (d_var 4) dk_nil))) da_nil) (Z "repr" (by decide))) (d_callB (cr_rep hg hu) s_repU (da_cons (d_var 6) da_nil) (Z "repr" (by decide)))) (dw_or1 (dt_not (dt_truth (d_calG C__law_is_first hg (hr.mono (by omega)) (da_cons (d_var 4) (da_cons (d_var 5) (da_cons (d_var 6) da_nil)))))))))) (dss_one (ds_ret d_bl)) dss_nil) (dss_cons (ds_if (dt_w (dw_and (tEq hu (d_callB call_len s_lenU (da_cons (dIx (d_var 4) d_int) da_nil) (Z "len" (by decide))) (d_sub (d_callB call_len s_lenU (da_cons (dIx (d_var 4) d_int) da_nil) (Z "len" (by decide))) d_int)) (dw_and1 (tLt (d_callB call_lenD s_lenD (da_cons (d_calG C__law_walked hg (hr.mono (by omega)) (da_cons (d_var 4) (da_cons (d_rev (d_var 6)) (da_cons (d_disp1 (d_var 5) d_bl) da_nil)))) da_nil) (Z "len" (by decide))) (d_callB call_len s_lenU (da_cons (dIx (d_var 4) d_int) da_nil) (Z "len" (by decide))))))) (dss_one (ds_ret d_bl)) dss_nil) (dss_one (ds_if (dt_w (dw_and (tEq hu (d_callB call_len s_lenU (da_cons (dIx (d_var 4) d_int) da_nil) (Z "len" (by decide))) (d_sub (d_callB call_len s_lenU (da_cons (dIx (d_var 4) d_int) da_nil) (Z "len" (by decide))) d_int)) (dw_and1 (dt_not (dt_truth (d_calG C__law_brings hg (hr.mono (by omega)) (da_cons (d_var 4) (da_cons (d_rev (d_calG C_best_from hg (hr.mono (by omega)) (da_cons (d_var 4) (da_cons (d_var 5) da_nil)))) (da_cons (d_var 5) da_nil))))))))) (dss_one (ds_ret d_bl)) dss_nil)))))) (dss_cons (ds_if (tLt (d_callB call_len s_lenU (da_cons (dIx (d_var 4) d_int) da_nil) (Z "len" (by decide))) d_int) (dss_cons (ds_set (i := 5) hN (d_calG C__law_one hg (hr.mono (by omega)) (da_cons (d_var 2) (da_cons (dIx (d_var 4) d_int) da_nil)))) (dss_cons (ds_setLc (i := 7) (own := [("_law_rota", 6)]) rfl hN (di_any (d_calG C__law_rotas hg (hr.mono (by omega)) (da_cons (d_var 4) da_nil))) (blkOk_by (N := ns_law) (sc := defScope st_law) (by decide +kernel)) (fun _ _ _ _ _ => (dg_name (i := 6) hN)) (fun _ _ _ _ _ => (dts_one (dt_truth (d_calG C__law_brings hg (hr.mono (by omega)) (da_cons (d_var 4) (da_cons (d_var 6) (da_cons (d_var 5) da_nil))))))) (fun _ _ _ _ _ => (d_var 6)) (sw_true rfl rfl rfl rfl)) (dss_one (ds_if (tNe hu (d_callB (cr_rep hg hu) s_repU (da_cons (d_calG C_best_home hg (hr.mono (by omega)) (da_cons (d_var 4) (da_cons (d_var 5) da_nil))) da_nil) (Z "repr" (by decide))) (d_callB (cr_rep hg hu) s_repU (da_cons (dIx (d_var 7) d_int) da_nil) (Z "repr" (by decide)))) (dss_one (ds_ret d_bl)) dss_nil)))) dss_nil) (dss_cons (ds_asg (d_tup (da_cons (d_calG C__law_bad_web hg (hr.mono (by omega)) (da_cons (d_var 2) (da_cons (d_var 4) da_nil))) (da_cons (d_calG C__law_bad_place hg (hr.mono (by omega)) (da_cons (d_var 2) (da_cons (d_var 4) da_nil))) da_nil))) (dg_tup (n := 2) rfl (dgs_cons (dg_tup (n := 2) rfl (dgs_cons (dg_name (i := 8) hN) (dgs_cons (dg_name (i := 9) hN) dgs_nil))) (dgs_cons (dg_name (i := 10) hN) dgs_nil)))) (dss_cons (ds_for po rfl (di_any (d_lstU (da_cons (d_var 10) (da_cons (dIx (dIx (d_var 4) d_int) d_int) da_nil)))) (dg_name (i := 11) hN) (dss_one (ds_if (tNe hu (d_calG C__law_flags hg (hr.mono (by omega)) (da_cons (d_var 8) (da_cons (d_var 11) da_nil))) (d_lstU (da_cons (d_not (d_var 9)) (da_cons (d_var 9) (da_cons d_bl da_nil))))) (dss_one (ds_ret d_bl)) dss_nil))) (dss_one (ds_if (tNe hu (d_calG C__law_flags hg (hr.mono (by omega)) (da_cons (d_var 4) (da_cons (d_var 10) da_nil))) (d_lstU (da_cons d_bl (da_cons d_bl (da_cons d_bl da_nil))))) (dss_one (ds_ret d_bl)) dss_nil))))))))))) (dss_one (ds_ret d_bl))), ?_⟩
  · rintro xs μ Pk Ex old ⟨ns, rfl, rfl, hns, hbits, q⟩
    refine ⟨_, rfl, by decide, by decide, ?_⟩
    refine ⟨fun i ρ μ => ∃ (a1 a2 a3 a4 a5 a6 a7 a8 a9 a10 a11 : Option Dl.A), ρ = [some (.d (.list (ns.map PyData.int))), a1, a2, a3, a4, a5, a6, a7, a8, a9, a10, a11], ⟨_, _, _, _, _, _, _, _, _, _, _, rfl⟩, ?_, ?_⟩
    · rintro i y ρ2 μ2 hy ⟨a1, a2, a3, a4, a5, a6, a7, a8, a9, a10, a11, rfl⟩
      obtain ⟨lt, rfl⟩ := rngY_get hy
      have lt : i < 3 := lt
      refine ⟨trivial, _, rfl, ?_⟩
      refine ⟨_, rfl, _, rfl, fr_d [_, _] ⟨ns, 0 + (i : Int), rfl, rfl, by omega, by omega, hbits, fun o1 hk1 => ⟨one_o hk1.dO, ?_⟩⟩⟩
      have k1 : (0 : Int) < 10 ^ 15 := by decide
      generalize hN : μ2.length = N
      have c1 : (μ2 ++ [o1])[N]? = some o1 := by rw [← hN]; exact get_end
      generalize (μ2 ++ [o1]) = μ3 at c1
      refine ⟨_, rfl, len2, .inl ⟨[_, _], rfl, ?_⟩⟩
      refine ⟨_, rfl, fr_draw c1 hk1 (by omega) ⟨by decide, by decide⟩ fun a o2 a0 a1 hk2 => ?_⟩
      obtain ⟨mx, hmx, hmx2⟩ : ∃ mx : Nat, [PyData.int 7, .int 10][a.toNat]? = some (.int (mx : Int)) ∧ (1 ≤ mx ∧ mx ≤ 10) := by
        rcases (show a = 0 ∨ a = 1 by omega) with rfl | rfl
        · exact ⟨7, rfl, by omega⟩
        · exact ⟨10, rfl, by omega⟩
      refine ix_lstI a0 hmx ?_
      refine fr_draw (get_set c1) hk2 (by omega) ⟨by omega, by omega⟩ fun b o3 b0 b1 hk3 => ?_
      rw [List.set_set]
      obtain ⟨b, rfl⟩ := Int.eq_ofNat_of_zero_le b0
      refine add_int ?_
      rw [show (1 : Int) + (b : Int) = ((b + 1 : Nat) : Int) by omega]
      obtain ⟨m, hm⟩ : ∃ m : Nat, b + 1 = m := ⟨_, rfl⟩
      have mm : 1 ≤ m ∧ m ≤ 10 := by omega
      rw [hm]
      refine ⟨_, rfl, _, rfl, ?_⟩
      apply viaI (fun c o4 => 0 ≤ c ∧ (m : Int) + c ≤ 15 ∧ FD 10 o4)
      case k =>
        intro cont
        refine ⟨_, rfl, _, _, rfl, rfl, _, rfl, iteD (fun h => ?a1) (fun h => ?a2)⟩
        case a1 => exact ⟨_, rfl, _, rfl, _, _, rfl, rfl, fr_draw (get_set c1) hk3 (by omega) ⟨by omega, by omega⟩ fun c o4 c0 c1' hk4 => cont c o4 ⟨c0, by omega, hk4.mono (by omega)⟩⟩
        case a2 => exact ⟨_, rfl, fr_draw (get_set c1) hk3 (by omega) ⟨by decide, by decide⟩ fun c o4 c0 c1' hk4 => cont c o4 ⟨c0, by omega, hk4.mono (by omega)⟩⟩
      case h =>
        rintro c o4 ⟨c0, c15, hk4⟩
        rw [List.set_set]
        obtain ⟨c, rfl⟩ := Int.eq_ofNat_of_zero_le c0
        refine fr_sized44 (get_set c1) hk4 (by decide) mm (by omega) fun ps0 rs0 o50 ok0 ni0 pl0 op0 _ rl0 hk50 => ?_
        rw [List.set_set]
        have c50 := get_set (o := o50) c1
        generalize μ3.set N o50 = μ50 at c50
        dsimp only
        refine seq_cutB (A := dsIf _ _ _) (fun ρ' μ' => ∃ (ps : List Str) (rs : List Road) (o5 : O), ρ' = [some (.d (.list (ns.map PyData.int))), some (.d (.int (0 + (i : Int)))), some (.c N), some (.d (.int (m : Int))), some (.d (webD ps rs)), a5, a6, a7, a8, a9, a10, a11] ∧ μ'[N]? = some o5 ∧ WebOk ps rs ∧ NamesIn ps rs ∧ OnePiece ps rs ∧ FD 1000 o5) (fun NN hN => ?_) ?_
        · refine ⟨_, rfl, fr_draw c50 hk50 (by decide) ⟨by decide, by decide⟩ fun d o6 d0 d1 hk6 => ?_⟩
          refine ⟨_, rfl, ?_⟩
          by_cases dz : d = 0
          · refine fP dz ?_
            have c60 := get_set (o := o6) c50
            generalize μ50.set N o6 = μ60 at c60
            refine ⟨_, rfl, _, rfl, fr_sized44 (c := 0) c60 hk6 (by decide) mm (by omega) fun ps rs o5 ok ni pl op _ rl hk5 => ?_⟩
            exact hN _ _ ⟨ps, rs, o5, rfl, get_set c60, ok, ni, op, hk5.mono (by decide)⟩
          · exact fQ dz (hN _ _ ⟨ps0, rs0, o6, rfl, get_set c50, ok0, ni0, op0, hk6.mono (by decide)⟩)
        rintro ρ5 μ5 ⟨ps, rs, o5, rfl, c5, ok, ni, op, hk5⟩
        have p10 := ok.p.most
        have p1 := ok.p.one
        have r14 := ok.r.most
        obtain ⟨p0, hp0⟩ : ∃ p0, ps[0]? = some p0 := ⟨_, List.getElem?_eq_getElem (show 0 < ps.length by omega)⟩
        have hp0D : (ps.map PyData.str)[0]? = some (.str p0) := by rw [List.getElem?_map, hp0]; rfl
        refine ⟨_, rfl, ix_tup (j := 0) rfl ?_⟩
        refine ⟨fun j ρ μ => ∃ (a5 a6 a7 a8 a9 a10 a11 : Option Dl.A), ρ = [some (.d (.list (ns.map PyData.int))), some (.d (.int (0 + (i : Int)))), some (.c N), some (.d (.int (m : Int))), some (.d (webD ps rs)), a5, a6, a7, a8, a9, a10, a11] ∧ μ[N]? = some o5, ⟨_, _, _, _, _, _, _, rfl, c5⟩, ?_, ?_⟩
        · rintro j y ρ6 μ6 hy ⟨a5, a6, a7, a8, a9, a10, a11, rfl, c6⟩
          obtain ⟨x', hx', rfl⟩ := oneD_get hy
          rw [List.getElem?_map] at hx'
          obtain ⟨s, hs', rfl⟩ := Option.map_eq_some_iff.mp hx'
          have hs := List.mem_of_getElem? hs'
          refine ⟨trivial, _, rfl, ?_⟩
          refine ⟨_, rfl, _, rfl, fr_home ok op hs fun r F => ?_⟩
          have sh := round_sh ok F.ro
          refine ⟨_, rfl, isi_tup (plain_round ok F.ro) ⟨_, rfl, ?_⟩⟩
          refine ifF rfl ?_
          refine ⟨_, rfl, _, rfl, rfl, fr_d [_, _] ⟨_, _, rfl, _, _, rfl, rfl, .inl ⟨ps, rs, s, rfl, rfl, ok, op, hs, fun r2 F2 => ⟨noO, ?_⟩⟩⟩⟩
          obtain rfl := F.one ok hs F2
          refine repr_same sh rfl ⟨_, rfl, repr_same sh rfl ?_⟩
          refine ⟨_, rfl, tP rfl ?_⟩
          refine ⟨_, rfl, _, rfl, _, rfl, fr_isfirst45 ok hs F ⟨_, rfl, iteF ?_⟩⟩
          rw [List.append_nil]
          have revD : ∀ u : List Str, PyData.tuple (u.map .str).reverse = roundD u.reverse := fun u => by
            unfold roundD
            rw [List.map_reverse]
          have revO : ∀ u, RotaOk rs u → RotaOk rs u.reverse := fun u hu => rota_perm ok.r.nd (rota_pmF ok hu) (List.reverse_perm u)
          have sin : ∀ q ∈ [s], q ∈ ps := fun q hq => by rw [List.mem_singleton.mp hq]; exact hs
          have snd : [s].Nodup := by simp
          have len1D : ((rs.map rdD).length : Int) = (rs.length : Int) := by rw [List.length_map]
          dsimp only [dsNext]
          refine seq_cutB (A := dsIf _ _ _) (fun ρ' μ' => ρ' = [some (.d (.list (ns.map PyData.int))), some (.d (.int (0 + (i : Int)))), some (.c N), some (.d (.int (m : Int))), some (.d (webD ps rs)), some (.d (.str s)), some (.d (roundD r)), a7, a8, a9, a10, a11] ∧ μ'[N]? = some o5) (fun NN hN => ?_) ?_
          · refine ⟨_, rfl, ix_tup (j := 1) rfl (len_tup ⟨_, rfl, ix_tup (j := 0) rfl (len_tup ⟨_, _, rfl, rfl, ?_⟩)⟩)⟩
            refine ⟨_, rfl, ?_⟩
            by_cases tr : ((rs.map rdD).length : Int) = ((ps.map PyData.str).length : Int) - 1
            · refine fP tr ?_
              refine ⟨_, rfl, _, rfl, .inl ⟨_, rfl, ?_⟩⟩
              rw [revD]
              have ro2 := revO r F.ro
              have full := (full_iff ok hs ro2.ok.sub).mpr (home_back.mp F.all)
              refine ⟨_, rfl, .inr s, rfl, ?_⟩
              refine fr_walked (H := [s]) (r := r.reverse) get_end ok (.inl rfl) ro2.ok.sub (by have := ro2.len; omega) snd sin ?_
              refine ⟨_, _, rfl, get_end, ?_⟩
              refine ⟨_, rfl, ix_tup (j := 0) rfl (len_tup ?_)⟩
              have fl : ((hvA (hvL rs [s] r.reverse)).length : Int) = ((ps.map PyData.str).length : Int) := by
                rw [hv_len, List.length_map]
                unfold fullB at full
                exact congrArg _ (of_decide_eq_true full)
              rw [fl]
              refine ⟨_, _, rfl, rfl, false, by show Dl.A.d (.bool (decide _)) = _; rw [decide_eq_false (Int.lt_irrefl _)], iteF ?_⟩
              refine hN _ _ ⟨rfl, ?_⟩
              have Nl := (List.getElem?_eq_some_iff.mp c6).1
              rw [List.getElem?_append_left (by rw [List.length_append]; omega), List.getElem?_append_left Nl]
              exact c6
            · exact fQ tr (iteF (hN _ _ ⟨rfl, c6⟩))
          · rintro ρ8 μ8 ⟨rfl, c8⟩
            refine ⟨_, rfl, ix_tup (j := 1) rfl (len_tup ⟨_, rfl, ix_tup (j := 0) rfl (len_tup ⟨_, _, rfl, rfl, ?_⟩)⟩)⟩
            refine ⟨_, rfl, ?_⟩
            by_cases tr : ((rs.map rdD).length : Int) = ((ps.map PyData.str).length : Int) - 1
            · refine fP tr ?_
              refine ⟨_, rfl, _, rfl, _, rfl, fr_best44 ok op hs fun u W => ?_⟩
              refine .inl ⟨_, rfl, ?_⟩
              rw [revD]
              have wo2 := revO u W.ro
              have hb : homB ps rs s u.reverse = true := homB_iff.mpr (home_back.mpr fun x hx => by rw [List.reverse_reverse]; exact W.all x hx)
              refine ⟨_, rfl, fr_brings ok hs wo2 ?_⟩
              rw [hb]
              exact ⟨_, rfl, iteF ⟨_, _, _, _, _, _, _, rfl, c8⟩⟩
            · exact fQ tr (iteF ⟨_, _, _, _, _, _, _, rfl, c8⟩)
        · rintro ρ6 μ6 ⟨a5, a6, a7, a8, a9, a10, a11, rfl, c6⟩
          refine ⟨trivial, ?_⟩
          dsimp only
          refine seq_cutB (A := dsIf _ _ _) (fun ρ' μ' => ∃ (b5 b6 b7 b8 b9 b10 b11 : Option Dl.A) (o7 : O), ρ' = [some (.d (.list (ns.map PyData.int))), some (.d (.int (0 + (i : Int)))), some (.c N), some (.d (.int (m : Int))), some (.d (webD ps rs)), b5, b6, b7, b8, b9, b10, b11] ∧ μ'[N]? = some o7 ∧ FD 2000 o7) (fun NN hN => ?_) ?_
          · refine ⟨_, rfl, ix_tup (j := 1) rfl (len_tup ⟨_, _, rfl, rfl, _, rfl, iteD (fun h => ?_) (fun h => ?_)⟩)⟩
            · have r6 : rs.length ≤ 6 := by rw [List.length_map] at h; omega
              refine ⟨_, rfl, _, rfl, ix_tup (j := 0) rfl ?_⟩
              refine fr_one (ps.map .str) c6 (.inr rfl) hk5 (by decide) ⟨by rw [List.length_map]; omega, by rw [List.length_map]; omega⟩ fun x o7 hx hk7 => ?_
              obtain ⟨s, hs, rfl⟩ := List.mem_map.mp hx
              have c7 := get_set (o := o7) c6
              generalize μ6.set N o7 = μ7 at c7
              refine ⟨_, rfl, fr_rotas44 ok r6 ?_⟩
              refine lc_filter (allR (rnm rs) rs.length) roundD roundD (homB ps rs s) (oneD_ones _ _) trivial (Nat.le_trans (pow_few r6) (by rw [sizeLine_eq]; decide)) (fun r hr Q Nx h1 h2 => ?_) ?_
              · have ro := allR_rota.mp hr
                refine ⟨_, rfl, _, rfl, _, rfl, _, rfl, fr_brings ok hs ro ?_⟩
                obtain ⟨hv, ehv⟩ : ∃ hv, homB ps rs s r = hv := ⟨_, rfl⟩
                rw [ehv]
                cases hv with
                | true => exact ⟨_, rfl, iteT ⟨_, rfl, h1 ehv⟩⟩
                | false => exact ⟨_, rfl, iteF (h2 ehv)⟩
              · refine ⟨_, rfl, _, rfl, fr_home ok op hs fun r F => ?_⟩
                have sh := round_sh ok F.ro
                obtain ⟨t, ht⟩ := F.head ok hs
                refine repr_same sh rfl ⟨_, rfl, ix_lstN (j := 0) (z := roundD r) (by rw [List.getElem?_map, ht]; rfl) (repr_same sh rfl ⟨_, rfl, tP rfl ?_⟩)⟩
                exact hN _ _ ⟨_, _, _, _, _, _, _, o7, rfl, c7, hk7.mono (by decide)⟩
            · exact hN _ _ ⟨_, _, _, _, _, _, _, o5, rfl, c6, hk5.mono (by decide)⟩
          · rintro ρ7 μ7 ⟨b5, b6, b7, b8, b9, b10, b11, o7, rfl, c7, hk7⟩
            refine ⟨_, rfl, _, rfl, fr_badweb44 c7 hk7 (by decide) ok ni fun x bb o8 hb hk8 => ?_⟩
            refine ⟨_, rfl, _, rfl, fr_badplace44 (get_set c7) hk8 (by decide) ok ni fun z o9 pz wz hk9 => ?_⟩
            refine ⟨[_, _], rfl, len2, tgtN ?_⟩
            refine ⟨_, rfl, _, rfl, ix_tup (j := 0) rfl (ix_tup (j := 0) hp0D ?_)⟩
            refine ⟨len2, .inl ⟨[_, _], rfl, ?_⟩⟩
            refine ⟨fun j ρ μ => ∃ (a5 a6 a7 a11 : Option Dl.A), ρ = [some (.d (.list (ns.map PyData.int))), some (.d (.int (0 + (i : Int)))), some (.c N), some (.d (.int (m : Int))), some (.d (webD ps rs)), a5, a6, a7, some (.d x), some (.d (.bool bb)), some (.d z), a11], ⟨_, _, _, _, rfl⟩, ?_, ?_⟩
            · rintro j y ρ9 μ9 hy ⟨a5, a6, a7, a11, rfl⟩
              obtain ⟨w, hw, rfl⟩ := oneD_get hy
              refine ⟨trivial, _, rfl, ?_⟩
              refine ⟨_, rfl, _, rfl, ?_⟩
              rcases hb with ⟨rfl, ps', rs', rfl, ok', np⟩ | ⟨rfl, px, wx⟩
              · refine fr_flags44 (.inr (.inl ⟨ps', rs', rfl, ok', np, ?_⟩))
                refine ⟨_, rfl, _, rfl, _, rfl, len3, .inl ⟨[_, _, _], rfl, eq_selfD (b := true) (fl3_shaped _ _ _) ?_⟩⟩
                exact ⟨_, rfl, iteF ⟨_, _, _, _, rfl⟩⟩
              · refine fr_flags44 (.inl ⟨px, wx, ?_⟩)
                refine ⟨_, rfl, _, rfl, _, rfl, len3, .inl ⟨[_, _, _], rfl, eq_selfD (b := true) (fl3_shaped _ _ _) ?_⟩⟩
                exact ⟨_, rfl, iteF ⟨_, _, _, _, rfl⟩⟩
            · rintro ρ9 μ9 ⟨a5, a6, a7, a11, rfl⟩
              refine ⟨trivial, _, rfl, _, rfl, fr_flags44 (.inr (.inr ⟨ps, rs, rfl, ok, op, wz, ?_⟩))⟩
              refine ⟨len3, .inl ⟨[_, _, _], rfl, eq_selfD (b := true) (fl3_shaped _ _ _) ?_⟩⟩
              exact ⟨_, rfl, iteF ⟨_, _, _, _, _, _, _, _, _, _, _, rfl⟩⟩
    · rintro ρ2 μ2 ⟨a1, a2, a3, a4, a5, a6, a7, a8, a9, a10, a11, rfl⟩
      exact ⟨trivial, data0 q⟩
  · rintro xs μ Pk Ex ⟨ns, rfl, _⟩
    rfl
end
end K45
set_option Elab.async false
set_option linter.all false
set_option maxRecDepth 100000
set_option maxHeartbeats 4000000
namespace K45
open PySem PySem.Spec PyProof.Rows L2 Dl Rp
local macro_rules | `(tactic| and_intros) => `(tactic| repeat (first | refine ⟨_, rfl, ?_⟩ | refine iteT ?_ | refine iteF ?_ | refine ⟨_, _, rfl, rfl, ?_⟩ | refine add_int ?_ | refine len_tup ?_ | refine len_lst ?_ | refine tgt2 ?_ | refine tgt3 ?_ | refine ⟨[_], rfl, len1, ?_⟩ | refine ⟨[_, _], rfl, len2, ?_⟩ | refine ⟨[_, _, _], rfl, len3, ?_⟩))
section
variable {P : Program} {w : World} {K : PySem.W.Frag} {mg : Str → Option Value} {base : Heap}
theorem ok__law_sized {f : Addr} {fd : FuncData} (F : FunV K "_law_sized" "_law_sized" st__law_sized f fd) (Z : ∀ x, x ∈ blt → mg x = none) (C__law_draw : CalG P w K mg base "_law_draw" 1 R__law_draw) (C__law_mixed : CalG P w K mg base "_law_mixed" 2 R__law_mixed) (C__law_names : CalG P w K mg base "_law_names" 3 R__law_names)  : FnG P w K mg base (L2.CX P w) 4 f fd ["_law_feed_here", "_law_many", "_law_more"] (SpD K R__law_sized) := by
  refine cal_ofG F sc__law_sized ?_ (fun cd A ou s H E W hg hr tk po => ?_)
  rotate_left
  have hN := sc__law_sized.nd
  have hu := hr.units
  have hu65 := hr.units65
  refine ⟨_, (dss_cons (ds_par3 (i := 3) (j := 4) (l := 5) rfl hN (da_cons (d_calG C__law_draw hg (hr.mono (by omega)) (da_cons (d_var 0) (da_cons d_int da_nil))) (da_cons (d_calG C__law_names hg (hr.mono (by omega)) (da_cons (d_var 0) (da_cons (d_var 1) da_nil))) (da_cons (d_lstU da_nil) da_nil)))) (dss_cons (ds_for po rfl (di_range2 (da_cons d_int (da_cons (d_var 1) da_nil)) (Z "range" (by decide))) (dg_name (i := 6) hN) (dss_cons (ds_set (i := 7) hN (d_if (tEq hu (d_var 3) d_int) (d_sub (d_var 6) d_int) (d_if (tEq hu (d_var 3) d_int) d_int (d_calG C__law_draw hg (hr.mono (by omega)) (da_cons (d_var 0) (da_cons (d_var 6) da_nil)))))) (dss_one (ds_expr (d_bm PySem.F.plainAttrs_list PySem.F.slot_list_append PySem.F.type_list_append mt_append s_append (d_var 5) (da_cons (d_tup (da_cons (dIx (d_var 4) (d_var 6)) (da_cons (dIx (d_var 4) (d_var 7)) da_nil))) da_nil)))))) (dss_cons (ds_for po rfl (di_range1 (da_cons (d_if (tGt (d_var 1) d_int) (d_var 2) d_int) da_nil) (Z "range" (by decide))) (dg_name (i := 8) hN) (dss_cons (ds_set (i := 9) hN (d_calG C__law_draw hg (hr.mono (by omega)) (da_cons (d_var 0) (da_cons (d_var 1) da_nil)))) (dss_one (ds_expr (d_bm PySem.F.plainAttrs_list PySem.F.slot_list_append PySem.F.type_list_append mt_append s_append (d_var 5) (da_cons (d_tup (da_cons (dIx (d_var 4) (d_var 9)) (da_cons (dIx (d_var 4) (d_mod (d_callTy call_int1 s_int1 (da_cons (dAdd (dAdd (d_var 9) d_int) (d_calG C__law_draw hg (hr.mono (by omega)) (da_cons (d_var 0) (da_cons (d_sub (d_var 1) d_int) da_nil)))) da_nil) (Z "int" (by decide))) (d_var 1))) da_nil))) da_nil)))))) (dss_frz (i := 5) (dss_cons (ds_setLc (i := 5) (own := [("_law_tie", 11)]) rfl hN (di_any (d_calG C__law_mixed hg (hr.mono (by omega)) (da_cons (d_var 0) (da_cons (d_var 5) da_nil)))) (blkOk_by (N := ns__law_sized) (sc := defScope st__law_sized) (by decide +kernel)) (fun _ _ _ _ _ => (dg_name (i := 11) hN)) (fun _ _ _ _ _ => dts_nil) (fun _ _ _ _ _ => (d_if (tEq hu (d_calG C__law_draw hg (hr.mono (by omega)) (da_cons (d_var 0) (da_cons d_int da_nil))) d_int) (d_tup (da_cons (dIx (d_var 11) d_int) (da_cons (dIx (d_var 11) d_int) da_nil))) (d_var 11))) (sw_true rfl rfl rfl rfl)) (dss_cons (ds_set (i := 10) hN (d_calG C__law_names hg (hr.mono (by omega)) (da_cons (d_var 0) (da_cons (d_callB call_len s_lenU (da_cons (d_var 5) da_nil) (Z "len" (by decide))) da_nil)))) (dss_one (ds_ret (d_tup (da_cons (d_callTy call_tupleN s_tuple (da_cons (d_calG C__law_mixed hg (hr.mono (by omega)) (da_cons (d_var 0) (da_cons (d_var 4) da_nil))) da_nil) (Z "tuple" (by decide))) (da_cons (d_callTy call_tupleN s_tuple (da_cons (d_lc (own := [("_law_road", 12), ("_law_tie", 11)]) rfl hN (di_zip (da_cons (d_var 10) (da_cons (d_var 5) da_nil)) (Z "zip" (by decide))) (blkOk_by (N := ns__law_sized) (sc := defScope st__law_sized) (by decide +kernel)) (fun _ _ _ _ _ => (dg_tup (n := 2) rfl (dgs_cons (dg_name (i := 12) hN) (dgs_cons (dg_name (i := 11) hN) dgs_nil)))) (fun _ _ _ _ _ => dts_nil) (fun _ _ _ _ _ => (dAdd (d_tup (da_cons (d_var 12) da_nil)) (d_var 11)))) da_nil) (Z "tuple" (by decide))) da_nil))))))))))), ?_⟩
  · rintro xs μ Pk Ex old ⟨o, k, mn, mo, rfl, rfl, hk, k1, ⟨n1, n8⟩, mo5, q⟩
    have k0 := hk.pos
    refine ⟨_, rfl, fr_draw rfl hk (by omega) ⟨by decide, by decide⟩ fun sh o3 _ _ hk3 => ?_⟩
    refine ⟨_, rfl, _, rfl, fr_names rfl hk3 (by omega) fun ss o4 hp hk4 => ⟨Nat.zero_le _, .inr ⟨_, _, _, rfl, ?_⟩⟩⟩
    have nl : (ss.take mn).length = mn := take_len hp (by omega)
    have nnd := take_nd hp mn
    have nok := take_ok hp mn
    have nin : ∀ s ∈ ss.take mn, s ∈ names14 := fun s h => hp.mem_iff.mp (List.mem_of_mem_take h)
    generalize ss.take mn = nm at nl nnd nok nin
    have nlD : (nm.map PyData.str).length = mn := by rw [List.length_map, nl]
    refine ⟨_, rfl, _, _, rfl, ⟨by omega, by omega, by omega, by omega⟩, ?_⟩
    refine ⟨fun i ρ μ => ∃ (ts : List (Str × Str)) (o' : O) (a b c d e f g : Option Dl.A), ρ = [some (.c 0), some (.d (.int (mn : Int))), some (.d (.int (mo : Int))), some (.d (.int sh)), some (.d (.list (nm.map .str))), some (.c 1), a, b, c, d, e, f, g] ∧
      μ = [o', .lst ((ts.map endD).map Dl.A.d)] ∧ ts.length = i ∧ TiesOk nm ts ∧ TB (nm.take (i + 1)) ts ∧ FD (k + 20 + 2 * i) o', ⟨[], o4, _, _, _, _, _, _, _, rfl, rfl, rfl, .nil, tb_one (by omega), hk4.mono (by omega)⟩, ?_, ?_⟩
    · rintro i y ρ2 μ2 hy ⟨ts, o', a, b, c, d, e, f, g, rfl, rfl, hl, ht, hT, hk'⟩
      obtain ⟨lt, rfl⟩ := rngY_get hy
      obtain ⟨x, hx1, hx2⟩ := strs_get (nm := nm) (i := 1 + (i : Int)) (by omega) (by omega)
      refine ⟨trivial, _, rfl, ?_⟩
      apply viaI (fun b o2 => 0 ≤ b ∧ b < 1 + (i : Int) ∧ FD (k + 20 + 2 * i + 1) o2)
      case k =>
        intro cont
        refine ⟨_, rfl, _, rfl, iteE (fun h0 => ?a1) (fun h0 => ⟨_, rfl, _, rfl, iteE (fun h1 => ?a2) (fun h1 => ⟨_, rfl, _, rfl, fr_draw rfl hk' (by omega) ⟨by omega, by omega⟩ fun r o2 r0 r1 hk2 => cont r o2 ⟨r0, r1, hk2⟩⟩)⟩)⟩
        case a1 => exact ⟨_, rfl, _, _, rfl, rfl, cont _ o' ⟨by omega, by omega, hk'.mono (by omega)⟩⟩
        case a2 => exact cont _ o' ⟨by omega, by omega, hk'.mono (by omega)⟩
      case h =>
        rintro b o2 ⟨b0, b1, hk2⟩
        obtain ⟨y, hy1, hy2⟩ := strs_get (nm := nm) b0 (by omega)
        have xy : x ≠ y := Rp.nd_get nnd hx1 hy1 (by omega)
        refine ⟨_, rfl, .inr (.inl ⟨rfl, .inr ⟨1, _, rfl, rfl⟩⟩), _, rfl, _, rfl, ix_lstI (by omega) hx2 ⟨_, rfl, _, rfl, ix_lstI b0 hy2 ⟨[_, _], rfl, len2, 1, _, _, rfl, rfl, rfl, ?_, ?_⟩⟩⟩
        · rw [List.length_map, List.length_map]
          exact Nat.lt_of_le_of_lt (show ts.length ≤ 10 by omega) (by decide)
        · refine ⟨ts ++ [(x, y)], o2, _, _, _, _, _, _, _, rfl, ?_, by rw [List.length_append, hl]; rfl, ht.snoc ⟨List.mem_of_getElem? hx1, List.mem_of_getElem? hy1, xy⟩, tb_add nnd hT (show nm[i + 1]? = some x by rw [← hx1]; congr 1; omega) hy1 (by omega), hk2.mono (by omega)⟩
          rw [List.map_append, List.map_append]
          rfl
    rintro ρ2 μ2 ⟨ts, o', a, b, c, d, e, f, g, rfl, rfl, hl, ht, hT0, hk'⟩
    rw [rngY_len] at hl hk' hT0
    have hT : TB nm ts := by rwa [List.take_of_length_le (by omega)] at hT0
    have hl2 : ts.length = mn - 1 := by omega
    have hk2 : FD (k + 50) o' := hk'.mono (by omega)
    clear hk' hk3 hk4
    refine ⟨trivial, ?_⟩
    refine ⟨_, rfl, _, _, rfl, rfl, _, rfl, iteD (fun h2 => ⟨_, rfl, _, rfl, by omega, by omega, ?w1⟩) (fun h2 => ⟨_, rfl, by decide, by decide, ?w2⟩)⟩
    case w1 =>
      refine ⟨fun i ρ μ => ∃ (ts : List (Str × Str)) (o' : O) (a b c d e f g : Option Dl.A), ρ = [some (.c 0), some (.d (.int (mn : Int))), some (.d (.int (mo : Int))), some (.d (.int sh)), some (.d (.list (nm.map .str))), some (.c 1), a, b, c, d, e, f, g] ∧
        μ = [o', .lst ((ts.map endD).map Dl.A.d)] ∧ ts.length = mn - 1 + i ∧ TiesOk nm ts ∧ TBin nm ts ∧ (mo = 0 → TB nm ts) ∧ FD (k + 50 + 2 * i) o', ⟨ts, o', _, _, _, _, _, _, _, rfl, rfl, by omega, ht, hT.bin, fun _ => hT, hk2.mono (by omega)⟩, ?_, ?_⟩
      · rintro i y ρ2 μ2 hy ⟨ts, o', a, b, c, d, e, f, g, rfl, rfl, hl, ht, hB, hT2, hk'⟩
        obtain ⟨lt, rfl⟩ := rngY_get hy
        have lt : i < mo := lt
        have m2 : 2 ≤ mn := by omega
        refine ⟨trivial, _, rfl, ?_⟩
        refine ⟨_, rfl, _, rfl, fr_draw rfl hk' (by omega) ⟨by omega, by omega⟩ fun r o3 r0 r1 hk3 => ?_⟩
        obtain ⟨x, hx1, hx2⟩ := strs_get (nm := nm) r0 (by omega)
        refine ⟨_, rfl, .inr (.inl ⟨rfl, .inr ⟨1, _, rfl, rfl⟩⟩), _, rfl, _, rfl, ix_lstI r0 hx2 ⟨_, rfl, _, rfl, _, rfl, _, rfl, _, _, rfl, rfl, ?_⟩⟩
        refine fr_draw rfl hk3 (by omega) ?_ fun d o4 d0 d1 hk4 => ?_
        · constructor <;> omega
        obtain ⟨w0, w1, w2⟩ := other_ix r0 (show r < (mn : Int) from r1) d0 d1
        obtain ⟨y, hy1, hy2⟩ := strs_get (nm := nm) w0 (by omega)
        have xy : x ≠ y := Rp.nd_get nnd hx1 hy1 (by omega)
        refine ⟨_, rfl, _, rfl, _, _, rfl, rfl, by omega, ix_lstI w0 hy2 ⟨[_, _], rfl, len2, 1, _, _, rfl, rfl, rfl, ?_, ?_⟩⟩
        · rw [List.length_map, List.length_map]
          exact Nat.lt_of_le_of_lt (show ts.length ≤ 20 by omega) (by decide)
        · refine ⟨ts ++ [(x, y)], o4, _, _, _, _, _, _, _, rfl, ?_, by rw [List.length_append, List.length_singleton]; omega, ht.snoc ⟨List.mem_of_getElem? hx1, List.mem_of_getElem? hy1, xy⟩, hB.more _, (fun w => by omega), hk4.mono (by omega)⟩
          rw [List.map_append, List.map_append]
          rfl
      rintro ρ2 μ2 ⟨ts, o', a, b, c, d, e, f, g, rfl, rfl, hl, ht, hB, hT2, hk'⟩
      rw [rngY_len, show Int.toNat _ = mo from rfl] at hl hk'
      refine ⟨trivial, 1, ts.map endD, rfl, rfl, ?_⟩
      have tl : ts.length ≤ 14 := by omega
      refine ⟨_, rfl, _, rfl, fr_mixed endD ts rfl (.inl rfl) hk' (by omega) (by omega) fun vs o3 hvs hk3 => ?_⟩
      have vl : vs.length ≤ 14 := by rw [hvs.length_eq]; omega
      have hv := ht.perm hvs
      refine ⟨fun i acc μ => ∃ (us : List (Str × Str)) (o' : O), acc = (us.map endD).map Dl.A.d ∧ μ = [o', .dead] ∧ us.length = i ∧ TiesOk nm us ∧ Flips us (vs.take i) ∧ FD (k + 100 + i) o', ⟨[], o3, rfl, rfl, rfl, .nil, .nil, hk3.mono (by omega)⟩, ?_, ?_⟩
      · rintro i y acc μ2 hy ⟨us, o', rfl, rfl, hul, hu', hF, hk'⟩
        rw [oneD_ones] at hy
        obtain ⟨v, hv1, rfl⟩ := ones_get hy
        have ilt := (List.getElem?_eq_some_iff.mp hv1).1
        have hF1 := hF.snoc v
        rw [← take_get hv1] at hF1
        obtain ⟨v1, v2, v3⟩ := hv v (List.mem_of_getElem? hv1)
        have sl : ((us.map endD).map Dl.A.d).length < sizeLine := by
          rw [List.length_map, List.length_map]
          exact Nat.lt_of_le_of_lt (show us.length ≤ 14 by omega) (by decide)
        refine ⟨trivial, _, rfl, iteT ?_⟩
        refine ⟨_, rfl, fr_draw rfl hk' (by omega) ⟨by decide, by decide⟩ fun r o4 _ _ hk4 => ⟨_, rfl, iteE (fun h => ?a1) (fun h => ?a2)⟩⟩
        case a1 =>
          refine ⟨_, rfl, ix_tup (j := 1) rfl ⟨_, rfl, ix_tup (j := 0) rfl ⟨[_, _], rfl, len2, sl, us ++ [(v.2, v.1)], o4, ?_, rfl, by rw [List.length_append, hul]; rfl, hu'.snoc ⟨v2, v1, v3.symm⟩, hF1.2, hk4.mono (by omega)⟩⟩⟩
          rw [List.map_append, List.map_append]
          rfl
        case a2 =>
          refine ⟨_, rfl, sl, us ++ [(v.1, v.2)], o4, ?_, rfl, by rw [List.length_append, hul]; rfl, hu'.snoc ⟨v1, v2, v3⟩, hF1.1, hk4.mono (by omega)⟩
          rw [List.map_append, List.map_append]
          rfl
      rintro acc μ2 ⟨us, o', rfl, rfl, hul, hu', hF, hk'⟩
      rw [oneD_ones, List.length_map] at hul hk' hF
      rw [List.take_length] at hF
      refine ⟨trivial, .inl ⟨us.map endD, rfl, ?_⟩⟩
      refine ⟨_, rfl, _, rfl, len_lst ?_⟩
      refine fr_names rfl hk' (by omega) fun s2 o4 hp2 hk4 => ?_
      rw [List.length_map]
      have rl : (s2.take us.length).length = us.length := take_len hp2 (by omega)
      have rnd := take_nd hp2 us.length
      have rok := take_ok hp2 us.length
      have rin : ∀ s ∈ s2.take us.length, s ∈ names14 := fun s h => hp2.mem_iff.mp (List.mem_of_mem_take h)
      generalize s2.take us.length = rn at rl rnd rok rin
      refine ⟨_, rfl, _, rfl, fr_mixed PyData.str nm rfl (.inl rfl) hk4 (by omega) (by omega) fun ps o5 hp5 hk5 => ⟨_, _, rfl, .inl rfl, ?_⟩⟩
      refine ⟨_, rfl, _, rfl, .inl ⟨_, _, rfl, ?_⟩⟩
      refine lc_pure roadF trivial (Nat.le_trans (zip_len rn us) (Nat.le_trans (show us.length ≤ 14 by omega) (by decide))) (fun i y hy Q hQ => ?_) (.inl ⟨_, zip_road rn us, ?_⟩)
      · obtain ⟨n, e, rfl⟩ := Rp.zip_get hy
        exact ⟨_, rfl, rfl, _, _, rfl, _, rfl, _, _, rfl, _, rfl, rfl, _, rfl, [_], rfl, len1, _, rfl, (show 1 + 2 ≤ sizeLine from by decide), hQ⟩
      refine ⟨_, _, rfl, .inl rfl, [_, _], rfl, len2, ?_⟩
      have fd : FD (k + 200) o5 := hk5.mono (by omega)
      exact feedRet fd (q ps (mkR rn us) o5 (web_of hp5 (by omega) (by omega) nnd nok rl (by omega) rnd rok hu') ⟨fun s h => nin s (hp5.mem_iff.mp h), mkR_in rin⟩ (by rw [hp5.length_eq, nl]) (one_of hB hvs hF rl hp5) (fun w => tree_of (hT2 (by omega)) hvs hF rl hp5) (by rw [mkR_len rl, hul, hvs.length_eq]; omega) fd)
    case w2 =>
      refine ⟨fun i ρ μ => ∃ (ts : List (Str × Str)) (o' : O) (a b c d e f g : Option Dl.A), ρ = [some (.c 0), some (.d (.int (mn : Int))), some (.d (.int (mo : Int))), some (.d (.int sh)), some (.d (.list (nm.map .str))), some (.c 1), a, b, c, d, e, f, g] ∧
        μ = [o', .lst ((ts.map endD).map Dl.A.d)] ∧ ts.length = mn - 1 + i ∧ TiesOk nm ts ∧ TBin nm ts ∧ (0 = 0 → TB nm ts) ∧ FD (k + 50 + 2 * i) o', ⟨ts, o', _, _, _, _, _, _, _, rfl, rfl, by omega, ht, hT.bin, fun _ => hT, hk2.mono (by omega)⟩, ?_, ?_⟩
      · rintro i y ρ2 μ2 hy ⟨ts, o', a, b, c, d, e, f, g, rfl, rfl, hl, ht, hB, hT2, hk'⟩
        obtain ⟨lt, rfl⟩ := rngY_get hy
        have lt : i < 0 := lt
        have m2 : 2 ≤ mn := by omega
        refine ⟨trivial, _, rfl, ?_⟩
        refine ⟨_, rfl, _, rfl, fr_draw rfl hk' (by omega) ⟨by omega, by omega⟩ fun r o3 r0 r1 hk3 => ?_⟩
        obtain ⟨x, hx1, hx2⟩ := strs_get (nm := nm) r0 (by omega)
        refine ⟨_, rfl, .inr (.inl ⟨rfl, .inr ⟨1, _, rfl, rfl⟩⟩), _, rfl, _, rfl, ix_lstI r0 hx2 ⟨_, rfl, _, rfl, _, rfl, _, rfl, _, _, rfl, rfl, ?_⟩⟩
        refine fr_draw rfl hk3 (by omega) ?_ fun d o4 d0 d1 hk4 => ?_
        · constructor <;> omega
        obtain ⟨w0, w1, w2⟩ := other_ix r0 (show r < (mn : Int) from r1) d0 d1
        obtain ⟨y, hy1, hy2⟩ := strs_get (nm := nm) w0 (by omega)
        have xy : x ≠ y := Rp.nd_get nnd hx1 hy1 (by omega)
        refine ⟨_, rfl, _, rfl, _, _, rfl, rfl, by omega, ix_lstI w0 hy2 ⟨[_, _], rfl, len2, 1, _, _, rfl, rfl, rfl, ?_, ?_⟩⟩
        · rw [List.length_map, List.length_map]
          exact Nat.lt_of_le_of_lt (show ts.length ≤ 20 by omega) (by decide)
        · refine ⟨ts ++ [(x, y)], o4, _, _, _, _, _, _, _, rfl, ?_, by rw [List.length_append, List.length_singleton]; omega, ht.snoc ⟨List.mem_of_getElem? hx1, List.mem_of_getElem? hy1, xy⟩, hB.more _, (fun w => by omega), hk4.mono (by omega)⟩
          rw [List.map_append, List.map_append]
          rfl
      rintro ρ2 μ2 ⟨ts, o', a, b, c, d, e, f, g, rfl, rfl, hl, ht, hB, hT2, hk'⟩
      rw [rngY_len, show Int.toNat _ = 0 from rfl] at hl hk'
      refine ⟨trivial, 1, ts.map endD, rfl, rfl, ?_⟩
      have tl : ts.length ≤ 14 := by omega
      refine ⟨_, rfl, _, rfl, fr_mixed endD ts rfl (.inl rfl) hk' (by omega) (by omega) fun vs o3 hvs hk3 => ?_⟩
      have vl : vs.length ≤ 14 := by rw [hvs.length_eq]; omega
      have hv := ht.perm hvs
      refine ⟨fun i acc μ => ∃ (us : List (Str × Str)) (o' : O), acc = (us.map endD).map Dl.A.d ∧ μ = [o', .dead] ∧ us.length = i ∧ TiesOk nm us ∧ Flips us (vs.take i) ∧ FD (k + 100 + i) o', ⟨[], o3, rfl, rfl, rfl, .nil, .nil, hk3.mono (by omega)⟩, ?_, ?_⟩
      · rintro i y acc μ2 hy ⟨us, o', rfl, rfl, hul, hu', hF, hk'⟩
        rw [oneD_ones] at hy
        obtain ⟨v, hv1, rfl⟩ := ones_get hy
        have ilt := (List.getElem?_eq_some_iff.mp hv1).1
        have hF1 := hF.snoc v
        rw [← take_get hv1] at hF1
        obtain ⟨v1, v2, v3⟩ := hv v (List.mem_of_getElem? hv1)
        have sl : ((us.map endD).map Dl.A.d).length < sizeLine := by
          rw [List.length_map, List.length_map]
          exact Nat.lt_of_le_of_lt (show us.length ≤ 14 by omega) (by decide)
        refine ⟨trivial, _, rfl, iteT ?_⟩
        refine ⟨_, rfl, fr_draw rfl hk' (by omega) ⟨by decide, by decide⟩ fun r o4 _ _ hk4 => ⟨_, rfl, iteE (fun h => ?a1) (fun h => ?a2)⟩⟩
        case a1 =>
          refine ⟨_, rfl, ix_tup (j := 1) rfl ⟨_, rfl, ix_tup (j := 0) rfl ⟨[_, _], rfl, len2, sl, us ++ [(v.2, v.1)], o4, ?_, rfl, by rw [List.length_append, hul]; rfl, hu'.snoc ⟨v2, v1, v3.symm⟩, hF1.2, hk4.mono (by omega)⟩⟩⟩
          rw [List.map_append, List.map_append]
          rfl
        case a2 =>
          refine ⟨_, rfl, sl, us ++ [(v.1, v.2)], o4, ?_, rfl, by rw [List.length_append, hul]; rfl, hu'.snoc ⟨v1, v2, v3⟩, hF1.1, hk4.mono (by omega)⟩
          rw [List.map_append, List.map_append]
          rfl
      rintro acc μ2 ⟨us, o', rfl, rfl, hul, hu', hF, hk'⟩
      rw [oneD_ones, List.length_map] at hul hk' hF
      rw [List.take_length] at hF
      refine ⟨trivial, .inl ⟨us.map endD, rfl, ?_⟩⟩
      refine ⟨_, rfl, _, rfl, len_lst ?_⟩
      refine fr_names rfl hk' (by omega) fun s2 o4 hp2 hk4 => ?_
      rw [List.length_map]
      have rl : (s2.take us.length).length = us.length := take_len hp2 (by omega)
      have rnd := take_nd hp2 us.length
      have rok := take_ok hp2 us.length
      have rin : ∀ s ∈ s2.take us.length, s ∈ names14 := fun s h => hp2.mem_iff.mp (List.mem_of_mem_take h)
      generalize s2.take us.length = rn at rl rnd rok rin
      refine ⟨_, rfl, _, rfl, fr_mixed PyData.str nm rfl (.inl rfl) hk4 (by omega) (by omega) fun ps o5 hp5 hk5 => ⟨_, _, rfl, .inl rfl, ?_⟩⟩
      refine ⟨_, rfl, _, rfl, .inl ⟨_, _, rfl, ?_⟩⟩
      refine lc_pure roadF trivial (Nat.le_trans (zip_len rn us) (Nat.le_trans (show us.length ≤ 14 by omega) (by decide))) (fun i y hy Q hQ => ?_) (.inl ⟨_, zip_road rn us, ?_⟩)
      · obtain ⟨n, e, rfl⟩ := Rp.zip_get hy
        exact ⟨_, rfl, rfl, _, _, rfl, _, rfl, _, _, rfl, _, rfl, rfl, _, rfl, [_], rfl, len1, _, rfl, (show 1 + 2 ≤ sizeLine from by decide), hQ⟩
      refine ⟨_, _, rfl, .inl rfl, [_, _], rfl, len2, ?_⟩
      have fd : FD (k + 200) o5 := hk5.mono (by omega)
      exact feedRet fd (q ps (mkR rn us) o5 (web_of hp5 (by omega) (by omega) nnd nok rl (by omega) rnd rok hu') ⟨fun s h => nin s (hp5.mem_iff.mp h), mkR_in rin⟩ (by rw [hp5.length_eq, nl]) (one_of hB hvs hF rl hp5) (fun w => tree_of (hT2 (by omega)) hvs hF rl hp5) (by rw [mkR_len rl, hul, hvs.length_eq]; omega) fd)
  · rintro xs μ Pk Ex ⟨o, k, m, c, rfl, _⟩
    rfl
theorem ok__law_brings {f : Addr} {fd : FuncData} (F : FunV K "_law_brings" "_law_brings" st__law_brings f fd) (C__law_walked : CalG P w K mg base "_law_walked" 1 R__law_walked)  : FnG P w K mg base (L2.CX P w) 2 f fd ["_law_web", "_law_rota", "_law_place"] (SpD K R__law_brings) := by
  refine cal_ofG F sc__law_brings ?_ (fun cd A ou s H E W hg hr tk po => ?_)
  rotate_left
  have hN := sc__law_brings.nd
  have hu := hr.units
  have hu65 := hr.units65
  refine ⟨_, (dss_one (ds_ret (dNotIn d_bl (d_lc (own := [("_law_start", 3)]) rfl hN (di_any (dIx (d_var 0) d_int)) (blkOk_by (N := ns__law_brings) (sc := defScope st__law_brings) (by decide +kernel)) (fun _ _ _ _ _ => (dg_name (i := 3) hN)) (fun _ _ _ _ _ => dts_nil) (fun _ _ _ _ _ => (d_din hu (d_var 2) (d_calG C__law_walked hg (hr.mono (by omega)) (da_cons (d_var 0) (da_cons (d_var 1) (da_cons (d_disp1 (d_var 3) d_bl) da_nil)))))))))), ?_⟩
  · rintro xs μ Pk Ex old ⟨ps, rs, s, r, rfl, rfl, ok, hs, hr, qq⟩
    have p10 := ok.p.most
    have rl := hr.len
    have r14 := ok.r.most
    refine ⟨_, rfl, ix_tup (j := 0) rfl ?_⟩
    refine lc_mapJ ps .str (fun x => .bool (decide (s ∈ hvL rs [x] r))) (oneD_ones _ _) (fun _ => trivial) (Nat.le_trans p10 (by decide)) (fun x hx μ' Q hQ => ?_) (fun μ' => nin_fls5 (data0 qq))
    refine ⟨_, rfl, ?_⟩
    refine ⟨_, rfl, _, rfl, _, rfl, _, rfl, .inr x, rfl, ?_⟩
    refine fr_walked (H := [x]) (r := r) get_end ok (.inl rfl) hr.ok.sub (by omega) (by simp) (fun q hq => by rw [List.mem_singleton.mp hq]; exact hx) ?_
    refine ⟨_, _, .inr s, rfl, get_end, rfl, ?_⟩
    rw [hv_in, Bool.false_xor]
    exact hQ _
  · rintro xs μ Pk Ex ⟨ps, rs, s, r, rfl, _⟩
    rfl
end
end K45
set_option Elab.async false
set_option linter.all false
set_option maxRecDepth 100000
set_option maxHeartbeats 4000000
namespace K45
open PySem PySem.Spec PyProof.Rows L2 Dl Rp
local macro_rules | `(tactic| and_intros) => `(tactic| repeat (first | refine ⟨_, rfl, ?_⟩ | refine iteT ?_ | refine iteF ?_ | refine ⟨_, _, rfl, rfl, ?_⟩ | refine add_int ?_ | refine len_tup ?_ | refine len_lst ?_ | refine tgt2 ?_ | refine tgt3 ?_ | refine ⟨[_], rfl, len1, ?_⟩ | refine ⟨[_, _], rfl, len2, ?_⟩ | refine ⟨[_, _, _], rfl, len3, ?_⟩))
section
variable {P : Program} {w : World} {K : PySem.W.Frag} {mg : Str → Option Value} {base : Heap}
theorem ok_first_kept {f : Addr} {fd : FuncData} (F : FunV K "first_kept" "first_kept" st_first_kept f fd) (Z : ∀ x, x ∈ blt → mg x = none) (C_comes_home : CalG P w K mg base "comes_home" 2 R_comes_home) (C_goes_out : CalG P w K mg base "goes_out" 2 R_goes_out) (C_known_behind : CalG P w K mg base "known_behind" 1 R_known_behind)  : FnG P w K mg base (L2.CX P w) 3 f fd ["web", "place", "can_go"] (SpD K (R_first_kept45 mg)) := by
  refine cal_ofG F sc_first_kept ?_ (fun cd A ou s H E W hg hr tk po => ?_)
  rotate_left
  have hN := sc_first_kept.nd
  have hu := hr.units
  have hu65 := hr.units65
  refine ⟨_, (dss_cons (ds_set (i := 3) hN (d_dc (own := [("at", 7), ("one", 11)]) rfl hN (di_enT (da_cons (dIx (d_var 0) d_int) da_nil) (Z "enumerate" (by decide))) (blkOk_by (N := ns_first_kept) (sc := defScope st_first_kept) (by decide +kernel)) (fun _ _ _ _ _ => (dg_tup (n := 2) rfl (dgs_cons (dg_name (i := 7) hN) (dgs_cons (dg_name (i := 11) hN) dgs_nil)))) (fun _ _ _ _ _ => dts_nil) (fun _ _ _ _ _ => (d_var 11)) (fun _ _ _ _ _ => (d_var 7)))) (dss_cons (ds_setLc (i := 4) (own := [("name", 8), ("near", 9), ("far", 10)]) rfl hN (di_any (dIx (d_var 0) d_int)) (blkOk_by (N := ns_first_kept) (sc := defScope st_first_kept) (by decide +kernel)) (fun _ _ _ _ _ => (dg_tup (n := 3) rfl (dgs_cons (dg_name (i := 8) hN) (dgs_cons (dg_name (i := 9) hN) (dgs_cons (dg_name (i := 10) hN) dgs_nil))))) (fun _ _ _ _ _ => dts_nil) (fun _ _ _ _ _ => (d_tup (da_cons (d_var 8) (da_cons (d_dget hu (d_var 3) (d_var 9)) (da_cons (d_dget hu (d_var 3) (d_var 10)) da_nil))))) (sw_true rfl rfl rfl rfl)) (dss_cons (ds_setLc (i := 5) (own := [("at", 7)]) rfl hN (di_range1 (da_cons (d_callB call_lenD s_lenD (da_cons (d_var 3) da_nil) (Z "len" (by decide))) da_nil) (Z "range" (by decide))) (blkOk_by (N := ns_first_kept) (sc := defScope st_first_kept) (by decide +kernel)) (fun _ _ _ _ _ => (dg_name (i := 7) hN)) (fun _ _ _ _ _ => dts_nil) (fun _ _ _ _ _ => (d_shl d_int (d_var 7))) (sw_true rfl rfl rfl rfl)) (dss_cons (ds_set (i := 6) hN (d_lstU da_nil)) (dss_cons (ds_while po (dt_truth (d_var 4)) (dss_cons (ds_set (i := 7) hN d_int) (dss_cons (ds_while po (dt_not (dt_truth (d_either (d_calV 2 rfl rfl C_goes_out hg (hr.mono (by omega)) (da_cons (d_var 4) (da_cons (d_var 5) (da_cons (d_dget hu (d_var 3) (d_var 1)) (da_cons (d_var 7) da_nil))))) (d_calV 2 rfl rfl C_comes_home hg (hr.mono (by omega)) (da_cons (d_var 4) (da_cons (d_var 5) (da_cons (d_dget hu (d_var 3) (d_var 1)) (da_cons (d_var 7) da_nil)))))))) (dss_one (ds_set (i := 7) hN (dAdd (d_var 7) d_int)))) (dss_cons (ds_asg (dIx (d_var 4) (d_var 7)) (dg_tup (n := 3) rfl (dgs_cons (dg_name (i := 8) hN) (dgs_cons (dg_name (i := 9) hN) (dgs_cons (dg_name (i := 10) hN) dgs_nil))))) (dss_cons (ds_set (i := 5) hN (d_calG C_known_behind hg (hr.mono (by omega)) (da_cons (d_lstU (da_cons (d_tup (da_cons (d_var 9) (da_cons (d_var 10) da_nil))) da_nil)) (da_cons (d_var 5) da_nil)))) (dss_cons (ds_set (i := 4) hN (dAdd (d_slice (d_var 4) do_none (do_some (d_var 7))) (d_slice (d_var 4) (do_some (dAdd (d_var 7) d_int)) do_none))) (dss_one (ds_expr (d_bm PySem.F.plainAttrs_list PySem.F.slot_list_append PySem.F.type_list_append mt_append s_append (d_var 6) (da_cons (d_var 8) da_nil)))))))))) (dss_one (ds_ret (d_callTy call_tupleN s_tuple (da_cons (d_var 6) da_nil) (Z "tuple" (by decide)))))))))), ?_⟩
  · rintro xs μ Pk Ex old ⟨ps, rs, s, f, rfl, rfl, ok, op, hs, qq⟩
    rcases qq with ⟨hf, qq⟩ | ⟨hf, qq⟩
    · have p10 := ok.p.most
      have r14 := ok.r.most
      have nd := ok.p.nd
      refine ⟨_, rfl, ix_tup (j := 0) rfl ?_⟩
      refine ⟨_, rfl, ?_⟩
      refine dc_ix ps (fun x => .inr x) (fun i _ => .d (.int (i : Nat))) (fun i x => .two (.d (.int (i : Nat))) (.d (.str x))) ?_ ?_ trivial (Nat.le_trans p10 (by decide)) (keys_nd nd) (fun i x hx Q hQ => ?_) ?_
      · unfold enumY
        rw [List.length_mapIdx, List.length_map, List.length_map]
      · intro i y hy
        obtain ⟨z, hz, rfl⟩ := enumY_get hy
        rw [List.getElem?_map, List.getElem?_map] at hz
        cases hx : ps[i]? with
        | none => rw [hx] at hz; cases hz
        | some x =>
          rw [hx] at hz
          obtain rfl := Option.some.inj hz
          exact ⟨x, rfl, rfl⟩
      · refine ⟨_, rfl, rfl, _, _, rfl, _, rfl, _, _, rfl, _, rfl, rfl, ?_⟩
        exact ⟨_, rfl, _, rfl, hQ⟩
      rw [num_dct nd]
      have kn : ∀ x, x ∈ ps → valA (dA (ps.map fun x => (x, PyData.int (rk ps x : Nat)))) (.inr x) = some (.d (.int (rk ps x : Nat))) := fun x hx => dA_at (by unfold kd; rw [List.map_map]; show (ps.map fun x => x).Nodup; rw [List.map_id']; exact nd) (List.mem_map.mpr ⟨x, hx, rfl⟩)
      refine ⟨_, rfl, ix_tup (j := 1) rfl ?_⟩
      refine lc_map rs rdD (fun t => nrD ps rs t.1) (oneD_ones _ _) trivial (Nat.le_trans r14 (by decide)) (fun t ht Q hQ => ?_) ?_
      · have et := endsOf_mem ok.r.nd ht
        have e1 : nrD ps rs t.1 = .tuple [.str t.1, .int (rk ps t.2.1 : Nat), .int (rk ps t.2.2 : Nat)] := by unfold nrD; rw [et]
        rw [e1] at hQ
        refine tgt3 ⟨_, rfl, _, rfl, _, rfl, 0, _, .inr t.2.1, _, rfl, rfl, rfl, kn _ (ok.r.a t ht), ?_⟩
        refine ⟨_, rfl, _, rfl, 0, _, .inr t.2.2, _, rfl, rfl, rfl, kn _ (ok.r.b t ht), ?_⟩
        exact ⟨[_, _, _], rfl, len3, hQ⟩
      rw [show rs.map (fun t => nrD ps rs t.1) = (rnm rs).map (nrD ps rs) by unfold rnm; rw [List.map_map]; rfl]
      refine ⟨_, rfl, 0, _, rfl, rfl, ?_⟩
      have lk : (((dA (ps.map fun x => (x, PyData.int (rk ps x : Nat)))).length : Nat) : Int) = (ps.length : Nat) := by
        unfold dA
        rw [List.length_map, List.length_map]
      rw [lk]
      refine ⟨_, rfl, by omega, by omega, ?_⟩
      rw [Int.toNat_natCast]
      refine lc_mapY (List.range ps.length) (fun j => .one (.d (.int (0 + (j : Int))))) (fun j => .d (.int ((1 * 2 ^ j : Nat) : Int))) rfl trivial (by rw [List.length_range]; exact Nat.le_trans p10 (by decide)) (fun j hj Q hQ => ?_) ?_
      · have jl := List.mem_range.mp hj
        have e0 : (0 : Int) + (j : Int) = (j : Nat) := Int.zero_add _
        rw [e0]
        exact ⟨_, rfl, _, rfl, shl_q (by omega) hQ⟩
      refine .inl ⟨bI ((List.range ps.length).map fun j => 1 * 2 ^ j), by rw [List.map_map, List.map_map]; rfl, ?_⟩
      have st := KeepJ.start ok op hs
      refine ⟨Nat.zero_le _, .inr ?_⟩
      generalize hbs : dA (ps.map fun x => (x, PyData.int (rk ps x : Nat))) = nd2 at kn ⊢
      refine ⟨fun k ρ μ => ∃ (r : List Str) (L : List Nat) (got : List Str) (a b c d e : Option Dl.A), ρ = [some (.d (webD ps rs)), some (.d (.str s)), some (.v (.ref f)), some (.c 0), some (.d (.list (r.map (nrD ps rs)))), some (.d (bitsD L)), some (.c 1), a, b, c, d, e] ∧ μ = [.dct nd2, .lst ((got.map PyData.str).map Dl.A.d)] ∧ KeepJ ps rs s r L got ∧ k = r.length, ⟨_, rnm rs, _, [], _, _, _, _, _, rfl, rfl, st, rfl⟩, ?_⟩
      rintro k ρ2 μ2 ⟨r, L, got, a, b, c, d, e, rfl, rfl, J, rfl⟩
      refine ⟨_, rfl, _, rfl, ?_⟩
      have I := J.I
      have pl := I.pm.length_eq
      rw [List.length_append, List.length_map] at pl
      by_cases r0 : r = []
      · subst r0
        refine iteF ?_
        exact ⟨_, rfl, _, got.map .str, rfl, .inr (.inr ⟨1, rfl, rfl⟩), data0 (qq got (J.fin ok))⟩
      · obtain ⟨i0, e0, hi0, g0⟩ := I.some ok r0
        have li0 := (List.getElem?_eq_some_iff.mp hi0).1
        have tr : ((r.map (nrD ps rs)).isEmpty) = false := by
          cases r with
          | nil => exact absurd rfl r0
          | cons x r => rfl
        refine ifT (by first | exact congrArg not tr | (show (!_) = true; rw [tr]; rfl)) ?_
        refine ⟨fun k ρ μ => ∃ (i : Nat), ρ = [some (.d (webD ps rs)), some (.d (.str s)), some (.v (.ref f)), some (.c 0), some (.d (.list (r.map (nrD ps rs)))), some (.d (bitsD L)), some (.c 1), some (.d (.int (i : Nat))), b, c, d, e] ∧ μ = [.dct nd2, .lst ((got.map PyData.str).map Dl.A.d)] ∧ i ≤ i0 ∧ (∀ (j : Nat) g, j < i → r[j]? = some g → ¬ goP ps rs r L s j g) ∧ k = i0 - i, ⟨_, 0, rfl, rfl, Nat.zero_le _, fun j g h _ _ => Nat.not_lt_zero j h, rfl⟩, ?_⟩
        rintro k ρ3 μ3 ⟨i, rfl, rfl, hi, no, rfl⟩
        have li : i < r.length := by omega
        have ei : r[i]? = some r[i] := List.getElem?_eq_getElem li
        refine .inl ⟨f, hf, rfl, _, rfl, _, rfl, _, rfl, _, rfl, 0, _, .inr s, _, rfl, rfl, rfl, kn s hs, _, rfl, fr_goesO ok hs ⟨by omega, I.ends ok⟩ I.len I.bd ei fun bb hbb => ?_⟩
        refine ⟨_, rfl, ?_⟩
        cases bb with
        | true =>
          have go := hbb.mp rfl
          refine iteF ?_
          have hmi := List.mem_of_getElem? ei
          generalize hE : r[i] = e1 at ei go hmi
          refine ⟨_, rfl, _, rfl, ix_lstI (Int.natCast_nonneg i) (z := nrD ps rs e1) (by rw [Int.toNat_natCast, List.getElem?_map, ei]; rfl) (tgt3 ?_)⟩
          refine ⟨_, rfl, _, rfl, [_, _], rfl, len2, len1, .inl ⟨[numD ps rs e1], rfl, ?_⟩⟩
          refine ⟨_, rfl, fr_kb ok (I.ends ok e1 hmi) I.len ?_⟩
          refine ⟨_, rfl, _, rfl, _, rfl, .inr (.inr (.inl ⟨_, rfl, ?_⟩))⟩
          rw [cutE_map]
          refine ⟨_, rfl, _, rfl, add_int ⟨_, rfl, .inr (.inr (.inl ⟨_, rfl, ?_⟩))⟩⟩
          rw [cutE_mapF]
          refine add_lsE (Nat.le_trans (by rw [List.length_map, List.length_map, List.length_take, List.length_drop]; omega) (show 28 ≤ sizeLine by decide)) ?_
          rw [← List.map_append]
          refine ⟨_, rfl, .inr (.inl ⟨rfl, .inr ⟨_, _, rfl, rfl⟩⟩), _, rfl, 1, _, _, rfl, rfl, rfl, ?_, ?_⟩
          · rw [List.length_map, List.length_map]
            exact Nat.lt_of_le_of_lt (show got.length ≤ 14 by omega) (by decide)
          have le2 : (r.take i ++ r.drop (i + 1)).length < r.length := by
            rw [List.length_append, List.length_take, List.length_drop]
            omega
          refine ⟨_, le2, _, kbL ps rs [e1] L, got ++ [e1], _, _, _, _, _, rfl, ?_, J.step ok ei go no, rfl⟩
          rw [List.map_append, List.map_append]
          rfl
        | false =>
          have ne : i ≠ i0 := fun w => by
            subst w
            rw [hi0] at ei
            have e1 := Option.some.inj ei
            rw [← e1] at hbb
            exact absurd (hbb.mpr g0) (by decide)
          refine iteT ⟨_, rfl, add_int ?_⟩
          have no2 : ∀ (j : Nat) g, j < i + 1 → r[j]? = some g → ¬ goP ps rs r L s j g := fun j g h hg w => by
            rcases Nat.lt_succ_iff_lt_or_eq.mp h with h | rfl
            · exact no j g h hg w
            · rw [ei] at hg
              have e1 := Option.some.inj hg
              rw [← e1] at w
              exact absurd (hbb.mpr w) (by decide)
          exact ⟨_, (show i0 - (i + 1) < i0 - i by omega), i + 1, rfl, rfl, by omega, no2, rfl⟩
    · have p10 := ok.p.most
      have r14 := ok.r.most
      have nd := ok.p.nd
      refine ⟨_, rfl, ix_tup (j := 0) rfl ?_⟩
      refine ⟨_, rfl, ?_⟩
      refine dc_ix ps (fun x => .inr x) (fun i _ => .d (.int (i : Nat))) (fun i x => .two (.d (.int (i : Nat))) (.d (.str x))) ?_ ?_ trivial (Nat.le_trans p10 (by decide)) (keys_nd nd) (fun i x hx Q hQ => ?_) ?_
      · unfold enumY
        rw [List.length_mapIdx, List.length_map, List.length_map]
      · intro i y hy
        obtain ⟨z, hz, rfl⟩ := enumY_get hy
        rw [List.getElem?_map, List.getElem?_map] at hz
        cases hx : ps[i]? with
        | none => rw [hx] at hz; cases hz
        | some x =>
          rw [hx] at hz
          obtain rfl := Option.some.inj hz
          exact ⟨x, rfl, rfl⟩
      · refine ⟨_, rfl, rfl, _, _, rfl, _, rfl, _, _, rfl, _, rfl, rfl, ?_⟩
        exact ⟨_, rfl, _, rfl, hQ⟩
      rw [num_dct nd]
      have kn : ∀ x, x ∈ ps → valA (dA (ps.map fun x => (x, PyData.int (rk ps x : Nat)))) (.inr x) = some (.d (.int (rk ps x : Nat))) := fun x hx => dA_at (by unfold kd; rw [List.map_map]; show (ps.map fun x => x).Nodup; rw [List.map_id']; exact nd) (List.mem_map.mpr ⟨x, hx, rfl⟩)
      refine ⟨_, rfl, ix_tup (j := 1) rfl ?_⟩
      refine lc_map rs rdD (fun t => nrD ps rs t.1) (oneD_ones _ _) trivial (Nat.le_trans r14 (by decide)) (fun t ht Q hQ => ?_) ?_
      · have et := endsOf_mem ok.r.nd ht
        have e1 : nrD ps rs t.1 = .tuple [.str t.1, .int (rk ps t.2.1 : Nat), .int (rk ps t.2.2 : Nat)] := by unfold nrD; rw [et]
        rw [e1] at hQ
        refine tgt3 ⟨_, rfl, _, rfl, _, rfl, 0, _, .inr t.2.1, _, rfl, rfl, rfl, kn _ (ok.r.a t ht), ?_⟩
        refine ⟨_, rfl, _, rfl, 0, _, .inr t.2.2, _, rfl, rfl, rfl, kn _ (ok.r.b t ht), ?_⟩
        exact ⟨[_, _, _], rfl, len3, hQ⟩
      rw [show rs.map (fun t => nrD ps rs t.1) = (rnm rs).map (nrD ps rs) by unfold rnm; rw [List.map_map]; rfl]
      refine ⟨_, rfl, 0, _, rfl, rfl, ?_⟩
      have lk : (((dA (ps.map fun x => (x, PyData.int (rk ps x : Nat)))).length : Nat) : Int) = (ps.length : Nat) := by
        unfold dA
        rw [List.length_map, List.length_map]
      rw [lk]
      refine ⟨_, rfl, by omega, by omega, ?_⟩
      rw [Int.toNat_natCast]
      refine lc_mapY (List.range ps.length) (fun j => .one (.d (.int (0 + (j : Int))))) (fun j => .d (.int ((1 * 2 ^ j : Nat) : Int))) rfl trivial (by rw [List.length_range]; exact Nat.le_trans p10 (by decide)) (fun j hj Q hQ => ?_) ?_
      · have jl := List.mem_range.mp hj
        have e0 : (0 : Int) + (j : Int) = (j : Nat) := Int.zero_add _
        rw [e0]
        exact ⟨_, rfl, _, rfl, shl_q (by omega) hQ⟩
      refine .inl ⟨bI ((List.range ps.length).map fun j => 1 * 2 ^ j), by rw [List.map_map, List.map_map]; rfl, ?_⟩
      have st := KeepH.start ok op hs
      refine ⟨Nat.zero_le _, .inr ?_⟩
      generalize hbs : dA (ps.map fun x => (x, PyData.int (rk ps x : Nat))) = nd2 at kn ⊢
      refine ⟨fun k ρ μ => ∃ (r : List Str) (L : List Nat) (got : List Str) (a b c d e : Option Dl.A), ρ = [some (.d (webD ps rs)), some (.d (.str s)), some (.v (.ref f)), some (.c 0), some (.d (.list (r.map (nrD ps rs)))), some (.d (bitsD L)), some (.c 1), a, b, c, d, e] ∧ μ = [.dct nd2, .lst ((got.map PyData.str).map Dl.A.d)] ∧ KeepH ps rs s r L got ∧ k = r.length, ⟨_, rnm rs, _, [], _, _, _, _, _, rfl, rfl, st, rfl⟩, ?_⟩
      rintro k ρ2 μ2 ⟨r, L, got, a, b, c, d, e, rfl, rfl, J, rfl⟩
      refine ⟨_, rfl, _, rfl, ?_⟩
      have I := J
      have pl := I.pm.length_eq
      rw [List.length_append, List.length_map] at pl
      by_cases r0 : r = []
      · subst r0
        refine iteF ?_
        exact ⟨_, rfl, _, got.map .str, rfl, .inr (.inr ⟨1, rfl, rfl⟩), data0 (qq got (J.fin ok hs))⟩
      · obtain ⟨i0, e0, hi0, g0⟩ := I.some ok hs r0
        have li0 := (List.getElem?_eq_some_iff.mp hi0).1
        have tr : ((r.map (nrD ps rs)).isEmpty) = false := by
          cases r with
          | nil => exact absurd rfl r0
          | cons x r => rfl
        refine ifT (by first | exact congrArg not tr | (show (!_) = true; rw [tr]; rfl)) ?_
        refine ⟨fun k ρ μ => ∃ (i : Nat), ρ = [some (.d (webD ps rs)), some (.d (.str s)), some (.v (.ref f)), some (.c 0), some (.d (.list (r.map (nrD ps rs)))), some (.d (bitsD L)), some (.c 1), some (.d (.int (i : Nat))), b, c, d, e] ∧ μ = [.dct nd2, .lst ((got.map PyData.str).map Dl.A.d)] ∧ i ≤ i0 ∧ (∀ (j : Nat) g, j < i → r[j]? = some g → ¬ homP ps rs r L s j g) ∧ k = i0 - i, ⟨_, 0, rfl, rfl, Nat.zero_le _, fun j g h _ _ => Nat.not_lt_zero j h, rfl⟩, ?_⟩
        rintro k ρ3 μ3 ⟨i, rfl, rfl, hi, no, rfl⟩
        have li : i < r.length := by omega
        have ei : r[i]? = some r[i] := List.getElem?_eq_getElem li
        refine .inr ⟨f, hf, rfl, _, rfl, _, rfl, _, rfl, _, rfl, 0, _, .inr s, _, rfl, rfl, rfl, kn s hs, _, rfl, fr_comes ok hs ⟨by omega, I.ends ok⟩ I.len I.bd ei fun bb hbb => ?_⟩
        refine ⟨_, rfl, ?_⟩
        cases bb with
        | true =>
          have go := hbb.mp rfl
          refine iteF ?_
          have hmi := List.mem_of_getElem? ei
          generalize hE : r[i] = e1 at ei go hmi
          refine ⟨_, rfl, _, rfl, ix_lstI (Int.natCast_nonneg i) (z := nrD ps rs e1) (by rw [Int.toNat_natCast, List.getElem?_map, ei]; rfl) (tgt3 ?_)⟩
          refine ⟨_, rfl, _, rfl, [_, _], rfl, len2, len1, .inl ⟨[numD ps rs e1], rfl, ?_⟩⟩
          refine ⟨_, rfl, fr_kb ok (I.ends ok e1 hmi) I.len ?_⟩
          refine ⟨_, rfl, _, rfl, _, rfl, .inr (.inr (.inl ⟨_, rfl, ?_⟩))⟩
          rw [cutE_map]
          refine ⟨_, rfl, _, rfl, add_int ⟨_, rfl, .inr (.inr (.inl ⟨_, rfl, ?_⟩))⟩⟩
          rw [cutE_mapF]
          refine add_lsE (Nat.le_trans (by rw [List.length_map, List.length_map, List.length_take, List.length_drop]; omega) (show 28 ≤ sizeLine by decide)) ?_
          rw [← List.map_append]
          refine ⟨_, rfl, .inr (.inl ⟨rfl, .inr ⟨_, _, rfl, rfl⟩⟩), _, rfl, 1, _, _, rfl, rfl, rfl, ?_, ?_⟩
          · rw [List.length_map, List.length_map]
            exact Nat.lt_of_le_of_lt (show got.length ≤ 14 by omega) (by decide)
          have le2 : (r.take i ++ r.drop (i + 1)).length < r.length := by
            rw [List.length_append, List.length_take, List.length_drop]
            omega
          refine ⟨_, le2, _, kbL ps rs [e1] L, got ++ [e1], _, _, _, _, _, rfl, ?_, J.step ok ei go no, rfl⟩
          rw [List.map_append, List.map_append]
          rfl
        | false =>
          have ne : i ≠ i0 := fun w => by
            subst w
            rw [hi0] at ei
            have e1 := Option.some.inj ei
            rw [← e1] at hbb
            exact absurd (hbb.mpr g0) (by decide)
          refine iteT ⟨_, rfl, add_int ?_⟩
          have no2 : ∀ (j : Nat) g, j < i + 1 → r[j]? = some g → ¬ homP ps rs r L s j g := fun j g h hg w => by
            rcases Nat.lt_succ_iff_lt_or_eq.mp h with h | rfl
            · exact no j g h hg w
            · rw [ei] at hg
              have e1 := Option.some.inj hg
              rw [← e1] at w
              exact absurd (hbb.mpr w) (by decide)
          exact ⟨_, (show i0 - (i + 1) < i0 - i by omega), i + 1, rfl, rfl, by omega, no2, rfl⟩
  · rintro xs μ Pk Ex ⟨ps, rs, s, f, rfl, _⟩
    rfl
theorem ok__law_one {f : Addr} {fd : FuncData} (F : FunV K "_law_one" "_law_one" st__law_one f fd) (Z : ∀ x, x ∈ blt → mg x = none) (C__law_draw : CalG P w K mg base "_law_draw" 1 R__law_draw)  : FnG P w K mg base (L2.CX P w) 2 f fd ["_law_feed_here", "_law_things"] (SpD K R__law_one) := by
  refine cal_ofG F sc__law_one ?_ (fun cd A ou s H E W hg hr tk po => ?_)
  rotate_left
  have hN := sc__law_one.nd
  have hu := hr.units
  have hu65 := hr.units65
  refine ⟨_, (dss_one (ds_ret (dIx (d_var 1) (d_calG C__law_draw hg (hr.mono (by omega)) (da_cons (d_var 0) (da_cons (d_callB call_len s_lenU (da_cons (d_var 1) da_nil) (Z "len" (by decide))) da_nil)))))), ?_⟩
  · rintro xs μ Pk Ex old ⟨o, k, y, ds, rfl, rfl, hy, ⟨hz0, hz1⟩, hk, k1, q⟩
    have hs : SeqOf (.d y) [o] (ds.map Dl.A.d) := by
      rcases hy with rfl | rfl
      · exact .inl rfl
      · exact .inr ⟨_, rfl, rfl⟩
    refine ⟨_, rfl, _, rfl, _, rfl, len_of hs ?_⟩
    rw [List.length_map]
    refine fr_draw rfl hk k1 ⟨by omega, by omega⟩ fun r o' h0 h1 hk' => ?_
    obtain ⟨j, rfl⟩ := Int.eq_ofNat_of_zero_le h0
    have lt : j < ds.length := by omega
    have hs2 : SeqOf (.d y) [o'] (ds.map Dl.A.d) := by
      rcases hy with rfl | rfl
      · exact .inl rfl
      · exact .inr ⟨_, rfl, rfl⟩
    refine ix_of (x := .d ds[j]) hs2 (by rw [List.getElem?_map, List.getElem?_eq_getElem lt]; rfl) ?_
    exact feedRet (l := []) hk' (q _ o' (List.getElem_mem lt) hk')
  · rintro xs μ Pk Ex ⟨o, k, y, ds, rfl, _⟩
    rfl
end
end K45
set_option Elab.async false
set_option linter.all false
set_option maxRecDepth 100000
set_option maxHeartbeats 4000000
namespace K45
open PySem PySem.Spec PyProof.Rows L2 Dl Rp
local macro_rules | `(tactic| and_intros) => `(tactic| repeat (first | refine ⟨_, rfl, ?_⟩ | refine iteT ?_ | refine iteF ?_ | refine ⟨_, _, rfl, rfl, ?_⟩ | refine add_int ?_ | refine len_tup ?_ | refine len_lst ?_ | refine tgt2 ?_ | refine tgt3 ?_ | refine ⟨[_], rfl, len1, ?_⟩ | refine ⟨[_, _], rfl, len2, ?_⟩ | refine ⟨[_, _, _], rfl, len3, ?_⟩))
section
variable {P : Program} {w : World} {K : PySem.W.Frag} {mg : Str → Option Value} {base : Heap}
theorem ok__law_no_web {f : Addr} {fd : FuncData} (F : FunV K "_law_no_web" "_law_no_web" st__law_no_web f fd) (Z : ∀ x, x ∈ blt → mg x = none) (C__law_one : CalG P w K mg base "_law_one" 2 R__law_one)  : FnG P w K mg base (L2.CX P w) 3 f fd ["_law_feed_here", "_law_web"] (SpD K R__law_no_web) := by
  refine cal_ofG F sc__law_no_web ?_ (fun cd A ou s H E W hg hr tk po => ?_)
  rotate_left
  have hN := sc__law_no_web.nd
  have hu := hr.units
  have hu65 := hr.units65
  refine ⟨_, (dss_cons (ds_asg (d_var 1) (dg_tup (n := 2) rfl (dgs_cons (dg_name (i := 2) hN) (dgs_cons (dg_name (i := 3) hN) dgs_nil)))) (dss_cons (ds_par (i := 4) (j := 5) rfl hN (da_cons (dIx (d_var 2) d_int) (da_cons (d_tup (da_cons d_str (da_cons (dIx (d_var 2) d_int) (da_cons (dIx (d_var 2) (d_neg d_int)) da_nil)))) da_nil))) (dss_cons (ds_set (i := 6) hN (d_lstU (da_cons d_non (da_cons (d_slice (d_var 1) do_none (do_some d_int)) (da_cons (d_callTy call_list_of s_listU (da_cons (d_var 1) da_nil) (Z "list" (by decide))) (da_cons (d_tup (da_cons (d_var 2) (da_cons (d_callTy call_list_of s_listU (da_cons (d_var 3) da_nil) (Z "list" (by decide))) da_nil))) (da_cons (d_tup (da_cons (d_callTy call_list_of s_listU (da_cons (d_var 2) da_nil) (Z "list" (by decide))) (da_cons (d_var 3) da_nil))) (da_cons (d_tup (da_cons (d_tup da_nil) (da_cons (d_tup da_nil) da_nil))) (da_cons (d_tup (da_cons (dAdd (d_var 2) (d_slice (d_var 2) do_none (do_some d_int))) (da_cons (d_var 3) da_nil))) (da_cons d_int (da_cons d_str da_nil))))))))))) (dss_cons (ds_expr (d_bm PySem.F.plainAttrs_list PySem.F.slot_list_extend PySem.F.type_list_extend mt_extendB s_extB (d_var 6) (da_cons (d_lstU (da_cons (d_tup (da_cons (d_var 2) (da_cons (dAdd (d_var 3) (d_tup (da_cons (dAdd (d_slice (d_var 5) do_none (do_some d_int)) (d_tup (da_cons d_str da_nil))) da_nil))) da_nil))) (da_cons (d_tup (da_cons (d_var 2) (da_cons (dAdd (d_var 3) (d_tup (da_cons (d_tup (da_cons d_str (da_cons (d_var 4) (da_cons (d_var 4) da_nil)))) da_nil))) da_nil))) (da_cons (d_tup (da_cons (dAdd (d_var 2) (d_tup (da_cons d_str da_nil))) (da_cons (d_var 3) da_nil))) da_nil)))) da_nil))) (dss_cons (ds_expr (d_bm PySem.F.plainAttrs_list PySem.F.slot_list_extend PySem.F.type_list_extend mt_extendB s_extB (d_var 6) (da_cons (d_lstU (da_cons (d_tup (da_cons (d_var 2) (da_cons (dAdd (d_var 3) (d_tup (da_cons (d_slice (d_var 5) do_none (do_some d_int)) da_nil))) da_nil))) (da_cons (d_tup (da_cons (d_var 2) (da_cons (dAdd (d_var 3) (d_tup (da_cons (dAdd (d_slice (d_var 5) do_none (do_some d_int)) (d_tup (da_cons (d_lstU (da_cons (dIx (d_var 5) d_int) da_nil)) da_nil))) da_nil))) da_nil))) (da_cons (d_tup (da_cons (dAdd (d_slice (d_var 2) do_none (do_some (d_neg d_int))) (d_tup (da_cons (d_lstU (da_cons (dIx (d_var 2) (d_neg d_int)) da_nil)) da_nil))) (da_cons (d_var 3) da_nil))) da_nil)))) da_nil))) (dss_cons (ds_if (tNe hu (d_var 3) (d_tup da_nil)) (dss_one (ds_expr (d_bm PySem.F.plainAttrs_list PySem.F.slot_list_extend PySem.F.type_list_extend mt_extendB s_extB (d_var 6) (da_cons (d_lstU (da_cons (d_tup (da_cons (d_var 2) (da_cons (dAdd (d_var 3) (d_slice (d_var 3) (do_some (d_neg d_int)) do_none)) da_nil))) (da_cons (d_tup (da_cons (d_var 2) (da_cons (dAdd (d_slice (d_var 3) do_none (do_some (d_neg d_int))) (d_tup (da_cons (d_callTy call_list_of s_listU (da_cons (dIx (d_var 3) (d_neg d_int)) da_nil) (Z "list" (by decide))) da_nil))) da_nil))) (da_cons (d_tup (da_cons (d_var 2) (da_cons (dAdd (d_slice (d_var 3) do_none (do_some (d_neg d_int))) (d_tup (da_cons (dAdd (dIx (d_var 3) (d_neg d_int)) (d_tup (da_cons d_int da_nil))) da_nil))) da_nil))) da_nil)))) da_nil)))) dss_nil) (dss_frz (i := 6) (dss_one (ds_ret (d_calG C__law_one hg (hr.mono (by omega)) (da_cons (d_var 0) (da_cons (d_var 6) da_nil)))))))))))), ?_⟩
  · rintro xs μ Pk Ex old ⟨o, k, ps, rs, rfl, rfl, ok, ni, hk, k1, q⟩
    have p10 := ok.p.most
    have p1 := ok.p.one
    have r14 := ok.r.most
    have k0 := hk.pos
    have nw : ("lone9" : Str) ∉ ps := fun h => absurd (ni.p _ h) (by decide)
    have hpP := plain_places ok.p
    have hpR := plain_roads ok.p ok.r
    obtain ⟨p, t, ept⟩ : ∃ p t, ps = p :: t := by
      cases ps with
      | nil => exact absurd p1 (by decide)
      | cons p t => exact ⟨p, t, rfl⟩
    have p0 : (ps.map PyData.str)[0]? = some (.str p) := by rw [ept]; rfl
    have pD : (ps.map PyData.str).length = ps.length := List.length_map ..
    have rD : (rs.map rdD).length = rs.length := List.length_map ..
    have sz : ∀ n, n ≤ 100 → n ≤ sizeLine := fun n h => Nat.le_trans h (by decide)
    have l2 : ∀ a b : Dl.A, [a, b].length ≤ sizeLine := fun a b => show 2 ≤ sizeLine by decide
    refine ⟨_, rfl, tgt2 ?_⟩
    refine ⟨_, rfl, ix_tup (j := 0) p0 ?_⟩
    refine ⟨_, rfl, ix_tup (j := 0) p0 ?_⟩
    obtain ⟨z, hz⟩ : ∃ z, ps[ps.length - 1]? = some z := ⟨_, List.getElem?_eq_getElem (show ps.length - 1 < ps.length by omega)⟩
    have hzD : (ps.map PyData.str)[(ps.map PyData.str).length - 1]? = some (.str z) := by rw [pD, List.getElem?_map, hz]; rfl
    have hzm := List.mem_of_getElem? hz
    refine ⟨_, rfl, _, rfl, ix_ngT (by rw [pD]; exact p1) hzD ?_⟩
    refine ⟨[_, _, _], rfl, len3, _, _, rfl, ?_⟩
    have szP : ∀ x : PyData, ((ps.map PyData.str).length + [x].length) ≤ sizeLine := fun x => sz _ (by rw [pD]; simp; omega)
    have szR : ∀ x : PyData, ((rs.map rdD).length + [x].length) ≤ sizeLine := fun x => sz _ (by rw [rD]; simp; omega)
    have lpP : (ps.map PyData.str).length ≤ 100 := by rw [pD]; omega
    have lrR : (rs.map rdD).length ≤ 100 := by rw [rD]; omega
    have p8 : p.length ≤ 1000 := name_1000 (ok.p.nm p (by rw [ept]; exact List.mem_cons_self ..))
    have z8 : z.length ≤ 1000 := name_1000 (ok.p.nm z hzm)
    have e0 : plainB (.tuple []) = true := by decide
    have pp := plain_str.mpr p8
    have pz := plain_str.mpr z8
    have cutP : cut (ps.map PyData.str) none (some 1) = [.str p] := by rw [ept]; rfl
    refine ⟨_, rfl, _, rfl, .inr (.inl ⟨_, rfl, ?_⟩)⟩
    refine ⟨_, rfl, _, _, rfl, .inr ⟨_, rfl, rfl⟩, .inl ⟨[_, _], rfl, ?_⟩⟩
    refine ⟨_, rfl, _, rfl, _, _, rfl, .inr ⟨_, rfl, rfl⟩, .inl ⟨_, rfl, [_, _], rfl, len2, ?_⟩⟩
    refine ⟨_, rfl, _, _, rfl, .inr ⟨_, rfl, rfl⟩, .inl ⟨_, rfl, _, rfl, [_, _], rfl, len2, ?_⟩⟩
    refine ⟨[], rfl, by decide, [], rfl, by decide, [_, _], rfl, len2, ?_⟩
    refine ⟨_, rfl, _, rfl, _, rfl, .inr (.inl ⟨_, rfl, ?_⟩)⟩
    rw [cutP]
    refine ⟨szP _, _, rfl, [_, _], rfl, len2, ?_⟩
    refine ⟨by show 9 ≤ sizeLine; decide, .inr ?_⟩
    have cut5 : cut [PyData.str "new9", .str p, .str z] none (some 2) = [.str "new9", .str p] := rfl
    refine viaM (fun ν => ∃ ds : List PyData, BadWebs ds ∧ ds.length = 9 ∧ ν = [o, .lst (ds.map Dl.A.d)]) (fun ν hν => ?_) ⟨[.none, .tuple [.tuple (ps.map .str)], .list [.tuple (ps.map .str), .tuple (rs.map rdD)], .tuple [.tuple (ps.map .str), .list (rs.map rdD)], .tuple [.list (ps.map .str), .tuple (rs.map rdD)], .tuple [.tuple [], .tuple []], .tuple [.tuple (ps.map .str ++ [.str p]), .tuple (rs.map rdD)], .int 5, .str ""], fun d hd => ?_, rfl, rfl⟩
    case refine_2 =>
      simp only [List.mem_cons, List.not_mem_nil, or_false] at hd
      rcases hd with rfl | rfl | rfl | rfl | rfl | rfl | rfl | rfl | rfl
      · exact ⟨by decide, rfl⟩
      · exact ⟨plain1 hpP, rfl⟩
      · exact ⟨plain_toL (plain2 hpP hpR), rfl⟩
      · exact ⟨plain2 hpP (plain_toL hpR), webB_r rfl⟩
      · exact ⟨plain2 (plain_toL hpP) hpR, rfl⟩
      · exact ⟨plain2 e0 e0, rfl⟩
      · exact ⟨plain2 (plain_snoc hpP lpP (plain1 pp) (show 1 ≤ 100 by decide)) hpR, webB_p (by rw [ept]; exact placesB_dup)⟩
      · exact ⟨by decide, rfl⟩
      · exact ⟨by decide, rfl⟩
    obtain ⟨ds, hb, hl, rfl⟩ := hν
    have dl : (ds.map Dl.A.d).length = 9 := by rw [List.length_map, hl]
    refine ⟨_, rfl, .inr (.inl ⟨rfl, .inr ⟨1, _, rfl, rfl⟩⟩), ?_⟩
    refine ⟨_, rfl, _, rfl, _, rfl, _, rfl, .inr (.inl ⟨_, rfl, ?_⟩)⟩
    rw [cut5]
    refine ⟨[_], rfl, len1, by show 2 + 1 ≤ sizeLine; decide, [_], rfl, len1, szR _, [_, _], rfl, len2, ?_⟩
    refine ⟨_, rfl, _, rfl, _, rfl, _, rfl, [_, _, _], rfl, len3, [_], rfl, len1, szR _, [_, _], rfl, len2, ?_⟩
    refine ⟨_, rfl, [_], rfl, len1, szP _, _, rfl, [_, _], rfl, len2, ?_⟩
    refine ⟨by show 3 ≤ sizeLine; decide, .inl ⟨[_, _, _], rfl, ?_⟩⟩
    refine ⟨1, _, _, _, rfl, rfl, rfl, .inl rfl, ?_, ?_⟩
    · rw [dl]
      exact sz _ (show 12 ≤ 100 by decide)
    have n1 : plainB (.str "new9") = true := by decide
    refine viaM (fun ν => ∃ ds : List PyData, BadWebs ds ∧ ds.length = 12 ∧ ν = [o, .lst (ds.map Dl.A.d)]) (fun ν hν => ?_) ⟨ds ++ [.tuple [.tuple (ps.map .str), .tuple (rs.map rdD ++ [.tuple [.str "new9", .str p, .str "lone9"]])], .tuple [.tuple (ps.map .str), .tuple (rs.map rdD ++ [.tuple [.str "new9", .str p, .str p]])], .tuple [.tuple (ps.map .str ++ [.str "Lone"]), .tuple (rs.map rdD)]], hb.app fun d hd => ?_, by rw [List.length_append, hl]; rfl, by rw [List.map_append]; rfl⟩
    case refine_2 =>
      simp only [List.mem_cons, List.not_mem_nil, or_false] at hd
      rcases hd with rfl | rfl | rfl
      · exact ⟨plain2 hpP (plain_snoc hpR lrR (plain1 (plain3 n1 pp (by decide))) (show 1 ≤ 100 by decide)), webB_r (roadsB_snoc (roadB_off nw))⟩
      · exact ⟨plain2 hpP (plain_snoc hpR lrR (plain1 (plain3 n1 pp pp)) (show 1 ≤ 100 by decide)), webB_r (roadsB_snoc roadB_same)⟩
      · exact ⟨plain2 (plain_snoc hpP lpP (plain1 (by decide)) (show 1 ≤ 100 by decide)) hpR, webB_p (placesB_snoc (by decide +kernel))⟩
    clear hb hl dl
    obtain ⟨ds, hb, hl, rfl⟩ := hν
    have dl : (ds.map Dl.A.d).length = 12 := by rw [List.length_map, hl]
    refine ⟨_, rfl, .inr (.inl ⟨rfl, .inr ⟨1, _, rfl, rfl⟩⟩), ?_⟩
    have lz : [PyData.str z].length ≤ sizeLine := len1
    refine ⟨_, rfl, _, rfl, _, rfl, _, rfl, .inr (.inl ⟨_, rfl, ?_⟩)⟩
    rw [cut5]
    refine ⟨[_], rfl, len1, szR _, [_, _], rfl, len2, ?_⟩
    refine ⟨_, rfl, _, rfl, _, rfl, _, rfl, .inr (.inl ⟨_, rfl, ?_⟩)⟩
    rw [cut5]
    refine ⟨_, rfl, ix_tup (j := 2) rfl ⟨len1, .inl ⟨[_], rfl, ?_⟩⟩⟩
    refine ⟨[_], rfl, len1, by show 2 + 1 ≤ sizeLine; decide, [_], rfl, len1, szR _, [_, _], rfl, len2, ?_⟩
    refine ⟨_, rfl, _, rfl, _, rfl, .inr (.inl ⟨_, rfl, ?_⟩)⟩
    have ci : cut (ps.map PyData.str) none (some (-1)) = (ps.map PyData.str).dropLast := cut_init _
    rw [ci]
    refine ⟨_, rfl, _, rfl, ix_ngT (by rw [pD]; exact p1) hzD ?_⟩
    refine ⟨len1, .inl ⟨[_], rfl, ?_⟩⟩
    have dlP : (ps.map PyData.str).dropLast.length + [PyData.list [.str z]].length ≤ sizeLine := sz _ (by rw [List.length_dropLast, pD]; simp; omega)
    refine ⟨[_], rfl, len1, dlP, _, rfl, [_, _], rfl, len2, ?_⟩
    refine ⟨by show 3 ≤ sizeLine; decide, .inl ⟨[_, _, _], rfl, ?_⟩⟩
    refine ⟨1, _, _, _, rfl, rfl, rfl, .inl rfl, ?_, ?_⟩
    · rw [dl]
      exact sz _ (show 15 ≤ 100 by decide)
    have pzl : plainB (.list [.str z]) = true := plain_lst.mpr ⟨by show 1 ≤ 1000; decide, fun x hx => by rw [List.mem_singleton.mp hx]; exact pz⟩
    have pDr : plainB (.tuple (ps.map PyData.str).dropLast) = true := plain_tup.mpr ⟨by rw [List.length_dropLast, pD]; omega, fun x hx => (plain_tup.mp hpP).2 x (List.dropLast_subset _ hx)⟩
    refine viaM (fun ν => ∃ ds : List PyData, BadWebs ds ∧ ds.length = 15 ∧ ν = [o, .lst (ds.map Dl.A.d)]) (fun ν hν => ?_) ⟨ds ++ [.tuple [.tuple (ps.map .str), .tuple (rs.map rdD ++ [.tuple [.str "new9", .str p]])], .tuple [.tuple (ps.map .str), .tuple (rs.map rdD ++ [.tuple [.str "new9", .str p, .list [.str z]]])], .tuple [.tuple ((ps.map .str).dropLast ++ [.list [.str z]]), .tuple (rs.map rdD)]], hb.app fun d hd => ?_, by rw [List.length_append, hl]; rfl, by rw [List.map_append]; rfl⟩
    case refine_2 =>
      simp only [List.mem_cons, List.not_mem_nil, or_false] at hd
      rcases hd with rfl | rfl | rfl
      · exact ⟨plain2 hpP (plain_snoc hpR lrR (plain1 (plain2 n1 pp)) (show 1 ≤ 100 by decide)), webB_r (roadsB_snoc rfl)⟩
      · refine ⟨plain2 hpP (plain_snoc hpR lrR (plain1 (plain3 n1 pp pzl)) (show 1 ≤ 100 by decide)), webB_r (roadsB_snoc rfl)⟩
      · exact ⟨plain2 (plain_snoc pDr (by rw [List.length_dropLast, pD]; omega) (plain1 pzl) (show 1 ≤ 100 by decide)) hpR, webB_p (placesB_snoc rfl)⟩
    clear hb hl dl
    obtain ⟨ds, hb, hl, rfl⟩ := hν
    have dl : (ds.map Dl.A.d).length = 15 := by rw [List.length_map, hl]
    -- the last ones
    have fin : ∀ ds : List PyData, BadWebs ds → 0 < ds.length → ds.length ≤ 30 → FR R__law_one [.c 0, .d (.list ds)] [o, .dead] (fun y μ => RetD 1 Pk y μ) noX := fun ds hb h0 h1 =>
      fr_one (n := 0) ds rfl (.inl rfl) hk (by omega) ⟨h0, by omega⟩ fun x o1 hx hk1 => feedRet hk1 (q x o1 (hb x hx).1 (hb x hx).2 hk1)
    refine ⟨_, rfl, [], rfl, by decide, ne_nilTu (roads_shaped ok) ?_⟩
    refine ⟨_, rfl, ?_⟩
    by_cases hn : rs.map rdD = []
    · refine tP hn ?_
      exact ⟨1, ds, rfl, rfl, _, rfl, _, rfl, fin ds hb (by omega) (by omega)⟩
    · refine tQ hn ?_
      refine ⟨_, rfl, .inr (.inl ⟨rfl, .inr ⟨1, _, rfl, rfl⟩⟩), ?_⟩
      obtain ⟨l, y, ely⟩ : ∃ l y, rs = l ++ [y] := ⟨rs.dropLast, rs.getLast fun e => hn (by rw [e]; rfl), (List.dropLast_concat_getLast _).symm⟩
      have ym : y ∈ rs := by rw [ely]; exact List.mem_append_right _ (List.mem_singleton.mpr rfl)
      have r1 : 1 ≤ (rs.map rdD).length := by rw [rD, ely, List.length_append]; exact Nat.le_add_left _ _
      have hyD : (rs.map rdD)[(rs.map rdD).length - 1]? = some (rdD y) := by
        rw [ely, List.map_append, List.length_append, List.length_map]
        show _[l.length + 1 - 1]? = _
        rw [Nat.add_sub_cancel, List.getElem?_append_right (by rw [List.length_map]; exact Nat.le_refl _), List.length_map, Nat.sub_self]
        rfl
      have c1 : cut (rs.map rdD) (some (-1)) none = [rdD y] := by
        rw [cut_last1 _ hn, ely, List.map_append, List.length_append, List.length_map]
        show List.drop (l.length + 1 - 1) _ = _
        rw [Nat.add_sub_cancel, List.drop_left' (List.length_map ..)]
        rfl
      have c2 : cut (rs.map rdD) none (some (-1)) = l.map rdD := by
        rw [cut_init, ely, List.map_append]
        exact List.dropLast_concat
      refine ⟨_, rfl, _, rfl, _, rfl, _, rfl, _, rfl, .inr (.inl ⟨_, rfl, ?_⟩)⟩
      have c1' : cut (rs.map rdD) (some (-1)) none = [rdD y] := c1
      rw [c1']
      refine ⟨szR _, [_, _], rfl, len2, ?_⟩
      refine ⟨_, rfl, _, rfl, _, rfl, _, rfl, .inr (.inl ⟨_, rfl, ?_⟩)⟩
      have c2' : cut (rs.map rdD) none (some (-1)) = l.map rdD := c2
      rw [c2']
      have ll : (l.map rdD).length ≤ 14 := by rw [List.length_map]; rw [ely, List.length_append] at r14; omega
      refine ⟨_, rfl, _, rfl, ix_ngT r1 hyD ?_⟩
      refine ⟨_, _, rfl, .inr ⟨_, rfl, rfl⟩, .inl ⟨_, rfl, [_], rfl, len1, sz _ (by simp only [List.length_singleton]; omega), [_, _], rfl, len2, ?_⟩⟩
      refine ⟨_, rfl, _, rfl, _, rfl, _, rfl, .inr (.inl ⟨_, rfl, ?_⟩)⟩
      have c3' : cut (rs.map rdD) none (some (-1)) = l.map rdD := c2
      rw [c3']
      refine ⟨_, rfl, _, rfl, ix_ngT r1 hyD ?_⟩
      refine ⟨[_], rfl, len1, by show 3 + 1 ≤ sizeLine; decide, [_], rfl, len1, sz _ (by simp only [List.length_singleton]; omega), [_, _], rfl, len2, ?_⟩
      refine ⟨by show 3 ≤ sizeLine; decide, .inl ⟨[_, _, _], rfl, ?_⟩⟩
      refine ⟨1, _, _, _, rfl, rfl, rfl, .inl rfl, ?_, ?_⟩
      · rw [dl]
        exact sz _ (show 18 ≤ 100 by decide)
      refine ⟨1, ds ++ [.tuple [.tuple (ps.map .str), .tuple (rs.map rdD ++ [rdD y])], .tuple [.tuple (ps.map .str), .tuple (l.map rdD ++ [.list [.str y.1, .str y.2.1, .str y.2.2]])], .tuple [.tuple (ps.map .str), .tuple (l.map rdD ++ [.tuple [.str y.1, .str y.2.1, .str y.2.2, .int 1]])]], rfl, by rw [List.map_append]; rfl, ?_⟩
      refine ⟨_, rfl, _, rfl, fin _ (hb.app fun d hd => ?_) (by rw [List.length_append]; omega) (by rw [List.length_append, hl]; show 15 + 3 ≤ 30; decide)⟩
      have py : plainB (rdD y) = true := (plain_tup.mp hpR).2 _ (List.mem_map.mpr ⟨y, ym, rfl⟩)
      have pl : plainB (.tuple (l.map rdD)) = true := plain_tup.mpr ⟨by omega, fun x hx => (plain_tup.mp hpR).2 x (by rw [ely, List.map_append]; exact List.mem_append_left _ hx)⟩
      have py3 := (plain_tup.mp (show plainB (.tuple [.str y.1, .str y.2.1, .str y.2.2]) = true from py)).2
      simp only [List.mem_cons, List.not_mem_nil, or_false] at hd
      rcases hd with rfl | rfl | rfl
      · refine ⟨plain2 hpP (plain_snoc hpR lrR (plain1 py) (show 1 ≤ 100 by decide)), webB_r ?_⟩
        rw [ely, List.map_append, List.append_assoc]
        exact roadsB_twice
      · exact ⟨plain2 hpP (plain_snoc pl (by omega) (plain1 (plain_toL py)) (show 1 ≤ 100 by decide)), webB_r (roadsB_snoc rfl)⟩
      · refine ⟨plain2 hpP (plain_snoc pl (by omega) (plain1 (plain_tup.mpr ⟨show 4 ≤ 1000 by decide, fun x hx => ?_⟩)) (show 1 ≤ 100 by decide)), webB_r (roadsB_snoc rfl)⟩
        simp only [List.mem_cons, List.not_mem_nil, or_false] at hx
        rcases hx with rfl | rfl | rfl | rfl
        · exact py3 _ (by simp)
        · exact py3 _ (by simp)
        · exact py3 _ (by simp)
        · decide
  · rintro xs μ Pk Ex ⟨o, k, ps, rs, rfl, _⟩
    rfl
theorem ok_has_one_piece {f : Addr} {fd : FuncData} (F : FunV K "has_one_piece" "has_one_piece" st_has_one_piece f fd) (Z : ∀ x, x ∈ blt → mg x = none) (C_steps_from : CalG P w K mg base "steps_from" 2 R_steps_from)  : FnG P w K mg base (L2.CX P w) 3 f fd ["web"] (SpD K R_has_one_piece) := by
  refine cal_ofG F sc_has_one_piece ?_ (fun cd A ou s H E W hg hr tk po => ?_)
  rotate_left
  have hN := sc_has_one_piece.nd
  have hu := hr.units
  have hu65 := hr.units65
  refine ⟨_, (dss_one (ds_ret (dEq hu (d_callB call_lenD s_lenD (da_cons (d_calG C_steps_from hg (hr.mono (by omega)) (da_cons (d_var 0) (da_cons (dIx (dIx (d_var 0) d_int) d_int) da_nil))) da_nil) (Z "len" (by decide))) (d_callB call_len s_lenU (da_cons (dIx (d_var 0) d_int) da_nil) (Z "len" (by decide)))))), ?_⟩
  · rintro xs μ Pk Ex old ⟨ps, rs, rfl, rfl, ok, q⟩
    have r14 := ok.r.most
    have p10 := ok.p.most
    obtain ⟨p, e0⟩ : ∃ p, ps[0]? = some p := ⟨_, List.getElem?_eq_getElem (show 0 < ps.length from ok.p.one)⟩
    have hp : p ∈ ps := List.mem_of_getElem? e0
    refine ⟨_, rfl, _, rfl, ix_tup (j := 0) rfl (ix_tup (j := 0) (by rw [List.getElem?_map, e0]; rfl) ?_)⟩
    refine fr_d [_, _] ⟨ps, rs, p, rfl, rfl, ok, hp, fun st nd mem _ => ⟨one_o (dO_step st), ?_⟩⟩
    refine ⟨_, _, rfl, rfl, ?_⟩
    refine ⟨_, rfl, ix_tup (j := 0) rfl (len_tup ?_)⟩
    have ln : (stepA st).length = st.length := List.length_map ..
    have lp : (ps.map PyData.str).length = ps.length := List.length_map ..
    rw [ln, lp]
    refine ret_data (μ1 := []) [_] rfl (fun i o e => by simp at e) (q _ ?_)
    have hr : ∀ x, x ∈ st.map (·.1) → x ∈ ps := fun x hx => reach_in ok hp ((mem x).mp hx)
    have lk : (st.map (·.1)).length = st.length := List.length_map ..
    rw [Bool.false_xor, decide_eq_true_iff]
    constructor
    · intro e p' e' x hx
      rw [e0] at e'
      obtain rfl := Option.some.inj e'
      refine (mem x).mp ?_
      exact all_in nd hr (by omega) x hx
    · intro h
      have h1 := nd_len _ _ nd hr
      have h2 := nd_len _ _ ok.p.nd fun x hx => (mem x).mpr (h p e0 x hx)
      omega
  · rintro xs μ Pk Ex ⟨ps, rs, rfl, _⟩
    rfl
theorem ok_need_place {f : Addr} {fd : FuncData} (F : FunV K "need_place" "need_place" st_need_place f fd) (Z : ∀ x, x ∈ blt → mg x = none) (Er : ErrOk K mg es)   : FnG P w K mg base (L2.CX P w) 1 f fd ["web", "place"] (SpD K (R_need_placeX mg)) := by
  refine cal_ofG F sc_need_place ?_ (fun cd A ou s H E W hg hr tk po => ?_)
  rotate_left
  have hN := sc_need_place.nd
  have hu := hr.units
  have hu65 := hr.units65
  refine ⟨_, (dss_one (ds_if (dt_w (dw_or (dt_not (dt_truth (d_callB call_isi s_isiC (da_cons (d_var 1) (da_cons (d_ty (T := "str") (Z "str" (by decide))) da_nil)) (Z "isinstance" (by decide))))) (dw_or1 (tNotIn (d_var 1) (dIx (d_var 0) d_int))))) (dss_one (ds_raiseN rfl tk Er (by decide) d_str)) dss_nil)), ?_⟩
  · rintro xs μ Pk Ex old ⟨ps, rs, x, rfl, rfl, q0, q1⟩
    refine ⟨_, rfl, isn_str (by cases x <;> rfl) ⟨_, rfl, ?_⟩⟩
    cases x with
    | str s =>
      refine iteF ⟨_, rfl, _, rfl, ix_tup (j := 0) rfl (in_strs ⟨_, rfl, ?_⟩)⟩
      by_cases h : s ∈ ps
      · exact tP h (fin_n (q0 (decide_eq_true h)))
      · refine tQ h ?_
        exact out0 (ρ := []) (q1 (decide_eq_false h))
    | _ => exact iteT (iteT (out0 (ρ := []) (q1 rfl)))
  · rintro xs μ Pk Ex ⟨ps, rs, x, rfl, _⟩
    rfl
end
end K45
set_option Elab.async false
set_option linter.all false
set_option maxRecDepth 100000
set_option maxHeartbeats 4000000
namespace K45
open PySem PySem.Spec PyProof.Rows L2 Dl Rp
local macro_rules | `(tactic| and_intros) => `(tactic| repeat (first | refine ⟨_, rfl, ?_⟩ | refine iteT ?_ | refine iteF ?_ | refine ⟨_, _, rfl, rfl, ?_⟩ | refine add_int ?_ | refine len_tup ?_ | refine len_lst ?_ | refine tgt2 ?_ | refine tgt3 ?_ | refine ⟨[_], rfl, len1, ?_⟩ | refine ⟨[_, _], rfl, len2, ?_⟩ | refine ⟨[_, _, _], rfl, len3, ?_⟩))
section
variable {P : Program} {w : World} {K : PySem.W.Frag} {mg : Str → Option Value} {base : Heap}
theorem ok__law_is_first {f : Addr} {fd : FuncData} (F : FunV K "_law_is_first" "_law_is_first" st__law_is_first f fd) (Z : ∀ x, x ∈ blt → mg x = none) (C__law_brings : CalG P w K mg base "_law_brings" 2 R__law_brings) (C__law_can_bring : CalG P w K mg base "_law_can_bring" 2 R__law_can_bring) (C__law_walked : CalG P w K mg base "_law_walked" 1 R__law_walked)  : FnG P w K mg base (L2.CX P w) 3 f fd ["_law_web", "_law_place", "_law_rota"] (SpD K R__law_is_first45) := by
  refine cal_ofG F sc__law_is_first ?_ (fun cd A ou s H E W hg hr tk po => ?_)
  rotate_left
  have hN := sc__law_is_first.nd
  have hu := hr.units
  have hu65 := hr.units65
  refine ⟨_, (dss_cons (ds_setLc (i := 3) (own := [("_law_road", 5)]) rfl hN (di_any (dIx (d_var 0) d_int)) (blkOk_by (N := ns__law_is_first) (sc := defScope st__law_is_first) (by decide +kernel)) (fun _ _ _ _ _ => (dg_name (i := 5) hN)) (fun _ _ _ _ _ => dts_nil) (fun _ _ _ _ _ => (dIx (d_var 5) d_int)) (sw_true rfl rfl rfl rfl)) (dss_cons (ds_if (dt_w (dw_or (tNe hu (d_callB (call_sortB hu) s_sortB (da_cons (d_var 2) da_nil) (Z "sorted" (by decide))) (d_callB (call_sortB hu) s_sortB (da_cons (d_var 3) da_nil) (Z "sorted" (by decide)))) (dw_or1 (dt_not (dt_truth (d_calG C__law_brings hg (hr.mono (by omega)) (da_cons (d_var 0) (da_cons (d_var 2) (da_cons (d_var 1) da_nil))))))))) (dss_one (ds_ret d_bl)) dss_nil) (dss_cons (ds_for po rfl (di_range1 (da_cons (d_callB call_len s_lenU (da_cons (d_var 2) da_nil) (Z "len" (by decide))) da_nil) (Z "range" (by decide))) (dg_name (i := 4) hN) (dss_one (ds_for po rfl (di_any (d_slice (d_var 3) do_none (do_some (d_bm PySem.F.plainAttrs_list PySem.F.slot_list_index PySem.F.type_list_index mt_lindexS s_lindexS (d_var 3) (da_cons (dIx (d_var 2) (d_var 4)) da_nil))))) (dg_name (i := 5) hN) (dss_one (ds_if (tNotIn (d_var 5) (d_slice (d_var 2) do_none (do_some (d_var 4)))) (dss_cons (ds_setLc (i := 6) (own := [("_law_start", 7)]) rfl hN (di_any (dIx (d_var 0) d_int)) (blkOk_by (N := ns__law_is_first) (sc := defScope st__law_is_first) (by decide +kernel)) (fun _ _ _ _ _ => (dg_name (i := 7) hN)) (fun _ _ _ _ _ => dts_nil) (fun _ _ _ _ _ => (d_calG C__law_walked hg (hr.mono (by omega)) (da_cons (d_var 0) (da_cons (dAdd (d_slice (d_var 2) do_none (do_some (d_var 4))) (d_tup (da_cons (d_var 5) da_nil))) (da_cons (d_disp1 (d_var 7) d_bl) da_nil))))) (sw_true rfl rfl rfl rfl)) (dss_one (ds_if (dt_truth (d_calW C__law_can_bring hg (hr.mono (by omega)) (da_cons (d_var 0) (da_cons (d_lc (own := [("_law_one_here", 8)]) rfl hN (di_any (d_var 3)) (blkOk_by (N := ns__law_is_first) (sc := defScope st__law_is_first) (by decide +kernel)) (fun _ _ _ _ _ => (dg_name (i := 8) hN)) (fun _ _ _ _ _ => (dts_one (dt_w (dw_and (tNe hu (d_var 8) (d_var 5)) (dw_and1 (tNotIn (d_var 8) (d_slice (d_var 2) do_none (do_some (d_var 4))))))))) (fun _ _ _ _ _ => (d_var 8))) (da_cons (d_var 6) (da_cons (d_var 1) da_nil)))))) (dss_one (ds_ret d_bl)) dss_nil))) dss_nil))))) (dss_one (ds_ret d_bl))))), ?_⟩
  · rintro xs μ Pk Ex old ⟨ps, rs, s, r, rfl, rfl, ok, hs, F, q⟩
    have p10 := ok.p.most
    have r14 := ok.r.most
    refine ⟨_, rfl, ix_tup (j := 1) rfl ?_⟩
    refine lc_map rs rdD (fun t => .str t.1) (oneD_ones _ _) trivial (Nat.le_trans r14 (by decide)) (fun t ht Q hQ => ?_) ?_
    · exact ⟨_, rfl, _, rfl, ix_tup (j := 0) rfl hQ⟩
    have e1 : rs.map (fun t => PyData.str t.1) = (rnm rs).map .str := by unfold rnm; rw [List.map_map]; rfl
    rw [e1]
    have es : sortS (rnm rs) = sortS r := sorted_one (((sortS_pm _).trans (rota_pmF ok F.ro).symm).trans (sortS_pm _).symm) (sortS_up _) (sortS_up _)
    have rl := F.ro.len
    refine ⟨_, rfl, _, r.map .str, rfl, .inr ⟨_, rfl, rfl⟩, strs_sortable.1, strs_sortable.2.1, strs_sortable.2.2, .inl ⟨_, rfl, ?_⟩⟩
    refine ⟨_, rfl, _, (rnm rs).map .str, rfl, .inl rfl, strs_sortable.1, strs_sortable.2.1, strs_sortable.2.2, .inl ⟨_, rfl, ?_⟩⟩
    rw [sortD_strs, sortD_strs, es]
    refine ne_selfL (fun s hs => by obtain ⟨t, ht, rfl⟩ := List.mem_map.mp (F.ro.ok.sub s (sortS_mem.mp hs)); exact ok.r.nm t ht) ?_
    refine ⟨false, rfl, ifF rfl ?_⟩
    refine ⟨_, rfl, _, rfl, _, rfl, fr_brings ok hs F.ro ?_⟩
    rw [homB_iff.mpr F.all]
    refine ⟨_, rfl, iteF ?_⟩
    refine ⟨_, rfl, len_tup ?_⟩
    rw [show (r.map PyData.str).length = r.length from List.length_map ..]
    refine ⟨_, rfl, by omega, by omega, ?_⟩
    refine ⟨fun i ρ μ => ∃ (a4 a5 a6 a7 a8 : Option Dl.A), ρ = [some (.d (webD ps rs)), some (.d (.str s)), some (.d (roundD r)), some (.d (.list ((rnm rs).map .str))), a4, a5, a6, a7, a8], ⟨_, _, _, _, _, rfl⟩, ?_, ?_⟩
    · rintro i y ρ2 μ2 hy ⟨a4, a5, a6, a7, a8, rfl⟩
      obtain ⟨lt, rfl⟩ := rngY_get hy
      have il : i < r.length := by omega
      have hx : r[i]? = some r[i] := List.getElem?_eq_getElem il
      generalize r[i] = x at hx
      have xm := F.ro.ok.sub x (List.mem_of_getElem? hx)
      have low := F.low i x hx
      refine ⟨trivial, _, rfl, ?_⟩
      rw [Int.zero_add]
      refine ⟨_, rfl, _, rfl, .inr (.inl ⟨rfl, .inl ⟨_, rfl⟩⟩), ?_⟩
      refine ⟨_, rfl, _, rfl, ix_tup (j := i) (z := .str x) (by rw [List.getElem?_map, hx]; rfl) ?_⟩
      refine ⟨rnm rs, x, rfl, rfl, xm, _, rfl, .inr (.inr (.inl ⟨_, rfl, ?_⟩))⟩
      rw [show (rnm rs).idxOf x = rk (rnm rs) x from rfl, cut_nat, ← List.map_take]
      refine ⟨fun j ρ μ => ∃ (a5 a6 a7 a8 : Option Dl.A), ρ = [some (.d (webD ps rs)), some (.d (.str s)), some (.d (roundD r)), some (.d (.list ((rnm rs).map .str))), some (.d (.int (i : Nat))), a5, a6, a7, a8], ⟨_, _, _, _, rfl⟩, ?_, ?_⟩
      · rintro j y ρ4 μ4 hy ⟨a5, a6, a7, a8, rfl⟩
        obtain ⟨e', he', rfl⟩ := oneD_get hy
        rw [List.getElem?_map] at he'
        obtain ⟨e, he, rfl⟩ := Option.map_eq_some_iff.mp he'
        have jk : j < rk (rnm rs) x := by
          have := (List.getElem?_eq_some_iff.mp he).1
          rw [List.length_take] at this
          omega
        rw [List.getElem?_take_of_lt jk] at he
        have em := List.mem_of_getElem? he
        have ek : rk (rnm rs) e = j := rk_ix ok.r.nd he
        refine ⟨trivial, _, rfl, ?_⟩
        refine ⟨_, rfl, _, rfl, _, rfl, _, rfl, .inr (.inl ⟨_, rfl, ?_⟩)⟩
        rw [cut_nat, ← List.map_take]
        refine in_tupS ⟨_, rfl, ?_⟩
        by_cases ein : e ∈ r.take i
        · exact tP ein ⟨_, _, _, _, rfl⟩
        refine tQ ein ?_
        have no := low e em ein (by omega)
        have gsub : ∀ f ∈ r.take i ++ [e], f ∈ rnm rs := fun f hf => by
          rcases List.mem_append.mp hf with hf | hf
          · exact F.ro.ok.sub f (List.mem_of_mem_take hf)
          · rw [List.mem_singleton.mp hf]
            exact em
        have g14 : (r.take i ++ [e]).length ≤ 14 := by
          rw [List.length_append, List.length_take]
          show _ + 1 ≤ 14
          omega
        refine ⟨_, rfl, ix_tup (j := 0) rfl ?_⟩
        refine ⟨fun k acc μ => ∃ cs : List Nat, acc = cs.map Dl.A.c ∧ cs.length = k ∧ ∀ (a c : Nat) (p : Str), cs[a]? = some c → ps[a]? = some p → μ[c]? = some (.dct (hvA (hvL rs [p] (r.take i ++ [e])))), ⟨[], rfl, rfl, fun a c p h => by cases h⟩, ?_, ?_⟩
        · rintro k y acc μ5 hy5 ⟨cs, rfl, ck, hcs⟩
          obtain ⟨p', hp', rfl⟩ := oneD_get hy5
          rw [List.getElem?_map] at hp'
          obtain ⟨p, hp, rfl⟩ := Option.map_eq_some_iff.mp hp'
          have pm := List.mem_of_getElem? hp
          have kl := (List.getElem?_eq_some_iff.mp hp).1
          refine ⟨trivial, _, rfl, iteT ?_⟩
          refine ⟨_, rfl, _, rfl, _, rfl, _, rfl, .inr (.inl ⟨_, rfl, ?_⟩)⟩
          rw [cut_nat, ← List.map_take]
          refine ⟨_, rfl, [_], rfl, len1, ?_⟩
          refine ⟨Nat.le_trans (show ((r.take i).map PyData.str).length + 1 ≤ 15 by rw [List.length_map, List.length_take]; omega) (by decide), ?_⟩
          refine ⟨_, rfl, .inr p, rfl, ?_⟩
          have eR : PyData.tuple ((r.take i).map .str ++ [.str e]) = roundD (r.take i ++ [e]) := by
            unfold roundD
            rw [List.map_append]
            rfl
          rw [eR]
          refine fr_walked (H := [p]) (r := r.take i ++ [e]) get_end ok (.inl rfl) gsub g14 (by simp) (fun q hq => by rw [List.mem_singleton.mp hq]; exact pm) ?_
          refine ⟨by rw [List.length_map]; exact Nat.lt_of_le_of_lt (show cs.length ≤ 10 by omega) (by decide), cs ++ [_], by rw [List.map_append]; rfl, by rw [List.length_append, ck]; rfl, fun a c p2 hc hp2 => ?_⟩
          rcases Nat.lt_or_ge a cs.length with la | la
          · rw [List.getElem?_append_left la] at hc
            have h := hcs a c p2 hc hp2
            have hcl := (List.getElem?_eq_some_iff.mp h).1
            rw [List.getElem?_append_left (by rw [List.length_append]; omega), List.getElem?_append_left hcl]
            exact h
          · have al := (List.getElem?_eq_some_iff.mp hc).1
            rw [List.length_append, List.length_singleton] at al
            obtain rfl : a = cs.length := by omega
            rw [List.getElem?_append_right (Nat.le_refl _), Nat.sub_self] at hc
            have hc := Option.some.inj hc
            rw [ck, hp] at hp2
            have hp2 := Option.some.inj hp2
            rw [← hc, ← hp2]
            exact get_end
        · rintro acc μ5 ⟨cs, rfl, ck, hcs⟩
          refine ⟨trivial, .inr ?_⟩
          refine ⟨_, rfl, ?_⟩
          refine ⟨_, rfl, ?_⟩
          refine lc_filter (rnm rs) .str .str (fun f => decide (f ≠ e) && decide (f ∉ r.take i)) (oneD_ones _ _) trivial (by unfold rnm; rw [List.length_map]; exact Nat.le_trans r14 (by decide)) (fun f hf Q N h1 h2 => ?_) ?_
          · refine ⟨_, rfl, _, rfl, _, rfl, _, rfl, ?_⟩
            by_cases fe : f = e
            · exact tP fe (h2 (by rw [decide_eq_false (fun z => z fe), Bool.false_and]))
            refine tQ fe ?_
            refine ⟨_, rfl, _, rfl, _, rfl, _, rfl, .inr (.inl ⟨_, rfl, ?_⟩)⟩
            rw [cut_nat, ← List.map_take]
            refine in_tupS ⟨_, rfl, ?_⟩
            by_cases ft : f ∈ r.take i
            · exact tP ft (h2 (Bool.and_eq_false_iff.mpr (.inr (decide_eq_false fun z => z ft))))
            · exact tQ ft ⟨_, rfl, h1 (by rw [decide_eq_true fe, decide_eq_true ft]; rfl)⟩
          have hRest : (rnm rs).filter (fun f => decide (f ≠ e) && decide (f ∉ r.take i)) = restOf rs (r.take i) e := rfl
          rw [hRest]
          have rs1 : ∀ f ∈ restOf rs (r.take i) e, f ∈ rnm rs := fun f hf => (List.mem_filter.mp hf).1
          have rl14 : (restOf rs (r.take i) e).length ≤ 14 := Nat.le_trans (List.length_filter_le ..) (by unfold rnm; rw [List.length_map]; exact r14)
          have ck2 : cs.length = ps.length := by
            rw [ck]
            unfold oneD
            rw [List.length_map, List.length_map]
          have hvl : ∀ p ∈ ps, (hvL rs [p] (r.take i ++ [e])).length ≤ ps.length := fun p hp => hvL_len (fun f hf => ends_in ok (gsub f hf)) (by simp) fun q hq => by rw [List.mem_singleton.mp hq]; exact hp
          refine ⟨_, rfl, _, rfl, ps, rs, s, restOf rs (r.take i) e, _, cs, ps.map fun p => hvL rs [p] (r.take i ++ [e]), rfl, get_end, by rw [List.length_map, ck2], fun j c H hc hH => ?_, by omega, ok, hs, rs1, rl14, fun J jf => ?_⟩
          · rw [List.getElem?_map] at hH
            obtain ⟨p, hp, rfl⟩ := Option.map_eq_some_iff.mp hH
            have h := hcs j c p hc hp
            refine ⟨?_, Nat.le_trans (hvl p (List.mem_of_getElem? hp)) p10⟩
            rw [List.getElem?_append_left (List.getElem?_eq_some_iff.mp h).1]
            exact h
          · have nf : ((ps.map fun p => hvL rs [p] (r.take i ++ [e])).all fun H => H.any fun q => decide (q ∈ J)) = false := by
              refine Bool.eq_false_iff.mpr fun all => no fun x hx => ?_
              rw [List.all_map, List.all_eq_true] at all
              obtain ⟨q, hq, hJ⟩ := List.any_eq_true.mp (all x hx)
              have hm := jf q (of_decide_eq_true hJ)
              have hq' : q ∈ hvL rs [x] (r.take i ++ [e]) := hq
              rw [hvL_snoc] at hq'
              rcases hvS_mem.mp hq' with z | ⟨z, _⟩
              · refine .inr (.inr ⟨q, ?_, hm, z⟩)
                exact hvL_sub (r.take i) (fun f hf => ends_in ok (F.ro.ok.sub f (List.mem_of_mem_take hf))) (fun y hy => by rw [List.mem_singleton.mp hy]; exact hx) q z
              · exact z.elim .inl fun z => .inr (.inl z)
            rw [nf]
            exact ⟨_, rfl, iteF ⟨_, _, _, _, rfl⟩⟩
      · rintro ρ4 μ4 ⟨a5, a6, a7, a8, rfl⟩
        exact ⟨trivial, _, _, _, _, _, rfl⟩
    · rintro ρ2 μ2 ⟨a4, a5, a6, a7, a8, rfl⟩
      exact ⟨trivial, data0 q⟩
  · rintro xs μ Pk Ex ⟨ps, rs, s, r, rfl, _⟩
    rfl
theorem ok__law_draw {f : Addr} {fd : FuncData} (F : FunV K "_law_draw" "_law_draw" st__law_draw f fd) (Z : ∀ x, x ∈ blt → mg x = none)   : FnG P w K mg base (L2.CX P w) 1 f fd ["_law_feed_here", "_law_many"] (SpD K R__law_draw) := by
  refine cal_ofG F sc__law_draw ?_ (fun cd A ou s H E W hg hr tk po => ?_)
  rotate_left
  have hN := sc__law_draw.nd
  have hu := hr.units
  have hu65 := hr.units65
  refine ⟨_, (dss_cons (ds_if (tGt (dIx (d_var 0) d_int) d_int) (dss_cons (ds_set (i := 2) hN (dDiv (dIx (d_var 0) d_int) (d_var 1))) (dss_cons (ds_set (i := 3) hN (d_sub (dIx (d_var 0) d_int) (dMul (d_var 2) (d_var 1)))) (dss_cons (ds_asg (d_var 2) (dg_sub (d_var 0) d_int)) (dss_one (ds_ret (d_var 3)))))) dss_nil) (dss_cons (ds_asg (dAdd (dIx (d_var 0) d_int) d_int) (dg_sub (d_var 0) d_int)) (dss_cons (ds_set (i := 4) hN (dAdd (dIx (d_var 0) d_int) (dMul d_int (dIx (d_var 0) d_int)))) (dss_cons (ds_set (i := 4) hN (d_mod (d_callTy call_int1 s_int1 (da_cons (dAdd (dMul (dMul (d_var 4) (d_var 4)) (d_var 4)) (dMul d_int (dIx (d_var 0) d_int))) da_nil) (Z "int" (by decide))) (dAdd (d_pow d_int d_int) d_int))) (dss_cons (ds_set (i := 4) hN (d_mod (d_callTy call_int1 s_int1 (da_cons (dAdd (dMul (d_var 4) (d_var 4)) d_int) da_nil) (Z "int" (by decide))) (dAdd (d_pow d_int d_int) d_int))) (dss_one (ds_ret (d_mod (d_callTy call_int1 s_int1 (da_cons (dDiv (d_var 4) (d_pow d_int d_int)) da_nil) (Z "int" (by decide))) (d_var 1))))))))), ?_⟩
  · rintro xs μ Pk Ex old ⟨o, k, m, rfl, rfl, ⟨a, b, c, rfl, ha, hb, hb2, hc0, hc1, hab⟩, hk, ⟨hm0, hm1⟩, q⟩
    refine ⟨_, rfl, 0, rfl, .inr (.inl ⟨0, _, .d (.int a), rfl, rfl, rfl, ?_⟩)⟩
    refine ⟨a, 0, rfl, rfl, _, rfl, iteD (fun h => ?_) (fun h => ?_)⟩
    · refine ⟨_, rfl, 0, rfl, .inr (.inl ⟨0, _, .d (.int a), rfl, rfl, rfl, ?_⟩)⟩
      refine ⟨_, rfl, a, m, rfl, rfl, wide_div (b := 210) hm0 (by omega) (by decide) (by decide), ?_⟩
      refine ⟨_, rfl, 0, rfl, .inr (.inl ⟨0, _, .d (.int a), rfl, rfl, rfl, ?_⟩)⟩
      have hq : (a / m).natAbs.log2 ≤ 1048576 := by
        refine Nat.le_trans (log2_le_of ?_) hab
        have q0 := Int.ediv_nonneg ha (show 0 ≤ m by omega)
        have q1 := Int.ediv_le_self m ha
        omega
      have hml : m.natAbs.log2 < 210 := PySem.Flt.log2_lt_of (by decide) (by omega)
      refine ⟨_, rfl, _, rfl, .inr (by unfold CMulV; omega), ?_⟩
      refine ⟨_, _, rfl, rfl, ?_⟩
      refine ⟨_, rfl, _, rfl, _, rfl, 0, _, 0, 0, rfl, rfl, rfl, rfl, ?_⟩
      refine ⟨_, rfl, ?_⟩
      have h0 : 0 ≤ a / m := Int.ediv_nonneg ha (by omega)
      have h1 : a - a / m * m = a % m := by
        have := Int.emod_add_mul_ediv a m
        rw [Int.mul_comm]
        omega
      have h2 := Int.emod_nonneg a (show m ≠ 0 by omega)
      have h3 := Int.emod_lt_of_pos a hm0
      have fd : FD (k + 1) (fcell (a / m) b c) := ⟨_, _, _, rfl, h0, hb, hb2, hc0, by omega, hq⟩
      exact feedRet (l := []) fd (q (a - a / m * m) _ (by rw [h1]; exact h2) (by rw [h1]; exact h3) fd)
    · refine ⟨_, rfl, 2, rfl, .inr (.inl ⟨0, _, .d (.int c), rfl, rfl, rfl, ?_⟩)⟩
      refine ⟨_, rfl, _, rfl, 0, _, 2, 2, rfl, rfl, rfl, rfl, ?_⟩
      change dsSeq _ _ _ _ [fcell a b (c + 1)]
      refine ⟨_, rfl, 1, rfl, .inr (.inl ⟨0, _, .d (.int b), rfl, rfl, rfl, ?_⟩)⟩
      refine ⟨_, rfl, 2, rfl, .inr (.inl ⟨0, _, .d (.int (c + 1)), rfl, rfl, rfl, ?_⟩)⟩
      refine ⟨smallL (by decide) (by decide), ?_⟩
      have hs : (b + 6700417 * (c + 1)).natAbs < 2 ^ 140 := by omega
      refine ⟨_, rfl, _, rfl, wideI (a := 140) (b := 140) hs hs, ?_⟩
      have hs2 := wide_lt hs hs
      refine ⟨_, rfl, wideI (a := 140 + 140) (b := 140) hs2 hs, ?_⟩
      refine ⟨_, rfl, 2, rfl, .inr (.inl ⟨0, _, .d (.int (c + 1)), rfl, rfl, rfl, ?_⟩)⟩
      refine ⟨smallL (by decide) (by decide), ?_⟩
      refine ⟨_, rfl, ?_⟩
      refine ⟨_, _, rfl, rfl, ⟨by decide, by decide, by decide⟩, ?_⟩
      refine ⟨_, _, rfl, rfl, (by show (0 : Int) < 10 ^ 43 + 57; decide), ?_⟩
      refine ⟨_, rfl, _, rfl, wideI (a := 150) (b := 150) (mod_bd (by decide) (by decide)) (mod_bd (by decide) (by decide)), ?_⟩
      refine ⟨_, rfl, ?_⟩
      refine ⟨_, _, rfl, rfl, ⟨by decide, by decide, by decide⟩, ?_⟩
      refine ⟨_, _, rfl, rfl, (by show (0 : Int) < 10 ^ 38 + 133; decide), ?_⟩
      refine ⟨_, rfl, ?_⟩
      refine ⟨_, _, rfl, rfl, ⟨by decide, by decide, by decide⟩, ?_⟩
      refine ⟨_, _, rfl, rfl, divS (by decide) (by decide), ?_⟩
      refine ⟨_, rfl, ?_⟩
      refine ⟨_, rfl, _, _, rfl, rfl, hm0, ?_⟩
      have fd : FD (k + 1) (fcell a b (c + 1)) := ⟨_, _, _, rfl, ha, hb, hb2, by omega, by omega, hab⟩
      exact feedRet fd (q _ _ (Int.emod_nonneg _ (by omega)) (Int.emod_lt_of_pos _ hm0) fd)
  · rintro xs μ Pk Ex ⟨o, k, m, rfl, _⟩
    rfl
theorem ok_is_web {f : Addr} {fd : FuncData} (F : FunV K "is_web" "is_web" st_is_web f fd) (Z : ∀ x, x ∈ blt → mg x = none) (C_are_places : CalG P w K mg base "are_places" 2 R_are_placesX) (C_are_roads_between : CalG P w K mg base "are_roads_between" 3 R_are_roads_betweenX)  : FnG P w K mg base (L2.CX P w) 4 f fd ["thing"] (SpD K R_is_webX) := by
  refine cal_ofG F sc_is_web ?_ (fun cd A ou s H E W hg hr tk po => ?_)
  rotate_left
  have hN := sc_is_web.nd
  have hu := hr.units
  have hu65 := hr.units65
  refine ⟨_, (dss_cons (ds_if (dt_w (dw_or (dt_not (dt_truth (d_callB call_isi s_isiC (da_cons (d_var 0) (da_cons (d_ty (T := "tuple") (Z "tuple" (by decide))) da_nil)) (Z "isinstance" (by decide))))) (dw_or1 (tNe hu (d_callB call_len s_lenU (da_cons (d_var 0) da_nil) (Z "len" (by decide))) d_int)))) (dss_one (ds_ret d_bl)) dss_nil) (dss_cons (ds_asg (d_var 0) (dg_tup (n := 2) rfl (dgs_cons (dg_name (i := 1) hN) (dgs_cons (dg_name (i := 2) hN) dgs_nil)))) (dss_one (ds_ret (d_and (d_calG C_are_places hg (hr.mono (by omega)) (da_cons (d_var 1) da_nil)) (d_one (d_calG C_are_roads_between hg (hr.mono (by omega)) (da_cons (d_var 1) (da_cons (d_var 2) da_nil))))))))), ?_⟩
  · rintro xs μ Pk Ex old ⟨x, rfl, rfl, hp, q⟩
    refine ⟨_, rfl, isi_tup hp ⟨_, rfl, ?_⟩⟩
    cases x with
    | tuple l =>
      obtain ⟨ll, hl⟩ := plain_tup.mp hp
      refine iteF ⟨_, rfl, len_tup ⟨_, rfl, ?_⟩⟩
      by_cases l2 : l.length = 2
      · refine tP (by omega) ?_
        obtain ⟨a, b, rfl⟩ : ∃ a b, l = [a, b] := by
          match l, l2 with
          | [a, b], _ => exact ⟨a, b, rfl⟩
        have ha := hl a (by simp)
        have hb := hl b (by simp)
        have un : webB (.tuple [a, b]) = (placesB a && roadsB (textsOf a) b) := rfl
        refine ⟨_, rfl, tgt2 ?_⟩
        refine ⟨_, rfl, fr_d [_] ⟨a, rfl, rfl, ha, noO, ⟨_, rfl, ?_⟩⟩⟩
        by_cases a1 : placesB a = true
        · rw [if_pos a1]
          rw [a1, Bool.true_and] at un
          obtain ⟨ps, rfl, es⟩ : ∃ ps, a = .tuple (ps.map .str) ∧ textsOf a = ps := by
            cases a with
            | tuple la =>
              have h : (decide (1 ≤ la.length) && decide (la.length ≤ 10) && (la.all nameD && decide ((la.map textOf).Nodup))) = true := a1
              rw [Bool.and_eq_true, Bool.and_eq_true (a := la.all nameD)] at h
              exact ⟨la.map textOf, by rw [← strs_back h.2.1], rfl⟩
            | _ => cases a1
          rw [es] at un
          refine ⟨_, rfl, _, rfl, fr_d [_, _] ⟨ps, b, rfl, rfl, hb, noO, ?_⟩⟩
          rw [un] at q
          exact data0 q
        · rw [if_neg a1]
          rw [Bool.eq_false_iff.mpr a1] at un
          rw [un] at q
          exact data0 q
      · refine tQ (by omega) ?_
        have e : webB (.tuple l) = false := by
          unfold webB
          split
          · rename_i h
            cases h
            exact absurd rfl l2
          · rfl
        rw [e] at q
        exact data0 q
    | _ => exact iteT (iteT (data0 q))
  · rintro xs μ Pk Ex ⟨x, rfl, _⟩
    rfl
theorem ok_need_web {f : Addr} {fd : FuncData} (F : FunV K "need_web" "need_web" st_need_web f fd) (Er : ErrOk K mg es) (C_is_web : CalG P w K mg base "is_web" 4 R_is_webX)  : FnG P w K mg base (L2.CX P w) 5 f fd ["web"] (SpD K (R_need_webX mg)) := by
  refine cal_ofG F sc_need_web ?_ (fun cd A ou s H E W hg hr tk po => ?_)
  rotate_left
  have hN := sc_need_web.nd
  have hu := hr.units
  have hu65 := hr.units65
  refine ⟨_, (dss_one (ds_if (dt_not (dt_truth (d_calG C_is_web hg (hr.mono (by omega)) (da_cons (d_var 0) da_nil)))) (dss_one (ds_raiseN rfl tk Er (by decide) d_str)) dss_nil)), ?_⟩
  · rintro xs μ Pk Ex old ⟨x, rfl, rfl, hp, q1, q2⟩
    refine ⟨_, rfl, fr_d [_] ⟨x, rfl, rfl, hp, noO, ⟨_, rfl, ?_⟩⟩⟩
    cases h : webB x with
    | true => exact iteF (data0 (q1 h))
    | false => exact iteT (out0 (ρ := []) (q2 h))
  · rintro xs μ Pk Ex ⟨x, rfl, _⟩
    rfl
end
end K45
set_option Elab.async false
set_option linter.all false
set_option maxRecDepth 100000
set_option maxHeartbeats 4000000
namespace K45
open PySem PySem.Spec PyProof.Rows L2 Dl Rp
local macro_rules | `(tactic| and_intros) => `(tactic| repeat (first | refine ⟨_, rfl, ?_⟩ | refine iteT ?_ | refine iteF ?_ | refine ⟨_, _, rfl, rfl, ?_⟩ | refine add_int ?_ | refine len_tup ?_ | refine len_lst ?_ | refine tgt2 ?_ | refine tgt3 ?_ | refine ⟨[_], rfl, len1, ?_⟩ | refine ⟨[_, _], rfl, len2, ?_⟩ | refine ⟨[_, _, _], rfl, len3, ?_⟩))
section
variable {P : Program} {w : World} {K : PySem.W.Frag} {mg : Str → Option Value} {base : Heap}
theorem ok__law_walked {f : Addr} {fd : FuncData} (F : FunV K "_law_walked" "_law_walked" st__law_walked f fd) (Z : ∀ x, x ∈ blt → mg x = none)   : FnG P w K mg base (L2.CX P w) 1 f fd ["_law_web", "_law_rota", "_law_have"] (SpD K R__law_walked) := by
  refine cal_ofG F sc__law_walked ?_ (fun cd A ou s H E W hg hr tk po => ?_)
  rotate_left
  have hN := sc__law_walked.nd
  have hu := hr.units
  have hu65 := hr.units65
  refine ⟨_, (dss_cons (ds_par (i := 3) (j := 4) rfl hN (da_cons (d_callTy (call_dictP rfl) s_dictP (da_cons (d_lc (own := [("_law_road", 5)]) rfl hN (di_any (dIx (d_var 0) d_int)) (blkOk_by (N := ns__law_walked) (sc := defScope st__law_walked) (by decide +kernel)) (fun _ _ _ _ _ => (dg_name (i := 5) hN)) (fun _ _ _ _ _ => dts_nil) (fun _ _ _ _ _ => (d_tup (da_cons (dIx (d_var 5) d_int) (da_cons (d_slice (d_var 5) (do_some d_int) do_none) da_nil))))) da_nil) (Z "dict" (by decide))) (da_cons (d_callTy call_dictC s_dictC (da_cons (d_var 2) da_nil) (Z "dict" (by decide))) da_nil))) (dss_cons (ds_for po rfl (di_any (d_var 1)) (dg_name (i := 5) hN) (dss_cons (ds_asg (d_dget hu (d_var 3) (d_var 5)) (dg_tup (n := 2) rfl (dgs_cons (dg_name (i := 6) hN) (dgs_cons (dg_name (i := 7) hN) dgs_nil)))) (dss_one (ds_if (dt_w (dw_or (t_din hu (d_var 6) (d_var 4)) (dw_or1 (t_din hu (d_var 7) (d_var 4))))) (dss_cons (ds_dput hu (d_var 4) (d_var 6) d_bl) (dss_one (ds_dput hu (d_var 4) (d_var 7) d_bl))) dss_nil)))) (dss_one (ds_ret (d_var 4))))), ?_⟩
  · rintro xs μ Pk Ex old ⟨ps, rs, r, H, y, rfl, rfl, ok, hy, sub, r14, nd, inn, q⟩
    have rs14 := ok.r.most
    have p10 := ok.p.most
    refine ⟨_, rfl, ix_tup (j := 1) rfl ?_⟩
    refine lc_map rs rdD (fun t => pairD (.inr t.1, endD t.2)) (oneD_ones _ _) trivial (Nat.le_trans rs14 (by decide)) (fun t ht Q hQ => ?_) ?_
    · refine ⟨_, rfl, _, rfl, ix_tup (j := 0) rfl ?_⟩
      refine ⟨_, rfl, _, rfl, .inr (.inl ⟨_, rfl, ?_⟩)⟩
      exact ⟨[_, _], rfl, len2, hQ⟩
    refine ⟨_, rs.map fun r => ((Sum.inr r.1 : Key), endD r.2), rfl, ?_, ?_⟩
    · show _ = _
      rw [List.map_map, List.map_map, List.map_map]
      rfl
    rw [merge_ends ok.r.nd]
    refine ⟨_, rfl, 0, _, rfl, rfl, ?_⟩
    refine ⟨_, _, rfl, ?_⟩
    rcases hy with rfl | rfl
    · refine ⟨_, rfl, ?_⟩
      refine ⟨fun i ρ μ => ∃ (a5 a6 a7 : Option Dl.A), ρ = [some (.d (webD ps rs)), some (.d (roundD r)), some (.c 0), some (.c 1), some (.c 2), a5, a6, a7] ∧ μ = [.dct (hvA H), .dct (endsA rs), .dct (hvA (hvL rs H (r.take i)))], ⟨_, _, _, rfl, rfl⟩, ?_, ?_⟩
      · rintro i y ρ2 μ2 hy ⟨a5, a6, a7, rfl, rfl⟩
        obtain ⟨x', hx', rfl⟩ := oneD_get hy
        rw [List.getElem?_map] at hx'
        obtain ⟨x, hx, rfl⟩ := Option.map_eq_some_iff.mp hx'
        obtain ⟨a, b, eab⟩ : ∃ a b, endsOf rs x = (a, b) := ⟨_, _, rfl⟩
        have hxs := sub x (List.mem_of_getElem? hx)
        have hv := valA_endF rs x hxs
        rw [eab] at hv
        have nx : hvL rs H (r.take (i + 1)) = hvS rs (hvL rs H (r.take i)) x := by rw [take_get hx, hvL_snoc]
        have sm := hvL_len (rs := rs) (ps := ps) (r := r.take i) (H := H) (fun e he => ends_in ok (sub e (List.mem_of_mem_take he))) nd inn
        have sT := hvS_tell (rs := rs) (H := hvL rs H (r.take i)) eab
        obtain ⟨G, hG⟩ : ∃ G, hvL rs H (r.take i) = G := ⟨_, rfl⟩
        rw [hG] at nx sm sT ⊢
        rw [sT] at nx
        refine ⟨trivial, _, rfl, ?_⟩
        refine ⟨_, rfl, _, rfl, 1, _, .inr x, _, rfl, rfl, rfl, hv, tgt2 ?_⟩
        refine ⟨_, rfl, _, rfl, 2, _, .inr a, rfl, rfl, rfl, ?_⟩
        rw [hv_in]
        have l1 : (hvA G).length < sizeLine := by
          rw [hv_len]
          exact Nat.lt_of_le_of_lt (Nat.le_trans sm p10) (by decide)
        have l2 : (putA (hvA G) (.inr a) (.d (.bool true))).length < sizeLine := by
          rw [hv_put, hv_len]
          exact Nat.lt_of_le_of_lt (Nat.le_trans ins_len (show G.length + 1 ≤ 11 by omega)) (by decide)
        have fin : ∀ (h : a ∈ G ∨ b ∈ G), [O.dct (hvA H), O.dct (endsA rs), O.dct (putA (putA (hvA G) (.inr a) (.d (.bool true))) (.inr b) (.d (.bool true)))] = [O.dct (hvA H), O.dct (endsA rs), O.dct (hvA (hvL rs H (r.take (i + 1))))] := fun h => by
          rw [nx, if_pos h, hv_put, hv_put]
        by_cases ha : a ∈ G
        · refine ⟨_, rfl, ifT (by rw [decide_eq_true ha]; rfl) (iteT ?_)⟩
          refine ⟨_, rfl, _, rfl, 2, _, .inr a, rfl, rfl, rfl, l1, ?_⟩
          refine ⟨_, rfl, _, rfl, 2, _, .inr b, rfl, rfl, rfl, l2, ?_⟩
          exact ⟨_, _, _, rfl, fin (.inl ha)⟩
        · refine ⟨_, rfl, ifF (by rw [decide_eq_false ha]; rfl) ?_⟩
          refine ⟨_, rfl, _, rfl, 2, _, .inr b, rfl, rfl, rfl, ?_⟩
          rw [hv_in]
          by_cases hb : b ∈ G
          · refine ⟨_, rfl, ifT (by rw [decide_eq_true hb]; rfl) ?_⟩
            refine ⟨_, rfl, _, rfl, 2, _, .inr a, rfl, rfl, rfl, l1, ?_⟩
            refine ⟨_, rfl, _, rfl, 2, _, .inr b, rfl, rfl, rfl, l2, ?_⟩
            exact ⟨_, _, _, rfl, fin (.inr hb)⟩
          · refine ⟨_, rfl, ifF (by rw [decide_eq_false hb]; rfl) ?_⟩
            refine ⟨_, _, _, rfl, ?_⟩
            rw [nx, if_neg fun z => z.elim ha hb]
      · rintro ρ2 μ2 ⟨a5, a6, a7, rfl, rfl⟩
        refine ⟨trivial, _, rfl, ?_⟩
        rw [show (oneD (r.map PyData.str)).length = r.length by unfold oneD; rw [List.length_map, List.length_map], List.take_length]
        exact keep1 (j := 2) rfl (old_hv H) rfl (old_hv _) (by decide) q
    · refine ⟨_, rfl, ?_⟩
      refine ⟨fun i ρ μ => ∃ (a5 a6 a7 : Option Dl.A), ρ = [some (.d (webD ps rs)), some (.d (.list (r.map .str))), some (.c 0), some (.c 1), some (.c 2), a5, a6, a7] ∧ μ = [.dct (hvA H), .dct (endsA rs), .dct (hvA (hvL rs H (r.take i)))], ⟨_, _, _, rfl, rfl⟩, ?_, ?_⟩
      · rintro i y ρ2 μ2 hy ⟨a5, a6, a7, rfl, rfl⟩
        obtain ⟨x', hx', rfl⟩ := oneD_get hy
        rw [List.getElem?_map] at hx'
        obtain ⟨x, hx, rfl⟩ := Option.map_eq_some_iff.mp hx'
        obtain ⟨a, b, eab⟩ : ∃ a b, endsOf rs x = (a, b) := ⟨_, _, rfl⟩
        have hxs := sub x (List.mem_of_getElem? hx)
        have hv := valA_endF rs x hxs
        rw [eab] at hv
        have nx : hvL rs H (r.take (i + 1)) = hvS rs (hvL rs H (r.take i)) x := by rw [take_get hx, hvL_snoc]
        have sm := hvL_len (rs := rs) (ps := ps) (r := r.take i) (H := H) (fun e he => ends_in ok (sub e (List.mem_of_mem_take he))) nd inn
        have sT := hvS_tell (rs := rs) (H := hvL rs H (r.take i)) eab
        obtain ⟨G, hG⟩ : ∃ G, hvL rs H (r.take i) = G := ⟨_, rfl⟩
        rw [hG] at nx sm sT ⊢
        rw [sT] at nx
        refine ⟨trivial, _, rfl, ?_⟩
        refine ⟨_, rfl, _, rfl, 1, _, .inr x, _, rfl, rfl, rfl, hv, tgt2 ?_⟩
        refine ⟨_, rfl, _, rfl, 2, _, .inr a, rfl, rfl, rfl, ?_⟩
        rw [hv_in]
        have l1 : (hvA G).length < sizeLine := by
          rw [hv_len]
          exact Nat.lt_of_le_of_lt (Nat.le_trans sm p10) (by decide)
        have l2 : (putA (hvA G) (.inr a) (.d (.bool true))).length < sizeLine := by
          rw [hv_put, hv_len]
          exact Nat.lt_of_le_of_lt (Nat.le_trans ins_len (show G.length + 1 ≤ 11 by omega)) (by decide)
        have fin : ∀ (h : a ∈ G ∨ b ∈ G), [O.dct (hvA H), O.dct (endsA rs), O.dct (putA (putA (hvA G) (.inr a) (.d (.bool true))) (.inr b) (.d (.bool true)))] = [O.dct (hvA H), O.dct (endsA rs), O.dct (hvA (hvL rs H (r.take (i + 1))))] := fun h => by
          rw [nx, if_pos h, hv_put, hv_put]
        by_cases ha : a ∈ G
        · refine ⟨_, rfl, ifT (by rw [decide_eq_true ha]; rfl) (iteT ?_)⟩
          refine ⟨_, rfl, _, rfl, 2, _, .inr a, rfl, rfl, rfl, l1, ?_⟩
          refine ⟨_, rfl, _, rfl, 2, _, .inr b, rfl, rfl, rfl, l2, ?_⟩
          exact ⟨_, _, _, rfl, fin (.inl ha)⟩
        · refine ⟨_, rfl, ifF (by rw [decide_eq_false ha]; rfl) ?_⟩
          refine ⟨_, rfl, _, rfl, 2, _, .inr b, rfl, rfl, rfl, ?_⟩
          rw [hv_in]
          by_cases hb : b ∈ G
          · refine ⟨_, rfl, ifT (by rw [decide_eq_true hb]; rfl) ?_⟩
            refine ⟨_, rfl, _, rfl, 2, _, .inr a, rfl, rfl, rfl, l1, ?_⟩
            refine ⟨_, rfl, _, rfl, 2, _, .inr b, rfl, rfl, rfl, l2, ?_⟩
            exact ⟨_, _, _, rfl, fin (.inr hb)⟩
          · refine ⟨_, rfl, ifF (by rw [decide_eq_false hb]; rfl) ?_⟩
            refine ⟨_, _, _, rfl, ?_⟩
            rw [nx, if_neg fun z => z.elim ha hb]
      · rintro ρ2 μ2 ⟨a5, a6, a7, rfl, rfl⟩
        refine ⟨trivial, _, rfl, ?_⟩
        rw [show (oneD (r.map PyData.str)).length = r.length by unfold oneD; rw [List.length_map, List.length_map], List.take_length]
        exact keep1 (j := 2) rfl (old_hv H) rfl (old_hv _) (by decide) q

  · rintro xs μ Pk Ex ⟨ps, rs, r, H, y, rfl, _⟩
    rfl
theorem ok_flooded {f : Addr} {fd : FuncData} (F : FunV K "flooded" "flooded" st_flooded f fd)   : FnG P w K mg base (L2.CX P w) 1 f fd ["left", "bits"] (SpD K R_flooded) := by
  refine cal_ofG F sc_flooded ?_ (fun cd A ou s H E W hg hr tk po => ?_)
  rotate_left
  have hN := sc_flooded.nd
  have hu := hr.units
  have hu65 := hr.units65
  refine ⟨_, (dss_cons (ds_set (i := 2) hN d_int) (dss_cons (ds_set (i := 3) hN (d_var 1)) (dss_cons (ds_while po (tNe hu (d_var 3) (d_var 2)) (dss_cons (ds_set (i := 2) hN (d_var 3)) (dss_one (ds_for po rfl (di_any (d_var 0)) (dg_tup (n := 3) rfl (dgs_cons (dg_name (i := 4) hN) (dgs_cons (dg_name (i := 5) hN) (dgs_cons (dg_name (i := 6) hN) dgs_nil)))) (dss_one (ds_if (tNe hu (d_band (d_shr (d_var 3) (d_var 5)) d_int) (d_band (d_shr (d_var 3) (d_var 6)) d_int)) (dss_one (ds_set (i := 3) hN (d_bor (d_bor (d_var 3) (d_shl d_int (d_var 5))) (d_shl d_int (d_var 6))))) dss_nil)))))) (dss_one (ds_ret (d_var 2)))))), ?_⟩
  · rintro xs μ Pk Ex old ⟨ps, rs, r, m, B, rfl, rfl, ok, ⟨r14, hr⟩, hm, qq⟩
    have p10 := ok.p.most
    have mb := mask_ok B ps
    rw [← hm] at mb
    have start : FlI ps rs r B m := ⟨mb.1, fun q hq h => .base hq (by rw [hm, mask_at B hq] at h; exact h), fun q hq h => by rw [hm, mask_at B hq]; exact h⟩
    refine ⟨_, rfl, ?_⟩
    refine ⟨fun k ρ μ => ∃ (h v : Nat) (a b c : Option Dl.A), ρ = [some (.d (.list (r.map (nrD ps rs)))), some (.d (.int (m : Nat))), some (.d (.int (h : Nat))), some (.d (.int (v : Nat))), a, b, c] ∧ μ = [] ∧ FlI ps rs r B v ∧ (v = flS ps rs r h ∨ h = 0) ∧ h ≤ v ∧ k = 2 * (2 ^ ps.length - h) + (if v = h then 0 else 1), ⟨_, 0, m, _, _, _, rfl, rfl, start, .inr rfl, Nat.zero_le _, rfl⟩, ?_⟩
    rintro k ρ2 μ2 ⟨h, v, a, b, c, rfl, rfl, I, hv, le, rfl⟩
    refine ⟨_, rfl, _, rfl, ?_⟩
    by_cases z : v = h
    · refine ⟨_, rfl, tP (congrArg Int.ofNat z) ?_⟩
      subst z
      refine ⟨_, rfl, ?_⟩
      refine data0 (qq v I.bd fun q hq => I.fin hr ?_ hq)
      rcases hv with hv | hv
      · exact flS_same r hv.symm
      · intro e he
        rw [hv, Nat.zero_testBit, Nat.zero_testBit]
    · refine ⟨_, rfl, tQ (fun w => z (Int.ofNat.inj w)) ?_⟩
      refine ⟨_, rfl, _, rfl, ?_⟩
      refine ⟨fun i ρ μ => ∃ (v' : Nat) (a b c : Option Dl.A), ρ = [some (.d (.list (r.map (nrD ps rs)))), some (.d (.int (m : Nat))), some (.d (.int (v : Nat))), some (.d (.int (v' : Nat))), a, b, c] ∧ μ = [] ∧ FlI ps rs r B v' ∧ v' = flS ps rs (r.take i) v, ⟨v, _, _, _, rfl, rfl, I, rfl⟩, ?_, ?_⟩
      · rintro i y ρ3 μ3 hy ⟨v', a, b, c, rfl, rfl, I', hv'⟩
        rw [oneD_ones] at hy
        obtain ⟨e, he, rfl⟩ := ones_get hy
        have hme := List.mem_of_getElem? he
        obtain ⟨ha, hb⟩ := hr e hme
        have la := rk_lt ha
        have lb := rk_lt hb
        have sn : flS ps rs (r.take (i + 1)) v = fsS ps rs v' e := by rw [take_get he, flS_snoc, hv']
        have I2 := I'.step hme ha hb
        refine ⟨trivial, tgt3 ?_⟩
        refine ⟨_, rfl, _, rfl, shr_q (bit_q ⟨_, rfl, _, rfl, shr_q (bit_q ?_)⟩)⟩
        by_cases z : v'.testBit (rk ps (endsOf rs e).1) = v'.testBit (rk ps (endsOf rs e).2)
        · refine ⟨_, rfl, tP (congrArg (fun b => ((Bool.toNat b : Nat) : Int)) z) ?_⟩
          refine ⟨v', _, _, _, rfl, rfl, I', ?_⟩
          rw [sn]
          unfold fsS
          rw [if_pos z]
        · refine ⟨_, rfl, tQ (fun w => z (bit_inj w)) ?_⟩
          refine ⟨_, rfl, _, rfl, shl_q (by omega) (bor_q ⟨_, rfl, shl_q (by omega) (bor_q ?_)⟩)⟩
          have e2 : fsS ps rs v' e = (v' ||| 1 * 2 ^ rk ps (endsOf rs e).1) ||| 1 * 2 ^ rk ps (endsOf rs e).2 := by
            unfold fsS
            rw [if_neg z]
          refine ⟨_, _, _, _, rfl, rfl, by rw [← e2]; exact I2, ?_⟩
          rw [sn, e2]
      · rintro ρ3 μ3 ⟨v', a, b, c, rfl, rfl, I', hv'⟩
        rw [show (oneD (r.map (nrD ps rs))).length = r.length by unfold oneD; rw [List.length_map, List.length_map], List.take_length] at hv'
        have l1 := flS_le ps rs r v
        have l2 := I.bd
        have l3 := I'.bd
        refine ⟨trivial, _, ?_, v, v', _, _, _, rfl, rfl, I', .inl hv', by omega, rfl⟩
        rw [if_neg z]
        generalize 2 ^ ps.length = N at l2 l3 ⊢
        split <;> omega
  · rintro xs μ Pk Ex ⟨ps, rs, r, m, B, rfl, _⟩
    rfl
theorem ok_is_road_between {f : Addr} {fd : FuncData} (F : FunV K "is_road_between" "is_road_between" st_is_road_between f fd) (Z : ∀ x, x ∈ blt → mg x = none) (C_is_name : CalG P w K mg base "is_name" 1 R_is_nameX)  : FnG P w K mg base (L2.CX P w) 2 f fd ["places", "thing"] (SpD K R_is_road_betweenX) := by
  refine cal_ofG F sc_is_road_between ?_ (fun cd A ou s H E W hg hr tk po => ?_)
  rotate_left
  have hN := sc_is_road_between.nd
  have hu := hr.units
  have hu65 := hr.units65
  refine ⟨_, (dss_cons (ds_if (dt_w (dw_or (dt_not (dt_truth (d_callB call_isi s_isiC (da_cons (d_var 1) (da_cons (d_ty (T := "tuple") (Z "tuple" (by decide))) da_nil)) (Z "isinstance" (by decide))))) (dw_or1 (tNe hu (d_callB call_len s_lenU (da_cons (d_var 1) da_nil) (Z "len" (by decide))) d_int)))) (dss_one (ds_ret d_bl)) dss_nil) (dss_cons (ds_asg (d_var 1) (dg_tup (n := 3) rfl (dgs_cons (dg_name (i := 2) hN) (dgs_cons (dg_name (i := 3) hN) (dgs_cons (dg_name (i := 4) hN) dgs_nil))))) (dss_cons (ds_if (dt_w (dw_or (dt_not (dt_truth (d_callB call_isi s_isiC (da_cons (d_var 3) (da_cons (d_ty (T := "str") (Z "str" (by decide))) da_nil)) (Z "isinstance" (by decide))))) (dw_or1 (dt_not (dt_truth (d_callB call_isi s_isiC (da_cons (d_var 4) (da_cons (d_ty (T := "str") (Z "str" (by decide))) da_nil)) (Z "isinstance" (by decide)))))))) (dss_one (ds_ret d_bl)) dss_nil) (dss_one (ds_ret (d_and (d_calG C_is_name hg (hr.mono (by omega)) (da_cons (d_var 2) da_nil)) (d_and (dIn (d_var 3) (d_var 0)) (d_and (dIn (d_var 4) (d_var 0)) (d_one (dNe hu (d_var 3) (d_var 4))))))))))), ?_⟩
  · rintro xs μ Pk Ex old ⟨ps, x, rfl, rfl, hp, q⟩
    refine ⟨_, rfl, isi_tup hp ⟨_, rfl, ?_⟩⟩
    cases x with
    | tuple l =>
      obtain ⟨ll, hl⟩ := plain_tup.mp hp
      refine iteF ⟨_, rfl, len_tup ⟨_, rfl, ?_⟩⟩
      by_cases l3 : l.length = 3
      · refine tP (by omega) ?_
        obtain ⟨n, a, b, rfl⟩ : ∃ n a b, l = [n, a, b] := by
          match l, l3 with
          | [n, a, b], _ => exact ⟨n, a, b, rfl⟩
        have hn := hl n (by simp)
        have ha := hl a (by simp)
        have hb := hl b (by simp)
        refine ⟨_, rfl, tgt3 ?_⟩
        refine ⟨_, rfl, isi_str ha ⟨_, rfl, ?_⟩⟩
        cases a with
        | str a =>
          refine iteF ⟨_, rfl, isi_str hb ⟨_, rfl, ?_⟩⟩
          cases b with
          | str b =>
            have un : roadB ps (.tuple [n, .str a, .str b]) = (nameD n && (decide (a ∈ ps) && (decide (b ∈ ps) && !decide (a = b)))) := rfl
            refine iteF ⟨_, rfl, fr_d [_] ⟨n, rfl, rfl, hn, noO, ⟨_, rfl, ?_⟩⟩⟩
            by_cases a1 : nameD n = true
            · rw [if_pos a1]
              rw [a1] at un
              refine ⟨_, rfl, _, rfl, in_strs ⟨_, rfl, ?_⟩⟩
              by_cases a2 : a ∈ ps
              · refine fP a2 ?_
                rw [decide_eq_true a2] at un
                refine ⟨_, rfl, _, rfl, in_strs ⟨_, rfl, ?_⟩⟩
                by_cases a3 : b ∈ ps
                · refine fP a3 ?_
                  rw [decide_eq_true a3] at un
                  refine ⟨_, rfl, _, rfl, ?_⟩
                  show RetD _ Pk (.d (.bool (true ^^ decide (a = b)))) _
                  rw [Bool.true_xor]
                  rw [un] at q
                  exact data0 q
                · refine fQ a3 ?_
                  rw [decide_eq_false a3] at un
                  rw [un] at q
                  exact data0 q
              · refine fQ a2 ?_
                rw [decide_eq_false a2] at un
                rw [un] at q
                exact data0 q
            · rw [if_neg a1]
              rw [Bool.eq_false_iff.mpr a1] at un
              rw [un] at q
              exact data0 q
          | _ => exact iteT (data0 q)
        | _ => exact iteT (iteT (data0 q))
      · refine tQ (by omega) ?_
        have e : roadB ps (.tuple l) = false := by
          unfold roadB
          split
          · rename_i h
            cases h
            exact absurd rfl l3
          · rfl
        rw [e] at q
        exact data0 q
    | _ => exact iteT (iteT (data0 q))
  · rintro xs μ Pk Ex ⟨ps, x, rfl, _⟩
    rfl
theorem ok_best_from {f : Addr} {fd : FuncData} (F : FunV K "best_from" "best_from" st_best_from f fd) (C_first_kept : CalG P w K mg base "first_kept" 3 (R_first_kept45 mg)) (C_goes_out : CalG P w K mg base "goes_out" 2 R_goes_out) (C_need_one_piece : CalG P w K mg base "need_one_piece" 6 (R_need_one_pieceW mg)) (C_need_place : CalG P w K mg base "need_place" 1 (R_need_placeX mg))  : FnG P w K mg base (L2.CX P w) 7 f fd ["web", "place"] (SpD K (R_best_fromX mg)) := by
  refine cal_ofG F sc_best_from ?_ (fun cd A ou s H E W hg hr tk po => ?_)
  rotate_left
  have hN := sc_best_from.nd
  have hu := hr.units
  have hu65 := hr.units65
  refine ⟨_, (dss_cons (ds_exprY (dx_cal C_need_one_piece tk hg (hr.mono (by omega)) (da_cons (d_var 0) da_nil))) (dss_cons (ds_exprY (dx_cal C_need_place tk hg (hr.mono (by omega)) (da_cons (d_var 0) (da_cons (d_var 1) da_nil)))) (dss_one (ds_ret (d_calG C_first_kept hg (hr.mono (by omega)) (da_cons (d_var 0) (da_cons (d_var 1) (da_cons (d_glbF rfl C_goes_out) da_nil)))))))), ?_⟩
  · rintro xs μ Pk Ex old ⟨a, b, rfl, rfl, h⟩
    rcases h with ⟨ps, rs, s, rfl, rfl, ok, op, hs, qq⟩ | ⟨pa, wa, q⟩ | ⟨ps, rs, rfl, ok, np, q⟩ | ⟨ps, rs, rfl, ok, op, pb, q⟩
    · refine ⟨_, rfl, fr_d [_] ⟨_, rfl, rfl, .inl ⟨ps, rs, rfl, ok, .inl ⟨op, noO, ?_⟩⟩⟩⟩
      refine ⟨_, rfl, _, rfl, fr_d [_, _] ⟨ps, rs, _, rfl, rfl, fun _ => ⟨noO, ?_⟩, fun e => absurd ((place_okB hs).symm.trans e) (by decide)⟩⟩
      exact ⟨_, rfl, _, rfl, fun f hf => fr_kept45W hf ok op hs fun r hr => data0 (qq r hr)⟩
    · refine ⟨_, rfl, fr_d [_] ⟨_, rfl, rfl, .inr ⟨pa, wa, noO, ?_⟩⟩⟩
      exact out0 (ρ := []) q
    · refine ⟨_, rfl, fr_d [_] ⟨_, rfl, rfl, .inl ⟨ps, rs, rfl, ok, .inr ⟨np, noO, ?_⟩⟩⟩⟩
      exact out0 (ρ := []) q
    · refine ⟨_, rfl, fr_d [_] ⟨_, rfl, rfl, .inl ⟨ps, rs, rfl, ok, .inl ⟨op, noO, ?_⟩⟩⟩⟩
      refine ⟨_, rfl, _, rfl, fr_d [_, _] ⟨ps, rs, _, rfl, rfl, fun e => absurd (pb.symm.trans e) (by decide), fun _ => ⟨noO, ?_⟩⟩⟩
      exact out0 (ρ := []) q
  · rintro xs μ Pk Ex ⟨a, b, rfl, _⟩
    rfl
theorem ok_need_one_piece {f : Addr} {fd : FuncData} (F : FunV K "need_one_piece" "need_one_piece" st_need_one_piece f fd) (Er : ErrOk K mg es) (C_has_one_piece : CalG P w K mg base "has_one_piece" 3 R_has_one_piece) (C_need_web : CalG P w K mg base "need_web" 5 (R_need_webX mg))  : FnG P w K mg base (L2.CX P w) 6 f fd ["web"] (SpD K (R_need_one_pieceW mg)) := by
  refine cal_ofG F sc_need_one_piece ?_ (fun cd A ou s H E W hg hr tk po => ?_)
  rotate_left
  have hN := sc_need_one_piece.nd
  have hu := hr.units
  have hu65 := hr.units65
  refine ⟨_, (dss_cons (ds_exprY (dx_cal C_need_web tk hg (hr.mono (by omega)) (da_cons (d_var 0) da_nil))) (dss_one (ds_if (dt_not (dt_truth (d_calG C_has_one_piece hg (hr.mono (by omega)) (da_cons (d_var 0) da_nil)))) (dss_one (ds_raiseN rfl tk Er (by decide) d_str)) dss_nil))), ?_⟩
  · rintro xs μ Pk Ex old ⟨x, rfl, rfl, h⟩
    rcases h with ⟨ps, rs, rfl, ok, h⟩ | ⟨hp, hw, q⟩
    · refine ⟨_, rfl, fr_needW ok ?_⟩
      refine ⟨_, rfl, fr_d [_] ⟨ps, rs, rfl, rfl, ok, fun b hb => ⟨noO, ?_⟩⟩⟩
      rcases h with ⟨z, q⟩ | ⟨z, q⟩
      · rw [hb.mpr z]
        exact ⟨true, rfl, iteF (fin_n q)⟩
      · have e : b = false := by
          cases b with
          | false => rfl
          | true => exact absurd (hb.mp rfl) z
        rw [e]
        exact ⟨false, rfl, iteT (out0 (ρ := []) q)⟩
    · exact ⟨_, rfl, fr_d [_] ⟨_, rfl, rfl, hp, fun e => absurd (hw.symm.trans e) (by decide), fun _ => ⟨noO, out0 (ρ := []) q⟩⟩⟩
  · rintro xs μ Pk Ex ⟨x, rfl, _⟩
    rfl
end
end K45
set_option Elab.async false
set_option linter.all false
set_option maxRecDepth 100000
set_option maxHeartbeats 4000000
namespace K45
open PySem PySem.Spec PyProof.Rows L2 Dl Rp
local macro_rules | `(tactic| and_intros) => `(tactic| repeat (first | refine ⟨_, rfl, ?_⟩ | refine iteT ?_ | refine iteF ?_ | refine ⟨_, _, rfl, rfl, ?_⟩ | refine add_int ?_ | refine len_tup ?_ | refine len_lst ?_ | refine tgt2 ?_ | refine tgt3 ?_ | refine ⟨[_], rfl, len1, ?_⟩ | refine ⟨[_, _], rfl, len2, ?_⟩ | refine ⟨[_, _, _], rfl, len3, ?_⟩))
section
variable {P : Program} {w : World} {K : PySem.W.Frag} {mg : Str → Option Value} {base : Heap}
theorem ok_steps_from {f : Addr} {fd : FuncData} (F : FunV K "steps_from" "steps_from" st_steps_from f fd) (C_beside : CalG P w K mg base "beside" 1 R_beside)  : FnG P w K mg base (L2.CX P w) 2 f fd ["web", "place"] (SpD K R_steps_from) := by
  refine cal_ofG F sc_steps_from ?_ (fun cd A ou s H E W hg hr tk po => ?_)
  rotate_left
  have hN := sc_steps_from.nd
  have hu := hr.units
  have hu65 := hr.units65
  refine ⟨_, (dss_cons (ds_set (i := 2) hN (d_calG C_beside hg (hr.mono (by omega)) (da_cons (d_var 0) da_nil))) (dss_cons (ds_set (i := 3) hN (d_disp1 (d_var 1) d_int)) (dss_cons (ds_set (i := 4) hN (d_lstU (da_cons (d_var 1) da_nil))) (dss_cons (ds_while po (dt_truth (d_var 4)) (dss_cons (ds_set (i := 5) hN (d_lstU da_nil)) (dss_cons (ds_for po rfl (di_any (d_var 4)) (dg_name (i := 6) hN) (dss_one (ds_for po rfl (di_any (d_dget hu (d_var 2) (d_var 6))) (dg_tup (n := 2) rfl (dgs_cons (dg_name (i := 7) hN) (dgs_cons (dg_name (i := 8) hN) dgs_nil))) (dss_one (ds_if (t_dnotin hu (d_var 8) (d_var 3)) (dss_cons (ds_dput hu (d_var 3) (d_var 8) (dAdd (d_dget hu (d_var 3) (d_var 6)) d_int)) (dss_one (ds_expr (d_bm PySem.F.plainAttrs_list PySem.F.slot_list_append PySem.F.type_list_append mt_append s_append (d_var 5) (da_cons (d_var 8) da_nil))))) dss_nil))))) (dss_frz (i := 5) (dss_one (ds_set (i := 4) hN (d_var 5))))))) (dss_one (ds_ret (d_var 3))))))), ?_⟩
  · rintro xs μ Pk Ex old ⟨ps, rs, p, rfl, rfl, ok, hp, q⟩
    have lz := ok.r.most
    have l10 := ok.p.most
    have ha := ok.r.a
    have hb := ok.r.b
    refine ⟨_, rfl, fr_d [_] ⟨ps, rs, rfl, rfl, ok, one_o (dO_dA _), ?_⟩⟩
    generalize hbs : dA (ps.map fun p => (p, PyData.list ((roadsAt rs p).map endD))) = bsd
    have bv : ∀ x, x ∈ ps → valA bsd (.inr x) = some (.d (.list ((roadsAt rs x).map endD))) := fun x hx => by
      rw [← hbs]
      exact dA_at (by unfold kd; rw [List.map_map]; show (ps.map fun x => x).Nodup; rw [List.map_id']; exact ok.p.nd) (List.mem_map.mpr ⟨x, hx, rfl⟩)
    refine ⟨_, rfl, .inr p, rfl, ?_⟩
    refine ⟨_, rfl, len1, .inl ⟨[.str p], rfl, ?_⟩⟩
    refine ⟨fun k ρ μ => ∃ (vv : Nat), ∃ st bs b c d e, ρ = [some (.d (webD ps rs)), some (.d (.str p)), some (.c 0), some (.c 1), some (.d (.list (bs.map .str))), b, c, d, e] ∧ μ[0]? = some (.dct bsd) ∧ μ[1]? = some (.dct (stepA st)) ∧ Bfs rs p st bs [] ∧ DI rs p vv st bs [] ∧ k = 2 * (10 - st.length) + (if bs.isEmpty = true then 0 else 1), ⟨_, 0, [(p, 0)], [p], _, _, _, _, rfl, rfl, rfl, Bfs.start, DI.start, rfl⟩, ?_⟩
    rintro k ρ2 μ2 ⟨vv, st, bs, b, c, d, e, rfl, r0, h0, I, ti, rfl⟩
    refine ⟨_, rfl, _, rfl, ?_⟩
    cases bs with
    | nil =>
      refine iteF ⟨_, rfl, keep0 (j := 1) h0 (fun x hx => ?_) (q st I.nd (fun q => I.done) ti.at_)⟩
      obtain ⟨r, _, rfl⟩ := List.mem_map.mp hx
      trivial
    | cons h rest =>
      have pos : 1 < μ2.length := (List.getElem?_eq_some_iff.mp h0).1
      have ne0 : (1 : Nat) ≠ μ2.length := Nat.ne_of_lt pos
      have ne00 : (0 : Nat) ≠ μ2.length := Nat.ne_of_lt (by omega)
      refine iteT ⟨Nat.zero_le _, .inr ?_⟩
      refine ⟨_, rfl, ?_⟩
      refine ⟨fun i ρ μ => ∃ st' bey c d e, ρ = [some (.d (webD ps rs)), some (.d (.str p)), some (.c 0), some (.c 1), some (.d (.list ((h :: rest).map .str))), some (.c μ2.length), c, d, e] ∧ μ[0]? = some (.dct bsd) ∧ μ[1]? = some (.dct (stepA st')) ∧ μ[μ2.length]? = some (.lst ((bey.map PyData.str).map Dl.A.d)) ∧ Bfs rs p st' ((h :: rest).drop i) bey ∧ DI rs p vv st' ((h :: rest).drop i) bey ∧ st'.length = st.length + bey.length, ⟨st, [], _, _, _, rfl, get_old r0, get_old h0, get_end, I, ti, rfl⟩, ?_, ?_⟩
      · rintro i y ρ3 μ3 hy ⟨st', bey, c, d, e, rfl, r0, g0, gn, J, ti, hl⟩
        rw [oneD_ones] at hy
        obtain ⟨x, hx, rfl⟩ := ones_get hy
        rw [drop_get hx] at J ti
        have xps : x ∈ ps := reach_in ok hp (J.re x (J.sub x (List.mem_cons_self ..)))
        refine ⟨trivial, _, rfl, ?_⟩
        refine ⟨_, rfl, _, rfl, 0, _, .inr x, _, rfl, r0, rfl, bv x xps, ?_⟩
        refine ⟨fun j ρ μ => ∃ st' bey d e, ρ = [some (.d (webD ps rs)), some (.d (.str p)), some (.c 0), some (.c 1), some (.d (.list ((h :: rest).map .str))), some (.c μ2.length), some (.d (.str x)), d, e] ∧ μ[0]? = some (.dct bsd) ∧ μ[1]? = some (.dct (stepA st')) ∧ μ[μ2.length]? = some (.lst ((bey.map PyData.str).map Dl.A.d)) ∧ Bfs rs p st' (x :: (h :: rest).drop (i + 1)) bey ∧ DI rs p vv st' (x :: (h :: rest).drop (i + 1)) bey ∧ st'.length = st.length + bey.length ∧ ∀ b ∈ (nbs rs x).take j, b ∈ kk st', ⟨st', bey, _, _, rfl, r0, g0, gn, J, ti, hl, fun b hb => by rw [List.take_zero] at hb; cases hb⟩, ?_, ?_⟩
        · rintro j y ρ4 μ4 hy ⟨st2, bey2, d, e, rfl, r0, g0, gn, J2, ti, hl2, al⟩
          rw [oneD_ones] at hy
          obtain ⟨z, hz, rfl⟩ := ones_get hy
          have hz2 : (nbs rs x)[j]? = some z.2 := by
            unfold nbs
            rw [List.getElem?_map, hz]
            rfl
          have lst := J2.len hp ha hb
          refine ⟨trivial, tgt2 ?_⟩
          refine ⟨_, rfl, _, rfl, 1, _, .inr z.2, rfl, g0, rfl, _, rfl, ?_⟩
          rw [step_in]
          by_cases m : z.2 ∈ kk st2
          · refine tP m ?_
            refine ⟨st2, bey2, _, _, rfl, r0, g0, gn, J2, ti, hl2, fun b hb => ?_⟩
            rw [take_get hz2] at hb
            rcases List.mem_append.mp hb with hb | hb
            · exact al b hb
            · rw [List.mem_singleton.mp hb]
              exact m
          · refine tQ m ?_
            obtain ⟨v, hv, hm⟩ := step_mem J2.nd (J2.sub x (List.mem_cons_self ..))
            refine ⟨_, rfl, _, rfl, 1, _, .inr x, _, rfl, g0, rfl, hv, ?_⟩
            refine ⟨_, rfl, _, rfl, 1, _, .inr z.2, rfl, g0, rfl, ?_, ?_⟩
            · unfold stepA
              rw [List.length_map]
              exact Nat.lt_of_le_of_lt (Nat.le_trans lst l10) (by decide)
            rw [step_put m]
            refine ⟨_, rfl, .inr (.inl ⟨rfl, .inr ⟨_, _, rfl, get_ne gn ne0⟩⟩), _, rfl, _, _, _, rfl, rfl, get_ne gn ne0, ?_, ?_⟩
            · rw [List.length_map, List.length_map]
              refine Nat.lt_of_le_of_lt (m := 10) (by omega) (by decide)
            refine ⟨st2 ++ [(z.2, v + 1)], bey2 ++ [z.2], _, _, rfl, get_ne (get_ne r0 (by decide)) ne00.symm, get_ne (get_set g0) ne0.symm, ?_, J2.put (List.mem_of_getElem? hz2) m, ti.put J2.nd hm (List.mem_of_getElem? hz2) m, by rw [List.length_append, List.length_append]; simp; omega, fun b hb => ?_⟩
            · rw [get_set (get_ne gn ne0), List.map_append, List.map_append]
              rfl
            · rw [kk_app]
              rw [take_get hz2] at hb
              rcases List.mem_append.mp hb with hb | hb
              · exact List.mem_append.mpr (.inl (al b hb))
              · exact List.mem_append.mpr (.inr hb)
        · rintro ρ4 μ4 ⟨st2, bey2, d, e, rfl, r0, g0, gn, J2, ti, hl2, al⟩
          refine ⟨trivial, st2, bey2, _, _, _, rfl, r0, g0, gn, J2.next fun b hb => al b ?_, ti.next, hl2⟩
          rw [oneD_ones, List.length_map, List.take_of_length_le]
          · exact hb
          · unfold nbs
            rw [List.length_map]
            exact Nat.le_refl _
      · rintro ρ3 μ3 ⟨st', bey, c, d, e, rfl, r0, g0, gn, J, ti, hl⟩
        have lst := J.len hp ha hb
        rw [oneD_ones, List.length_map, List.drop_length] at J ti
        refine ⟨trivial, _, _, rfl, gn, _, rfl, _, ?_, vv + 1, st', bey, _, _, _, _, rfl, get_ne r0 ne00.symm, get_ne g0 ne0.symm, J.turn, ti.turn J, rfl⟩
        cases bey with
        | nil =>
          simp at hl ⊢
          omega
        | cons b bs =>
          simp at hl ⊢
          omega
  · rintro xs μ Pk Ex ⟨ps, rs, p, rfl, _⟩
    rfl
theorem ok__law_bad_place {f : Addr} {fd : FuncData} (F : FunV K "_law_bad_place" "_law_bad_place" st__law_bad_place f fd) (C__law_one : CalG P w K mg base "_law_one" 2 R__law_one)  : FnG P w K mg base (L2.CX P w) 3 f fd ["_law_feed_here", "_law_web"] (SpD K R__law_bad_place44) := by
  refine cal_ofG F sc__law_bad_place ?_ (fun cd A ou s H E W hg hr tk po => ?_)
  rotate_left
  have hN := sc__law_bad_place.nd
  have hu := hr.units
  have hu65 := hr.units65
  refine ⟨_, (dss_cons (ds_setLc (i := 2) (own := [("_law_road", 4)]) rfl hN (di_any (dIx (d_var 1) d_int)) (blkOk_by (N := ns__law_bad_place) (sc := defScope st__law_bad_place) (by decide +kernel)) (fun _ _ _ _ _ => (dg_name (i := 4) hN)) (fun _ _ _ _ _ => (dts_one (tNotIn (dIx (d_var 4) d_int) (dIx (d_var 1) d_int)))) (fun _ _ _ _ _ => (dIx (d_var 4) d_int)) (sw_true rfl rfl rfl rfl)) (dss_cons (ds_set (i := 3) hN (d_lstU (da_cons d_str (da_cons d_str (da_cons d_non (da_cons d_int (da_cons (d_tup (da_cons (dIx (dIx (d_var 1) d_int) d_int) da_nil)) (da_cons (d_lstU (da_cons (dIx (dIx (d_var 1) d_int) d_int) da_nil)) (da_cons d_bl (da_cons (dAdd (dIx (dIx (d_var 1) d_int) d_int) d_str) da_nil)))))))))) (dss_one (ds_ret (d_calG C__law_one hg (hr.mono (by omega)) (da_cons (d_var 0) (da_cons (dAdd (d_var 3) (d_slice (d_var 2) do_none (do_some d_int))) da_nil))))))), ?_⟩
  · rintro xs μ Pk Ex old ⟨o, k, ps, rs, rfl, rfl, ok, ni, hk, k1, q⟩
    have r14 := ok.r.most
    have p1 := ok.p.one
    have k0 := hk.pos
    obtain ⟨p0, hp0⟩ : ∃ p0, ps[0]? = some p0 := ⟨_, List.getElem?_eq_getElem (show 0 < ps.length by omega)⟩
    have hp0D : (ps.map PyData.str)[0]? = some (.str p0) := by rw [List.getElem?_map, hp0]; rfl
    have n0 := ok.p.nm p0 (List.mem_of_getElem? hp0)
    have i0 := ni.p p0 (List.mem_of_getElem? hp0)
    have ne : ("" : Str) ∉ ps := fun h => absurd (ok.p.nm _ h).one (by decide)
    have nw : ("lone9" : Str) ∉ ps := fun h => absurd (ni.p _ h) (by decide)
    have nq : (p0 ++ "q" : Str) ∉ ps := fun h => noq p0 i0 (ni.p _ h)
    refine ⟨_, rfl, ix_tup (j := 1) rfl ?_⟩
    refine lc_filter rs rdD (fun r => .str r.1) (fun r => decide (r.1 ∉ ps)) (oneD_ones _ _) trivial (Nat.le_trans r14 (by decide)) (fun x hx Q N h1 h2 => ?_) ?_
    · refine ⟨_, rfl, _, rfl, ix_tup (j := 0) rfl ⟨_, rfl, ix_tup (j := 0) rfl (in_strs ⟨_, rfl, ?_⟩)⟩⟩
      by_cases m : x.1 ∈ ps
      · exact tP m (h2 (decide_eq_false fun z => z m))
      · exact tQ m ⟨_, rfl, ix_tup (j := 0) rfl (h1 (decide_eq_true m))⟩
    have nl : ∀ d ∈ (rs.filter fun r => decide (r.1 ∉ ps)).map (fun r => PyData.str r.1), plainB d = true ∧ placeB ps d = false := fun d hd => by
      obtain ⟨t, ht, rfl⟩ := List.mem_map.mp hd
      have h := List.mem_filter.mp ht
      exact ⟨plain_name (ok.r.nm t h.1), decide_eq_false (of_decide_eq_true h.2)⟩
    have ll : ((rs.filter fun r => decide (r.1 ∉ ps)).map (fun r => PyData.str r.1)).length ≤ 14 := by
      rw [List.length_map]
      exact Nat.le_trans (List.length_filter_le _ _) r14
    generalize (rs.filter fun r => decide (r.1 ∉ ps)).map (fun r => PyData.str r.1) = N at nl ll ⊢
    refine ⟨_, rfl, ?_⟩
    refine ix_tup (j := 0) rfl (ix_tup (j := 0) hp0D ?_)
    refine ⟨[_], rfl, len1, ?_⟩
    refine ⟨_, rfl, ix_tup (j := 0) rfl (ix_tup (j := 0) hp0D ?_)⟩
    refine ⟨len1, .inl ⟨[_], rfl, ?_⟩⟩
    refine ⟨_, rfl, ix_tup (j := 0) rfl (ix_tup (j := 0) hp0D ?_)⟩
    refine ⟨Nat.le_trans (show p0.length + 1 ≤ 1001 by have := name_1000 n0; omega) (by decide), ?_⟩
    refine ⟨by show 8 ≤ sizeLine; decide, .inl ⟨[_, _, _, _, _, _, _, _], rfl, ?_⟩⟩
    refine ⟨_, rfl, _, rfl, _, rfl, _, rfl, .inr (.inr (.inl ⟨_, rfl, ?_⟩))⟩
    have cs : (cut N none (some 2)).Sublist N := (List.take_sublist ..).trans (List.drop_sublist ..)
    have cl := cs.length_le
    refine add_lstD (Nat.le_trans (show 8 + (cut N none (some 2)).length ≤ 22 by omega) (by decide)) ?_
    refine fr_one (n := 0) _ rfl (.inl rfl) hk (by omega) ⟨by rw [List.length_append]; show 0 < 8 + _; omega, by rw [List.length_append]; show 8 + _ < 10 ^ 6; omega⟩ fun x o1 hx hk1 => ?_
    suffices h : plainB x = true ∧ placeB ps x = false from feedRet hk1 (q x o1 h.1 h.2 hk1)
    rcases List.mem_append.mp hx with hx | hx
    · have pn := plain_name n0
      simp only [List.mem_cons, List.not_mem_nil, or_false] at hx
      rcases hx with rfl | rfl | rfl | rfl | rfl | rfl | rfl | rfl
      · exact ⟨by decide, decide_eq_false nw⟩
      · exact ⟨by decide, decide_eq_false ne⟩
      · exact ⟨rfl, rfl⟩
      · exact ⟨rfl, rfl⟩
      · exact ⟨plain1 pn, rfl⟩
      · exact ⟨plain_lst.mpr ⟨by show 1 ≤ 1000; decide, fun x hx => by rw [List.mem_singleton.mp hx]; exact pn⟩, rfl⟩
      · exact ⟨rfl, rfl⟩
      · refine ⟨plain_str.mpr ?_, decide_eq_false nq⟩
        rw [Str.length_append]
        have := n0.most
        show p0.length + 1 ≤ 1000
        omega
    · exact nl x (cs.subset hx)
  · rintro xs μ Pk Ex ⟨o, k, ps, rs, rfl, _⟩
    rfl
theorem ok_are_places {f : Addr} {fd : FuncData} (F : FunV K "are_places" "are_places" st_are_places f fd) (Z : ∀ x, x ∈ blt → mg x = none) (C_is_name : CalG P w K mg base "is_name" 1 R_is_nameX) (c_MOST_PLACES : ∃ t, mg "MOST_PLACES" = some (.int 10 t)) : FnG P w K mg base (L2.CX P w) 2 f fd ["thing"] (SpD K R_are_placesX) := by
  refine cal_ofG F sc_are_places ?_ (fun cd A ou s H E W hg hr tk po => ?_)
  rotate_left
  have hN := sc_are_places.nd
  have hu := hr.units
  have hu65 := hr.units65
  refine ⟨_, (dss_cons (ds_if (dt_w (dw_or (dt_not (dt_truth (d_callB call_isi s_isiC (da_cons (d_var 0) (da_cons (d_ty (T := "tuple") (Z "tuple" (by decide))) da_nil)) (Z "isinstance" (by decide))))) (dw_or1 (dt_not (dt_chain op_le op_le s_le s_le d_int (d_callB call_len s_lenU (da_cons (d_var 0) da_nil) (Z "len" (by decide))) (d_constI c_MOST_PLACES)))))) (dss_one (ds_ret d_bl)) dss_nil) (dss_one (ds_ret (d_and (d_callB (cr_all rfl) s_all (da_cons (d_lc (own := [("place", 1)]) rfl hN (di_any (d_var 0)) (blkOk_by (N := ns_are_places) (sc := defScope st_are_places) (by decide +kernel)) (fun _ _ _ _ _ => (dg_name (i := 1) hN)) (fun _ _ _ _ _ => dts_nil) (fun _ _ _ _ _ => (d_calG C_is_name hg (hr.mono (by omega)) (da_cons (d_var 1) da_nil)))) da_nil) (Z "all" (by decide))) (d_one (dEq hu (d_lenK rfl (Z "len" (by decide)) (Z "set" (by decide)) (d_var 0)) (d_callB call_len s_lenU (da_cons (d_var 0) da_nil) (Z "len" (by decide))))))))), ?_⟩
  · rintro xs μ Pk Ex old ⟨x, rfl, rfl, hp, q⟩
    refine ⟨_, rfl, isi_tup hp ⟨_, rfl, ?_⟩⟩
    cases x with
    | tuple l =>
      obtain ⟨ll, hl⟩ := plain_tup.mp hp
      have un : placesB (.tuple l) = (decide (1 ≤ l.length) && decide (l.length ≤ 10) && (l.all nameD && decide ((l.map textOf).Nodup))) := rfl
      refine iteF ⟨_, rfl, _, _, rfl, rfl, _, rfl, iteD (fun l1 => ⟨_, _, rfl, rfl, _, rfl, ?_⟩) (fun l1 => ?_)⟩
      · by_cases l2 : (l.length : Int) ≤ 10
        · refine nP l2 ?_
          rw [decide_eq_true (show 1 ≤ l.length by omega), decide_eq_true (show l.length ≤ 10 by omega)] at un
          refine ⟨_, rfl, ?_⟩
          refine lc_map l id (fun x => .bool (nameD x)) (by unfold oneD; rfl) trivial (Nat.le_trans ll (by decide)) (fun x hx Q hQ => ?_) ?_
          · exact ⟨_, rfl, _, rfl, fr_d [_] ⟨x, rfl, rfl, hl x hx, bk hQ⟩⟩
          refine all_of ⟨_, rfl, ?_⟩
          by_cases a1 : l.all nameD = true
          · rw [if_pos a1]
            rw [a1] at un
            have eb := strs_back a1
            generalize l.map textOf = ss at un eb
            subst eb
            refine ⟨_, rfl, ss.map Sum.inr, by rw [List.map_map]; rfl, by rw [List.length_map] at ll ⊢; unfold scanBound; omega, ?_⟩
            refine ⟨_, rfl, ?_⟩
            have e : (decide (((ddk (ss.map Sum.inr)).length : Int) = (((ss.map PyData.str).length : Nat) : Int))) = decide ss.Nodup := by
              refine decide_eq_decide.mpr ⟨fun h => ?_, fun nd => ?_⟩
              · have := ddk_full (l := ss.map Sum.inr) (by rw [List.length_map]; rw [List.length_map] at h; omega)
                exact (List.pairwise_map.mp this).imp fun h e => h (by rw [e])
              · rw [ddk_nodup (keys_nd nd), List.length_map, List.length_map]
            show RetD _ Pk (.d (.bool (false ^^ decide _))) _
            rw [e, Bool.false_xor]
            rw [un] at q
            exact data0 q
          · rw [if_neg a1]
            rw [Bool.eq_false_iff.mpr a1] at un
            rw [un] at q
            exact data0 q
        · rw [decide_eq_false l2]
          refine iteT ?_
          rw [decide_eq_false (show ¬ l.length ≤ 10 by omega), Bool.and_false, Bool.false_and] at un
          rw [un] at q
          exact data0 q
      · refine ⟨_, rfl, iteT ?_⟩
        rw [decide_eq_false (show ¬ 1 ≤ l.length by omega), Bool.false_and, Bool.false_and] at un
        rw [un] at q
        exact data0 q
    | _ => exact iteT (iteT (data0 q))
  · rintro xs μ Pk Ex ⟨x, rfl, _⟩
    rfl
theorem ok_known_behind {f : Addr} {fd : FuncData} (F : FunV K "known_behind" "known_behind" st_known_behind f fd) (Z : ∀ x, x ∈ blt → mg x = none)   : FnG P w K mg base (L2.CX P w) 1 f fd ["ends", "known"] (SpD K R_known_behind) := by
  refine cal_ofG F sc_known_behind ?_ (fun cd A ou s H E W hg hr tk po => ?_)
  rotate_left
  have hN := sc_known_behind.nd
  have hu := hr.units
  have hu65 := hr.units65
  refine ⟨_, (dss_cons (ds_set (i := 2) hN (d_callTy call_list_of s_listU (da_cons (d_var 1) da_nil) (Z "list" (by decide)))) (dss_cons (ds_for po rfl (di_any (d_var 0)) (dg_tup (n := 2) rfl (dgs_cons (dg_name (i := 3) hN) (dgs_cons (dg_name (i := 4) hN) dgs_nil))) (dss_one (ds_if (tNe hu (dIx (d_var 2) (d_var 3)) (dIx (d_var 2) (d_var 4))) (dss_cons (ds_set (i := 5) hN (d_bor (dIx (d_var 2) (d_var 3)) (dIx (d_var 2) (d_var 4)))) (dss_cons (ds_asg (d_var 5) (dg_sub (d_var 2) (d_var 3))) (dss_one (ds_asg (d_var 5) (dg_sub (d_var 2) (d_var 4)))))) dss_nil))) (dss_one (ds_ret (d_var 2))))), ?_⟩
  · rintro xs μ Pk Ex old ⟨ps, rs, r, L, rfl, rfl, ok, ⟨r14, hr⟩, hl, qq⟩
    have p10 := ok.p.most
    refine ⟨_, rfl, _, (bI L).map Dl.A.d, rfl, .inl rfl, .inr ?_⟩
    refine ⟨_, rfl, ?_⟩
    refine ⟨fun i ρ μ => ∃ (a b c : Option Dl.A), ρ = [some (.d (.list (r.map (numD ps rs)))), some (.d (bitsD L)), some (.c 0), a, b, c] ∧ μ = [.lst ((bI (kbL ps rs (r.take i) L)).map Dl.A.d)], ⟨_, _, _, rfl, rfl⟩, ?_, ?_⟩
    · rintro i y ρ2 μ2 hy ⟨a, b, c, rfl, rfl⟩
      rw [oneD_ones] at hy
      obtain ⟨e, he, rfl⟩ := ones_get hy
      obtain ⟨ha, hb⟩ := hr e (List.mem_of_getElem? he)
      have sn : kbL ps rs (r.take (i + 1)) L = kbS ps rs (kbL ps rs (r.take i) L) e := by rw [take_get he, kbL_snoc]
      have ll : (kbL ps rs (r.take i) L).length = ps.length := by rw [kbL_len, hl]
      obtain ⟨M, hM⟩ : ∃ M, kbL ps rs (r.take i) L = M := ⟨_, rfl⟩
      rw [hM] at ll sn ⊢
      have la : rk ps (endsOf rs e).1 < M.length := by rw [ll]; exact rk_lt ha
      have lb : rk ps (endsOf rs e).2 < M.length := by rw [ll]; exact rk_lt hb
      refine ⟨trivial, tgt2 ?_⟩
      refine ⟨_, rfl, _, rfl, ix_of (.inl rfl) (bI_get la) ⟨_, rfl, _, rfl, ix_of (.inl rfl) (bI_get lb) ?_⟩⟩
      by_cases z : M.getD (rk ps (endsOf rs e).1) 0 = M.getD (rk ps (endsOf rs e).2) 0
      · refine ⟨_, rfl, tP (congrArg Int.ofNat z) ?_⟩
        refine ⟨_, _, _, rfl, ?_⟩
        rw [sn]
        unfold kbS
        rw [if_pos z]
      · refine ⟨_, rfl, tQ (fun w => z (Int.ofNat.inj w)) ?_⟩
        refine ⟨_, rfl, _, rfl, ix_of (.inl rfl) (bI_get la) ⟨_, rfl, _, rfl, ix_of (.inl rfl) (bI_get lb) ⟨_, _, rfl, rfl, trivial, ?_⟩⟩⟩
        refine ⟨_, rfl, _, rfl, _, rfl, _, rfl, 0, _, _, _, rfl, rfl, rfl, ixN_nat (by rw [List.length_map, List.length_map]; exact la), ?_⟩
        refine ⟨_, rfl, _, rfl, _, rfl, _, rfl, 0, _, _, _, rfl, rfl, rfl, ixN_nat (by rw [List.length_set, List.length_map, List.length_map]; exact lb), ?_⟩
        refine ⟨_, _, _, rfl, ?_⟩
        rw [sn]
        unfold kbS
        rw [if_neg z, ← bI_set, ← bI_set]
        rfl
    · rintro ρ2 μ2 ⟨a, b, c, rfl, rfl⟩
      refine ⟨trivial, _, rfl, ?_⟩
      rw [show (oneD (r.map (numD ps rs))).length = r.length by unfold oneD; rw [List.length_map, List.length_map], List.take_length]
      exact frz0 (j := 0) rfl qq
  · rintro xs μ Pk Ex ⟨ps, rs, r, L, rfl, _⟩
    rfl
end
end K45
set_option Elab.async false
set_option linter.all false
set_option maxRecDepth 100000
set_option maxHeartbeats 4000000
namespace K45
open PySem PySem.Spec PyProof.Rows L2 Dl Rp
local macro_rules | `(tactic| and_intros) => `(tactic| repeat (first | refine ⟨_, rfl, ?_⟩ | refine iteT ?_ | refine iteF ?_ | refine ⟨_, _, rfl, rfl, ?_⟩ | refine add_int ?_ | refine len_tup ?_ | refine len_lst ?_ | refine tgt2 ?_ | refine tgt3 ?_ | refine ⟨[_], rfl, len1, ?_⟩ | refine ⟨[_, _], rfl, len2, ?_⟩ | refine ⟨[_, _, _], rfl, len3, ?_⟩))
section
variable {P : Program} {w : World} {K : PySem.W.Frag} {mg : Str → Option Value} {base : Heap}
theorem ok_comes_home {f : Addr} {fd : FuncData} (F : FunV K "comes_home" "comes_home" st_comes_home f fd) (Z : ∀ x, x ∈ blt → mg x = none) (C_flooded : CalG P w K mg base "flooded" 1 R_flooded)  : FnG P w K mg base (L2.CX P w) 2 f fd ["left", "known", "start", "at"] (SpD K R_comes_home) := by
  refine cal_ofG F sc_comes_home ?_ (fun cd A ou s H E W hg hr tk po => ?_)
  rotate_left
  have hN := sc_comes_home.nd
  have hu := hr.units
  have hu65 := hr.units65
  refine ⟨_, (dss_cons (ds_asg (dIx (d_var 0) (d_var 3)) (dg_tup (n := 3) rfl (dgs_cons (dg_name (i := 4) hN) (dgs_cons (dg_name (i := 5) hN) (dgs_cons (dg_name (i := 6) hN) dgs_nil))))) (dss_cons (ds_set (i := 7) hN (d_calG C_flooded hg (hr.mono (by omega)) (da_cons (dAdd (d_slice (d_var 0) do_none (do_some (d_var 3))) (d_slice (d_var 0) (do_some (dAdd (d_var 3) d_int)) do_none)) (da_cons (d_shl d_int (d_var 2)) da_nil)))) (dss_cons (ds_set (i := 8) hN (d_bor (dIx (d_var 1) (d_var 5)) (dIx (d_var 1) (d_var 6)))) (dss_cons (ds_for po rfl (di_range1 (da_cons (d_callB call_len s_lenU (da_cons (d_var 1) da_nil) (Z "len" (by decide))) da_nil) (Z "range" (by decide))) (dg_name (i := 9) hN) (dss_one (ds_if (dt_truth (d_band (d_shr (d_var 7) (d_var 9)) d_int)) (dss_one (ds_set (i := 8) hN (d_bor (d_var 8) (dIx (d_var 1) (d_var 9))))) dss_nil))) (dss_one (ds_ret (dEq hu (d_var 8) (d_sub (d_shl d_int (d_callB call_len s_lenU (da_cons (d_var 1) da_nil) (Z "len" (by decide)))) d_int)))))))), ?_⟩
  · rintro xs μ Pk Ex old ⟨ps, rs, r, L, s, i, e, rfl, rfl, ok, hs, ⟨r14, hr⟩, hl, bd, hi, qq⟩
    have p10 := ok.p.most
    have li := (List.getElem?_eq_some_iff.mp hi).1
    obtain ⟨ha, hb⟩ := hr e (List.mem_of_getElem? hi)
    have l1 : rk ps (endsOf rs e).1 < L.length := by rw [hl]; exact rk_lt ha
    have l2 : rk ps (endsOf rs e).2 < L.length := by rw [hl]; exact rk_lt hb
    have ls := rk_lt hs
    refine ⟨_, rfl, _, rfl, ix_lstI (Int.natCast_nonneg i) (z := nrD ps rs e) (by rw [Int.toNat_natCast, List.getElem?_map, hi]; rfl) (tgt3 ?_)⟩
    refine ⟨_, rfl, _, rfl, _, rfl, .inr (.inr (.inl ⟨_, rfl, ?_⟩))⟩
    rw [cutE_map]
    refine ⟨_, rfl, _, rfl, add_int ⟨_, rfl, .inr (.inr (.inl ⟨_, rfl, ?_⟩))⟩⟩
    rw [cutE_mapF]
    refine add_lsE (Nat.le_trans (by rw [List.length_map, List.length_map, List.length_take, List.length_drop]; omega) (show 28 ≤ sizeLine by decide)) ?_
    rw [← List.map_append]
    refine ⟨_, rfl, shl_q (by omega) ?_⟩
    rw [← mask_one ok.p hs]
    refine fr_flood ok ⟨by rw [List.length_append, List.length_take, List.length_drop]; omega, fun x hx => hr x ?_⟩ fun v v1 v2 => ?_
    · rcases List.mem_append.mp hx with hx | hx
      · exact List.mem_of_mem_take hx
      · exact List.mem_of_mem_drop hx
    refine ⟨_, rfl, _, rfl, ix_of (.inl rfl) (bI_get l1) ⟨_, rfl, _, rfl, ix_of (.inl rfl) (bI_get l2) (bor_q ?_)⟩⟩
    have lB2 : (((bI L).length : Nat) : Int) = (ps.length : Nat) := by rw [List.length_map, hl]
    refine ⟨_, rfl, len_lst ?_⟩
    rw [lB2]
    refine ⟨_, rfl, by omega, by omega, ?_⟩
    have getb : ∀ k, L.getD k 0 < 2 ^ ps.length := fun k => by
      rw [List.getD_eq_getElem?_getD]
      cases z : L[k]? with
      | none => exact Nat.two_pow_pos _
      | some x => exact bd x (List.mem_of_getElem? z)
    rw [Int.toNat_natCast]
    refine ⟨fun j ρ μ => ∃ (g : Nat) (a9 : Option Dl.A), ρ = [some (.d (.list (r.map (nrD ps rs)))), some (.d (bitsD L)), some (.d (.int (rk ps s : Nat))), some (.d (.int (i : Nat))), some (.d (.str e)), some (.d (.int (rk ps (endsOf rs e).1 : Nat))), some (.d (.int (rk ps (endsOf rs e).2 : Nat))), some (.d (.int (v : Nat))), some (.d (.int (g : Nat))), a9] ∧ μ = [] ∧ g < 2 ^ ps.length ∧
      ∀ x ∈ ps, g.testBit (rk ps x) = true ↔ (hasB ps L x (endsOf rs e).1 = true ∨ hasB ps L x (endsOf rs e).2 = true ∨ ∃ q ∈ ps, rk ps q < j ∧ v.testBit (rk ps q) = true ∧ hasB ps L x q = true), ⟨_, _, rfl, rfl, Nat.or_lt_two_pow (getb _) (getb _), fun x hx => ?_⟩, ?_, ?_⟩
    · rw [Nat.testBit_or, Bool.or_eq_true]
      exact ⟨fun h => h.elim .inl fun h => .inr (.inl h), fun h => h.elim .inl fun h => h.elim .inr fun ⟨q, _, z, _⟩ => absurd z (Nat.not_lt_zero _)⟩
    · rintro j y ρ2 μ2 hy ⟨g, a9, rfl, rfl, gb, gi⟩
      obtain ⟨jl, rfl⟩ := rngY_get hy
      have e0 : (0 : Int) + (j : Int) = (j : Nat) := Int.zero_add _
      rw [e0]
      have jL : j < L.length := by omega
      have pj : ps[j]? = some ps[j] := List.getElem?_eq_getElem jl
      have rj := rk_ix ok.p.nd pj
      have pm := List.mem_of_getElem? pj
      generalize ps[j] = pq at pj rj pm
      refine ⟨trivial, _, rfl, ?_⟩
      refine ⟨_, rfl, _, rfl, shr_q (bit_q ?_)⟩
      obtain ⟨bj, ej⟩ : ∃ bj, v.testBit j = bj := ⟨_, rfl⟩
      rw [ej]
      cases bj with
      | true =>
        refine ⟨_, rfl, iteT ⟨_, rfl, _, rfl, _, rfl, ix_of (.inl rfl) (bI_get jL) (bor_q ?_)⟩⟩
        refine ⟨_, _, rfl, rfl, Nat.or_lt_two_pow gb (getb _), fun x hx => ?_⟩
        rw [Nat.testBit_or, Bool.or_eq_true, gi x hx]
        constructor
        · rintro ((h | h | ⟨q, h1, h2, h3⟩) | h)
          · exact .inl h
          · exact .inr (.inl h)
          · exact .inr (.inr ⟨q, h1, by omega, h3⟩)
          · refine .inr (.inr ⟨pq, pm, by omega, by rw [rj]; exact ej, ?_⟩)
            unfold hasB
            rw [rj]
            exact h
        · rintro (h | h | ⟨q, h1, h2, h3, h4⟩)
          · exact .inl (.inl h)
          · exact .inl (.inr (.inl h))
          · by_cases qj : rk ps q = j
            · refine .inr ?_
              unfold hasB at h4
              rw [qj] at h4
              exact h4
            · exact .inl (.inr (.inr ⟨q, h1, by omega, h3, h4⟩))
      | false =>
        refine ⟨_, rfl, iteF ⟨_, _, rfl, rfl, gb, fun x hx => ?_⟩⟩
        rw [gi x hx]
        refine or_congr Iff.rfl (or_congr Iff.rfl ⟨fun ⟨q, h1, h2, h3⟩ => ⟨q, h1, by omega, h3⟩, fun ⟨q, h1, h2, h3⟩ => ⟨q, h1, ?_, h3⟩⟩)
        have : rk ps q ≠ j := fun z => by
          rw [z, ej] at h3
          exact absurd h3.1 (by decide)
        omega
    · rintro ρ2 μ2 ⟨g, a9, rfl, rfl, gb, gi⟩
      refine ⟨trivial, ?_⟩
      refine ⟨_, rfl, _, rfl, len_lst ?_⟩
      rw [lB2]
      have tp := Nat.two_pow_pos ps.length
      refine shl_q (by omega) ⟨_, _, rfl, rfl, ?_⟩
      refine data0 (qq _ ?_)
      have e3 : ((1 * 2 ^ ps.length : Nat) : Int) - 1 = ((2 ^ ps.length - 1 : Nat) : Int) := by
        rw [Nat.one_mul]
        omega
      rw [e3, Bool.false_xor, decide_eq_true_iff]
      have al := all_bits_ps ok.p.nd gb
      have el : (rngY 0 ps.length).length = ps.length := by
        unfold rngY
        simp
      rw [el] at gi
      have key : (∀ x ∈ ps, g.testBit (rk ps x) = true) ↔ homP ps rs r L s i e := by
        unfold homP
        refine forall_congr' fun x => forall_congr' fun hx => ?_
        rw [gi x hx]
        refine or_congr Iff.rfl (or_congr Iff.rfl ⟨fun ⟨q, h1, h2, h3, h4⟩ => ⟨q, h1, (v2 q h1).mp h3, h4⟩, fun ⟨q, h1, h2, h3⟩ => ⟨q, h1, rk_lt h1, (v2 q h1).mpr h2, h3⟩⟩)
      rw [← key, ← al]
      exact ⟨fun h => Int.ofNat.inj h, fun h => congrArg Int.ofNat h⟩
  · rintro xs μ Pk Ex ⟨ps, rs, r, L, s, i, e, rfl, _⟩
    rfl
theorem ok__law_can_bring {f : Addr} {fd : FuncData} (F : FunV K "_law_can_bring" "_law_can_bring" st__law_can_bring f fd) (C__law_walked : CalG P w K mg base "_law_walked" 1 R__law_walked)  : FnG P w K mg base (L2.CX P w) 2 f fd ["_law_web", "_law_roads", "_law_haves", "_law_place"] (SpD K R__law_can_bring) := by
  refine cal_ofG F sc__law_can_bring ?_ (fun cd A ou s H E W hg hr tk po => ?_)
  rotate_left
  have hN := sc__law_can_bring.nd
  have hu := hr.units
  have hu65 := hr.units65
  refine ⟨_, (dss_cons (ds_set (i := 4) hN (d_disp1 (d_var 3) d_bl)) (dss_cons (ds_for po rfl (di_any (dIx (d_var 0) d_int)) (dg_name (i := 5) hN) (dss_one (ds_set (i := 4) hN (d_calG C__law_walked hg (hr.mono (by omega)) (da_cons (d_var 0) (da_cons (d_var 1) (da_cons (d_var 4) da_nil))))))) (dss_one (ds_ret (dNotIn d_bl (d_lc (own := [("_law_have", 6)]) rfl hN (di_any (d_var 2)) (blkOk_by (N := ns__law_can_bring) (sc := defScope st__law_can_bring) (by decide +kernel)) (fun _ _ _ _ _ => (dg_name (i := 6) hN)) (fun _ _ _ _ _ => dts_nil) (fun _ _ _ _ _ => (dIn d_bl (d_lock 6 (d_lc (own := [("_law_one_here", 7)]) rfl hN (di_keys (d_var 6)) (blkOk_by (N := ns__law_can_bring) (by rfl)) (fun _ _ _ _ _ => (dg_name (i := 7) hN)) (fun _ _ _ _ _ => dts_nil) (fun _ _ _ _ _ => (d_din hu (d_var 7) (d_var 4))))))))))))), ?_⟩
  · rintro xs μ Pk Ex old ⟨ps, rs, s, R, n, cs, Hs, rfl, hn, hl, hc, c10, ok, hs, sub, R14, qq⟩
    have p10 := ok.p.most
    have ends : ∀ e ∈ R, (endsOf rs e).1 ∈ ps ∧ (endsOf rs e).2 ∈ ps := fun e he => ends_in ok (sub e he)
    refine ⟨_, rfl, .inr s, rfl, ?_⟩
    refine ⟨_, rfl, ix_tup (j := 0) rfl ?_⟩
    refine ⟨fun i ρ μ' => ∃ (l : Mu) (C : Nat) (J : List Str) (a5 a6 a7 : Option Dl.A), ρ = [some (.d (webD ps rs)), some (.d (.list (R.map .str))), some (.c n), some (.d (.str s)), some (.c C), a5, a6, a7] ∧ μ' = μ ++ l ∧ μ.length ≤ C ∧ μ'[C]? = some (.dct (hvA J)) ∧ J.Nodup ∧ (∀ q ∈ J, q ∈ ps) ∧ ∀ q ∈ J, Hm ps rs R s q, ⟨_, _, [s], _, _, _, rfl, rfl, Nat.le_refl _, get_end, by simp, fun q hq => by rw [List.mem_singleton.mp hq]; exact hs, fun q hq => .base (by rw [List.mem_singleton.mp hq]; exact hs) (decide_eq_true (List.mem_singleton.mp hq))⟩, ?_, ?_⟩
    · rintro i y ρ2 μ2 hy ⟨l, C, J, a5, a6, a7, rfl, rfl, Cl, hC, jn, js, jf⟩
      obtain ⟨x, hx, rfl⟩ := oneD_get hy
      refine ⟨trivial, _, rfl, ?_⟩
      refine ⟨_, rfl, _, rfl, _, rfl, ?_⟩
      refine fr_walked hC ok (.inr rfl) sub R14 jn js ?_
      exact ⟨l ++ [_], _, hvL rs J R, _, _, _, rfl, by rw [List.append_assoc], by rw [List.length_append]; omega, get_end, hvL_nd R jn, hvL_sub R ends js, fl_hv ends R (fun e h => h) jf⟩
    · rintro ρ2 μ2 ⟨l, C, J, a5, a6, a7, rfl, rfl, Cl, hC, jn, js, jf⟩
      refine ⟨trivial, ?_⟩
      have nl := (List.getElem?_eq_some_iff.mp hn).1
      have hn2 : (μ ++ l)[n]? = some (.lst (cs.map Dl.A.c)) := by rw [List.getElem?_append_left nl]; exact hn
      refine ⟨_, rfl, _, hn2, ?_⟩
      have zf : (cs.zip Hs).map (fun p => p.1) = cs := List.map_fst_zip (by omega)
      have zs : (cs.zip Hs).map (fun p => PyData.bool (p.2.any fun q => decide (q ∈ J))) = Hs.map fun H => PyData.bool (H.any fun q => decide (q ∈ J)) := by
        conv => rhs; rw [← List.map_snd_zip (l₁ := cs) (l₂ := Hs) (by omega), List.map_map]
        rfl
      refine lc_mapY (cs.zip Hs) (fun p => .one (.c p.1)) (fun p => .d (.bool (p.2.any fun q => decide (q ∈ J)))) ?_ hn2 (by rw [List.length_zip]; exact Nat.le_trans (Nat.min_le_left ..) (Nat.le_trans c10 (by decide))) (fun p hp Q hQ => ?_) (.inl ⟨Hs.map fun H => PyData.bool (H.any fun q => decide (q ∈ J)), by rw [← zs, List.map_map]; rfl, nin_fls5 (c := fun (H : List Str) => H.any fun q => decide (q ∈ J)) ?_⟩)
      · conv => lhs; rw [← zf]
        rw [List.map_map, List.map_map]
        rfl
      · obtain ⟨j, hj⟩ := List.mem_iff_getElem?.mp hp
        rw [List.getElem?_zip_eq_some] at hj
        obtain ⟨hcj, hl10⟩ := hc j p.1 p.2 hj.1 hj.2
        have hcj2 : (μ ++ l)[p.1]? = some (.dct (hvA p.2)) := by rw [List.getElem?_append_left (List.getElem?_eq_some_iff.mp hcj).1]; exact hcj
        refine ⟨_, rfl, p.1, hvA p.2, rfl, hcj2, fun od vs => ?_⟩
        refine ⟨_, rfl, p.1, od, vs, _, rfl, get_set hcj2, ?_⟩
        have pC : p.1 ≠ C := fun z => by
          have := (List.getElem?_eq_some_iff.mp hcj).1
          omega
        have hC2 : ((μ ++ l).set p.1 (.fdct od vs (hvA p.2)))[C]? = some (.dct (hvA J)) := get_ne hC pC
        have gs : ((μ ++ l).set p.1 (.fdct od vs (hvA p.2)))[p.1]? = some (.fdct od vs (hvA p.2)) := get_set hcj2
        have bk2 : ((μ ++ l).set p.1 (.fdct od vs (hvA p.2))).set p.1 (.dct (hvA p.2)) = μ ++ l := by
          rw [List.set_set]
          exact Rp.set_self hcj2
        generalize (μ ++ l).set p.1 (.fdct od vs (hvA p.2)) = μ9 at hC2 gs bk2
        refine lc_mapY p.2 (fun q => .one (.d (.str q))) (fun q => .d (.bool (decide (q ∈ J)))) ?_ gs (Nat.le_trans hl10 (by decide)) (fun q hq Q2 hQ2 => ?_) (.inl ⟨p.2.map fun q => PyData.bool (decide (q ∈ J)), by rw [List.map_map]; rfl, ?_⟩)
        · unfold hvA dA
          rw [List.map_map, List.map_map]
          rfl
        · refine ⟨_, rfl, _, rfl, _, rfl, C, _, .inr q, rfl, hC2, rfl, ?_⟩
          rw [hv_in, Bool.false_xor]
          exact hQ2
        · refine ⟨gs, ?_⟩
          show rdInU false (.d (.bool true)) (.d (.list _)) _ Q
          rw [bk2]
          exact in_tru5 hQ
      · exact ret_data l rfl old (qq J jf)
  · rintro xs μ Pk Ex ⟨ps, rs, s, R, n, cs, Hs, rfl, _⟩
    rfl
theorem ok__law_mixed {f : Addr} {fd : FuncData} (F : FunV K "_law_mixed" "_law_mixed" st__law_mixed f fd) (Z : ∀ x, x ∈ blt → mg x = none) (C__law_draw : CalG P w K mg base "_law_draw" 1 R__law_draw)  : FnG P w K mg base (L2.CX P w) 2 f fd ["_law_feed_here", "_law_things"] (SpD K R__law_mixed) := by
  refine cal_ofG F sc__law_mixed ?_ (fun cd A ou s H E W hg hr tk po => ?_)
  rotate_left
  have hN := sc__law_mixed.nd
  have hu := hr.units
  have hu65 := hr.units65
  refine ⟨_, (dss_cons (ds_par (i := 2) (j := 3) rfl hN (da_cons (d_callTy call_list_of s_listU (da_cons (d_var 1) da_nil) (Z "list" (by decide))) (da_cons (d_lstU da_nil) da_nil))) (dss_cons (ds_for po rfl (di_range1 (da_cons (d_callB call_len s_lenU (da_cons (d_var 1) da_nil) (Z "len" (by decide))) da_nil) (Z "range" (by decide))) (dg_name (i := 4) hN) (dss_one (ds_expr (d_bm PySem.F.plainAttrs_list PySem.F.slot_list_append PySem.F.type_list_append mt_append s_append (d_var 3) (da_cons (d_bm PySem.F.plainAttrs_list PySem.F.slot_list_pop PySem.F.type_list_pop mt_popAt s_popAt (d_var 2) (da_cons (d_calG C__law_draw hg (hr.mono (by omega)) (da_cons (d_var 0) (da_cons (d_callB call_len s_lenU (da_cons (d_var 2) da_nil) (Z "len" (by decide))) da_nil))) da_nil)) da_nil))))) (dss_one (ds_ret (d_var 3))))), ?_⟩
  · rintro xs μ Pk Ex old ⟨o, k, y, ds, rfl, rfl, hy, hz, hk, k1, q⟩
    have hs : ∀ μ, SeqOf (.d y) μ (ds.map Dl.A.d) := fun μ => by
      rcases hy with rfl | rfl
      · exact .inl rfl
      · exact .inr ⟨_, rfl, rfl⟩
    refine ⟨_, rfl, _, ds.map Dl.A.d, rfl, ?_, .inr ⟨Nat.zero_le _, .inr ⟨_, _, rfl, ?_⟩⟩⟩
    · rcases hy with rfl | rfl
      · exact .inl rfl
      · exact .inr ⟨_, rfl, rfl⟩
    refine ⟨_, rfl, len_of (hs _) ⟨_, rfl, by rw [List.length_map]; omega, by rw [List.length_map]; omega, ?_⟩⟩
    rw [Int.toNat_natCast, List.length_map]
    refine ⟨fun i ρ2 μ2 => ∃ pool got o' t, ρ2 = [some (.c 0), some (.d y), some (.c 1), some (.c 2), t] ∧ μ2 = [o', .lst (pool.map Dl.A.d), .lst (got.map Dl.A.d)] ∧ (got ++ pool).Perm ds ∧ pool.length + i = ds.length ∧ FD (k + i) o',
      ⟨ds, [], o, none, rfl, rfl, List.Perm.refl _, by omega, hk.mono (by omega)⟩, ?_, ?_⟩
    · rintro i y' ρ2 μ2 hy' ⟨pool, got, o', t, rfl, rfl, hp, hl, hk'⟩
      obtain ⟨lt, rfl⟩ := rngY_get hy'
      refine ⟨trivial, _, rfl, ?_⟩
      refine ⟨_, rfl, .inr (.inl ⟨rfl, .inr ⟨2, _, rfl, rfl⟩⟩), ?_⟩
      refine ⟨_, rfl, .inr (.inl ⟨rfl, .inr ⟨1, _, rfl, rfl⟩⟩), ?_⟩
      refine ⟨_, rfl, _, rfl, _, rfl, ?_⟩
      rw [List.length_map]
      refine fr_draw rfl hk' (by omega) ⟨by omega, by omega⟩ fun r o2 h0 h1 hk2 => ?_
      obtain ⟨j, rfl⟩ := Int.eq_ofNat_of_zero_le h0
      have ltj : j < pool.length := by omega
      refine ⟨1, pool.map Dl.A.d, (j : Int), j, .d pool[j], rfl, rfl, rfl, rfl, by omega, by rw [List.getElem?_map, List.getElem?_eq_getElem ltj]; rfl, ?_⟩
      refine ⟨2, got.map Dl.A.d, .d pool[j], rfl, rfl, rfl, ?_, ?_⟩
      · have := hp.length_eq
        rw [List.length_append] at this
        rw [List.length_map]
        exact Nat.lt_of_lt_of_le (show got.length < 1000 by omega) (by decide)
      refine ⟨pool.eraseIdx j, got ++ [pool[j]], o2, _, rfl, ?_, ?_, ?_, hk2.mono (by omega)⟩
      · rw [List.map_append, ← erase_map]
        rfl
      · rw [List.append_assoc]
        refine List.Perm.trans ?_ hp
        refine List.Perm.append_left got ?_
        exact erase_perm ltj
      · rw [List.length_eraseIdx_of_lt ltj]
        omega
    · rintro ρ2 μ2 ⟨pool, got, o', t, rfl, rfl, hp, hl, hk'⟩
      rw [rngY_len] at hl hk'
      have : pool = [] := List.length_eq_zero_iff.mp (by omega)
      subst this
      rw [List.append_nil] at hp
      refine ⟨trivial, _, rfl, ?_⟩
      exact feedFrz (j := 1) hk' rfl (q got o' hp hk')
  · rintro xs μ Pk Ex ⟨o, k, y, ds, rfl, _⟩
    rfl
theorem ok__law_feed {f : Addr} {fd : FuncData} (F : FunV K "_law_feed" "_law_feed" st__law_feed f fd) (Z : ∀ x, x ∈ blt → mg x = none)   : FnG P w K mg base (L2.CX P w) 1 f fd ["_law_script", "_law_k"] (SpD K R__law_feed) := by
  refine cal_ofG F sc__law_feed ?_ (fun cd A ou s H E W hg hr tk po => ?_)
  rotate_left
  have hN := sc__law_feed.nd
  have hu := hr.units
  have hu65 := hr.units65
  refine ⟨_, (dss_cons (ds_set (i := 2) hN (dAdd (dMul d_int (d_var 1)) (d_callB (cr_sum rfl) s_sum (da_cons (d_slice (d_var 0) do_none (do_some d_int)) da_nil) (Z "sum" (by decide))))) (dss_cons (ds_if (tLt (d_var 1) (d_callB call_len s_lenU (da_cons (d_var 0) da_nil) (Z "len" (by decide)))) (dss_one (ds_set (i := 2) hN (dIx (d_var 0) (d_var 1)))) dss_nil) (dss_one (ds_ret (d_lstU (da_cons (d_callB (call_max2 rfl) s_max2 (da_cons d_int (da_cons (d_sub (d_var 2) (d_pow d_int d_int)) da_nil)) (Z "max" (by decide))) (da_cons (d_mod (d_callTy call_int1 s_int1 (da_cons (dAdd (dMul (d_var 2) d_int) (dMul d_int (d_var 1))) da_nil) (Z "int" (by decide))) (dAdd (d_pow d_int d_int) d_int)) (da_cons d_int da_nil)))))))), ?_⟩
  · rintro xs μ Pk Ex old ⟨ns, k, rfl, rfl, hk0, hk1, hbits, q⟩
    refine ⟨_, rfl, smallL (by decide) (by decide), ?_⟩
    refine ⟨_, rfl, _, rfl, .inr (.inr (.inl ⟨_, rfl, ?_⟩))⟩
    refine ⟨_, cut ns none (some 1), rfl, .inl (by rw [cut_map]), ?_⟩
    have zb : (cut ns none (some 1)).sum.natAbs.log2 ≤ 1048576 := by
      have e : cut ns none (some 1) = ns.take 1 := cut_nat ns 1
      rw [e]
      cases ns with
      | nil => exact Nat.zero_le _
      | cons z t =>
        show (z + 0).natAbs.log2 ≤ _
        rw [Int.add_zero]
        exact hbits z (List.mem_cons_self ..)
    generalize (cut ns none (some 1)).sum = z0 at zb ⊢
    refine ⟨_, rfl, _, rfl, ?_⟩
    refine ⟨_, _, rfl, rfl, _, rfl, iteD (fun h => ?_) (fun h => ?_)⟩
    all_goals try (
      obtain ⟨j, rfl⟩ := Int.eq_ofNat_of_zero_le hk0
      have lt : j < ns.length := by
        rw [List.length_map] at h
        omega
      refine ⟨_, rfl, _, rfl, _, rfl, .inl ⟨_, .int ns[j], .inl rfl, Dl.atI_nat (by rw [List.getElem?_map, List.getElem?_eq_getElem lt]; rfl), ?_⟩⟩)
    all_goals
      refine ⟨_, rfl, _, _, rfl, rfl, ⟨by decide, by decide, by decide⟩, ?_⟩
      refine ⟨_, _, rfl, rfl, _, _, rfl, ?_⟩
      refine ⟨_, rfl, smallR (by decide) (by decide), ?_⟩
      refine ⟨_, rfl, smallL (by decide) (by decide), ?_⟩
      refine ⟨_, rfl, ?_⟩
      refine ⟨_, _, rfl, rfl, ⟨by decide, by decide, by decide⟩, ?_⟩
      refine ⟨_, _, rfl, rfl, (by show (0 : Int) < 10 ^ 39 + 23; decide), ?_⟩
      refine ⟨by show 3 ≤ sizeLine; decide, .inr ?_⟩
      refine keep0 (j := 0) rfl (oldO_data (m := 0) (by simp)) (q _ ⟨_, _, _, rfl, ?_, (Int.emod_nonneg _ (by show (10 : Int) ^ 39 + 23 ≠ 0; decide)), (Int.lt_trans (Int.emod_lt_of_pos _ (by show (0 : Int) < 10 ^ 39 + 23; decide)) (by decide)), Int.le_refl _, Int.le_refl _, ?_⟩)
      · split <;> omega
      · have p18 : (977 * 10 ^ 6 : Int) ≤ 10 ^ Int.toNat 18 := by decide
        split <;> first | (refine Nat.le_trans (log2_le_of (b := 0) ?_) (by decide); omega) | (refine Nat.le_trans (log2_le_of ?_) (hbits _ (List.getElem_mem lt)); omega) | (refine Nat.le_trans (log2_le_of ?_) zb; omega)
  · rintro xs μ Pk Ex ⟨ns, k, rfl, _⟩
    rfl
end
end K45
set_option Elab.async false
set_option linter.all false
set_option maxRecDepth 100000
set_option maxHeartbeats 4000000
namespace K45
open PySem PySem.Spec PyProof.Rows L2 Dl Rp
local macro_rules | `(tactic| and_intros) => `(tactic| repeat (first | refine ⟨_, rfl, ?_⟩ | refine iteT ?_ | refine iteF ?_ | refine ⟨_, _, rfl, rfl, ?_⟩ | refine add_int ?_ | refine len_tup ?_ | refine len_lst ?_ | refine tgt2 ?_ | refine tgt3 ?_ | refine ⟨[_], rfl, len1, ?_⟩ | refine ⟨[_, _], rfl, len2, ?_⟩ | refine ⟨[_, _, _], rfl, len3, ?_⟩))
section
variable {P : Program} {w : World} {K : PySem.W.Frag} {mg : Str → Option Value} {base : Heap}
theorem ok__law_rotas {f : Addr} {fd : FuncData} (F : FunV K "_law_rotas" "_law_rotas" st__law_rotas f fd)   : FnG P w K mg base (L2.CX P w) 1 f fd ["_law_web"] (SpD K R__law_rotas) := by
  refine cal_ofG F sc__law_rotas ?_ (fun cd A ou s H E W hg hr tk po => ?_)
  rotate_left
  have hN := sc__law_rotas.nd
  have hu := hr.units
  have hu65 := hr.units65
  refine ⟨_, (dss_cons (ds_set (i := 1) hN (d_lstU (da_cons (d_tup da_nil) da_nil))) (dss_cons (ds_for po rfl (di_any (dIx (d_var 0) d_int)) (dg_name (i := 2) hN) (dss_cons (ds_set (i := 3) hN (d_lstU da_nil)) (dss_cons (ds_for po rfl (di_any (d_var 1)) (dg_name (i := 4) hN) (dss_one (ds_expr (d_bm PySem.F.plainAttrs_list PySem.F.slot_list_extend PySem.F.type_list_extend mt_extendB s_extB (d_var 3) (da_cons (d_lc (own := [("_law_road", 5)]) rfl hN (di_any (dIx (d_var 0) d_int)) (blkOk_by (N := ns__law_rotas) (sc := defScope st__law_rotas) (by decide +kernel)) (fun _ _ _ _ _ => (dg_name (i := 5) hN)) (fun _ _ _ _ _ => (dts_one (tNotIn (dIx (d_var 5) d_int) (d_var 4)))) (fun _ _ _ _ _ => (dAdd (d_var 4) (d_tup (da_cons (dIx (d_var 5) d_int) da_nil))))) da_nil))))) (dss_one (ds_set (i := 1) hN (d_var 3)))))) (dss_one (ds_ret (d_var 1))))), ?_⟩
  · rintro xs μ Pk Ex old ⟨ps, rs, rfl, rfl, ok, r6, q⟩
    have r14 := ok.r.most
    have rl : (rnm rs).length = rs.length := List.length_map ..
    refine ⟨[], rfl, Nat.zero_le _, by show 1 ≤ sizeLine; decide, .inr ?_⟩
    refine ⟨_, rfl, ix_tup (j := 1) rfl ?_⟩
    have few : ∀ k, k ≤ rs.length → (allR (rnm rs) k).length ≤ 46656 := fun k hk => by
      refine Nat.le_trans (allR_len k) ?_
      rw [rl]
      have b : ∀ n, n ≤ 6 → ∀ k, k ≤ n → n ^ k ≤ 46656 := by decide
      exact b _ r6 k hk
    refine ⟨fun i ρ μ => ∃ (C : Nat) (a3 a4 a5 a6 : Option Dl.A), ρ = [some (.d (webD ps rs)), some (.c C), a3, a4, a5, a6] ∧ μ[C]? = some (.lst (((allR (rnm rs) i).map roundD).map Dl.A.d)), ⟨_, _, _, _, _, rfl, rfl⟩, ?_, ?_⟩
    · rintro i y ρ2 μ2 hy ⟨C, a3, a4, a5, a6, rfl, hC⟩
      have il : i < rs.length := by
        have := (List.getElem?_eq_some_iff.mp hy).1
        unfold oneD at this
        rw [List.length_map, List.length_map] at this
        exact this
      obtain ⟨x, hx, rfl⟩ := oneD_get hy
      refine ⟨trivial, _, rfl, ?_⟩
      refine ⟨Nat.zero_le _, .inr ?_⟩
      have hC2 : (μ2 ++ [O.lst []])[C]? = some (.lst (((allR (rnm rs) i).map roundD).map Dl.A.d)) := by
        rw [List.getElem?_append_left (List.getElem?_eq_some_iff.mp hC).1]
        exact hC
      have hN2 : (μ2 ++ [O.lst []])[μ2.length]? = some (.lst []) := get_end
      have ne : C ≠ μ2.length := fun e => by
        have := (List.getElem?_eq_some_iff.mp hC).1
        omega
      generalize μ2 ++ [O.lst []] = μ3 at hC2 hN2
      generalize hL : μ2.length = N at hN2 ne
      refine ⟨_, rfl, _, hC2, ?_⟩
      refine ⟨fun j ρ μ => ∃ (a5 a6 : Option Dl.A), ρ = [some (.d (webD ps rs)), some (.c C), some (.d x), some (.c N), a5, a6] ∧ μ[C]? = some (.lst (((allR (rnm rs) i).map roundD).map Dl.A.d)) ∧ μ[N]? = some (.lst (((((allR (rnm rs) i).take j).flatMap (longer (rnm rs))).map roundD).map Dl.A.d)), ⟨_, _, rfl, hC2, hN2⟩, ?_, ?_⟩
      · rintro j y ρ3 μ4 hy2 ⟨a5, a6, rfl, h4C, h4N⟩
        rw [List.getElem?_map, List.getElem?_map, List.getElem?_map] at hy2
        obtain ⟨y', hy', rfl⟩ := Option.map_eq_some_iff.mp hy2
        obtain ⟨y'', hy'', rfl⟩ := Option.map_eq_some_iff.mp hy'
        obtain ⟨m, hm, rfl⟩ := Option.map_eq_some_iff.mp hy''
        refine ⟨h4C, _, rfl, ?_⟩
        have mm := (allR_mem i m).mp (List.mem_of_getElem? hm)
        have ml : m.length ≤ 14 := by omega
        have mD : (m.map PyData.str).length = m.length := List.length_map ..
        have T : ∀ n, roundD (m ++ [n]) = .tuple (m.map PyData.str ++ [.str n]) := fun n => by
          unfold roundD
          rw [List.map_append]
          rfl
        refine ⟨_, rfl, .inr (.inl ⟨rfl, .inr ⟨N, _, rfl, h4N⟩⟩), _, rfl, ix_tup (j := 1) rfl ?_⟩
        refine lc_filter rs rdD (fun t => roundD (m ++ [t.1])) (fun t => decide (t.1 ∉ m)) (oneD_ones _ _) trivial (Nat.le_trans r14 (by decide)) (fun t ht Q N' h1 h2 => ?_) ?_
        · obtain ⟨n, hn⟩ : ∃ n, t.1 = n := ⟨_, rfl⟩
          rw [hn] at h1 h2
          refine ⟨_, rfl, _, rfl, ix_tup (j := 0) (z := .str n) (by rw [← hn]; rfl) ⟨_, rfl, in_tupS (ps := m) ?_⟩⟩
          by_cases nm : n ∈ m
          · exact ⟨_, rfl, tP nm (h2 (decide_eq_false (fun z => z nm)))⟩
          · refine ⟨_, rfl, tQ nm ⟨_, rfl, _, rfl, ix_tup (j := 0) (z := .str n) (by rw [← hn]; rfl) ⟨[_], rfl, len1, ?_⟩⟩⟩
            refine (show rdAdd (.d (.tuple (m.map .str))) (.d (.tuple [.str n])) μ4 Q from ⟨?_, ?_⟩)
            · rw [mD, sizeLine_eq]
              show m.length + 1 ≤ _
              omega
            · rw [← T]
              exact h1 (decide_eq_true nm)
        have f1 := few i (by omega)
        have fj : (((allR (rnm rs) i).take j).flatMap (longer (rnm rs))).length ≤ 700000 := by
          rw [List.length_flatMap]
          refine Nat.le_trans (sum_le (c := 14) _ fun z hz => ?_) ?_
          · obtain ⟨u, _, rfl⟩ := List.mem_map.mp hz
            unfold longer
            rw [List.length_map]
            exact Nat.le_trans (List.length_filter_le ..) (by omega)
          · rw [List.length_map, List.length_take]
            omega
        have lo : (longer (rnm rs) m).length ≤ 14 := by
          unfold longer
          rw [List.length_map]
          exact Nat.le_trans (List.length_filter_le ..) (by omega)
        have el : ((rs.filter fun t => decide (t.1 ∉ m)).map fun t => roundD (m ++ [t.1])) = (longer (rnm rs) m).map roundD := by
          unfold longer rnm
          rw [List.filter_map, List.map_map, List.map_map]
          rfl
        rw [el]
        refine ⟨N, _, _, ((longer (rnm rs) m).map roundD).map Dl.A.d, rfl, rfl, h4N, .inl rfl, ?_, ?_⟩
        · rw [List.length_map, List.length_map, List.length_map, List.length_map, sizeLine_eq]
          omega
        refine ⟨_, _, rfl, ?_, ?_⟩
        · rw [List.getElem?_set_ne (Ne.symm ne)]
          exact h4C
        · rw [List.getElem?_set_self (List.getElem?_eq_some_iff.mp h4N).1, take_get hm, List.flatMap_append, List.flatMap_singleton, List.map_append, List.map_append]
      · rintro ρ3 μ4 ⟨a5, a6, rfl, h4C, h4N⟩
        refine ⟨h4C, ?_⟩
        rw [List.length_map, List.length_map, List.length_map, List.take_length] at h4N
        exact ⟨_, rfl, N, _, _, _, _, rfl, h4N⟩
    · rintro ρ2 μ2 ⟨C, a3, a4, a5, a6, rfl, hC⟩
      have e : (oneD (rs.map rdD)).length = rs.length := by unfold oneD; rw [List.length_map, List.length_map]
      rw [e] at hC
      exact ⟨trivial, _, rfl, frz0 hC q⟩
  · rintro xs μ Pk Ex ⟨ps, rs, rfl, _⟩
    rfl
theorem ok__law_bad_web {f : Addr} {fd : FuncData} (F : FunV K "_law_bad_web" "_law_bad_web" st__law_bad_web f fd) (Z : ∀ x, x ∈ blt → mg x = none) (C__law_draw : CalG P w K mg base "_law_draw" 1 R__law_draw) (C__law_no_web : CalG P w K mg base "_law_no_web" 3 R__law_no_web) (C__law_one : CalG P w K mg base "_law_one" 2 R__law_one)  : FnG P w K mg base (L2.CX P w) 4 f fd ["_law_feed_here", "_law_web"] (SpD K R__law_bad_web44) := by
  refine cal_ofG F sc__law_bad_web ?_ (fun cd A ou s H E W hg hr tk po => ?_)
  rotate_left
  have hN := sc__law_bad_web.nd
  have hu := hr.units
  have hu65 := hr.units65
  refine ⟨_, (dss_cons (ds_set (i := 2) hN (d_slice (dIx (d_var 1) d_int) do_none (do_some d_int))) (dss_cons (ds_set (i := 3) hN (d_callTy call_tupleN s_tuple (da_cons (d_lc (own := [("_law_road", 6)]) rfl hN (di_any (dIx (d_var 1) d_int)) (blkOk_by (N := ns__law_bad_web) (sc := defScope st__law_bad_web) (by decide +kernel)) (fun _ _ _ _ _ => (dg_name (i := 6) hN)) (fun _ _ _ _ _ => (dts_one (dt_w (dw_and (tIn (dIx (d_var 6) d_int) (d_var 2)) (dw_and1 (tIn (dIx (d_var 6) d_int) (d_var 2))))))) (fun _ _ _ _ _ => (d_var 6))) da_nil) (Z "tuple" (by decide)))) (dss_cons (ds_setLc (i := 4) (own := [("_law_k", 5), ("_law_road", 6)]) rfl hN (di_enT (da_cons (d_slice (d_var 3) do_none (do_some (d_calG C__law_draw hg (hr.mono (by omega)) (da_cons (d_var 0) (da_cons (dAdd d_int (d_callB (call_min2 rfl) s_min2 (da_cons d_int (da_cons (d_sub d_int (d_callB call_len s_lenU (da_cons (d_var 3) da_nil) (Z "len" (by decide)))) da_nil)) (Z "min" (by decide)))) da_nil))))) da_nil) (Z "enumerate" (by decide))) (blkOk_by (N := ns__law_bad_web) (sc := defScope st__law_bad_web) (by decide +kernel)) (fun _ _ _ _ _ => (dg_tup (n := 2) rfl (dgs_cons (dg_name (i := 5) hN) (dgs_cons (dg_name (i := 6) hN) dgs_nil)))) (fun _ _ _ _ _ => dts_nil) (fun _ _ _ _ _ => (dAdd (d_tup (da_cons (dAdd d_str (d_callTy call_str_int s_strI (da_cons (d_var 5) da_nil) (Z "str" (by decide)))) da_nil)) (d_slice (d_var 6) (do_some d_int) do_none))) (sw_true rfl rfl rfl rfl)) (dss_one (ds_ret (d_calG C__law_one hg (hr.mono (by omega)) (da_cons (d_var 0) (da_cons (d_lstU (da_cons (d_tup (da_cons (d_tup (da_cons (dAdd (d_var 2) (d_tup (da_cons d_str da_nil))) (da_cons (dAdd (d_var 3) (d_callTy call_tupleN s_tuple (da_cons (d_var 4) da_nil) (Z "tuple" (by decide)))) da_nil))) (da_cons d_bl da_nil))) (da_cons (d_tup (da_cons (d_calG C__law_no_web hg (hr.mono (by omega)) (da_cons (d_var 0) (da_cons (d_var 1) da_nil))) (da_cons d_bl da_nil))) da_nil))) da_nil)))))))), ?_⟩
  · rintro xs μ Pk Ex old ⟨o, k, ps, rs, rfl, rfl, ok, ni, hk, k1, q⟩
    have p10 := ok.p.most
    have p1 := ok.p.one
    have r14 := ok.r.most
    have k0 := hk.pos
    refine ⟨_, rfl, ix_tup (j := 0) rfl ?_⟩
    refine ⟨_, rfl, .inr (.inl ⟨_, rfl, ?_⟩)⟩
    have e9 : cut (ps.map PyData.str) none (some 9) = (ps.take 9).map PyData.str := by
      have := cutE_map PyData.str ps 9
      exact this
    rw [e9]
    refine ⟨_, rfl, ix_tup (j := 1) rfl ?_⟩
    refine lc_filter rs rdD rdD (fun t => decide (t.2.1 ∈ ps.take 9) && decide (t.2.2 ∈ ps.take 9)) (oneD_ones _ _) trivial (Nat.le_trans r14 (by decide)) (fun t ht Q N h1 h2 => ?_) ?_
    · refine ⟨_, rfl, _, rfl, ix_tup (j := 1) rfl ⟨_, rfl, in_strs ⟨_, rfl, ?_⟩⟩⟩
      by_cases a : t.2.1 ∈ ps.take 9
      · refine fP a ?_
        refine ⟨_, rfl, ix_tup (j := 2) rfl ⟨_, rfl, in_strs ⟨_, rfl, ?_⟩⟩⟩
        by_cases b : t.2.2 ∈ ps.take 9
        · exact fP b ⟨_, rfl, h1 (by rw [decide_eq_true a, decide_eq_true b]; rfl)⟩
        · exact fQ b (h2 (by rw [decide_eq_false b, Bool.and_false]))
      · exact fQ a (h2 (by rw [decide_eq_false a, Bool.false_and]))
    generalize hR : (rs.filter fun t => decide (t.2.1 ∈ ps.take 9) && decide (t.2.2 ∈ ps.take 9)) = R
    have rD : (R.map rdD).length = R.length := List.length_map ..
    have Rl : R.length ≤ 14 := by rw [← hR]; exact Nat.le_trans (List.length_filter_le ..) r14
    refine ⟨_, _, rfl, .inl rfl, ?_⟩
    refine ⟨_, rfl, _, rfl, _, rfl, len_tup ?_⟩
    rw [rD]
    refine ⟨_, _, rfl, rfl, _, _, rfl, add_int ?_⟩
    refine fr_draw (n := 0) rfl hk (by omega) ⟨by split <;> omega, by split <;> omega⟩ fun a o2 a0 a1 hk2 => ?_
    obtain ⟨a, rfl⟩ := Int.eq_ofNat_of_zero_le a0
    have a14 : R.length + a ≤ 14 := by split at a1 <;> omega
    have a3 : a ≤ 3 := by split at a1 <;> omega
    refine ⟨_, rfl, .inr (.inl ⟨_, rfl, ?_⟩)⟩
    rw [cutE_map]
    refine ⟨_, rfl, ?_⟩
    have al : (R.take a).length ≤ 3 := by rw [List.length_take]; omega
    refine lc_mapY ((R.take a).mapIdx fun i t => (i, t)) (fun z => .two (.d (.int (z.1 : Nat))) (.d (rdD z.2))) (fun z => .d (rdD (nw3 z.1, z.2.2.1, z.2.2.2))) ?_ trivial (by rw [List.length_mapIdx]; exact Nat.le_trans al (by decide)) (fun z hz Q hQ => ?_) (.inl ⟨(twR (R.take a)).map rdD, ?_, ?_⟩)
    · unfold enumY
      rw [map_mix, List.map_map, mix_map]
      rfl
    · refine tgtY2 ?_
      obtain ⟨i, hi, rfl⟩ := List.mem_mapIdx.mp hz
      have i3 : i < 3 := by omega
      have il : (PySem.Str.ofString (toString (i : Int))).length ≤ 10 := PySem.W.KT.len_num (by omega) (by omega)
      refine ⟨_, rfl, _, rfl, Nat.lt_trans (int_small (by omega) (by omega)) (by decide), Nat.le_trans (show 3 + (PySem.Str.ofString (toString (i : Int))).length ≤ 13 by omega) (by decide), ?_⟩
      refine ⟨[_], rfl, len1, _, rfl, _, rfl, .inr (.inl ⟨_, rfl, ?_⟩)⟩
      exact ⟨by show 1 + 2 ≤ sizeLine; decide, hQ⟩
    · unfold twR
      rw [map_mix, map_mix, map_mix]
    · have lw := lone_web ok ni a3 (by unfold keptR; rw [hR]; exact a14)
      unfold keptR at lw
      rw [hR] at lw
      have pD9 : ((ps.take 9).map PyData.str).length ≤ 9 := by rw [List.length_map, List.length_take]; omega
      refine ⟨_, rfl, _, rfl, [_], rfl, len1, Nat.le_trans (show _ + 1 ≤ 10 by omega) (by decide), ?_⟩
      refine ⟨_, rfl, _, rfl, _, _, rfl, .inl rfl, ?_⟩
      refine ⟨Nat.le_trans (show _ ≤ 28 by rw [List.length_map, List.length_map]; unfold twR; rw [List.length_mapIdx]; omega) (by decide), [_, _], rfl, len2, ?_⟩
      refine ⟨[_, _], rfl, len2, ?_⟩
      refine ⟨_, rfl, _, rfl, fr_noweb (n := 0) rfl hk2 (by omega) ok ni fun x o3 px wx hk3 => ?_⟩
      refine ⟨[_, _], rfl, len2, ?_⟩
      refine ⟨len2, .inl ⟨[_, _], rfl, ?_⟩⟩
      refine fr_one (n := 0) _ rfl (.inl rfl) hk3 (by omega) ⟨by show 0 < 2; decide, by show 2 < 10 ^ 6; decide⟩ fun y o4 hy hk4 => ?_
      simp only [List.mem_cons, List.not_mem_nil, or_false] at hy
      rcases hy with rfl | rfl
      · refine feedRet hk4 (q _ true o4 (.inl ⟨rfl, lonePs ps, R ++ twR (R.take a), ?_, lw.1, lw.2⟩) (hk4.mono (by omega)))
        unfold webD lonePs
        rw [List.map_append, List.map_append]
        rfl
      · exact feedRet hk4 (q _ false o4 (.inr ⟨rfl, px, wx⟩) (hk4.mono (by omega)))
  · rintro xs μ Pk Ex ⟨o, k, ps, rs, rfl, _⟩
    rfl
theorem ok_is_name {f : Addr} {fd : FuncData} (F : FunV K "is_name" "is_name" st_is_name f fd) (Z : ∀ x, x ∈ blt → mg x = none)  (c_MOST_SIGNS : ∃ t, mg "MOST_SIGNS" = some (.int 8 t)) : FnG P w K mg base (L2.CX P w) 1 f fd ["thing"] (SpD K R_is_nameX) := by
  refine cal_ofG F sc_is_name ?_ (fun cd A ou s H E W hg hr tk po => ?_)
  rotate_left
  have hN := sc_is_name.nd
  have hu := hr.units
  have hu65 := hr.units65
  refine ⟨_, (dss_cons (ds_if (dt_w (dw_or (dt_not (dt_truth (d_callB call_isi s_isiC (da_cons (d_var 0) (da_cons (d_ty (T := "str") (Z "str" (by decide))) da_nil)) (Z "isinstance" (by decide))))) (dw_or1 (dt_not (dt_chain op_le op_le s_le s_le d_int (d_callB call_len s_lenU (da_cons (d_var 0) da_nil) (Z "len" (by decide))) (d_constI c_MOST_SIGNS)))))) (dss_one (ds_ret d_bl)) dss_nil) (dss_one (ds_ret (d_and (d_bm0 PySem.F.plainAttrs_str PySem.F.slot_str_isascii PySem.F.type_str_isascii mt_isascii (s_strB Txt.isascii) (d_var 0)) (d_and (d_bm0 PySem.F.plainAttrs_str PySem.F.slot_str_isalnum PySem.F.type_str_isalnum mt_isalnum (s_strB Txt.isalnum) (d_var 0)) (d_and (d_bm0 PySem.F.plainAttrs_str PySem.F.slot_str_islower PySem.F.type_str_islower mt_islower (s_strB Txt.islower) (d_var 0)) (d_one (d_bm0 PySem.F.plainAttrs_str PySem.F.slot_str_isalpha PySem.F.type_str_isalpha mt_isalpha (s_strB Txt.isalpha) (dIx (d_var 0) d_int))))))))), ?_⟩
  · rintro xs μ Pk Ex old ⟨x, rfl, rfl, hp, q⟩
    refine ⟨_, rfl, isi_str hp ⟨_, rfl, ?_⟩⟩
    cases x with
    | str s =>
      have ls := plain_str.mp hp
      have lz : s.length ≤ sizeLine := Nat.le_trans ls (by decide)
      have un : nameD (.str s) = (decide (1 ≤ s.length) && decide (s.length ≤ 8) && (Txt.isascii s && (Txt.isalnum s && (Txt.islower s && match s.cps.toList[0]? with
        | some c => Txt.isalpha ⟨#[c]⟩
        | none => false)))) := rfl
      refine iteF ⟨_, rfl, lz, _, _, rfl, rfl, _, rfl, iteD (fun l1 => ⟨_, _, rfl, rfl, _, rfl, ?_⟩) (fun l1 => ?_)⟩
      · by_cases l2 : (s.length : Int) ≤ 8
        · refine nP l2 ?_
          rw [decide_eq_true (show 1 ≤ s.length by omega), decide_eq_true (show s.length ≤ 8 by omega)] at un
          refine ⟨_, rfl, .inl ⟨rfl, _, rfl⟩, _, rfl, rfl, _, rfl, ?_⟩
          by_cases a1 : Txt.isascii s = true
          · rw [if_pos a1]
            rw [a1] at un
            refine ⟨_, rfl, .inl ⟨rfl, _, rfl⟩, _, rfl, rfl, _, rfl, ?_⟩
            by_cases a2 : Txt.isalnum s = true
            · rw [if_pos a2]
              rw [a2] at un
              refine ⟨_, rfl, .inl ⟨rfl, _, rfl⟩, _, rfl, rfl, _, rfl, ?_⟩
              by_cases a3 : Txt.islower s = true
              · rw [if_pos a3]
                rw [a3] at un
                have cl : 0 < s.cps.toList.length := by
                  rw [Array.length_toList]
                  show 0 < s.length
                  omega
                obtain ⟨c, hc⟩ : ∃ c, s.cps.toList[0]? = some c := ⟨_, List.getElem?_eq_getElem cl⟩
                rw [hc] at un
                refine ⟨_, rfl, 0, rfl, .inr (.inr ⟨s, c, rfl, lz, Dl.atI_nat hc, .inl ⟨rfl, _, rfl⟩, _, rfl, rfl, ?_⟩)⟩
                rw [un] at q
                exact data0 q
              · rw [if_neg a3]
                rw [Bool.eq_false_iff.mpr a3] at un
                rw [un] at q
                exact data0 q
            · rw [if_neg a2]
              rw [Bool.eq_false_iff.mpr a2] at un
              rw [un] at q
              exact data0 q
          · rw [if_neg a1]
            rw [Bool.eq_false_iff.mpr a1] at un
            rw [un] at q
            exact data0 q
        · rw [decide_eq_false l2]
          refine iteT ?_
          rw [decide_eq_false (show ¬ s.length ≤ 8 by omega), Bool.and_false, Bool.false_and] at un
          rw [un] at q
          exact data0 q
      · refine ⟨_, rfl, iteT ?_⟩
        rw [decide_eq_false (show ¬ 1 ≤ s.length by omega), Bool.false_and, Bool.false_and] at un
        rw [un] at q
        exact data0 q
    | _ => exact iteT (iteT (data0 q))
  · rintro xs μ Pk Ex ⟨x, rfl, _⟩
    rfl
theorem ok__law_flags {f : Addr} {fd : FuncData} (F : FunV K "_law_flags" "_law_flags" st__law_flags f fd) (Z : ∀ x, x ∈ blt → mg x = none) (Er : ErrOk K mg es) (C_best_home : CalG P w K mg base "best_home" 7 (R_best_homeX mg))  : FnG P w K mg base (L2.CX P w) 8 f fd ["_law_web", "_law_place"] (SpD K R__law_flags45) := by
  refine cal_ofG F sc__law_flags ?_ (fun cd A ou s H E W hg hr tk po => ?_)
  rotate_left
  have hN := sc__law_flags.nd
  have hu := hr.units
  have hu65 := hr.units65
  refine ⟨_, (dss_cons (ds_set (i := 2) hN d_non) (dss_cons (ds_try rfl rfl rfl hN tk Er (fun W pn xe tk po => (dss_one (ds_exprY (dx_cal C_best_home tk hg (hr.mono (by omega)) (da_cons (d_var 0) (da_cons (d_var 1) da_nil)))))) (HdD.named (i := 3) (by decide) (fun a xn pn hx => (dss_one (ds_set (i := 2) hN (d_var 3)))) .nil)) (dss_one (ds_ret (d_lstU (da_cons (d_isE Er (by decide) (Z "isinstance" (by decide)) (d_var 2)) (da_cons (d_isE Er (by decide) (Z "isinstance" (by decide)) (d_var 2)) (da_cons (d_isE Er (by decide) (Z "isinstance" (by decide)) (d_var 2)) da_nil)))))))), ?_⟩
  · rintro xs μ Pk Ex old ⟨a, b, rfl, rfl, h⟩
    refine ⟨_, rfl, ?_⟩
    rcases h with ⟨pa, wa, q⟩ | ⟨ps, rs, rfl, ok, np, q⟩ | ⟨ps, rs, rfl, ok, op, pb, q⟩
    · refine ⟨_, rfl, fr_d [_, _] ⟨a, b, rfl, rfl, .inr (.inl ⟨pa, wa, noO, ?_⟩)⟩⟩
      refine ⟨"BadWeb", by decide, rfl, rfl, hd_yes (by decide) fun a => ?_⟩
      refine ⟨_, rfl, ?_⟩
      refine ⟨_, rfl, .inl ⟨_, "BadWeb", rfl, by decide, ?_⟩⟩
      rw [show same "BadWeb" "BadWeb" = true by decide]
      refine ⟨_, rfl, .inl ⟨_, "BadWeb", rfl, by decide, ?_⟩⟩
      rw [show same "BadWeb" "BadPieces" = false by decide]
      refine ⟨_, rfl, .inl ⟨_, "BadWeb", rfl, by decide, ?_⟩⟩
      rw [show same "BadWeb" "BadPlace" = false by decide]
      exact ⟨len3, .inl ⟨[_, _, _], rfl, data0 q⟩⟩
    · refine ⟨_, rfl, fr_d [_, _] ⟨_, b, rfl, rfl, .inr (.inr (.inl ⟨ps, rs, rfl, ok, np, noO, ?_⟩))⟩⟩
      refine ⟨"BadPieces", by decide, rfl, rfl, hd_yes (by decide) fun a => ?_⟩
      refine ⟨_, rfl, ?_⟩
      refine ⟨_, rfl, .inl ⟨_, "BadPieces", rfl, by decide, ?_⟩⟩
      rw [show same "BadPieces" "BadWeb" = false by decide]
      refine ⟨_, rfl, .inl ⟨_, "BadPieces", rfl, by decide, ?_⟩⟩
      rw [show same "BadPieces" "BadPieces" = true by decide]
      refine ⟨_, rfl, .inl ⟨_, "BadPieces", rfl, by decide, ?_⟩⟩
      rw [show same "BadPieces" "BadPlace" = false by decide]
      exact ⟨len3, .inl ⟨[_, _, _], rfl, data0 q⟩⟩
    · refine ⟨_, rfl, fr_d [_, _] ⟨_, b, rfl, rfl, .inr (.inr (.inr ⟨ps, rs, rfl, ok, op, pb, noO, ?_⟩))⟩⟩
      refine ⟨"BadPlace", by decide, rfl, rfl, hd_yes (by decide) fun a => ?_⟩
      refine ⟨_, rfl, ?_⟩
      refine ⟨_, rfl, .inl ⟨_, "BadPlace", rfl, by decide, ?_⟩⟩
      rw [show same "BadPlace" "BadWeb" = false by decide]
      refine ⟨_, rfl, .inl ⟨_, "BadPlace", rfl, by decide, ?_⟩⟩
      rw [show same "BadPlace" "BadPieces" = false by decide]
      refine ⟨_, rfl, .inl ⟨_, "BadPlace", rfl, by decide, ?_⟩⟩
      rw [show same "BadPlace" "BadPlace" = true by decide]
      exact ⟨len3, .inl ⟨[_, _, _], rfl, data0 q⟩⟩
  · rintro xs μ Pk Ex ⟨a, b, rfl, _⟩
    rfl
end
end K45
set_option Elab.async false
set_option linter.all false
set_option maxRecDepth 100000
set_option maxHeartbeats 4000000
namespace K45
open PySem PySem.Spec PyProof.Rows L2 Dl Rp
local macro_rules | `(tactic| and_intros) => `(tactic| repeat (first | refine ⟨_, rfl, ?_⟩ | refine iteT ?_ | refine iteF ?_ | refine ⟨_, _, rfl, rfl, ?_⟩ | refine add_int ?_ | refine len_tup ?_ | refine len_lst ?_ | refine tgt2 ?_ | refine tgt3 ?_ | refine ⟨[_], rfl, len1, ?_⟩ | refine ⟨[_, _], rfl, len2, ?_⟩ | refine ⟨[_, _, _], rfl, len3, ?_⟩))
section
variable {P : Program} {w : World} {K : PySem.W.Frag} {mg : Str → Option Value} {base : Heap}
theorem ok_goes_out {f : Addr} {fd : FuncData} (F : FunV K "goes_out" "goes_out" st_goes_out f fd) (Z : ∀ x, x ∈ blt → mg x = none) (C_flooded : CalG P w K mg base "flooded" 1 R_flooded)  : FnG P w K mg base (L2.CX P w) 2 f fd ["left", "known", "start", "at"] (SpD K R_goes_out) := by
  refine cal_ofG F sc_goes_out ?_ (fun cd A ou s H E W hg hr tk po => ?_)
  rotate_left
  have hN := sc_goes_out.nd
  have hu := hr.units
  have hu65 := hr.units65
  refine ⟨_, (dss_cons (ds_asg (dIx (d_var 0) (d_var 3)) (dg_tup (n := 3) rfl (dgs_cons (dg_name (i := 4) hN) (dgs_cons (dg_name (i := 5) hN) (dgs_cons (dg_name (i := 6) hN) dgs_nil))))) (dss_cons (ds_if (dt_w (dw_or (dt_truth (d_band (d_shr (dIx (d_var 1) (d_var 5)) (d_var 2)) d_int)) (dw_or1 (dt_truth (d_band (d_shr (dIx (d_var 1) (d_var 6)) (d_var 2)) d_int))))) (dss_one (ds_ret d_bl)) dss_nil) (dss_cons (ds_setLc (i := 7) (own := [("one", 8)]) rfl hN (di_range1 (da_cons (d_callB call_len s_lenU (da_cons (d_var 1) da_nil) (Z "len" (by decide))) da_nil) (Z "range" (by decide))) (blkOk_by (N := ns_goes_out) (sc := defScope st_goes_out) (by decide +kernel)) (fun _ _ _ _ _ => (dg_name (i := 8) hN)) (fun _ _ _ _ _ => (dts_one (dt_truth (d_band (d_shr (dIx (d_var 1) (d_var 8)) (d_var 2)) d_int)))) (fun _ _ _ _ _ => (d_var 8)) (sw_true rfl rfl rfl rfl)) (dss_one (ds_ret (dEq hu (d_calG C_flooded hg (hr.mono (by omega)) (da_cons (dAdd (d_slice (d_var 0) do_none (do_some (d_var 3))) (d_slice (d_var 0) (do_some (dAdd (d_var 3) d_int)) do_none)) (da_cons (d_callB (cr_sum rfl) s_sum (da_cons (d_lc (own := [("one", 8)]) rfl hN (di_any (d_var 7)) (blkOk_by (N := ns_goes_out) (sc := defScope st_goes_out) (by decide +kernel)) (fun _ _ _ _ _ => (dg_name (i := 8) hN)) (fun _ _ _ _ _ => dts_nil) (fun _ _ _ _ _ => (d_shl d_int (d_var 8)))) da_nil) (Z "sum" (by decide))) da_nil))) (d_sub (d_shl d_int (d_callB call_len s_lenU (da_cons (d_var 1) da_nil) (Z "len" (by decide)))) d_int))))))), ?_⟩
  · rintro xs μ Pk Ex old ⟨ps, rs, r, L, s, i, e, rfl, rfl, ok, hs, ⟨r14, hr⟩, hl, bd, hi, qq⟩
    have p10 := ok.p.most
    have li := (List.getElem?_eq_some_iff.mp hi).1
    obtain ⟨ha, hb⟩ := hr e (List.mem_of_getElem? hi)
    have l1 : rk ps (endsOf rs e).1 < L.length := by rw [hl]; exact rk_lt ha
    have l2 : rk ps (endsOf rs e).2 < L.length := by rw [hl]; exact rk_lt hb
    refine ⟨_, rfl, _, rfl, ix_lstI (Int.natCast_nonneg i) (z := nrD ps rs e) (by rw [Int.toNat_natCast, List.getElem?_map, hi]; rfl) (tgt3 ?_)⟩
    refine ⟨_, rfl, _, rfl, ix_of (.inl rfl) (bI_get l1) ⟨_, rfl, shr_q (bit_q ?_)⟩⟩
    obtain ⟨b1, e1⟩ : ∃ b1, (L.getD (rk ps (endsOf rs e).1) 0).testBit (rk ps s) = b1 := ⟨_, rfl⟩
    rw [e1]
    cases b1 with
    | true => exact ⟨_, rfl, iteT (iteT (data0 (qq true ⟨fun _ => .inl e1, fun _ => rfl⟩)))⟩
    | false =>
      refine ⟨_, rfl, iteF ?_⟩
      refine ⟨_, rfl, _, rfl, ix_of (.inl rfl) (bI_get l2) ⟨_, rfl, shr_q (bit_q ?_)⟩⟩
      obtain ⟨b2, e2⟩ : ∃ b2, (L.getD (rk ps (endsOf rs e).2) 0).testBit (rk ps s) = b2 := ⟨_, rfl⟩
      rw [e2]
      cases b2 with
      | true => exact ⟨_, rfl, iteT (data0 (qq true ⟨fun _ => .inr (.inl e2), fun _ => rfl⟩))⟩
      | false =>
        refine ⟨_, rfl, iteF ?_⟩
        have lB : (bI L).length = ps.length := by rw [List.length_map, hl]
        have lB2 : (((bI L).length : Nat) : Int) = (ps.length : Nat) := by rw [lB]
        refine ⟨_, rfl, len_lst ?_⟩
        rw [lB2]
        refine ⟨_, rfl, by omega, by omega, ?_⟩
        rw [Int.toNat_natCast]
        refine lc_filterY (List.range ps.length) (fun j => .one (.d (.int (0 + (j : Int))))) (fun (j : Nat) => .d (.int (j : Int))) (fun j => (L.getD j 0).testBit (rk ps s)) rfl trivial (by rw [List.length_range]; exact Nat.le_trans p10 (by decide)) (fun j hj Q N h1 h2 => ?_) ?_
        · have jl : j < L.length := by rw [hl]; exact List.mem_range.mp hj
          have e0 : (0 : Int) + (j : Int) = (j : Nat) := Int.zero_add _
          rw [e0]
          refine ⟨_, rfl, _, rfl, _, rfl, ix_of (.inl rfl) (bI_get jl) ⟨_, rfl, shr_q (bit_q ?_)⟩⟩
          have h1' : (L.getD j 0).testBit (rk ps s) = true → Q (.d (.int (j : Int))) _ := h1
          have h2' : (L.getD j 0).testBit (rk ps s) = false → N _ := h2
          obtain ⟨bj, ej⟩ : ∃ bj, (L.getD j 0).testBit (rk ps s) = bj := ⟨_, rfl⟩
          rw [ej] at h1' h2' ⊢
          cases bj with
          | true => exact ⟨_, rfl, iteT ⟨_, rfl, h1' rfl⟩⟩
          | false => exact ⟨_, rfl, iteF (h2' rfl)⟩
        refine .inl ⟨((List.range ps.length).filter fun j => (L.getD j 0).testBit (rk ps s)).map fun (j : Nat) => .int (j : Int), by rw [List.map_map]; rfl, ?_⟩
        refine ⟨_, rfl, _, rfl, _, rfl, .inr (.inr (.inl ⟨_, rfl, ?_⟩))⟩
        rw [cutE_map]
        refine ⟨_, rfl, _, rfl, add_int ⟨_, rfl, .inr (.inr (.inl ⟨_, rfl, ?_⟩))⟩⟩
        rw [cutE_mapF]
        refine add_lsE (Nat.le_trans (by rw [List.length_map, List.length_map, List.length_take, List.length_drop]; omega) (show 28 ≤ sizeLine by decide)) ?_
        rw [← List.map_append]
        refine ⟨_, rfl, ?_⟩
        refine lc_filterY (dt := dtYes) ((List.range ps.length).filter fun j => (L.getD j 0).testBit (rk ps s)) (fun j => .one (.d (.int (j : Int)))) (fun (j : Nat) => .d (.int ((1 * 2 ^ j : Nat) : Int))) (fun _ => true) (by rw [oneD_ones]) trivial (Nat.le_trans (List.length_filter_le _ _) (by rw [List.length_range]; exact Nat.le_trans p10 (by decide))) (fun j hj Q N h1 h2 => ?_) ?_
        · have jl : j < ps.length := List.mem_range.mp (List.mem_filter.mp hj).1
          exact ⟨_, rfl, iteT ⟨_, rfl, shl_q (by omega) (h1 rfl)⟩⟩
        have fT : ∀ l : List Nat, (l.filter fun _ => true) = l := fun l => List.filter_eq_self.mpr fun _ _ => rfl
        have sm : ((((List.range ps.length).filter fun j => (L.getD j 0).testBit (rk ps s)).map fun j => ((1 * 2 ^ j : Nat) : Int))).sum = ((maskN (hasB ps L s) ps : Nat) : Int) := by
          rw [sum_castN (fun j => 1 * 2 ^ j), sum_pows (fun j => (L.getD j 0).testBit (rk ps s)) (hasB ps L s) ps fun j x hx => ?_]
          unfold hasB
          rw [rk_ix ok.p.nd hx]
        refine .inl ⟨(((List.range ps.length).filter fun j => (L.getD j 0).testBit (rk ps s)).map fun j => ((1 * 2 ^ j : Nat) : Int)).map .int, by rw [fT, List.map_map, List.map_map]; rfl, ?_⟩
        refine ⟨_, _, rfl, .inl rfl, ?_⟩
        rw [sm]
        refine fr_flood ok ⟨by rw [List.length_append, List.length_take, List.length_drop]; omega, fun x hx => hr x ?_⟩ fun v v1 v2 => ?_
        · rcases List.mem_append.mp hx with hx | hx
          · exact List.mem_of_mem_take hx
          · exact List.mem_of_mem_drop hx
        refine ⟨_, rfl, len_lst ?_⟩
        rw [lB2]
        have tp := Nat.two_pow_pos ps.length
        refine shl_q (by omega) ⟨_, _, rfl, rfl, ?_⟩
        refine data0 (qq _ ?_)
        have e3 : ((1 * 2 ^ ps.length : Nat) : Int) - 1 = ((2 ^ ps.length - 1 : Nat) : Int) := by
          rw [Nat.one_mul]
          omega
        rw [e3, Bool.false_xor, decide_eq_true_iff]
        have al := all_bits_ps ok.p.nd v1
        constructor
        · intro h
          exact .inr (.inr fun q hq => (v2 q hq).mp (al.mp (Int.ofNat.inj h) q hq))
        · rintro (h | h | h)
          · exact absurd (e1.symm.trans h) (by decide)
          · exact absurd (e2.symm.trans h) (by decide)
          · exact congrArg Int.ofNat (al.mpr fun q hq => (v2 q hq).mpr (h q hq))
  · rintro xs μ Pk Ex ⟨ps, rs, r, L, s, i, e, rfl, _⟩
    rfl
theorem ok_beside {f : Addr} {fd : FuncData} (F : FunV K "beside" "beside" st_beside f fd)   : FnG P w K mg base (L2.CX P w) 1 f fd ["web"] (SpD K R_beside) := by
  refine cal_ofG F sc_beside ?_ (fun cd A ou s H E W hg hr tk po => ?_)
  rotate_left
  have hN := sc_beside.nd
  have hu := hr.units
  have hu65 := hr.units65
  refine ⟨_, (dss_cons (ds_setDc (i := 1) (own := [("place", 5)]) rfl hN (di_any (dIx (d_var 0) d_int)) (blkOk_by (N := ns_beside) (sc := defScope st_beside) (by decide +kernel)) (fun _ _ _ _ _ => (dg_name (i := 5) hN)) (fun _ _ _ _ _ => dts_nil) (fun _ _ _ _ _ => (d_var 5)) (fun _ _ _ _ _ => (d_lstU da_nil)) (swd_true rfl rfl rfl rfl)) (dss_cons (ds_for po rfl (di_any (dIx (d_var 0) d_int)) (dg_tup (n := 3) rfl (dgs_cons (dg_name (i := 2) hN) (dgs_cons (dg_name (i := 3) hN) (dgs_cons (dg_name (i := 4) hN) dgs_nil)))) (dss_cons (ds_expr (d_bm PySem.F.plainAttrs_list PySem.F.slot_list_append PySem.F.type_list_append mt_append s_append (d_dget hu (d_var 1) (d_var 3)) (da_cons (d_tup (da_cons (d_var 2) (da_cons (d_var 4) da_nil))) da_nil))) (dss_one (ds_expr (d_bm PySem.F.plainAttrs_list PySem.F.slot_list_append PySem.F.type_list_append mt_append s_append (d_dget hu (d_var 1) (d_var 4)) (da_cons (d_tup (da_cons (d_var 2) (da_cons (d_var 3) da_nil))) da_nil)))))) (dss_one (ds_ret (d_var 1))))), ?_⟩
  · rintro xs μ Pk Ex old ⟨ps, rs, rfl, rfl, ok, q⟩
    have r14 := ok.r.most
    have p10 := ok.p.most
    have nd := ok.p.nd
    refine ⟨_, rfl, ix_tup (j := 0) rfl ?_⟩
    refine ⟨fun i acc μ2 => acc = (ps.take i).mapIdx (fun i x => ((Sum.inr x : Key), Dl.A.c i)) ∧ μ2 = (ps.take i).map (fun _ => O.lst []) ∧ i ≤ ps.length, ⟨by rw [List.take_zero]; rfl, by rw [List.take_zero]; rfl, Nat.zero_le _⟩, ?_, ?_⟩
    · rintro i y acc μ2 hy ⟨rfl, rfl, hi⟩
      rw [oneD_ones] at hy
      obtain ⟨x, hx, rfl⟩ := ones_get hy
      have lt := (List.getElem?_eq_some_iff.mp hx).1
      refine ⟨trivial, _, rfl, _, rfl, Nat.zero_le _, .inr ⟨.inr x, rfl, ?_, ?_, ?_, lt⟩⟩
      · rw [List.length_mapIdx, List.length_take]
        exact Nat.lt_of_le_of_lt (show min i ps.length ≤ 10 by omega) (by decide)
      · rw [List.take_add_one, hx]
        show _ = (ps.take i ++ [x]).mapIdx _
        rw [List.mapIdx_concat]
        rw [List.length_map]
        unfold putA
        rw [if_neg ?_]
        intro z
        obtain ⟨p, hp, e⟩ := List.any_eq_true.mp z
        obtain ⟨j, hj, rfl⟩ := List.mem_mapIdx.mp hp
        have e' : (Sum.inr (ps.take i)[j] : Key) = Sum.inr x := of_decide_eq_true e
        have e2 := Sum.inr.inj e'
        rw [List.length_take] at hj
        rw [List.getElem_take] at e2
        have a1 : ps[j]? = some x := by rw [List.getElem?_eq_getElem (by omega)]; exact congrArg some e2
        have := Rp.nd_ix nd a1 hx
        omega
      · rw [List.take_add_one, hx, List.map_append]
        rfl
    rintro acc μ2 ⟨rfl, rfl, hi⟩
    have tk : ps.take (oneD (ps.map PyData.str)).length = ps := List.take_of_length_le (by unfold oneD; rw [List.length_map, List.length_map]; exact Nat.le_refl _)
    rw [tk]
    refine ⟨trivial, ?_⟩
    have e0 : ps.map (fun _ => O.lst []) ++ [O.dct (ps.mapIdx fun i x => ((Sum.inr x : Key), Dl.A.c i))] = besC ps fun _ => [] := rfl
    unfold dcEnd
    rw [e0, List.length_map]
    refine ⟨_, rfl, ix_tup (j := 1) rfl ?_⟩
    refine ⟨fun i ρ μ => ∃ (a b c d : Option Dl.A), ρ = [some (.d (webD ps rs)), some (.c ps.length), a, b, c, d] ∧ μ = besC ps (fun x => (roadsAt (rs.take i) x).map endD), ⟨_, _, _, _, rfl, rfl⟩, ?_, ?_⟩
    · rintro i y ρ3 μ3 hy ⟨a, b, c, d, rfl, rfl⟩
      rw [oneD_ones] at hy
      obtain ⟨r, hr, rfl⟩ := ones_get hy
      have hrm := List.mem_of_getElem? hr
      have ha := ok.r.a r hrm
      have hb := ok.r.b r hrm
      have il := (List.getElem?_eq_some_iff.mp hr).1
      have sz : ∀ x, ((roadsAt (rs.take i) x).map endD).length + 1 < sizeLine := fun x => by
        have h1 := roadsAt_len x (rs.take i)
        rw [List.length_take] at h1
        rw [List.length_map]
        exact Nat.lt_of_le_of_lt (show _ ≤ 30 by omega) (by decide)
      refine ⟨trivial, tgt3 ?_⟩
      generalize hf : (fun x => (roadsAt (rs.take i) x).map endD) = f
      have sz' : ∀ x, (f x).length + 1 < sizeLine := fun x => by
        rw [← hf]
        exact sz x
      have g1 := bes_at (f := f) ha
      have s1 := bes_set nd (f := f) ha (.tuple [.str r.1, .str r.2.2])
      generalize hf1 : (fun y => if y = r.2.1 then f y ++ [PyData.tuple [.str r.1, .str r.2.2]] else f y) = f1 at s1
      have g2 := bes_at (f := f1) hb
      have s2 := bes_set nd (f := f1) hb (.tuple [.str r.1, .str r.2.1])
      refine ⟨_, rfl, _, rfl, ps.length, _, .inr r.2.1, _, rfl, bes_dct ps f, rfl, bes_val ha, .inr (.inl ⟨rfl, .inr ⟨_, _, rfl, g1⟩⟩), ?_⟩
      refine ⟨_, rfl, _, rfl, [_, _], rfl, len2, rk ps r.2.1, _, _, rfl, rfl, g1, by rw [List.length_map]; exact Nat.lt_of_succ_lt (sz' _), ?_⟩
      rw [s1]
      have l1 : (f1 r.2.2).length < sizeLine := by
        rw [← hf1]
        show (if r.2.2 = r.2.1 then f r.2.2 ++ [_] else f r.2.2).length < sizeLine
        have := sz' r.2.2
        split
        · rw [List.length_append]
          exact this
        · exact Nat.lt_of_succ_lt this
      refine ⟨_, rfl, _, rfl, ps.length, _, .inr r.2.2, _, rfl, bes_dct ps f1, rfl, bes_val hb, .inr (.inl ⟨rfl, .inr ⟨_, _, rfl, g2⟩⟩), ?_⟩
      refine ⟨_, rfl, _, rfl, [_, _], rfl, len2, rk ps r.2.2, _, _, rfl, rfl, g2, by rw [List.length_map]; exact l1, ?_⟩
      rw [s2]
      refine ⟨_, _, _, _, rfl, congrArg (besC ps) ?_⟩
      funext x
      have e1 : roadsAt (rs.take (i + 1)) x = roadsAt (rs.take i) x ++ atR x r := by
        unfold roadsAt
        rw [List.take_add_one, hr]
        show (rs.take i ++ [r]).flatMap _ = _
        rw [List.flatMap_append, List.flatMap_singleton]
      rw [e1, List.map_append, ← hf1, ← hf]
      unfold atR
      by_cases z1 : r.2.1 = x <;> by_cases z2 : r.2.2 = x
      · subst z1
        simp [z2, endD]
      · subst z1
        have z3 : ¬ r.2.1 = r.2.2 := fun z => z2 z.symm
        simp [z2, z3, endD]
      · subst z2
        have z3 : ¬ r.2.2 = r.2.1 := fun z => z1 z.symm
        simp [z1, z3, endD]
      · have z3 : ¬ x = r.2.1 := fun z => z1 z.symm
        have z4 : ¬ x = r.2.2 := fun z => z2 z.symm
        simp [z1, z2, z3, z4]
    · rintro ρ3 μ3 ⟨a, b, c, d, rfl, rfl⟩
      refine ⟨trivial, ?_⟩
      rw [show rs.take (oneD (rs.map rdD)).length = rs from List.take_of_length_le (by unfold oneD; rw [List.length_map, List.length_map]; exact Nat.le_refl _)]
      exact ⟨_, rfl, keepR (bes_dct ps _) (bes_rfy _) q⟩
  · rintro xs μ Pk Ex ⟨ps, rs, rfl, _⟩
    rfl
theorem ok_are_roads_between {f : Addr} {fd : FuncData} (F : FunV K "are_roads_between" "are_roads_between" st_are_roads_between f fd) (Z : ∀ x, x ∈ blt → mg x = none) (C_is_road_between : CalG P w K mg base "is_road_between" 2 R_is_road_betweenX) (c_MOST_ROADS : ∃ t, mg "MOST_ROADS" = some (.int 14 t)) : FnG P w K mg base (L2.CX P w) 3 f fd ["places", "thing"] (SpD K R_are_roads_betweenX) := by
  refine cal_ofG F sc_are_roads_between ?_ (fun cd A ou s H E W hg hr tk po => ?_)
  rotate_left
  have hN := sc_are_roads_between.nd
  have hu := hr.units
  have hu65 := hr.units65
  refine ⟨_, (dss_cons (ds_if (dt_w (dw_or (dt_not (dt_truth (d_callB call_isi s_isiC (da_cons (d_var 1) (da_cons (d_ty (T := "tuple") (Z "tuple" (by decide))) da_nil)) (Z "isinstance" (by decide))))) (dw_or1 (tGt (d_callB call_len s_lenU (da_cons (d_var 1) da_nil) (Z "len" (by decide))) (d_constI c_MOST_ROADS))))) (dss_one (ds_ret d_bl)) dss_nil) (dss_cons (ds_if (dt_not (dt_truth (d_callB (cr_all rfl) s_all (da_cons (d_lc (own := [("road", 2)]) rfl hN (di_any (d_var 1)) (blkOk_by (N := ns_are_roads_between) (sc := defScope st_are_roads_between) (by decide +kernel)) (fun _ _ _ _ _ => (dg_name (i := 2) hN)) (fun _ _ _ _ _ => dts_nil) (fun _ _ _ _ _ => (d_calG C_is_road_between hg (hr.mono (by omega)) (da_cons (d_var 0) (da_cons (d_var 2) da_nil))))) da_nil) (Z "all" (by decide))))) (dss_one (ds_ret d_bl)) dss_nil) (dss_one (ds_ret (dEq hu (d_lenSk (own := [("road", 2)]) (Z "len" (by decide)) rfl hN (di_any (d_var 1)) (blkOk_by (N := ns_are_roads_between) (sc := defScope st_are_roads_between) (by decide +kernel)) (fun _ _ _ _ _ => (dg_name (i := 2) hN)) (fun _ _ _ _ _ => dts_nil) (fun _ _ _ _ _ => (dIx (d_var 2) d_int))) (d_callB call_len s_lenU (da_cons (d_var 1) da_nil) (Z "len" (by decide)))))))), ?_⟩
  · rintro xs μ Pk Ex old ⟨ps, x, rfl, rfl, hp, q⟩
    refine ⟨_, rfl, isi_tup hp ⟨_, rfl, ?_⟩⟩
    cases x with
    | tuple l =>
      obtain ⟨ll, hl⟩ := plain_tup.mp hp
      have un : roadsB ps (.tuple l) = (decide (l.length ≤ 14) && (l.all (roadB ps) && decide ((l.map headOf).Nodup))) := rfl
      refine iteF ⟨_, rfl, _, _, rfl, rfl, _, rfl, iteD (fun l1 => ?_) (fun l1 => ?_)⟩
      · rw [decide_eq_false (show ¬ l.length ≤ 14 by omega), Bool.false_and] at un
        rw [un] at q
        exact data0 q
      rw [decide_eq_true (show l.length ≤ 14 by omega), Bool.true_and] at un
      refine ⟨_, rfl, ?_⟩
      refine lc_map l id (fun x => .bool (roadB ps x)) (by unfold oneD; rfl) trivial (Nat.le_trans ll (by decide)) (fun x hx Q hQ => ?_) ?_
      · exact ⟨_, rfl, _, rfl, _, rfl, fr_d [_, _] ⟨ps, x, rfl, rfl, hl x hx, bk hQ⟩⟩
      refine all_of ⟨_, rfl, ?_⟩
      by_cases a1 : l.all (roadB ps) = true
      · refine nT a1 ?_
        rw [a1, Bool.true_and] at un
        obtain ⟨eb, eh⟩ := roads_back a1
        rw [eh] at un
        generalize l.map roadOf = rs at un eb
        subst eb
        refine ⟨_, rfl, ?_⟩
        rw [List.length_map] at ll
        refine sc_map rs rdD (fun r => .inr r.1) (oneD_ones _ _) trivial (by unfold scanBound; omega) (fun x hx Q hQ => ⟨_, rfl, _, rfl, ix_tup (j := 0) rfl hQ⟩) ?_
        refine ⟨_, rfl, ?_⟩
        have e0 : rs.map (fun r => (Sum.inr r.1 : Key)) = (rnm rs).map Sum.inr := by rw [List.map_map]; rfl
        have rl : (rnm rs).length = rs.length := List.length_map ..
        rw [e0]
        have e : (decide (((ddk ((rnm rs).map Sum.inr)).length : Int) = (((rs.map rdD).length : Nat) : Int))) = decide (rnm rs).Nodup := by
          refine decide_eq_decide.mpr ⟨fun h => ?_, fun nd => ?_⟩
          · have := ddk_full (l := (rnm rs).map Sum.inr) (by rw [List.length_map, rl]; rw [List.length_map] at h; omega)
            exact (List.pairwise_map.mp this).imp fun h e => h (by rw [e])
          · rw [ddk_nodup (keys_nd nd), List.length_map, List.length_map, List.length_map]
        show RetD _ Pk (.d (.bool (false ^^ decide _))) _
        rw [e, Bool.false_xor]
        rw [un] at q
        exact data0 q
      · rw [Bool.eq_false_iff.mpr a1] at un ⊢
        refine iteT ?_
        rw [un] at q
        exact data0 q
    | _ => exact iteT (iteT (data0 q))
  · rintro xs μ Pk Ex ⟨ps, x, rfl, _⟩
    rfl
theorem ok_best_home {f : Addr} {fd : FuncData} (F : FunV K "best_home" "best_home" st_best_home f fd) (C_comes_home : CalG P w K mg base "comes_home" 2 R_comes_home) (C_first_kept : CalG P w K mg base "first_kept" 3 (R_first_kept45 mg)) (C_need_one_piece : CalG P w K mg base "need_one_piece" 6 (R_need_one_pieceW mg)) (C_need_place : CalG P w K mg base "need_place" 1 (R_need_placeX mg))  : FnG P w K mg base (L2.CX P w) 7 f fd ["web", "place"] (SpD K (R_best_homeX mg)) := by
  refine cal_ofG F sc_best_home ?_ (fun cd A ou s H E W hg hr tk po => ?_)
  rotate_left
  have hN := sc_best_home.nd
  have hu := hr.units
  have hu65 := hr.units65
  refine ⟨_, (dss_cons (ds_exprY (dx_cal C_need_one_piece tk hg (hr.mono (by omega)) (da_cons (d_var 0) da_nil))) (dss_cons (ds_exprY (dx_cal C_need_place tk hg (hr.mono (by omega)) (da_cons (d_var 0) (da_cons (d_var 1) da_nil)))) (dss_one (ds_ret (d_calG C_first_kept hg (hr.mono (by omega)) (da_cons (d_var 0) (da_cons (d_var 1) (da_cons (d_glbF rfl C_comes_home) da_nil)))))))), ?_⟩
  · rintro xs μ Pk Ex old ⟨a, b, rfl, rfl, h⟩
    rcases h with ⟨ps, rs, s, rfl, rfl, ok, op, hs, qq⟩ | ⟨pa, wa, q⟩ | ⟨ps, rs, rfl, ok, np, q⟩ | ⟨ps, rs, rfl, ok, op, pb, q⟩
    · refine ⟨_, rfl, fr_d [_] ⟨_, rfl, rfl, .inl ⟨ps, rs, rfl, ok, .inl ⟨op, noO, ?_⟩⟩⟩⟩
      refine ⟨_, rfl, _, rfl, fr_d [_, _] ⟨ps, rs, _, rfl, rfl, fun _ => ⟨noO, ?_⟩, fun e => absurd ((place_okB hs).symm.trans e) (by decide)⟩⟩
      exact ⟨_, rfl, _, rfl, fun f hf => fr_kept45H hf ok op hs fun r hr => data0 (qq r hr)⟩
    · refine ⟨_, rfl, fr_d [_] ⟨_, rfl, rfl, .inr ⟨pa, wa, noO, ?_⟩⟩⟩
      exact out0 (ρ := []) q
    · refine ⟨_, rfl, fr_d [_] ⟨_, rfl, rfl, .inl ⟨ps, rs, rfl, ok, .inr ⟨np, noO, ?_⟩⟩⟩⟩
      exact out0 (ρ := []) q
    · refine ⟨_, rfl, fr_d [_] ⟨_, rfl, rfl, .inl ⟨ps, rs, rfl, ok, .inl ⟨op, noO, ?_⟩⟩⟩⟩
      refine ⟨_, rfl, _, rfl, fr_d [_, _] ⟨ps, rs, _, rfl, rfl, fun e => absurd (pb.symm.trans e) (by decide), fun _ => ⟨noO, ?_⟩⟩⟩
      exact out0 (ρ := []) q
  · rintro xs μ Pk Ex ⟨a, b, rfl, _⟩
    rfl
theorem ok__law_names {f : Addr} {fd : FuncData} (F : FunV K "_law_names" "_law_names" st__law_names f fd) (C__law_mixed : CalG P w K mg base "_law_mixed" 2 R__law_mixed)  : FnG P w K mg base (L2.CX P w) 3 f fd ["_law_feed_here", "_law_many"] (SpD K R__law_names) := by
  refine cal_ofG F sc__law_names ?_ (fun cd A ou s H E W hg hr tk po => ?_)
  rotate_left
  have hN := sc__law_names.nd
  have hu := hr.units
  have hu65 := hr.units65
  refine ⟨_, (dss_one (ds_ret (d_slice (d_calG C__law_mixed hg (hr.mono (by omega)) (da_cons (d_var 0) (da_cons (d_lstU (da_cons d_str (da_cons d_str (da_cons d_str (da_cons d_str (da_cons d_str (da_cons d_str (da_cons d_str (da_cons d_str (da_cons d_str (da_cons d_str (da_cons d_str (da_cons d_str (da_cons d_str (da_cons d_str da_nil))))))))))))))) da_nil))) do_none (do_some (d_var 1))))), ?_⟩
  · rintro xs μ Pk Ex old ⟨o, k, m, rfl, rfl, hk, k1, q⟩
    refine ⟨_, rfl, by show 14 ≤ sizeLine; decide, .inl ⟨names14.map PyData.str, rfl, ?_⟩⟩
    refine fr_mixed PyData.str names14 rfl (.inl rfl) hk k1 (by decide) fun ss o' hp hk' => ?_
    refine ⟨_, rfl, _, rfl, .inr (.inr (.inl ⟨_, rfl, ?_⟩))⟩
    rw [cut_map, cut_nat]
    exact feedRet (l := []) hk' (q ss o' hp hk')
  · rintro xs μ Pk Ex ⟨o, k, m, rfl, _⟩
    rfl
end
end K45
set_option Elab.async false
set_option linter.all false
set_option maxRecDepth 100000
set_option maxHeartbeats 4000000
namespace K45
open PySem PySem.Spec PyProof.Rows L2 Dl Rp
local macro_rules | `(tactic| and_intros) => `(tactic| repeat (first | refine ⟨_, rfl, ?_⟩ | refine iteT ?_ | refine iteF ?_ | refine ⟨_, _, rfl, rfl, ?_⟩ | refine add_int ?_ | refine len_tup ?_ | refine len_lst ?_ | refine tgt2 ?_ | refine tgt3 ?_ | refine ⟨[_], rfl, len1, ?_⟩ | refine ⟨[_, _], rfl, len2, ?_⟩ | refine ⟨[_, _, _], rfl, len3, ?_⟩))
theorem calG_of {P : Program} {w : World} {K : PySem.W.Frag} {mg : Str → Option Value} {base : Heap} {x : Str} {f : Addr} {fd : FuncData} {ps : List Str} {k : Nat} {R : DR} (mx : mg x = some (.ref f)) (kp : PySem.W.keepIn K (.ref f) = true) (b : Binds K fd ps []) (G : FnG P w K mg base (L2.CX P w) k f fd ps (SpD K R)) : CalG P w K mg base x k R :=
  ⟨f, fd, ps, [], [], [], R, mx, kp, b, .nil, fun _ => .nil, G, fun xs μ Pk Ex h => by rw [List.map_nil, List.append_nil]; exact h⟩
theorem ints_dp {K : PySem.W.Frag} {F : Hp} : ∀ ns : List Int, Dl.DpAll K F (ns.map V.int) (ns.map .int)
  | [] => .nil
  | _ :: ns => .cons (.int _) (ints_dp ns)
theorem law_prom {K : PySem.W.Frag} {H : Hp} {a : Addr} {ns : List Int} (hl : ns.length ≤ 63) (hbits : ∀ z ∈ ns, Builtin.Int.intBits z ≤ 1048576) (hS : SqL K H a (ns.map V.int)) : SpD K R_law [.ref a] H (fun v _ => v = .bl true) fun _ _ _ => False := by
  refine ⟨[.d (.list (ns.map .int))], [], fun x _ => x = .d (.bool true), noX, H, [], ⟨fun _ _ e => e, List.nodup_nil, rfl, fun i a o e => by simp at e⟩, .cons (.lst hS (ints_dp ns)) .nil, ⟨ns, rfl, rfl, hl, bits_of hbits, rfl⟩, fun v x μ' F' al' H' e g S ab => ?_, fun C o μ' F' al' H' d h => h.elim⟩
  subst e
  exact dp_bl ab
theorem law_noex {P : Program} {w : World} {H : Hp} {s s' : Shared} {e : Value} (h : L2.CX P w [] H s (fun _ _ _ => False) e s') : False := by
  obtain ⟨_, _, _, _, _, _, _, _, _, _, _, _, h⟩ := h
  exact h
section
variable {K : PySem.W.Frag} {mg : Str → Option Value} {h : Heap}
theorem all_mk {l : PySem.W.OpenLaw} {w : World} (X : K.In h) (G : h.Ns mainGlobals mg) {fa : Addr} {f0 : Addr} {od0 an0 : Option Addr} {sl0 : Array (Option Value)} {oc0 kV0 dc0 pm0 cd0 ct0 : Value} {f1 : Addr} {od1 an1 : Option Addr} {sl1 : Array (Option Value)} {oc1 kV1 dc1 pm1 cd1 ct1 : Value} {f2 : Addr} {od2 an2 : Option Addr} {sl2 : Array (Option Value)} {oc2 kV2 dc2 pm2 cd2 ct2 : Value} {f3 : Addr} {od3 an3 : Option Addr} {sl3 : Array (Option Value)} {oc3 kV3 dc3 pm3 cd3 ct3 : Value} {f4 : Addr} {od4 an4 : Option Addr} {sl4 : Array (Option Value)} {oc4 kV4 dc4 pm4 cd4 ct4 : Value} {f5 : Addr} {od5 an5 : Option Addr} {sl5 : Array (Option Value)} {oc5 kV5 dc5 pm5 cd5 ct5 : Value} {f6 : Addr} {od6 an6 : Option Addr} {sl6 : Array (Option Value)} {oc6 kV6 dc6 pm6 cd6 ct6 : Value} {f7 : Addr} {od7 an7 : Option Addr} {sl7 : Array (Option Value)} {oc7 kV7 dc7 pm7 cd7 ct7 : Value} {f8 : Addr} {od8 an8 : Option Addr} {sl8 : Array (Option Value)} {oc8 kV8 dc8 pm8 cd8 ct8 : Value} {f9 : Addr} {od9 an9 : Option Addr} {sl9 : Array (Option Value)} {oc9 kV9 dc9 pm9 cd9 ct9 : Value} {f10 : Addr} {od10 an10 : Option Addr} {sl10 : Array (Option Value)} {oc10 kV10 dc10 pm10 cd10 ct10 : Value} {f11 : Addr} {od11 an11 : Option Addr} {sl11 : Array (Option Value)} {oc11 kV11 dc11 pm11 cd11 ct11 : Value} {f12 : Addr} {od12 an12 : Option Addr} {sl12 : Array (Option Value)} {oc12 kV12 dc12 pm12 cd12 ct12 : Value} {f13 : Addr} {od13 an13 : Option Addr} {sl13 : Array (Option Value)} {oc13 kV13 dc13 pm13 cd13 ct13 : Value} {f14 : Addr} {od14 an14 : Option Addr} {sl14 : Array (Option Value)} {oc14 kV14 dc14 pm14 cd14 ct14 : Value} {f15 : Addr} {od15 an15 : Option Addr} {sl15 : Array (Option Value)} {oc15 kV15 dc15 pm15 cd15 ct15 : Value} {f16 : Addr} {od16 an16 : Option Addr} {sl16 : Array (Option Value)} {oc16 kV16 dc16 pm16 cd16 ct16 : Value} {f17 : Addr} {od17 an17 : Option Addr} {sl17 : Array (Option Value)} {oc17 kV17 dc17 pm17 cd17 ct17 : Value} {f18 : Addr} {od18 an18 : Option Addr} {sl18 : Array (Option Value)} {oc18 kV18 dc18 pm18 cd18 ct18 : Value} {f19 : Addr} {od19 an19 : Option Addr} {sl19 : Array (Option Value)} {oc19 kV19 dc19 pm19 cd19 ct19 : Value} {f20 : Addr} {od20 an20 : Option Addr} {sl20 : Array (Option Value)} {oc20 kV20 dc20 pm20 cd20 ct20 : Value} {f21 : Addr} {od21 an21 : Option Addr} {sl21 : Array (Option Value)} {oc21 kV21 dc21 pm21 cd21 ct21 : Value} {f22 : Addr} {od22 an22 : Option Addr} {sl22 : Array (Option Value)} {oc22 kV22 dc22 pm22 cd22 ct22 : Value} {f23 : Addr} {od23 an23 : Option Addr} {sl23 : Array (Option Value)} {oc23 kV23 dc23 pm23 cd23 ct23 : Value} {f24 : Addr} {od24 an24 : Option Addr} {sl24 : Array (Option Value)} {oc24 kV24 dc24 pm24 cd24 ct24 : Value} {f25 : Addr} {od25 an25 : Option Addr} {sl25 : Array (Option Value)} {oc25 kV25 dc25 pm25 cd25 ct25 : Value} {f26 : Addr} {od26 an26 : Option Addr} {sl26 : Array (Option Value)} {oc26 kV26 dc26 pm26 cd26 ct26 : Value} {f27 : Addr} {od27 an27 : Option Addr} {sl27 : Array (Option Value)} {oc27 kV27 dc27 pm27 cd27 ct27 : Value} {f28 : Addr} {od28 an28 : Option Addr} {sl28 : Array (Option Value)} {oc28 kV28 dc28 pm28 cd28 ct28 : Value} {f29 : Addr} {od29 an29 : Option Addr} {sl29 : Array (Option Value)} {oc29 kV29 dc29 pm29 cd29 ct29 : Value} {f30 : Addr} {od30 an30 : Option Addr} {sl30 : Array (Option Value)} {oc30 kV30 dc30 pm30 cd30 ct30 : Value} {f31 : Addr} {od31 an31 : Option Addr} {sl31 : Array (Option Value)} {oc31 kV31 dc31 pm31 cd31 ct31 : Value} {f32 : Addr} {od32 an32 : Option Addr} {sl32 : Array (Option Value)} {oc32 kV32 dc32 pm32 cd32 ct32 : Value} {f33 : Addr} {od33 an33 : Option Addr} {sl33 : Array (Option Value)} {oc33 kV33 dc33 pm33 cd33 ct33 : Value} {t_MOST_PLACES : Tok} {t_MOST_ROADS : Tok} {t_MOST_SIGNS : Tok} {X0 : Addr} {X1 : Addr} {X2 : Addr} {X3 : Addr} (hfa : mg "law" = some (.ref fa))
    (a0 : PySem.W.nsIn K mainGlobals "is_name" = some (some (.ref f0))) (l0 : K.lookup f0 = some ⟨oc0, od0, .func (PySem.W.fnOf "is_name" "is_name" (defArgs st_is_name) (defBody st_is_name) (defScope st_is_name) .none kV0 dc0 pm0 an0 cd0 ct0), sl0⟩) (c0 : PySem.W.codeIn K cd0 "is_name" = true) (k0 : PySem.W.keepIn K (.ref f0) = true)
    (a1 : PySem.W.nsIn K mainGlobals "are_places" = some (some (.ref f1))) (l1 : K.lookup f1 = some ⟨oc1, od1, .func (PySem.W.fnOf "are_places" "are_places" (defArgs st_are_places) (defBody st_are_places) (defScope st_are_places) .none kV1 dc1 pm1 an1 cd1 ct1), sl1⟩) (c1 : PySem.W.codeIn K cd1 "are_places" = true) (k1 : PySem.W.keepIn K (.ref f1) = true)
    (a2 : PySem.W.nsIn K mainGlobals "is_road_between" = some (some (.ref f2))) (l2 : K.lookup f2 = some ⟨oc2, od2, .func (PySem.W.fnOf "is_road_between" "is_road_between" (defArgs st_is_road_between) (defBody st_is_road_between) (defScope st_is_road_between) .none kV2 dc2 pm2 an2 cd2 ct2), sl2⟩) (c2 : PySem.W.codeIn K cd2 "is_road_between" = true) (k2 : PySem.W.keepIn K (.ref f2) = true)
    (a3 : PySem.W.nsIn K mainGlobals "are_roads_between" = some (some (.ref f3))) (l3 : K.lookup f3 = some ⟨oc3, od3, .func (PySem.W.fnOf "are_roads_between" "are_roads_between" (defArgs st_are_roads_between) (defBody st_are_roads_between) (defScope st_are_roads_between) .none kV3 dc3 pm3 an3 cd3 ct3), sl3⟩) (c3 : PySem.W.codeIn K cd3 "are_roads_between" = true) (k3 : PySem.W.keepIn K (.ref f3) = true)
    (a4 : PySem.W.nsIn K mainGlobals "is_web" = some (some (.ref f4))) (l4 : K.lookup f4 = some ⟨oc4, od4, .func (PySem.W.fnOf "is_web" "is_web" (defArgs st_is_web) (defBody st_is_web) (defScope st_is_web) .none kV4 dc4 pm4 an4 cd4 ct4), sl4⟩) (c4 : PySem.W.codeIn K cd4 "is_web" = true) (k4 : PySem.W.keepIn K (.ref f4) = true)
    (a5 : PySem.W.nsIn K mainGlobals "need_web" = some (some (.ref f5))) (l5 : K.lookup f5 = some ⟨oc5, od5, .func (PySem.W.fnOf "need_web" "need_web" (defArgs st_need_web) (defBody st_need_web) (defScope st_need_web) .none kV5 dc5 pm5 an5 cd5 ct5), sl5⟩) (c5 : PySem.W.codeIn K cd5 "need_web" = true) (k5 : PySem.W.keepIn K (.ref f5) = true)
    (a6 : PySem.W.nsIn K mainGlobals "need_place" = some (some (.ref f6))) (l6 : K.lookup f6 = some ⟨oc6, od6, .func (PySem.W.fnOf "need_place" "need_place" (defArgs st_need_place) (defBody st_need_place) (defScope st_need_place) .none kV6 dc6 pm6 an6 cd6 ct6), sl6⟩) (c6 : PySem.W.codeIn K cd6 "need_place" = true) (k6 : PySem.W.keepIn K (.ref f6) = true)
    (a7 : PySem.W.nsIn K mainGlobals "beside" = some (some (.ref f7))) (l7 : K.lookup f7 = some ⟨oc7, od7, .func (PySem.W.fnOf "beside" "beside" (defArgs st_beside) (defBody st_beside) (defScope st_beside) .none kV7 dc7 pm7 an7 cd7 ct7), sl7⟩) (c7 : PySem.W.codeIn K cd7 "beside" = true) (k7 : PySem.W.keepIn K (.ref f7) = true)
    (a8 : PySem.W.nsIn K mainGlobals "steps_from" = some (some (.ref f8))) (l8 : K.lookup f8 = some ⟨oc8, od8, .func (PySem.W.fnOf "steps_from" "steps_from" (defArgs st_steps_from) (defBody st_steps_from) (defScope st_steps_from) .none kV8 dc8 pm8 an8 cd8 ct8), sl8⟩) (c8 : PySem.W.codeIn K cd8 "steps_from" = true) (k8 : PySem.W.keepIn K (.ref f8) = true)
    (a9 : PySem.W.nsIn K mainGlobals "has_one_piece" = some (some (.ref f9))) (l9 : K.lookup f9 = some ⟨oc9, od9, .func (PySem.W.fnOf "has_one_piece" "has_one_piece" (defArgs st_has_one_piece) (defBody st_has_one_piece) (defScope st_has_one_piece) .none kV9 dc9 pm9 an9 cd9 ct9), sl9⟩) (c9 : PySem.W.codeIn K cd9 "has_one_piece" = true) (k9 : PySem.W.keepIn K (.ref f9) = true)
    (a10 : PySem.W.nsIn K mainGlobals "need_one_piece" = some (some (.ref f10))) (l10 : K.lookup f10 = some ⟨oc10, od10, .func (PySem.W.fnOf "need_one_piece" "need_one_piece" (defArgs st_need_one_piece) (defBody st_need_one_piece) (defScope st_need_one_piece) .none kV10 dc10 pm10 an10 cd10 ct10), sl10⟩) (c10 : PySem.W.codeIn K cd10 "need_one_piece" = true) (k10 : PySem.W.keepIn K (.ref f10) = true)
    (a11 : PySem.W.nsIn K mainGlobals "known_behind" = some (some (.ref f11))) (l11 : K.lookup f11 = some ⟨oc11, od11, .func (PySem.W.fnOf "known_behind" "known_behind" (defArgs st_known_behind) (defBody st_known_behind) (defScope st_known_behind) .none kV11 dc11 pm11 an11 cd11 ct11), sl11⟩) (c11 : PySem.W.codeIn K cd11 "known_behind" = true) (k11 : PySem.W.keepIn K (.ref f11) = true)
    (a12 : PySem.W.nsIn K mainGlobals "flooded" = some (some (.ref f12))) (l12 : K.lookup f12 = some ⟨oc12, od12, .func (PySem.W.fnOf "flooded" "flooded" (defArgs st_flooded) (defBody st_flooded) (defScope st_flooded) .none kV12 dc12 pm12 an12 cd12 ct12), sl12⟩) (c12 : PySem.W.codeIn K cd12 "flooded" = true) (k12 : PySem.W.keepIn K (.ref f12) = true)
    (a13 : PySem.W.nsIn K mainGlobals "goes_out" = some (some (.ref f13))) (l13 : K.lookup f13 = some ⟨oc13, od13, .func (PySem.W.fnOf "goes_out" "goes_out" (defArgs st_goes_out) (defBody st_goes_out) (defScope st_goes_out) .none kV13 dc13 pm13 an13 cd13 ct13), sl13⟩) (c13 : PySem.W.codeIn K cd13 "goes_out" = true) (k13 : PySem.W.keepIn K (.ref f13) = true)
    (a14 : PySem.W.nsIn K mainGlobals "comes_home" = some (some (.ref f14))) (l14 : K.lookup f14 = some ⟨oc14, od14, .func (PySem.W.fnOf "comes_home" "comes_home" (defArgs st_comes_home) (defBody st_comes_home) (defScope st_comes_home) .none kV14 dc14 pm14 an14 cd14 ct14), sl14⟩) (c14 : PySem.W.codeIn K cd14 "comes_home" = true) (k14 : PySem.W.keepIn K (.ref f14) = true)
    (a15 : PySem.W.nsIn K mainGlobals "first_kept" = some (some (.ref f15))) (l15 : K.lookup f15 = some ⟨oc15, od15, .func (PySem.W.fnOf "first_kept" "first_kept" (defArgs st_first_kept) (defBody st_first_kept) (defScope st_first_kept) .none kV15 dc15 pm15 an15 cd15 ct15), sl15⟩) (c15 : PySem.W.codeIn K cd15 "first_kept" = true) (k15 : PySem.W.keepIn K (.ref f15) = true)
    (a16 : PySem.W.nsIn K mainGlobals "best_from" = some (some (.ref f16))) (l16 : K.lookup f16 = some ⟨oc16, od16, .func (PySem.W.fnOf "best_from" "best_from" (defArgs st_best_from) (defBody st_best_from) (defScope st_best_from) .none kV16 dc16 pm16 an16 cd16 ct16), sl16⟩) (c16 : PySem.W.codeIn K cd16 "best_from" = true) (k16 : PySem.W.keepIn K (.ref f16) = true)
    (a17 : PySem.W.nsIn K mainGlobals "best_home" = some (some (.ref f17))) (l17 : K.lookup f17 = some ⟨oc17, od17, .func (PySem.W.fnOf "best_home" "best_home" (defArgs st_best_home) (defBody st_best_home) (defScope st_best_home) .none kV17 dc17 pm17 an17 cd17 ct17), sl17⟩) (c17 : PySem.W.codeIn K cd17 "best_home" = true) (k17 : PySem.W.keepIn K (.ref f17) = true)
    (a18 : PySem.W.nsIn K mainGlobals "_law_feed" = some (some (.ref f18))) (l18 : K.lookup f18 = some ⟨oc18, od18, .func (PySem.W.fnOf "_law_feed" "_law_feed" (defArgs st__law_feed) (defBody st__law_feed) (defScope st__law_feed) .none kV18 dc18 pm18 an18 cd18 ct18), sl18⟩) (c18 : PySem.W.codeIn K cd18 "_law_feed" = true) (k18 : PySem.W.keepIn K (.ref f18) = true)
    (a19 : PySem.W.nsIn K mainGlobals "_law_draw" = some (some (.ref f19))) (l19 : K.lookup f19 = some ⟨oc19, od19, .func (PySem.W.fnOf "_law_draw" "_law_draw" (defArgs st__law_draw) (defBody st__law_draw) (defScope st__law_draw) .none kV19 dc19 pm19 an19 cd19 ct19), sl19⟩) (c19 : PySem.W.codeIn K cd19 "_law_draw" = true) (k19 : PySem.W.keepIn K (.ref f19) = true)
    (a20 : PySem.W.nsIn K mainGlobals "_law_one" = some (some (.ref f20))) (l20 : K.lookup f20 = some ⟨oc20, od20, .func (PySem.W.fnOf "_law_one" "_law_one" (defArgs st__law_one) (defBody st__law_one) (defScope st__law_one) .none kV20 dc20 pm20 an20 cd20 ct20), sl20⟩) (c20 : PySem.W.codeIn K cd20 "_law_one" = true) (k20 : PySem.W.keepIn K (.ref f20) = true)
    (a21 : PySem.W.nsIn K mainGlobals "_law_mixed" = some (some (.ref f21))) (l21 : K.lookup f21 = some ⟨oc21, od21, .func (PySem.W.fnOf "_law_mixed" "_law_mixed" (defArgs st__law_mixed) (defBody st__law_mixed) (defScope st__law_mixed) .none kV21 dc21 pm21 an21 cd21 ct21), sl21⟩) (c21 : PySem.W.codeIn K cd21 "_law_mixed" = true) (k21 : PySem.W.keepIn K (.ref f21) = true)
    (a22 : PySem.W.nsIn K mainGlobals "_law_names" = some (some (.ref f22))) (l22 : K.lookup f22 = some ⟨oc22, od22, .func (PySem.W.fnOf "_law_names" "_law_names" (defArgs st__law_names) (defBody st__law_names) (defScope st__law_names) .none kV22 dc22 pm22 an22 cd22 ct22), sl22⟩) (c22 : PySem.W.codeIn K cd22 "_law_names" = true) (k22 : PySem.W.keepIn K (.ref f22) = true)
    (a23 : PySem.W.nsIn K mainGlobals "_law_sized" = some (some (.ref f23))) (l23 : K.lookup f23 = some ⟨oc23, od23, .func (PySem.W.fnOf "_law_sized" "_law_sized" (defArgs st__law_sized) (defBody st__law_sized) (defScope st__law_sized) .none kV23 dc23 pm23 an23 cd23 ct23), sl23⟩) (c23 : PySem.W.codeIn K cd23 "_law_sized" = true) (k23 : PySem.W.keepIn K (.ref f23) = true)
    (a24 : PySem.W.nsIn K mainGlobals "_law_rotas" = some (some (.ref f24))) (l24 : K.lookup f24 = some ⟨oc24, od24, .func (PySem.W.fnOf "_law_rotas" "_law_rotas" (defArgs st__law_rotas) (defBody st__law_rotas) (defScope st__law_rotas) .none kV24 dc24 pm24 an24 cd24 ct24), sl24⟩) (c24 : PySem.W.codeIn K cd24 "_law_rotas" = true) (k24 : PySem.W.keepIn K (.ref f24) = true)
    (a25 : PySem.W.nsIn K mainGlobals "_law_no_web" = some (some (.ref f25))) (l25 : K.lookup f25 = some ⟨oc25, od25, .func (PySem.W.fnOf "_law_no_web" "_law_no_web" (defArgs st__law_no_web) (defBody st__law_no_web) (defScope st__law_no_web) .none kV25 dc25 pm25 an25 cd25 ct25), sl25⟩) (c25 : PySem.W.codeIn K cd25 "_law_no_web" = true) (k25 : PySem.W.keepIn K (.ref f25) = true)
    (a26 : PySem.W.nsIn K mainGlobals "_law_bad_web" = some (some (.ref f26))) (l26 : K.lookup f26 = some ⟨oc26, od26, .func (PySem.W.fnOf "_law_bad_web" "_law_bad_web" (defArgs st__law_bad_web) (defBody st__law_bad_web) (defScope st__law_bad_web) .none kV26 dc26 pm26 an26 cd26 ct26), sl26⟩) (c26 : PySem.W.codeIn K cd26 "_law_bad_web" = true) (k26 : PySem.W.keepIn K (.ref f26) = true)
    (a27 : PySem.W.nsIn K mainGlobals "_law_bad_place" = some (some (.ref f27))) (l27 : K.lookup f27 = some ⟨oc27, od27, .func (PySem.W.fnOf "_law_bad_place" "_law_bad_place" (defArgs st__law_bad_place) (defBody st__law_bad_place) (defScope st__law_bad_place) .none kV27 dc27 pm27 an27 cd27 ct27), sl27⟩) (c27 : PySem.W.codeIn K cd27 "_law_bad_place" = true) (k27 : PySem.W.keepIn K (.ref f27) = true)
    (a28 : PySem.W.nsIn K mainGlobals "_law_walked" = some (some (.ref f28))) (l28 : K.lookup f28 = some ⟨oc28, od28, .func (PySem.W.fnOf "_law_walked" "_law_walked" (defArgs st__law_walked) (defBody st__law_walked) (defScope st__law_walked) .none kV28 dc28 pm28 an28 cd28 ct28), sl28⟩) (c28 : PySem.W.codeIn K cd28 "_law_walked" = true) (k28 : PySem.W.keepIn K (.ref f28) = true)
    (a29 : PySem.W.nsIn K mainGlobals "_law_brings" = some (some (.ref f29))) (l29 : K.lookup f29 = some ⟨oc29, od29, .func (PySem.W.fnOf "_law_brings" "_law_brings" (defArgs st__law_brings) (defBody st__law_brings) (defScope st__law_brings) .none kV29 dc29 pm29 an29 cd29 ct29), sl29⟩) (c29 : PySem.W.codeIn K cd29 "_law_brings" = true) (k29 : PySem.W.keepIn K (.ref f29) = true)
    (a30 : PySem.W.nsIn K mainGlobals "_law_can_bring" = some (some (.ref f30))) (l30 : K.lookup f30 = some ⟨oc30, od30, .func (PySem.W.fnOf "_law_can_bring" "_law_can_bring" (defArgs st__law_can_bring) (defBody st__law_can_bring) (defScope st__law_can_bring) .none kV30 dc30 pm30 an30 cd30 ct30), sl30⟩) (c30 : PySem.W.codeIn K cd30 "_law_can_bring" = true) (k30 : PySem.W.keepIn K (.ref f30) = true)
    (a31 : PySem.W.nsIn K mainGlobals "_law_is_first" = some (some (.ref f31))) (l31 : K.lookup f31 = some ⟨oc31, od31, .func (PySem.W.fnOf "_law_is_first" "_law_is_first" (defArgs st__law_is_first) (defBody st__law_is_first) (defScope st__law_is_first) .none kV31 dc31 pm31 an31 cd31 ct31), sl31⟩) (c31 : PySem.W.codeIn K cd31 "_law_is_first" = true) (k31 : PySem.W.keepIn K (.ref f31) = true)
    (a32 : PySem.W.nsIn K mainGlobals "_law_flags" = some (some (.ref f32))) (l32 : K.lookup f32 = some ⟨oc32, od32, .func (PySem.W.fnOf "_law_flags" "_law_flags" (defArgs st__law_flags) (defBody st__law_flags) (defScope st__law_flags) .none kV32 dc32 pm32 an32 cd32 ct32), sl32⟩) (c32 : PySem.W.codeIn K cd32 "_law_flags" = true) (k32 : PySem.W.keepIn K (.ref f32) = true)
    (a33 : PySem.W.nsIn K mainGlobals "law" = some (some (.ref f33))) (l33 : K.lookup f33 = some ⟨oc33, od33, .func (PySem.W.fnOf "law" "law" (defArgs st_law) (defBody st_law) (defScope st_law) .none kV33 dc33 pm33 an33 cd33 ct33), sl33⟩) (c33 : PySem.W.codeIn K cd33 "law" = true) (k33 : PySem.W.keepIn K (.ref f33) = true)
    (g_MOST_PLACES : PySem.W.nsIn K mainGlobals "MOST_PLACES" = some (some (.int 10 t_MOST_PLACES)))
    (g_MOST_ROADS : PySem.W.nsIn K mainGlobals "MOST_ROADS" = some (some (.int 14 t_MOST_ROADS)))
    (g_MOST_SIGNS : PySem.W.nsIn K mainGlobals "MOST_SIGNS" = some (some (.int 8 t_MOST_SIGNS)))
    (e0 : PySem.W.nsIn K mainGlobals "BadWeb" = some (some (.ref X0)))
    (e1 : PySem.W.nsIn K mainGlobals "BadPieces" = some (some (.ref X1)))
    (e2 : PySem.W.nsIn K mainGlobals "BadPlace" = some (some (.ref X2)))
    (e3 : PySem.W.nsIn K mainGlobals "PostError" = some (some (.ref X3)))
    (z0 : PySem.W.nsIn K mainGlobals "len" = some none)
    (z1 : PySem.W.nsIn K mainGlobals "max" = some none)
    (z2 : PySem.W.nsIn K mainGlobals "min" = some none)
    (z3 : PySem.W.nsIn K mainGlobals "int" = some none)
    (z4 : PySem.W.nsIn K mainGlobals "sum" = some none)
    (z5 : PySem.W.nsIn K mainGlobals "list" = some none)
    (z6 : PySem.W.nsIn K mainGlobals "tuple" = some none)
    (z7 : PySem.W.nsIn K mainGlobals "range" = some none)
    (z8 : PySem.W.nsIn K mainGlobals "enumerate" = some none)
    (z9 : PySem.W.nsIn K mainGlobals "zip" = some none)
    (z10 : PySem.W.nsIn K mainGlobals "all" = some none)
    (z11 : PySem.W.nsIn K mainGlobals "any" = some none)
    (z12 : PySem.W.nsIn K mainGlobals "isinstance" = some none)
    (z13 : PySem.W.nsIn K mainGlobals "str" = some none)
    (z14 : PySem.W.nsIn K mainGlobals "bool" = some none)
    (z15 : PySem.W.nsIn K mainGlobals "repr" = some none)
    (z16 : PySem.W.nsIn K mainGlobals "set" = some none)
    (z17 : PySem.W.nsIn K mainGlobals "sorted" = some none)
    (z18 : PySem.W.nsIn K mainGlobals "dict" = some none)
    (z19 : PySem.W.nsIn K mainGlobals "divmod" = some none)
    (ck : chkP K [("BadWeb", X0), ("BadPieces", X1), ("BadPlace", X2), ("PostError", X3)] = true) :
    ∃ fd : FuncData, (∀ (s : Shared) (v : Value), BindsTo s fd ⟨[v], []⟩ [("_law_script", v)]) ∧ ∀ base : Heap, K.In base → base.Ns mainGlobals mg → FnG l.prog w K mg base (L2.CX l.prog w) 9 fa fd ["_law_script"] (SpD K R_law) := by
  have e := hfa.symm.trans (PySem.W.mg_of X G a33)
  cases e
  have Z : ∀ x, x ∈ blt → mg x = none := fun x hx => by
    unfold blt at hx
    simp only [List.mem_cons, List.not_mem_nil, or_false] at hx
    rcases hx with rfl | rfl | rfl | rfl | rfl | rfl | rfl | rfl | rfl | rfl | rfl | rfl | rfl | rfl | rfl | rfl | rfl | rfl | rfl | rfl
    · exact PySem.W.mg_none_of X G z0
    · exact PySem.W.mg_none_of X G z1
    · exact PySem.W.mg_none_of X G z2
    · exact PySem.W.mg_none_of X G z3
    · exact PySem.W.mg_none_of X G z4
    · exact PySem.W.mg_none_of X G z5
    · exact PySem.W.mg_none_of X G z6
    · exact PySem.W.mg_none_of X G z7
    · exact PySem.W.mg_none_of X G z8
    · exact PySem.W.mg_none_of X G z9
    · exact PySem.W.mg_none_of X G z10
    · exact PySem.W.mg_none_of X G z11
    · exact PySem.W.mg_none_of X G z12
    · exact PySem.W.mg_none_of X G z13
    · exact PySem.W.mg_none_of X G z14
    · exact PySem.W.mg_none_of X G z15
    · exact PySem.W.mg_none_of X G z16
    · exact PySem.W.mg_none_of X G z17
    · exact PySem.W.mg_none_of X G z18
    · exact PySem.W.mg_none_of X G z19
  have Er : ErrOk K mg es := err_mk [("BadWeb", X0), ("BadPieces", X1), ("BadPlace", X2), ("PostError", X3)] (fun p hp => by
    simp only [List.mem_cons, List.not_mem_nil, or_false] at hp
    rcases hp with rfl | rfl | rfl | rfl
    · exact PySem.W.mg_of X G e0
    · exact PySem.W.mg_of X G e1
    · exact PySem.W.mg_of X G e2
    · exact PySem.W.mg_of X G e3
    ) ck
  refine ⟨PySem.W.fnOf "law" "law" (defArgs st_law) (defBody st_law) (defScope st_law) .none kV33 dc33 pm33 an33 cd33 ct33, fun s v => .of_eq rfl, fun base _ _ => ?_⟩
  have F0 := fun_mk (st := st_is_name) l0 c0 k0
  have v0 := FunV.of F0
  have K0 := ok_is_name (P := l.prog) (w := w) (mg := mg) (base := base) v0 Z ⟨_, PySem.W.mg_of X G g_MOST_SIGNS⟩
  have b0 := F0.binds (ps := ["thing"]) fun _ _ _ _ _ _ us hl => match us, hl with | [_], _ => rfl
  have C0 : CalG l.prog w K mg base "is_name" 1 R_is_nameX := calG_of (PySem.W.mg_of X G a0) k0 b0 K0
  have F1 := fun_mk (st := st_are_places) l1 c1 k1
  have v1 := FunV.of F1
  have K1 := ok_are_places (P := l.prog) (w := w) (mg := mg) (base := base) v1 Z C0 ⟨_, PySem.W.mg_of X G g_MOST_PLACES⟩
  have b1 := F1.binds (ps := ["thing"]) fun _ _ _ _ _ _ us hl => match us, hl with | [_], _ => rfl
  have C1 : CalG l.prog w K mg base "are_places" 2 R_are_placesX := calG_of (PySem.W.mg_of X G a1) k1 b1 K1
  have F2 := fun_mk (st := st_is_road_between) l2 c2 k2
  have v2 := FunV.of F2
  have K2 := ok_is_road_between (P := l.prog) (w := w) (mg := mg) (base := base) v2 Z C0
  have b2 := F2.binds (ps := ["places", "thing"]) fun _ _ _ _ _ _ us hl => match us, hl with | [_, _], _ => rfl
  have C2 : CalG l.prog w K mg base "is_road_between" 2 R_is_road_betweenX := calG_of (PySem.W.mg_of X G a2) k2 b2 K2
  have F3 := fun_mk (st := st_are_roads_between) l3 c3 k3
  have v3 := FunV.of F3
  have K3 := ok_are_roads_between (P := l.prog) (w := w) (mg := mg) (base := base) v3 Z C2 ⟨_, PySem.W.mg_of X G g_MOST_ROADS⟩
  have b3 := F3.binds (ps := ["places", "thing"]) fun _ _ _ _ _ _ us hl => match us, hl with | [_, _], _ => rfl
  have C3 : CalG l.prog w K mg base "are_roads_between" 3 R_are_roads_betweenX := calG_of (PySem.W.mg_of X G a3) k3 b3 K3
  have F4 := fun_mk (st := st_is_web) l4 c4 k4
  have v4 := FunV.of F4
  have K4 := ok_is_web (P := l.prog) (w := w) (mg := mg) (base := base) v4 Z C1 C3
  have b4 := F4.binds (ps := ["thing"]) fun _ _ _ _ _ _ us hl => match us, hl with | [_], _ => rfl
  have C4 : CalG l.prog w K mg base "is_web" 4 R_is_webX := calG_of (PySem.W.mg_of X G a4) k4 b4 K4
  have F5 := fun_mk (st := st_need_web) l5 c5 k5
  have v5 := FunV.of F5
  have K5 := ok_need_web (P := l.prog) (w := w) (mg := mg) (base := base) v5 Er C4
  have b5 := F5.binds (ps := ["web"]) fun _ _ _ _ _ _ us hl => match us, hl with | [_], _ => rfl
  have C5 : CalG l.prog w K mg base "need_web" 5 (R_need_webX mg) := calG_of (PySem.W.mg_of X G a5) k5 b5 K5
  have F6 := fun_mk (st := st_need_place) l6 c6 k6
  have v6 := FunV.of F6
  have K6 := ok_need_place (P := l.prog) (w := w) (mg := mg) (base := base) v6 Z Er
  have b6 := F6.binds (ps := ["web", "place"]) fun _ _ _ _ _ _ us hl => match us, hl with | [_, _], _ => rfl
  have C6 : CalG l.prog w K mg base "need_place" 1 (R_need_placeX mg) := calG_of (PySem.W.mg_of X G a6) k6 b6 K6
  have F7 := fun_mk (st := st_beside) l7 c7 k7
  have v7 := FunV.of F7
  have K7 := ok_beside (P := l.prog) (w := w) (mg := mg) (base := base) v7
  have b7 := F7.binds (ps := ["web"]) fun _ _ _ _ _ _ us hl => match us, hl with | [_], _ => rfl
  have C7 : CalG l.prog w K mg base "beside" 1 R_beside := calG_of (PySem.W.mg_of X G a7) k7 b7 K7
  have F8 := fun_mk (st := st_steps_from) l8 c8 k8
  have v8 := FunV.of F8
  have K8 := ok_steps_from (P := l.prog) (w := w) (mg := mg) (base := base) v8 C7
  have b8 := F8.binds (ps := ["web", "place"]) fun _ _ _ _ _ _ us hl => match us, hl with | [_, _], _ => rfl
  have C8 : CalG l.prog w K mg base "steps_from" 2 R_steps_from := calG_of (PySem.W.mg_of X G a8) k8 b8 K8
  have F9 := fun_mk (st := st_has_one_piece) l9 c9 k9
  have v9 := FunV.of F9
  have K9 := ok_has_one_piece (P := l.prog) (w := w) (mg := mg) (base := base) v9 Z C8
  have b9 := F9.binds (ps := ["web"]) fun _ _ _ _ _ _ us hl => match us, hl with | [_], _ => rfl
  have C9 : CalG l.prog w K mg base "has_one_piece" 3 R_has_one_piece := calG_of (PySem.W.mg_of X G a9) k9 b9 K9
  have F10 := fun_mk (st := st_need_one_piece) l10 c10 k10
  have v10 := FunV.of F10
  have K10 := ok_need_one_piece (P := l.prog) (w := w) (mg := mg) (base := base) v10 Er C9 C5
  have b10 := F10.binds (ps := ["web"]) fun _ _ _ _ _ _ us hl => match us, hl with | [_], _ => rfl
  have C10 : CalG l.prog w K mg base "need_one_piece" 6 (R_need_one_pieceW mg) := calG_of (PySem.W.mg_of X G a10) k10 b10 K10
  have F11 := fun_mk (st := st_known_behind) l11 c11 k11
  have v11 := FunV.of F11
  have K11 := ok_known_behind (P := l.prog) (w := w) (mg := mg) (base := base) v11 Z
  have b11 := F11.binds (ps := ["ends", "known"]) fun _ _ _ _ _ _ us hl => match us, hl with | [_, _], _ => rfl
  have C11 : CalG l.prog w K mg base "known_behind" 1 R_known_behind := calG_of (PySem.W.mg_of X G a11) k11 b11 K11
  have F12 := fun_mk (st := st_flooded) l12 c12 k12
  have v12 := FunV.of F12
  have K12 := ok_flooded (P := l.prog) (w := w) (mg := mg) (base := base) v12
  have b12 := F12.binds (ps := ["left", "bits"]) fun _ _ _ _ _ _ us hl => match us, hl with | [_, _], _ => rfl
  have C12 : CalG l.prog w K mg base "flooded" 1 R_flooded := calG_of (PySem.W.mg_of X G a12) k12 b12 K12
  have F13 := fun_mk (st := st_goes_out) l13 c13 k13
  have v13 := FunV.of F13
  have K13 := ok_goes_out (P := l.prog) (w := w) (mg := mg) (base := base) v13 Z C12
  have b13 := F13.binds (ps := ["left", "known", "start", "at"]) fun _ _ _ _ _ _ us hl => match us, hl with | [_, _, _, _], _ => rfl
  have C13 : CalG l.prog w K mg base "goes_out" 2 R_goes_out := calG_of (PySem.W.mg_of X G a13) k13 b13 K13
  have F14 := fun_mk (st := st_comes_home) l14 c14 k14
  have v14 := FunV.of F14
  have K14 := ok_comes_home (P := l.prog) (w := w) (mg := mg) (base := base) v14 Z C12
  have b14 := F14.binds (ps := ["left", "known", "start", "at"]) fun _ _ _ _ _ _ us hl => match us, hl with | [_, _, _, _], _ => rfl
  have C14 : CalG l.prog w K mg base "comes_home" 2 R_comes_home := calG_of (PySem.W.mg_of X G a14) k14 b14 K14
  have F15 := fun_mk (st := st_first_kept) l15 c15 k15
  have v15 := FunV.of F15
  have K15 := ok_first_kept (P := l.prog) (w := w) (mg := mg) (base := base) v15 Z C14 C13 C11
  have b15 := F15.binds (ps := ["web", "place", "can_go"]) fun _ _ _ _ _ _ us hl => match us, hl with | [_, _, _], _ => rfl
  have C15 : CalG l.prog w K mg base "first_kept" 3 (R_first_kept45 mg) := calG_of (PySem.W.mg_of X G a15) k15 b15 K15
  have F16 := fun_mk (st := st_best_from) l16 c16 k16
  have v16 := FunV.of F16
  have K16 := ok_best_from (P := l.prog) (w := w) (mg := mg) (base := base) v16 C15 C13 C10 C6
  have b16 := F16.binds (ps := ["web", "place"]) fun _ _ _ _ _ _ us hl => match us, hl with | [_, _], _ => rfl
  have C16 : CalG l.prog w K mg base "best_from" 7 (R_best_fromX mg) := calG_of (PySem.W.mg_of X G a16) k16 b16 K16
  have F17 := fun_mk (st := st_best_home) l17 c17 k17
  have v17 := FunV.of F17
  have K17 := ok_best_home (P := l.prog) (w := w) (mg := mg) (base := base) v17 C14 C15 C10 C6
  have b17 := F17.binds (ps := ["web", "place"]) fun _ _ _ _ _ _ us hl => match us, hl with | [_, _], _ => rfl
  have C17 : CalG l.prog w K mg base "best_home" 7 (R_best_homeX mg) := calG_of (PySem.W.mg_of X G a17) k17 b17 K17
  have CK17 : CalK l.prog w K mg base "best_home" 7 ["place", "web"] (RK_best_home mg) := ⟨_, _, _, [1, 0], (R_best_homeX mg), PySem.W.mg_of X G a17, k17, fun s ws hl => (match ws, hl with | [_, _], _ => .of_eq rfl), K17, fun xs μ Pk Ex hl hx => by
    obtain ⟨x0, x1, rfl, hx⟩ := hx
    exact hx⟩
  have F18 := fun_mk (st := st__law_feed) l18 c18 k18
  have v18 := FunV.of F18
  have K18 := ok__law_feed (P := l.prog) (w := w) (mg := mg) (base := base) v18 Z
  have b18 := F18.binds (ps := ["_law_script", "_law_k"]) fun _ _ _ _ _ _ us hl => match us, hl with | [_, _], _ => rfl
  have C18 : CalG l.prog w K mg base "_law_feed" 1 R__law_feed := calG_of (PySem.W.mg_of X G a18) k18 b18 K18
  have F19 := fun_mk (st := st__law_draw) l19 c19 k19
  have v19 := FunV.of F19
  have K19 := ok__law_draw (P := l.prog) (w := w) (mg := mg) (base := base) v19 Z
  have b19 := F19.binds (ps := ["_law_feed_here", "_law_many"]) fun _ _ _ _ _ _ us hl => match us, hl with | [_, _], _ => rfl
  have C19 : CalG l.prog w K mg base "_law_draw" 1 R__law_draw := calG_of (PySem.W.mg_of X G a19) k19 b19 K19
  have F20 := fun_mk (st := st__law_one) l20 c20 k20
  have v20 := FunV.of F20
  have K20 := ok__law_one (P := l.prog) (w := w) (mg := mg) (base := base) v20 Z C19
  have b20 := F20.binds (ps := ["_law_feed_here", "_law_things"]) fun _ _ _ _ _ _ us hl => match us, hl with | [_, _], _ => rfl
  have C20 : CalG l.prog w K mg base "_law_one" 2 R__law_one := calG_of (PySem.W.mg_of X G a20) k20 b20 K20
  have F21 := fun_mk (st := st__law_mixed) l21 c21 k21
  have v21 := FunV.of F21
  have K21 := ok__law_mixed (P := l.prog) (w := w) (mg := mg) (base := base) v21 Z C19
  have b21 := F21.binds (ps := ["_law_feed_here", "_law_things"]) fun _ _ _ _ _ _ us hl => match us, hl with | [_, _], _ => rfl
  have C21 : CalG l.prog w K mg base "_law_mixed" 2 R__law_mixed := calG_of (PySem.W.mg_of X G a21) k21 b21 K21
  have F22 := fun_mk (st := st__law_names) l22 c22 k22
  have v22 := FunV.of F22
  have K22 := ok__law_names (P := l.prog) (w := w) (mg := mg) (base := base) v22 C21
  have b22 := F22.binds (ps := ["_law_feed_here", "_law_many"]) fun _ _ _ _ _ _ us hl => match us, hl with | [_, _], _ => rfl
  have C22 : CalG l.prog w K mg base "_law_names" 3 R__law_names := calG_of (PySem.W.mg_of X G a22) k22 b22 K22
  have F23 := fun_mk (st := st__law_sized) l23 c23 k23
  have v23 := FunV.of F23
  have K23 := ok__law_sized (P := l.prog) (w := w) (mg := mg) (base := base) v23 Z C19 C21 C22
  have b23 := F23.binds (ps := ["_law_feed_here", "_law_many", "_law_more"]) fun _ _ _ _ _ _ us hl => match us, hl with | [_, _, _], _ => rfl
  have C23 : CalG l.prog w K mg base "_law_sized" 4 R__law_sized := calG_of (PySem.W.mg_of X G a23) k23 b23 K23
  have F24 := fun_mk (st := st__law_rotas) l24 c24 k24
  have v24 := FunV.of F24
  have K24 := ok__law_rotas (P := l.prog) (w := w) (mg := mg) (base := base) v24
  have b24 := F24.binds (ps := ["_law_web"]) fun _ _ _ _ _ _ us hl => match us, hl with | [_], _ => rfl
  have C24 : CalG l.prog w K mg base "_law_rotas" 1 R__law_rotas := calG_of (PySem.W.mg_of X G a24) k24 b24 K24
  have F25 := fun_mk (st := st__law_no_web) l25 c25 k25
  have v25 := FunV.of F25
  have K25 := ok__law_no_web (P := l.prog) (w := w) (mg := mg) (base := base) v25 Z C20
  have b25 := F25.binds (ps := ["_law_feed_here", "_law_web"]) fun _ _ _ _ _ _ us hl => match us, hl with | [_, _], _ => rfl
  have C25 : CalG l.prog w K mg base "_law_no_web" 3 R__law_no_web := calG_of (PySem.W.mg_of X G a25) k25 b25 K25
  have F26 := fun_mk (st := st__law_bad_web) l26 c26 k26
  have v26 := FunV.of F26
  have K26 := ok__law_bad_web (P := l.prog) (w := w) (mg := mg) (base := base) v26 Z C19 C25 C20
  have b26 := F26.binds (ps := ["_law_feed_here", "_law_web"]) fun _ _ _ _ _ _ us hl => match us, hl with | [_, _], _ => rfl
  have C26 : CalG l.prog w K mg base "_law_bad_web" 4 R__law_bad_web44 := calG_of (PySem.W.mg_of X G a26) k26 b26 K26
  have F27 := fun_mk (st := st__law_bad_place) l27 c27 k27
  have v27 := FunV.of F27
  have K27 := ok__law_bad_place (P := l.prog) (w := w) (mg := mg) (base := base) v27 C20
  have b27 := F27.binds (ps := ["_law_feed_here", "_law_web"]) fun _ _ _ _ _ _ us hl => match us, hl with | [_, _], _ => rfl
  have C27 : CalG l.prog w K mg base "_law_bad_place" 3 R__law_bad_place44 := calG_of (PySem.W.mg_of X G a27) k27 b27 K27
  have F28 := fun_mk (st := st__law_walked) l28 c28 k28
  have v28 := FunV.of F28
  have K28 := ok__law_walked (P := l.prog) (w := w) (mg := mg) (base := base) v28 Z
  have b28 := F28.binds (ps := ["_law_web", "_law_rota", "_law_have"]) fun _ _ _ _ _ _ us hl => match us, hl with | [_, _, _], _ => rfl
  have C28 : CalG l.prog w K mg base "_law_walked" 1 R__law_walked := calG_of (PySem.W.mg_of X G a28) k28 b28 K28
  have F29 := fun_mk (st := st__law_brings) l29 c29 k29
  have v29 := FunV.of F29
  have K29 := ok__law_brings (P := l.prog) (w := w) (mg := mg) (base := base) v29 C28
  have b29 := F29.binds (ps := ["_law_web", "_law_rota", "_law_place"]) fun _ _ _ _ _ _ us hl => match us, hl with | [_, _, _], _ => rfl
  have C29 : CalG l.prog w K mg base "_law_brings" 2 R__law_brings := calG_of (PySem.W.mg_of X G a29) k29 b29 K29
  have F30 := fun_mk (st := st__law_can_bring) l30 c30 k30
  have v30 := FunV.of F30
  have K30 := ok__law_can_bring (P := l.prog) (w := w) (mg := mg) (base := base) v30 C28
  have b30 := F30.binds (ps := ["_law_web", "_law_roads", "_law_haves", "_law_place"]) fun _ _ _ _ _ _ us hl => match us, hl with | [_, _, _, _], _ => rfl
  have C30 : CalG l.prog w K mg base "_law_can_bring" 2 R__law_can_bring := calG_of (PySem.W.mg_of X G a30) k30 b30 K30
  have F31 := fun_mk (st := st__law_is_first) l31 c31 k31
  have v31 := FunV.of F31
  have K31 := ok__law_is_first (P := l.prog) (w := w) (mg := mg) (base := base) v31 Z C29 C30 C28
  have b31 := F31.binds (ps := ["_law_web", "_law_place", "_law_rota"]) fun _ _ _ _ _ _ us hl => match us, hl with | [_, _, _], _ => rfl
  have C31 : CalG l.prog w K mg base "_law_is_first" 3 R__law_is_first45 := calG_of (PySem.W.mg_of X G a31) k31 b31 K31
  have F32 := fun_mk (st := st__law_flags) l32 c32 k32
  have v32 := FunV.of F32
  have K32 := ok__law_flags (P := l.prog) (w := w) (mg := mg) (base := base) v32 Z Er C17
  have b32 := F32.binds (ps := ["_law_web", "_law_place"]) fun _ _ _ _ _ _ us hl => match us, hl with | [_, _], _ => rfl
  have C32 : CalG l.prog w K mg base "_law_flags" 8 R__law_flags45 := calG_of (PySem.W.mg_of X G a32) k32 b32 K32
  have F33 := fun_mk (st := st_law) l33 c33 k33
  have v33 := FunV.of F33
  exact ok_law v33 Z C27 C26 C29 C19 C18 C32 C31 C20 C24 C23 C28 C16 C17 CK17
end
end K45
open PySem PySem.W PyProof.Rows
set_option maxRecDepth 100000 in
set_option maxHeartbeats 0 in
theorem PySem.Challenge.cw_roundpost_k45_best_home_backwards_holds : PySem.Challenge.rw_roundpost_k45_best_home_backwards.Holds := by
  w_on; o_law; k_head; (case hw => w_witness2)
  k_fill
  refine Dl.walkG (l := PySem.Challenge.rw_roundpost_k45_best_home_backwards) (n := 63) (k := 9) (x := "_law_script") (C := fun w => L2.CX PySem.Challenge.rw_roundpost_k45_best_home_backwards.prog w) (sp := fun w => Dl.SpD _ Rp.R_law) rfl (by decide) rfl ⟨rfl, by decide, by decide⟩ (fun w h Y => PySem.W.kIn_of Y) ?F (fun _ _ a ns hl hbits on hS => K45.law_prom hl hbits hS) (fun _ _ _ _ _ h => K45.law_noex h)
  case F =>
    intro w mg fa h KX G hmg
    refine' K45.all_mk KX G hmg ?a0 ?l0 ?c0 ?k0 ?a1 ?l1 ?c1 ?k1 ?a2 ?l2 ?c2 ?k2 ?a3 ?l3 ?c3 ?k3 ?a4 ?l4 ?c4 ?k4 ?a5 ?l5 ?c5 ?k5 ?a6 ?l6 ?c6 ?k6 ?a7 ?l7 ?c7 ?k7 ?a8 ?l8 ?c8 ?k8 ?a9 ?l9 ?c9 ?k9 ?a10 ?l10 ?c10 ?k10 ?a11 ?l11 ?c11 ?k11 ?a12 ?l12 ?c12 ?k12 ?a13 ?l13 ?c13 ?k13 ?a14 ?l14 ?c14 ?k14 ?a15 ?l15 ?c15 ?k15 ?a16 ?l16 ?c16 ?k16 ?a17 ?l17 ?c17 ?k17 ?a18 ?l18 ?c18 ?k18 ?a19 ?l19 ?c19 ?k19 ?a20 ?l20 ?c20 ?k20 ?a21 ?l21 ?c21 ?k21 ?a22 ?l22 ?c22 ?k22 ?a23 ?l23 ?c23 ?k23 ?a24 ?l24 ?c24 ?k24 ?a25 ?l25 ?c25 ?k25 ?a26 ?l26 ?c26 ?k26 ?a27 ?l27 ?c27 ?k27 ?a28 ?l28 ?c28 ?k28 ?a29 ?l29 ?c29 ?k29 ?a30 ?l30 ?c30 ?k30 ?a31 ?l31 ?c31 ?k31 ?a32 ?l32 ?c32 ?k32 ?a33 ?l33 ?c33 ?k33 ?g_MOST_PLACES ?g_MOST_ROADS ?g_MOST_SIGNS ?e0 ?e1 ?e2 ?e3 ?z0 ?z1 ?z2 ?z3 ?z4 ?z5 ?z6 ?z7 ?z8 ?z9 ?z10 ?z11 ?z12 ?z13 ?z14 ?z15 ?z16 ?z17 ?z18 ?z19 ?ck
    (case a0 => k_is)
    (case l0 => k_is)
    (case c0 => k_is)
    (case k0 => k_is)
    (case a1 => k_is)
    (case l1 => k_is)
    (case c1 => k_is)
    (case k1 => k_is)
    (case a2 => k_is)
    (case l2 => k_is)
    (case c2 => k_is)
    (case k2 => k_is)
    (case a3 => k_is)
    (case l3 => k_is)
    (case c3 => k_is)
    (case k3 => k_is)
    (case a4 => k_is)
    (case l4 => k_is)
    (case c4 => k_is)
    (case k4 => k_is)
    (case a5 => k_is)
    (case l5 => k_is)
    (case c5 => k_is)
    (case k5 => k_is)
    (case a6 => k_is)
    (case l6 => k_is)
    (case c6 => k_is)
    (case k6 => k_is)
    (case a7 => k_is)
    (case l7 => k_is)
    (case c7 => k_is)
    (case k7 => k_is)
    (case a8 => k_is)
    (case l8 => k_is)
    (case c8 => k_is)
    (case k8 => k_is)
    (case a9 => k_is)
    (case l9 => k_is)
    (case c9 => k_is)
    (case k9 => k_is)
    (case a10 => k_is)
    (case l10 => k_is)
    (case c10 => k_is)
    (case k10 => k_is)
    (case a11 => k_is)
    (case l11 => k_is)
    (case c11 => k_is)
    (case k11 => k_is)
    (case a12 => k_is)
    (case l12 => k_is)
    (case c12 => k_is)
    (case k12 => k_is)
    (case a13 => k_is)
    (case l13 => k_is)
    (case c13 => k_is)
    (case k13 => k_is)
    (case a14 => k_is)
    (case l14 => k_is)
    (case c14 => k_is)
    (case k14 => k_is)
    (case a15 => k_is)
    (case l15 => k_is)
    (case c15 => k_is)
    (case k15 => k_is)
    (case a16 => k_is)
    (case l16 => k_is)
    (case c16 => k_is)
    (case k16 => k_is)
    (case a17 => k_is)
    (case l17 => k_is)
    (case c17 => k_is)
    (case k17 => k_is)
    (case a18 => k_is)
    (case l18 => k_is)
    (case c18 => k_is)
    (case k18 => k_is)
    (case a19 => k_is)
    (case l19 => k_is)
    (case c19 => k_is)
    (case k19 => k_is)
    (case a20 => k_is)
    (case l20 => k_is)
    (case c20 => k_is)
    (case k20 => k_is)
    (case a21 => k_is)
    (case l21 => k_is)
    (case c21 => k_is)
    (case k21 => k_is)
    (case a22 => k_is)
    (case l22 => k_is)
    (case c22 => k_is)
    (case k22 => k_is)
    (case a23 => k_is)
    (case l23 => k_is)
    (case c23 => k_is)
    (case k23 => k_is)
    (case a24 => k_is)
    (case l24 => k_is)
    (case c24 => k_is)
    (case k24 => k_is)
    (case a25 => k_is)
    (case l25 => k_is)
    (case c25 => k_is)
    (case k25 => k_is)
    (case a26 => k_is)
    (case l26 => k_is)
    (case c26 => k_is)
    (case k26 => k_is)
    (case a27 => k_is)
    (case l27 => k_is)
    (case c27 => k_is)
    (case k27 => k_is)
    (case a28 => k_is)
    (case l28 => k_is)
    (case c28 => k_is)
    (case k28 => k_is)
    (case a29 => k_is)
    (case l29 => k_is)
    (case c29 => k_is)
    (case k29 => k_is)
    (case a30 => k_is)
    (case l30 => k_is)
    (case c30 => k_is)
    (case k30 => k_is)
    (case a31 => k_is)
    (case l31 => k_is)
    (case c31 => k_is)
    (case k31 => k_is)
    (case a32 => k_is)
    (case l32 => k_is)
    (case c32 => k_is)
    (case k32 => k_is)
    (case a33 => k_is)
    (case l33 => k_is)
    (case c33 => k_is)
    (case k33 => k_is)
    (case g_MOST_PLACES => k_is)
    (case g_MOST_ROADS => k_is)
    (case g_MOST_SIGNS => k_is)
    (case e0 => k_is)
    (case e1 => k_is)
    (case e2 => k_is)
    (case e3 => k_is)
    (case z0 => k_is)
    (case z1 => k_is)
    (case z2 => k_is)
    (case z3 => k_is)
    (case z4 => k_is)
    (case z5 => k_is)
    (case z6 => k_is)
    (case z7 => k_is)
    (case z8 => k_is)
    (case z9 => k_is)
    (case z10 => k_is)
    (case z11 => k_is)
    (case z12 => k_is)
    (case z13 => k_is)
    (case z14 => k_is)
    (case z15 => k_is)
    (case z16 => k_is)
    (case z17 => k_is)
    (case z18 => k_is)
    (case z19 => k_is)
    (case ck => kernel_rfl)
