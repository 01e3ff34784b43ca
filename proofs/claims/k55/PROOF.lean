import PyProof.Rows.All
import Wide.All
import OpenK.AllK
import Wide.FinOn
import PyProof.EqAt
import PyProof.EqKinds
import PyProof.TupleCall
import HandS.ForExc
import HandS.ForMost
import HandS.Style
import HandS.TupAny
import HandS.Zip
import HandS.RaiseMore
import HandS.Wide
import HandS.IsInst
import HandS.StrMore
import HandS.Ends
import PyProof.ReprRoads
import HandS.DictComp
import HandS.SetBool
import HandS.SetKeys
import HandS.Strs
import HandS.More
import HandS.TupLe
import HandS.Deep
import PyProof.P3In
import KE.GoesEnum
import KE.KIndexOf
import KE.DataMinMax
import HandS.Star
import HandS.SortKw
import HandS.SetFor
import HandS.Defaults
import PySem.Challenge.RW_roundpost_k55_denials_as_early_as_the_ne
set_option Elab.async false
set_option linter.all false
set_option maxRecDepth 100000
set_option maxHeartbeats 4000000
/-! A second layer: readings over data. What a slot holds is data, a mutable cell, or a value as it is. -/
namespace Dl
open PySem PySem.Spec PyProof.Rows L2

/-- a tuple that is known to be nothing but a tuple -/
def SqN (K : PySem.W.Frag) (F : Hp) (a : Addr) (vs : List V) : Prop :=
  (∃ o : Obj, F a = some (.frz o (.tup vs)) ∧ o.dict = none) ∨
    ∃ (o : Obj) (its : Array Value) (n : Nat), K.lookup a = some o ∧ o.cls = .type "tuple" ∧ o.dict = none ∧ o.data = .seq its n ∧ its.size ≤ sizeLine ∧ Vals vs its.toList
theorem SqN.t {K : PySem.W.Frag} {F : Hp} {a : Addr} {vs : List V} (h : SqN K F a vs) : SqT K F a vs := by
  rcases h with ⟨o, h, _⟩ | ⟨o, its, n, h1, h2, _, h4, h5, h6⟩
  · exact .inl (.inr ⟨o, h⟩)
  · exact .inr ⟨o, its, n, h1, h2, h4, h5, h6⟩
theorem SqN.mono {K : PySem.W.Frag} {F F' : Hp} {a : Addr} {vs : List V} (s : Same F F') (h : SqN K F a vs) : SqN K F' a vs := by
  rcases h with ⟨o, h, x⟩ | h
  · exact .inl ⟨o, s _ _ h, x⟩
  · exact .inr h
mutual
inductive Dp (K : PySem.W.Frag) (F : Hp) : V → PyData → Prop
  | non : Dp K F .non .none
  | bl (b : Bool) : Dp K F (.bl b) (.bool b)
  | int (i : Int) : Dp K F (.int i) (.int i)
  | str (x : Str) : Dp K F (.str x) (.str x)
  | lst {a : Addr} {vs : List V} {ds : List PyData} : SqL K F a vs → DpAll K F vs ds → Dp K F (.ref a) (.list ds)
  | tup {a : Addr} {vs : List V} {ds : List PyData} : SqN K F a vs → DpAll K F vs ds → Dp K F (.ref a) (.tuple ds)
inductive DpAll (K : PySem.W.Frag) (F : Hp) : List V → List PyData → Prop
  | nil : DpAll K F [] []
  | cons {v : V} {vs : List V} {d : PyData} {ds : List PyData} : Dp K F v d → DpAll K F vs ds → DpAll K F (v :: vs) (d :: ds)
end
theorem Dp.lib_aux {K : PySem.W.Frag} {F : Hp} : ∀ n : Nat, (∀ d v, sizeOf d ≤ n → Dp K F v d → L2.Dp K F v d) ∧ (∀ ds vs, sizeOf ds ≤ n → DpAll K F vs ds → L2.DpAll K F vs ds)
  | 0 => ⟨fun d v h => by cases d <;> simp at h, fun ds vs h => by cases ds <;> simp at h⟩
  | n + 1 => by
    obtain ⟨i1, i2⟩ := Dp.lib_aux (K := K) (F := F) n
    refine ⟨fun d v h q => ?_, fun ds vs h q => ?_⟩
    · cases q with
      | non => exact .non
      | bl b => exact .bl b
      | int i => exact .int i
      | str x => exact .str x
      | lst a b => exact .lst a (i2 _ _ (by simp at h; omega) b)
      | tup a b => exact .tup a.t (i2 _ _ (by simp at h; omega) b)
    · cases q with
      | nil => exact .nil
      | cons a b => exact .cons (i1 _ _ (by simp at h; omega) a) (i2 _ _ (by simp at h; omega) b)
theorem Dp.lib {K : PySem.W.Frag} {F : Hp} {v : V} {d : PyData} (h : Dp K F v d) : L2.Dp K F v d := (Dp.lib_aux _).1 d v (Nat.le_refl _) h
/-- what a name may stand for: data that is never changed again, a cell (a list or dict that may change), a value as it is -/
inductive A where
  | d (x : PyData)
  | c (i : Nat)
  | v (x : V)
  | x (a : Addr) (cls : Value) (d : Option Addr) (o : Option (List (Str × PyData)))
/-- what a cell holds -/
inductive O where
  | dead
  | lst (xs : List A)
  | dct (kvs : List (Key × A))
  | fdct (o : Obj) (vs : List (Key × V)) (kvs : List (Key × A))
abbrev Mu := List O
abbrev Rho := List (Option A)

section
variable (K : PySem.W.Frag)
/-- an exception's fields -/
def XdOk (F : Hp) : Option (List (Str × PyData)) → Option Addr → Prop
  | none, none => True
  | some fs, some dd => ∃ vs, F dd = some (.xd vs) ∧ Paired (fun p q => p.1 = q.1 ∧ Dp K F p.2 q.2) vs fs
  | _, _ => False
def Ab (F : Hp) (al : List Addr) : V → A → Prop
  | v, .d x => Dp K F v x
  | v, .c i => ∃ a, al[i]? = some a ∧ v = .ref a
  | v, .v x => v = x
  | v, .x a _ d o => v = .ref a ∧ XdOk K F o d
def AbO (F : Hp) (al : List Addr) : HO → O → Prop
  | _, .dead => True
  | .lst vs, .lst xs => Paired (Ab K F al) vs xs
  | .dK kvs, .dct ks => Paired (fun p q => p.1 = q.1 ∧ Ab K F al p.2 q.2) kvs ks
  | .frz o (.dK kvs), .fdct o' vs ks => (o = o' ∧ kvs = vs) ∧ Paired (fun p q => p.1 = q.1 ∧ Ab K F al p.2 q.2) kvs ks
  | _, _ => False
/-- F: the part of the heap that stays; al: the cells' addresses; H: the heap -/
structure Sto (F : Hp) (al : List Addr) (mu : Mu) (H : Hp) : Prop where
  sub : Same F H
  nd : al.Nodup
  len : al.length = mu.length
  cell : ∀ (i : Nat) a o, al[i]? = some a → mu[i]? = some o → ∃ ho, H a = some ho ∧ (o ≠ .dead → F a = none ∧ AbO K F al ho o)
structure Slots (F : Hp) (al : List Addr) (σ : L2.St) (ρ : Rho) : Prop where
  len : σ.length = ρ.length
  at_ : ∀ (i : Nat) x, ρ[i]? = some (some x) → ∃ v, σ[i]? = some (some v) ∧ Ab K F al v x
end
structure Grow (F : Hp) (al : List Addr) (H F' : Hp) (al' : List Addr) (H' : Hp) : Prop where
  f : Same F F'
  px : al <+: al'
  fr : ∀ b o, H b = some o → b ∉ al → H' b = some o
  nw : ∀ a ∈ al', a ∈ al ∨ H a = none
  fz : ∀ b o, F' b = some o → F b = some o ∨ H b = none ∨ b ∈ al

section
variable {K : PySem.W.Frag} {F F1 F2 F' : Hp} {al al1 al2 al' : List Addr} {H H1 H2 H' : Hp} {μ μ' : Mu} {σ : L2.St} {ρ : Rho}
theorem Grow.refl : Grow F al H F al H := ⟨Same.refl _, List.prefix_refl _, fun _ _ h _ => h, fun _ h => .inl h, fun _ _ h => .inl h⟩
theorem Grow.trans (a : Grow F al H F1 al1 H1) (b : Grow F1 al1 H1 F2 al2 H2) : Grow F al H F2 al2 H2 where
  f := a.f.trans b.f
  px := List.IsPrefix.trans a.px b.px
  fr := fun x o h n => b.fr x o (a.fr x o h n) fun m => (a.nw x m).elim n fun z => by rw [z] at h; cases h
  nw := fun x m => (b.nw x m).elim (a.nw x) fun z => by
    by_cases q : x ∈ al
    · exact .inl q
    · refine .inr ?_
      cases e : H x with
      | none => rfl
      | some o =>
        rw [a.fr x o e q] at z
        cases z
  fz := fun x o h => (b.fz x o h).elim (a.fz x o) fun z => by
    by_cases q : x ∈ al
    · exact .inr (.inr q)
    · cases e : H x with
      | none => exact .inr (.inl rfl)
      | some u =>
        have z1 := a.fr x u e q
        rcases z with z | z
        · rw [z1] at z
          cases z
        · rcases a.nw x z with y | y
          · exact absurd y q
          · rw [e] at y
            cases y
theorem Dp.mono_aux (s : Same F F') : ∀ n : Nat, (∀ d v, sizeOf d ≤ n → Dp K F v d → Dp K F' v d) ∧ (∀ ds vs, sizeOf ds ≤ n → DpAll K F vs ds → DpAll K F' vs ds)
  | 0 => ⟨fun d v h => by cases d <;> simp at h, fun ds vs h => by cases ds <;> simp at h⟩
  | n + 1 => by
    obtain ⟨i1, i2⟩ := Dp.mono_aux s n
    refine ⟨fun d v h q => ?_, fun ds vs h q => ?_⟩
    · cases q with
      | non => exact .non
      | bl b => exact .bl b
      | int i => exact .int i
      | str x => exact .str x
      | lst a b => exact .lst (s.seq a) (i2 _ _ (by simp at h; omega) b)
      | tup a b => exact .tup (a.mono s) (i2 _ _ (by simp at h; omega) b)
    · cases q with
      | nil => exact .nil
      | cons a b => exact .cons (i1 _ _ (by simp at h; omega) a) (i2 _ _ (by simp at h; omega) b)
theorem Dp.mono {v : V} {d : PyData} (s : Same F F') (h : Dp K F v d) : Dp K F' v d := (Dp.mono_aux s _).1 d v (Nat.le_refl _) h
theorem DpAll.mono {vs : List V} {ds : List PyData} (s : Same F F') (h : DpAll K F vs ds) : DpAll K F' vs ds := (Dp.mono_aux s _).2 ds vs (Nat.le_refl _) h
theorem Paired.impl {α β : Type} {R R' : α → β → Prop} (f : ∀ a b, R a b → R' a b) : ∀ {l : List α} {m : List β}, Paired R l m → Paired R' l m
  | _, _, .nil => .nil
  | _, _, .cons a b => .cons (f _ _ a) (Paired.impl f b)
theorem XdOk.mono {o : Option (List (Str × PyData))} {d : Option Addr} (s : Same F F') (h : XdOk K F o d) : XdOk K F' o d := by
  cases o with
  | none => cases d <;> exact h
  | some fs =>
    cases d with
    | none => exact h.elim
    | some dd =>
      obtain ⟨vs, e, p⟩ := h
      exact ⟨vs, s _ _ e, Paired.impl (fun _ _ z => ⟨z.1, Dp.mono s z.2⟩) p⟩
theorem Ab.mono {v : V} {x : A} (s : Same F F') (p : al <+: al') (h : Ab K F al v x) : Ab K F' al' v x := by
  cases x with
  | d x => exact Dp.mono s h
  | c i =>
    obtain ⟨a, e, r⟩ := h
    obtain ⟨t, rfl⟩ := p
    exact ⟨a, by rw [List.getElem?_append_left (List.getElem?_eq_some_iff.mp e).1]; exact e, r⟩
  | v x => exact h
  | x a c d o => exact ⟨h.1, h.2.mono s⟩
theorem AbO.mono {ho : HO} {o : O} (s : Same F F') (p : al <+: al') (h : AbO K F al ho o) : AbO K F' al' ho o := by
  cases o with
  | dead => cases ho <;> trivial
  | lst xs =>
    cases ho with
    | lst vs => exact Paired.impl (fun _ _ => Ab.mono s p) h
    | _ => exact h.elim
  | dct ks =>
    cases ho with
    | dK kvs => exact Paired.impl (fun _ _ z => ⟨z.1, z.2.mono s p⟩) h
    | _ => exact h.elim
  | fdct oo vs ks =>
    cases ho with
    | frz o u =>
      cases u with
      | dK kvs => exact ⟨h.1, Paired.impl (fun _ _ z => ⟨z.1, z.2.mono s p⟩) h.2⟩
      | _ => exact h.elim
    | _ => exact h.elim
theorem Slots.mono (s : Same F F') (p : al <+: al') (h : Slots K F al σ ρ) : Slots K F' al' σ ρ :=
  ⟨h.len, fun i x e => let ⟨v, e1, a⟩ := h.at_ i x e; ⟨v, e1, a.mono s p⟩⟩
theorem Sto.has (S : Sto K F al μ H) {a : Addr} (h : a ∈ al) : ∃ ho, H a = some ho := by
  obtain ⟨i, e⟩ := List.mem_iff_getElem?.mp h
  have lt : i < μ.length := by
    rw [← S.len]
    exact (List.getElem?_eq_some_iff.mp e).1
  obtain ⟨ho, e1, _⟩ := S.cell i a _ e (List.getElem?_eq_getElem lt)
  exact ⟨ho, e1⟩
/-- a new thing that stays -/
theorem Sto.lay (S : Sto K F al μ H) {p : Addr} {o : HO} (hp : H p = none) : Sto K (upd F p o) al μ (upd H p o) ∧ Grow F al H (upd F p o) al (upd H p o) := by
  have fp : F p = none := by
    cases e : F p with
    | none => rfl
    | some u =>
      rw [S.sub _ _ e] at hp
      cases hp
  have sf : Same F (upd F p o) := fun b u e => by
    rw [upd_ne (ne_of_none e fp)]
    exact e
  have sh : Same H (upd H p o) := fun b u e => by
    rw [upd_ne (ne_of_none e hp)]
    exact e
  refine ⟨⟨fun b u e => ?_, S.nd, S.len, fun i a u e1 e2 => ?_⟩, ⟨sf, List.prefix_refl _, fun b u e _ => sh b u e, fun a h => .inl h, fun b u e => ?_⟩⟩
  · by_cases z : b = p
    · rw [z, upd_same] at e
      rw [z, upd_same]
      exact e
    · rw [upd_ne z] at e
      rw [upd_ne z]
      exact S.sub _ _ e
  · obtain ⟨ho, h1, h2⟩ := S.cell i a u e1 e2
    refine ⟨ho, sh _ _ h1, fun nd => ⟨?_, (h2 nd).2.mono sf (List.prefix_refl _)⟩⟩
    rw [upd_ne (ne_of_none h1 hp)]
    exact (h2 nd).1
  · by_cases z : b = p
    · rw [z]
      exact .inr (.inl hp)
    · rw [upd_ne z] at e
      exact .inl e
/-- a new cell -/
theorem Sto.cellNew (S : Sto K F al μ H) {p : Addr} {ho : HO} {o : O} (hp : H p = none) (h : AbO K F al ho o) : Sto K F (al ++ [p]) (μ ++ [o]) (upd H p ho) ∧ Grow F al H F (al ++ [p]) (upd H p ho) := by
  have fp : F p = none := by
    cases e : F p with
    | none => rfl
    | some u =>
      rw [S.sub _ _ e] at hp
      cases hp
  have np : p ∉ al := fun m => by
    obtain ⟨u, e⟩ := S.has m
    rw [e] at hp
    cases hp
  have sh : Same H (upd H p ho) := fun b u e => by
    rw [upd_ne (ne_of_none e hp)]
    exact e
  have px : al <+: al ++ [p] := ⟨[p], rfl⟩
  refine ⟨⟨fun b u e => sh _ _ (S.sub _ _ e), ?_, by rw [List.length_append, List.length_append, S.len] <;> rfl, fun i a u e1 e2 => ?_⟩, ⟨Same.refl _, px, fun b u e _ => sh b u e, fun a h => ?_, fun b u e => .inl e⟩⟩
  · rw [List.nodup_append]
    refine ⟨S.nd, by simp, fun a ha b hb e => ?_⟩
    rw [List.mem_singleton] at hb
    subst hb e
    exact np ha
  · rcases Nat.lt_or_ge i al.length with lt | ge
    · rw [List.getElem?_append_left lt] at e1
      rw [List.getElem?_append_left (by rw [← S.len]; exact lt)] at e2
      obtain ⟨w, h1, h2⟩ := S.cell i a u e1 e2
      exact ⟨w, sh _ _ h1, fun nd => ⟨(h2 nd).1, (h2 nd).2.mono (Same.refl _) px⟩⟩
    · rw [List.getElem?_append_right ge] at e1
      rw [List.getElem?_append_right (by rw [← S.len]; exact ge)] at e2
      have z : i - al.length = 0 := by
        have := (List.getElem?_eq_some_iff.mp e1).1
        simp at this
        omega
      rw [z] at e1
      rw [← S.len, z] at e2
      obtain rfl : p = a := Option.some.inj e1
      obtain rfl : o = u := Option.some.inj e2
      exact ⟨ho, upd_same, fun _ => ⟨fp, h.mono (Same.refl _) px⟩⟩
  · rcases List.mem_append.mp h with z | z
    · exact .inl z
    · rw [List.mem_singleton] at z
      subst z
      exact .inr hp
/-- a cell is written -/
theorem Sto.put (S : Sto K F al μ H) {i : Nat} {a : Addr} {ho : HO} {o o' : O} (hi : al[i]? = some a) (ho_ : μ[i]? = some o) (nd : o ≠ .dead) (h : AbO K F al ho o') : Sto K F al (μ.set i o') (upd H a ho) ∧ Grow F al H F al (upd H a ho) := by
  obtain ⟨u, h1, h2⟩ := S.cell i a o hi ho_
  have fa := (h2 nd).1
  refine ⟨⟨fun b x e => ?_, S.nd, by rw [List.length_set]; exact S.len, fun j b x e1 e2 => ?_⟩, ⟨Same.refl _, List.prefix_refl _, fun b x e n => ?_, fun _ m => .inl m, fun _ _ e => .inl e⟩⟩
  · rw [upd_ne (ne_of_none e fa)]
    exact S.sub _ _ e
  · by_cases z : j = i
    · subst z
      rw [hi] at e1
      obtain rfl : a = b := Option.some.inj e1
      rw [List.getElem?_set_self (List.getElem?_eq_some_iff.mp ho_).1] at e2
      obtain rfl : o' = x := Option.some.inj e2
      exact ⟨ho, upd_same, fun _ => ⟨fa, h⟩⟩
    · rw [List.getElem?_set_ne (Ne.symm z)] at e2
      obtain ⟨w, w1, w2⟩ := S.cell j b x e1 e2
      have nb : b ≠ a := fun e => by
        subst e
        exact z (nd_ix S.nd e1 hi)
      exact ⟨w, by rw [upd_ne nb]; exact w1, w2⟩
  · have nb : b ≠ a := fun e => n (by rw [e]; exact List.mem_of_getElem? hi)
    rw [upd_ne nb]
    exact e
end
end Dl

set_option Elab.async false
set_option linter.all false
set_option maxRecDepth 100000
set_option maxHeartbeats 4000000
namespace Dl
open PySem PySem.Spec PyProof.Rows L2

abbrev DK := A → Mu → Prop
abbrev DT := Rho → Mu → DK → Prop
abbrev DTT := Rho → Mu → (Bool → Mu → Prop) → Prop
abbrev DAT := Rho → Mu → (List A → Mu → Prop) → Prop
section
variable (K : PySem.W.Frag) (F : Hp) (al : List Addr) (H : Hp)
def Ko (P : DK) (Q : VK) : Prop := ∀ v x μ' F' al' H', P x μ' → Grow F al H F' al' H' → Sto K F' al' μ' H' → Ab K F' al' v x → Q v H'
def KoT (P : Bool → Mu → Prop) (Q : Bool → Hp → Prop) : Prop := ∀ b μ' F' al' H', P b μ' → Grow F al H F' al' H' → Sto K F' al' μ' H' → Q b H'
def KoA (P : List A → Mu → Prop) (Q : List V → Hp → Prop) : Prop := ∀ vs xs μ' F' al' H', P xs μ' → Grow F al H F' al' H' → Sto K F' al' μ' H' → Paired (Ab K F' al') vs xs → Q vs H'
end
def SimE (K : PySem.W.Frag) (t : TE) (d : DT) : Prop := ∀ ρ μ P, d ρ μ P → ∀ F al σ H, Sto K F al μ H → Slots K F al σ ρ → ∀ Q, Ko K F al H P Q → t σ H Q
def SimT (K : PySem.W.Frag) (t : TT) (d : DTT) : Prop := ∀ ρ μ P, d ρ μ P → ∀ F al σ H, Sto K F al μ H → Slots K F al σ ρ → ∀ Q, KoT K F al H P Q → t σ H Q
def SimA (K : PySem.W.Frag) (t : TA) (d : DAT) : Prop := ∀ ρ μ P, d ρ μ P → ∀ F al σ H, Sto K F al μ H → Slots K F al σ ρ → ∀ Q, KoA K F al H P Q → t σ H Q
def SimR2 (K : PySem.W.Frag) (r : R2) (rd : A → A → Mu → DK → Prop) : Prop := ∀ x y μ P, rd x y μ P → ∀ F al H v w, Sto K F al μ H → Ab K F al v x → Ab K F al w y → ∀ Q, Ko K F al H P Q → r v w H Q
def SimC (K : PySem.W.Frag) (r : List V → Hp → VK → Prop) (rd : List A → Mu → DK → Prop) : Prop := ∀ xs μ P, rd xs μ P → ∀ F al H vs, Sto K F al μ H → Paired (Ab K F al) vs xs → ∀ Q, Ko K F al H P Q → r vs H Q
def SimM (K : PySem.W.Frag) (T : String) (r : V → List V → Hp → VK → Prop) (rd : A → List A → Mu → DK → Prop) : Prop := ∀ x xs μ P, rd x xs μ P → ∀ F al H v vs, Sto K F al μ H → Ab K F al v x → Paired (Ab K F al) vs xs → ∀ Q, Ko K F al H P Q → r v vs H Q
structure DE (X : Cx) (e : Expr) (d : DT) : Prop where
  ex : ∃ t, PE X e t ∧ SimE X.K t d
structure DTest (X : Cx) (e : Expr) (d : DTT) : Prop where
  ex : ∃ t, PT X e t ∧ SimT X.K t d
structure DW (X : Cx) (e : Expr) (d : DTT) : Prop where
  ex : ∃ t, PW X e t ∧ SimT X.K t d
structure DA (X : Cx) (es : List Expr) (d : DAT) : Prop where
  ex : ∃ t, PA X es t ∧ SimA X.K t d

section
variable {K : PySem.W.Frag} {F F1 F' : Hp} {al al1 al' : List Addr} {H H1 H' : Hp} {μ μ' : Mu} {σ : L2.St} {ρ : Rho} {P : DK} {Q : VK}
theorem Ko.now {v : V} {x : A} (k : Ko K F al H P Q) (h : P x μ) (S : Sto K F al μ H) (a : Ab K F al v x) : Q v H := k v x μ F al H h Grow.refl S a
theorem Ko.fwd (k : Ko K F al H P Q) (g : Grow F al H F1 al1 H1) : Ko K F1 al1 H1 P Q := fun v x μ' F' al' H' h g' S a => k v x μ' F' al' H' h (g.trans g') S a
theorem KoT.fwd {P : Bool → Mu → Prop} {Q : Bool → Hp → Prop} (k : KoT K F al H P Q) (g : Grow F al H F1 al1 H1) : KoT K F1 al1 H1 P Q := fun b μ' F' al' H' h g' S => k b μ' F' al' H' h (g.trans g') S
theorem KoA.fwd {P : List A → Mu → Prop} {Q : List V → Hp → Prop} (k : KoA K F al H P Q) (g : Grow F al H F1 al1 H1) : KoA K F1 al1 H1 P Q := fun b xs μ' F' al' H' h g' S a => k b xs μ' F' al' H' h (g.trans g') S a
theorem Grow.ab (g : Grow F al H F1 al1 H1) {v : V} {x : A} (h : Ab K F al v x) : Ab K F1 al1 v x := h.mono g.f g.px
theorem Grow.abs (g : Grow F al H F1 al1 H1) {vs : List V} {xs : List A} (h : Paired (Ab K F al) vs xs) : Paired (Ab K F1 al1) vs xs := Paired.impl (fun _ _ => g.ab) h
theorem Grow.slots (g : Grow F al H F1 al1 H1) (h : Slots K F al σ ρ) : Slots K F1 al1 σ ρ := h.mono g.f g.px
/-! ### what data looks like -/
theorem dp_int {v : V} {i : Int} (h : Dp K F v (.int i)) : v = .int i := by cases h; rfl
theorem dp_bl {v : V} {b : Bool} (h : Dp K F v (.bool b)) : v = .bl b := by cases h; rfl
theorem dp_str {v : V} {x : Str} (h : Dp K F v (.str x)) : v = .str x := by cases h; rfl
theorem dp_non {v : V} (h : Dp K F v .none) : v = .non := by cases h; rfl
theorem dp_lst {v : V} {ds : List PyData} (h : Dp K F v (.list ds)) : ∃ a vs, v = .ref a ∧ SqL K F a vs ∧ DpAll K F vs ds := by
  cases h with
  | lst a b => exact ⟨_, _, rfl, a, b⟩
theorem dp_tupN {v : V} {ds : List PyData} (h : Dp K F v (.tuple ds)) : ∃ a vs, v = .ref a ∧ SqN K F a vs ∧ DpAll K F vs ds := by
  cases h with
  | tup a b => exact ⟨_, _, rfl, a, b⟩
theorem dp_tup {v : V} {ds : List PyData} (h : Dp K F v (.tuple ds)) : ∃ a vs, v = .ref a ∧ SqT K F a vs ∧ DpAll K F vs ds := by
  obtain ⟨a, vs, e, q, r⟩ := dp_tupN h
  exact ⟨a, vs, e, q.t, r⟩
theorem sqT_mono {a : Addr} {xs : List V} (s : Same F F') (h : SqT K F a xs) : SqT K F' a xs := by
  rcases h with (h | ⟨o, h⟩) | h
  · exact .inl (.inl (s _ _ h))
  · exact .inl (.inr ⟨o, s _ _ h⟩)
  · exact .inr h
theorem DpAll.len : ∀ {vs : List V} {ds : List PyData}, DpAll K F vs ds → vs.length = ds.length
  | _, _, .nil => rfl
  | _, _, .cons _ b => congrArg Nat.succ (DpAll.len b)
theorem DpAll.get : ∀ {vs : List V} {ds : List PyData} {i : Nat} {d : PyData}, DpAll K F vs ds → ds[i]? = some d → ∃ v, vs[i]? = some v ∧ Dp K F v d
  | _, _, _, _, .nil, e => by simp at e
  | _, _, 0, _, .cons a b, e => ⟨_, rfl, by
    obtain rfl := Option.some.inj e
    exact a⟩
  | _, _, i + 1, _, .cons a b, e => DpAll.get (i := i) b e
theorem DpAll.app : ∀ {vs ws : List V} {ds es : List PyData}, DpAll K F vs ds → DpAll K F ws es → DpAll K F (vs ++ ws) (ds ++ es)
  | _, _, _, _, .nil, h => h
  | _, _, _, _, .cons a b, h => .cons a (DpAll.app b h)
theorem DpAll.drop : ∀ {vs : List V} {ds : List PyData} (n : Nat), DpAll K F vs ds → DpAll K F (vs.drop n) (ds.drop n)
  | _, _, 0, h => h
  | _, _, n + 1, .nil => .nil
  | _, _, n + 1, .cons _ b => DpAll.drop n b
theorem DpAll.take : ∀ {vs : List V} {ds : List PyData} (n : Nat), DpAll K F vs ds → DpAll K F (vs.take n) (ds.take n)
  | _, _, 0, h => .nil
  | _, _, n + 1, .nil => .nil
  | _, _, n + 1, .cons a b => .cons a (DpAll.take n b)
theorem DpAll.of : ∀ {vs : List V} {ds : List PyData}, Paired (Ab K F al) vs (ds.map A.d) → DpAll K F vs ds
  | [], [], _ => .nil
  | _ :: _, _ :: _, .cons a b => .cons a (DpAll.of b)
theorem DpAll.to : ∀ {vs : List V} {ds : List PyData}, DpAll K F vs ds → Paired (Ab K F al) vs (ds.map A.d)
  | _, _, .nil => .nil
  | _, _, .cons a b => .cons a (DpAll.to b)
theorem Sto.seq (S : Sto K F al μ H) {a : Addr} {xs : List V} (h : SqL K F a xs) : SqL K H a xs := S.sub.seq h
theorem Sto.seqT (S : Sto K F al μ H) {a : Addr} {xs : List V} (h : SqT K F a xs) : SqT K H a xs := sqT_mono S.sub h
theorem pair_get {vs : List V} {xs : List A} (h : Paired (Ab K F al) vs xs) : ∀ {i : Nat} {x : A}, xs[i]? = some x → ∃ v, vs[i]? = some v ∧ Ab K F al v x := by
  induction h with
  | nil => intro i x e; simp at e
  | cons a b ih =>
    intro i x e
    cases i with
    | zero =>
      obtain rfl := Option.some.inj e
      exact ⟨_, rfl, a⟩
    | succ i => exact ih e
theorem pair_get' {vs : List V} {xs : List A} (h : Paired (Ab K F al) vs xs) : ∀ {i : Nat} {v : V}, vs[i]? = some v → ∃ x, xs[i]? = some x ∧ Ab K F al v x := by
  induction h with
  | nil => intro i x e; simp at e
  | cons a b ih =>
    intro i x e
    cases i with
    | zero =>
      obtain rfl := Option.some.inj e
      exact ⟨_, rfl, a⟩
    | succ i => exact ih e
theorem cell_lst (S : Sto K F al μ H) {i : Nat} {xs : List A} (h : μ[i]? = some (.lst xs)) : ∃ a vs, al[i]? = some a ∧ H a = some (.lst vs) ∧ Paired (Ab K F al) vs xs := by
  have lt : i < al.length := by
    rw [S.len]
    exact (List.getElem?_eq_some_iff.mp h).1
  obtain ⟨ho, h1, h2⟩ := S.cell i _ _ (List.getElem?_eq_getElem lt) h
  have h3 := (h2 (fun e => nomatch e)).2
  cases ho with
  | lst vs => exact ⟨_, vs, List.getElem?_eq_getElem lt, h1, h3⟩
  | _ => exact h3.elim
end

/-! ### names, constants -/
section
variable {X : Cx} {pos : Pos}
abbrev dVar (i : Nat) : DT := fun ρ μ P => ∃ x, ρ[i]? = some (some x) ∧ P x μ
abbrev dC (x : A) : DT := fun _ μ P => P x μ
theorem d_var (i : Nat) {x : Str} (hN : X.N[i]? = some x := by rfl) (hv : Vis X.env.scope x := by first | exact Or.inl rfl | exact Or.inr (Or.inl rfl) | exact Or.inr (Or.inr rfl)) (hd : (x == ("__debug__" : Str)) = false := by decide)
    (hcd : (x == ("__classdict__" : Str)) = false := by decide) : DE X (.Name x pos) (dVar i) := ⟨_, pe_var hN hv hd hcd, fun ρ μ P h F al σ H S L Q k => by
  obtain ⟨x, e, h⟩ := h
  obtain ⟨v, e1, a⟩ := L.at_ i x e
  exact ⟨v, e1, k.now h S a⟩⟩
theorem sim_c {K : PySem.W.Frag} {v : V} {x : A} (h : ∀ F al, Ab K F al v x) : SimE K (tC v) (dC x) := fun ρ μ P hp F al σ H S L Q k => k.now hp S (h F al)
theorem d_int {i : Int} {j : Nat} : DE X (.Constant (.int i) j pos) (dC (.d (.int i))) := ⟨_, pe_int, sim_c fun _ _ => .int i⟩
theorem d_bl {b : Bool} {j : Nat} : DE X (.Constant (.bool b) j pos) (dC (.d (.bool b))) := ⟨_, pe_bl, sim_c fun _ _ => .bl b⟩
theorem d_non {j : Nat} : DE X (.Constant .none j pos) (dC (.d .none)) := ⟨_, pe_non, sim_c fun _ _ => .non⟩
theorem d_str {x : Str} {j : Nat} : DE X (.Constant (.str x) j pos) (dC (.d (.str x))) := ⟨_, pe_str, sim_c fun _ _ => .str x⟩
/-- a module's constant, a class .. -/
theorem d_globI {x : Str} {i : Int} {t : Tok} (hg : Gl X x) (hm : X.mg x = some (.int i t)) (hd : (x == ("__debug__" : Str)) = false := by decide) : DE X (.Name x pos) (dC (.d (.int i))) := ⟨_, pe_glob hg hm (v := .int i) ⟨t, rfl⟩ hd, sim_c fun _ _ => .int i⟩
theorem d_globS {x y : Str} {t : Tok} (hg : Gl X x) (hm : X.mg x = some (.str y t)) (hd : (x == ("__debug__" : Str)) = false := by decide) : DE X (.Name x pos) (dC (.d (.str y))) := ⟨_, pe_glob hg hm (v := .str y) ⟨t, rfl⟩ hd, sim_c fun _ _ => .str y⟩
theorem d_globV {x : Str} {v : V} {u : Value} (hg : Gl X x) (hm : X.mg x = some u) (r : RelV v u) (hd : (x == ("__debug__" : Str)) = false := by decide) : DE X (.Name x pos) (dC (.v v)) := ⟨_, pe_glob hg hm r hd, sim_c fun _ _ => rfl⟩
theorem d_bltV {x : Str} {v : V} {u : Value} (hg : Gl X x) (hm : X.mg x = none) (hv : bootBuiltins x = some u) (r : RelV v u) (hn : x ≠ "__name__" := by decide) (hd : (x == ("__debug__" : Str)) = false := by decide) : DE X (.Name x pos) (dC (.v v)) :=
  ⟨_, pe_bltn hg hm hv r hn hd, sim_c fun _ _ => rfl⟩
end

/-! ### two operands -/
section
variable {X : Cx} {a b : Expr} {pos : Pos} {da db : DT} {r : R2} {rd : A → A → Mu → DK → Prop} {ta tb : TE} {K : PySem.W.Frag}
abbrev dOp (rd : A → A → Mu → DK → Prop) (da db : DT) : DT := fun ρ μ P => da ρ μ fun x μ1 => db ρ μ1 fun y μ2 => rd x y μ2 P
theorem sim_op (hs : SimR2 K r rd) (ha : SimE K ta da) (hb : SimE K tb db) : SimE K (tOp r ta tb) (dOp rd da db) := fun ρ μ P h F al σ H S L Q k => by
  refine ha ρ μ _ h F al σ H S L _ fun v x μ1 F1 al1 H1 h1 g1 S1 a1 => ?_
  refine hb ρ μ1 _ h1 F1 al1 σ H1 S1 (g1.slots L) _ fun w y μ2 F2 al2 H2 h2 g2 S2 a2 => ?_
  exact hs x y μ2 P h2 F2 al2 H2 v w S2 (g2.ab a1) a2 Q (k.fwd (g1.trans g2))
theorem d_op {op : Operator} (ho : OpR X (binaryOp op) r) (hs : SimR2 X.K r rd) (ha : DE X a da) (hb : DE X b db) : DE X (.BinOp a op b pos) (dOp rd da db) := by
  obtain ⟨_, pa, sa⟩ := ha.ex
  obtain ⟨_, pb, sb⟩ := hb.ex
  exact ⟨_, pe_op ho pa pb, sim_op hs sa sb⟩
theorem d_cmp {op : CmpOp} (ho : OpR X (compareOp op) r) (hs : SimR2 X.K r rd) (ha : DE X a da) (hb : DE X b db) (hm : behindInMarks op b = false) : DE X (.Compare a [op] [b] pos) (dOp rd da db) := by
  obtain ⟨_, pa, sa⟩ := ha.ex
  obtain ⟨_, pb, sb⟩ := hb.ex
  exact ⟨_, pe_cmpR ho pa pb hm, sim_op hs sa sb⟩
theorem d_ix (ho : IxR X r) (hs : SimR2 X.K r rd) (ha : DE X a da) (hb : DE X b db) (hp : PlainIx b := by exact fun _ _ => rfl) : DE X (.Subscript a b pos) (dOp rd da db) := by
  obtain ⟨_, pa, sa⟩ := ha.ex
  obtain ⟨_, pb, sb⟩ := hb.ex
  exact ⟨_, pe_ix ho pa pb hp, sim_op hs sa sb⟩
/-- a test of what a comparison gives -/
abbrev dB (d : DT) : DTT := fun ρ μ P => d ρ μ fun x μ1 => ∃ b, x = .d (.bool b) ∧ P b μ1
theorem sim_b {t : TE} {d : DT} (h : SimE K t d) : SimT K (tTest t) (dB d) := fun ρ μ P hp F al σ H S L Q k => by
  refine h ρ μ _ hp F al σ H S L _ fun v x μ1 F1 al1 H1 h1 g1 S1 a1 => ?_
  obtain ⟨b, rfl, h1⟩ := h1
  exact ⟨b, dp_bl a1, k b μ1 F1 al1 H1 h1 g1 S1⟩
theorem dt_cmp {op : CmpOp} (ho : OpR X (compareOp op) r) (hs : SimR2 X.K r rd) (ha : DE X a da) (hb : DE X b db) (hm : behindInMarks op b = false) : DTest X (.Compare a [op] [b] pos) (dB (dOp rd da db)) := by
  obtain ⟨_, pa, sa⟩ := ha.ex
  obtain ⟨_, pb, sb⟩ := hb.ex
  exact ⟨_, pt_cmpR ho pa pb hm, sim_b (sim_op hs sa sb)⟩
theorem dt_val {e : Expr} {d : DT} (h : DE X e d) (he : ∀ whole, isTrue e X.env whole = (do let v ← whole; standAt e.pos; holding [v] (truthy v)) := by intro _; rfl) : DTest X e (dB d) := by
  obtain ⟨_, p, s⟩ := h.ex
  exact ⟨_, pt_val p he, sim_b s⟩
end

/-! ### whole numbers -/
section
variable {K : PySem.W.Frag}
def rdI (C : Int → Int → Prop) (g : Int → Int → PyData) : A → A → Mu → DK → Prop := fun x y μ P => ∃ i j, x = .d (.int i) ∧ y = .d (.int j) ∧ C i j ∧ P (.d (g i j)) μ
def rdI0 (g : Int → Int → PyData) : A → A → Mu → DK → Prop := fun x y μ P => ∃ i j, x = .d (.int i) ∧ y = .d (.int j) ∧ P (.d (g i j)) μ
theorem sim_I {C : Int → Int → Prop} {g : Int → Int → V} {g' : Int → Int → PyData} (hg : ∀ F i j, Dp K F (g i j) (g' i j)) : SimR2 K (rI C g) (rdI C g') := fun x y μ P h F al H v w S a b Q k => by
  obtain ⟨i, j, rfl, rfl, c, h⟩ := h
  exact ⟨i, j, dp_int a, dp_int b, c, k.now h S (hg F i j)⟩
theorem sim_I0 {g : Int → Int → V} {g' : Int → Int → PyData} (hg : ∀ F i j, Dp K F (g i j) (g' i j)) : SimR2 K (rI0 g) (rdI0 g') := fun x y μ P h F al H v w S a b Q k => by
  obtain ⟨i, j, rfl, rfl, h⟩ := h
  exact ⟨i, j, dp_int a, dp_int b, k.now h S (hg F i j)⟩
end
section
variable {X : Cx} {a b : Expr} {pos : Pos} {da db : DT}
theorem d_add (ha : DE X a da) (hb : DE X b db) : DE X (.BinOp a .Add b pos) (dOp (rdI0 fun i j => .int (i + j)) da db) := d_op op_add (sim_I0 fun _ _ _ => .int _) ha hb
theorem d_sub (ha : DE X a da) (hb : DE X b db) : DE X (.BinOp a .Sub b pos) (dOp (rdI0 fun i j => .int (i - j)) da db) := d_op op_sub (sim_I0 fun _ _ _ => .int _) ha hb
theorem d_mul (ha : DE X a da) (hb : DE X b db) : DE X (.BinOp a .Mult b pos) (dOp (rdI CMul fun i j => .int (i * j)) da db) := d_op op_mul (sim_I fun _ _ _ => .int _) ha hb
theorem d_mulW (ha : DE X a da) (hb : DE X b db) (ho : OpR X (binaryOp .Mult) (rI C fun i j => .int (i * j))) : DE X (.BinOp a .Mult b pos) (dOp (rdI C fun i j => .int (i * j)) da db) := d_op ho (sim_I fun _ _ _ => .int _) ha hb
theorem d_fdivW (ha : DE X a da) (hb : DE X b db) (ho : OpR X (binaryOp .FloorDiv) (rI C fun i j => .int (i / j))) : DE X (.BinOp a .FloorDiv b pos) (dOp (rdI C fun i j => .int (i / j)) da db) := d_op ho (sim_I fun _ _ _ => .int _) ha hb
theorem d_fdiv (ha : DE X a da) (hb : DE X b db) : DE X (.BinOp a .FloorDiv b pos) (dOp (rdI CDiv fun i j => .int (i / j)) da db) := d_op op_fdiv (sim_I fun _ _ _ => .int _) ha hb
theorem d_mod (ha : DE X a da) (hb : DE X b db) : DE X (.BinOp a .Mod b pos) (dOp (rdI (fun _ j => 0 < j) fun i j => .int (i % j)) da db) := d_op op_mod (sim_I fun _ _ _ => .int _) ha hb
theorem d_pow (ha : DE X a da) (hb : DE X b db) : DE X (.BinOp a .Pow b pos) (dOp (rdI CPow fun i j => .int (i ^ j.toNat)) da db) := d_op op_pow (sim_I fun _ _ _ => .int _) ha hb
abbrev rdLt := rdI0 fun i j => .bool (decide (i < j))
abbrev rdLe := rdI0 fun i j => .bool (decide (i ≤ j))
abbrev rdGt := rdI0 fun i j => .bool (decide (j < i))
abbrev rdGe := rdI0 fun i j => .bool (decide (j ≤ i))
theorem s_lt : SimR2 X.K (rI0 fun i j => .bl (decide (i < j))) rdLt := sim_I0 fun _ _ _ => .bl _
theorem s_le : SimR2 X.K (rI0 fun i j => .bl (decide (i ≤ j))) rdLe := sim_I0 fun _ _ _ => .bl _
theorem s_gt : SimR2 X.K (rI0 fun i j => .bl (decide (j < i))) rdGt := sim_I0 fun _ _ _ => .bl _
theorem s_ge : SimR2 X.K (rI0 fun i j => .bl (decide (j ≤ i))) rdGe := sim_I0 fun _ _ _ => .bl _
end
end Dl

set_option Elab.async false
set_option linter.all false
set_option maxRecDepth 100000
set_option maxHeartbeats 4000000
namespace Dl
open PySem PySem.Spec PyProof.Rows L2
/-! ### lists of arguments, displays -/
section
variable {X : Cx} {e : Expr} {es : List Expr} {pos : Pos} {de : DT} {da : DAT} {K : PySem.W.Frag} {te : TE} {ta : TA}
abbrev daNil : DAT := fun _ μ P => P [] μ
abbrev daCons (de : DT) (da : DAT) : DAT := fun ρ μ P => de ρ μ fun x μ1 => da ρ μ1 fun xs μ2 => P (x :: xs) μ2
theorem sim_nil : SimA K tNil daNil := fun ρ μ P h F al σ H S L Q k => k [] [] μ F al H h Grow.refl S .nil
theorem sim_cons (h1 : SimE K te de) (h2 : SimA K ta da) : SimA K (tCons te ta) (daCons de da) := fun ρ μ P h F al σ H S L Q k => by
  refine h1 ρ μ _ h F al σ H S L _ fun v x μ1 F1 al1 H1 q1 g1 S1 a1 => ?_
  refine h2 ρ μ1 _ q1 F1 al1 σ H1 S1 (g1.slots L) _ fun vs xs μ2 F2 al2 H2 q2 g2 S2 a2 => ?_
  exact k (v :: vs) (x :: xs) μ2 F2 al2 H2 q2 (g1.trans g2) S2 (.cons (g2.ab a1) a2)
theorem da_nil : DA X [] daNil := ⟨_, pa_nil, sim_nil⟩
theorem da_cons (h1 : DE X e de) (h2 : DA X es da) (hs : starEach (e :: es) X.env = (false, eval e X.env) :: starEach es X.env := by rfl) : DA X (e :: es) (daCons de da) := by
  obtain ⟨_, p1, s1⟩ := h1.ex
  obtain ⟨_, p2, s2⟩ := h2.ex
  exact ⟨_, pa_cons p1 p2 hs, sim_cons s1 s2⟩
/-- (..), of data -/
abbrev dTup (da : DAT) : DT := fun ρ μ P => da ρ μ fun xs μ1 => ∃ ds : List PyData, xs = ds.map A.d ∧ ds.length ≤ sizeLine ∧ P (.d (.tuple ds)) μ1
/-- [..], of data, never changed -/
def dLst (da : DAT) : DT := fun ρ μ P => da ρ μ fun xs μ1 => ∃ ds : List PyData, xs = ds.map A.d ∧ ds.length ≤ sizeLine ∧ P (.d (.list ds)) μ1
/-- [..], a new cell -/
def dLstC (da : DAT) : DT := fun ρ μ P => da ρ μ fun xs μ1 => xs.length ≤ sizeLine ∧ P (.c μ1.length) (μ1 ++ [.lst xs])
theorem pair_len {α β : Type} {R : α → β → Prop} {l : List α} {m : List β} (h : Paired R l m) : l.length = m.length := Paired.length h
def tTupN (t : TA) : TE := fun σ H Q => t σ H fun xs H1 => xs.length ≤ sizeLine ∧ ∀ p ob, H1 p = none → ob.dict = none → Q (.ref p) (upd H1 p (.frz ob (.tup xs)))
theorem pe_tupN {t : TA} {x1} (h : PA X es t) : PE X (.Tuple es x1 pos) (tTupN t) := by
  constructor
  intro pins s σ H Q I hq
  refine wpAny_Tuple_spliced (thn (h.run pos pins s σ H _ I hq) ?_)
  rintro us s1 ⟨vs, H1, J, rv, small, q⟩
  refine ⟨by rw [← rv.length]; exact small, ?_⟩
  have fr := J.hok.fresh (Nat.le_refl s1.heap.objs.size)
  have at_ := Heap.get?_push_size s1.heap (o := { cls := .type "tuple", data := .seq us.toArray }) rfl
  refine ⟨.ref s1.heap.objs.size, upd H1 s1.heap.objs.size (.frz { cls := .type "tuple", data := .seq us.toArray } (.tup vs)), J.laid (t' := s1.toks) (fun b u e => Heap.get?_push_of_some _ e) (Nat.le_refl _) ?_, rfl, q _ _ fr rfl⟩
  exact ⟨at_, small, us, rv, ⟨_, at_, rfl, _, rfl⟩⟩
theorem d_tup {x1 : Nat} (h : DA X es da) : DE X (.Tuple es x1 pos) (dTup da) := by
  obtain ⟨_, p, s⟩ := h.ex
  refine ⟨_, pe_tupN p, fun ρ μ P h F al σ H S L Q k => s ρ μ _ h F al σ H S L _ fun vs xs μ1 F1 al1 H1 q g S1 a => ?_⟩
  obtain ⟨ds, rfl, hz, q⟩ := q
  have dp := DpAll.of a
  refine ⟨by rw [DpAll.len dp]; exact hz, fun p ob hp hd => ?_⟩
  obtain ⟨S2, g2⟩ := S1.lay (o := .frz ob (.tup vs)) hp
  exact k _ _ μ1 _ _ _ q (g.trans g2) S2 (.tup (.inl ⟨ob, upd_same, hd⟩) (DpAll.mono g2.f dp))
theorem d_lst (h : DA X es da) : DE X (.List es pos) (dLst da) := by
  obtain ⟨_, p, s⟩ := h.ex
  refine ⟨_, pe_lst p, fun ρ μ P h F al σ H S L Q k => s ρ μ _ h F al σ H S L _ fun vs xs μ1 F1 al1 H1 q g S1 a => ?_⟩
  obtain ⟨ds, rfl, hz, q⟩ := q
  have dp := DpAll.of a
  refine ⟨by rw [DpAll.len dp]; exact hz, fun p hp => ?_⟩
  obtain ⟨S2, g2⟩ := S1.lay (o := .lst vs) hp
  exact k _ _ μ1 _ _ _ q (g.trans g2) S2 (.lst (.inl (.inl upd_same)) (DpAll.mono g2.f dp))
theorem d_lstC (h : DA X es da) : DE X (.List es pos) (dLstC da) := by
  obtain ⟨_, p, s⟩ := h.ex
  refine ⟨_, pe_lst p, fun ρ μ P h F al σ H S L Q k => s ρ μ _ h F al σ H S L _ fun vs xs μ1 F1 al1 H1 q g S1 a => ?_⟩
  obtain ⟨hz, q⟩ := q
  refine ⟨by rw [pair_len a]; exact hz, fun p hp => ?_⟩
  obtain ⟨S2, g2⟩ := S1.cellNew (ho := .lst vs) (o := .lst xs) hp a
  refine k _ _ _ _ _ _ q (g.trans g2) S2 ⟨p, ?_, rfl⟩
  rw [← S1.len, List.getElem?_append_right (Nat.le_refl _), Nat.sub_self]
  rfl
end

/-! ### ways to choose -/
section
variable {X : Cx} {a b c : Expr} {rest : List Expr} {pos : Pos} {da db : DT} {dc du : DTT} {K : PySem.W.Frag}
abbrev dAnd (da db : DT) : DT := fun ρ μ P => da ρ μ fun x μ1 => ∃ c, x = .d (.bool c) ∧ if c = true then db ρ μ1 P else P (.d (.bool false)) μ1
abbrev dOr (da db : DT) : DT := fun ρ μ P => da ρ μ fun x μ1 => ∃ c, x = .d (.bool c) ∧ if c = true then P (.d (.bool true)) μ1 else db ρ μ1 P
abbrev dNot (da : DT) : DT := fun ρ μ P => da ρ μ fun x μ1 => ∃ c, x = .d (.bool c) ∧ P (.d (.bool !c)) μ1
abbrev dIf (dc : DTT) (da db : DT) : DT := fun ρ μ P => dc ρ μ fun c μ1 => if c = true then da ρ μ1 P else db ρ μ1 P
abbrev dtAnd (t u : DTT) : DTT := fun ρ μ P => t ρ μ fun c μ1 => if c = true then u ρ μ1 P else P false μ1
abbrev dtOr (t u : DTT) : DTT := fun ρ μ P => t ρ μ fun c μ1 => if c = true then P true μ1 else u ρ μ1 P
abbrev dtNot (t : DTT) : DTT := fun ρ μ P => t ρ μ fun c μ1 => P (!c) μ1
theorem d_one {op} (h : DE X a da) : DE X (.BoolOp op [a] pos) da := by
  obtain ⟨_, p, s⟩ := h.ex
  exact ⟨_, pe_one p, s⟩
theorem d_and (ha : DE X a da) (hb : DE X (.BoolOp .And (b :: rest) pos) db) : DE X (.BoolOp .And (a :: b :: rest) pos) (dAnd da db) := by
  obtain ⟨_, p1, s1⟩ := ha.ex
  obtain ⟨_, p2, s2⟩ := hb.ex
  refine ⟨_, pe_and p1 p2, fun ρ μ P h F al σ H S L Q k => s1 ρ μ _ h F al σ H S L _ fun v x μ1 F1 al1 H1 q g S1 a1 => ?_⟩
  obtain ⟨c, rfl, q⟩ := q
  refine ⟨c, dp_bl a1, ?_⟩
  cases c with
  | true => exact iteT (s2 ρ μ1 _ (by rw [if_pos rfl] at q; exact q) F1 al1 σ H1 S1 (g.slots L) _ (k.fwd g))
  | false => exact iteF ((k.fwd g).now (x := .d (.bool false)) (by rw [if_neg Bool.false_ne_true] at q; exact q) S1 (Dp.bl false))
theorem d_or (ha : DE X a da) (hb : DE X (.BoolOp .Or (b :: rest) pos) db) : DE X (.BoolOp .Or (a :: b :: rest) pos) (dOr da db) := by
  obtain ⟨_, p1, s1⟩ := ha.ex
  obtain ⟨_, p2, s2⟩ := hb.ex
  refine ⟨_, pe_or p1 p2, fun ρ μ P h F al σ H S L Q k => s1 ρ μ _ h F al σ H S L _ fun v x μ1 F1 al1 H1 q g S1 a1 => ?_⟩
  obtain ⟨c, rfl, q⟩ := q
  refine ⟨c, dp_bl a1, ?_⟩
  cases c with
  | true => exact iteT ((k.fwd g).now (x := .d (.bool true)) (by rw [if_pos rfl] at q; exact q) S1 (Dp.bl true))
  | false => exact iteF (s2 ρ μ1 _ (by rw [if_neg Bool.false_ne_true] at q; exact q) F1 al1 σ H1 S1 (g.slots L) _ (k.fwd g))
theorem d_not (ha : DE X a da) : DE X (.UnaryOp .Not a pos) (dNot da) := by
  obtain ⟨_, p1, s1⟩ := ha.ex
  refine ⟨_, pe_not p1, fun ρ μ P h F al σ H S L Q k => s1 ρ μ _ h F al σ H S L _ fun v x μ1 F1 al1 H1 q g S1 a1 => ?_⟩
  obtain ⟨c, rfl, q⟩ := q
  exact ⟨c, dp_bl a1, (k.fwd g).now q S1 (Dp.bl _)⟩
theorem d_if (hc : DTest X c dc) (ha : DE X a da) (hb : DE X b db) : DE X (.IfExp c a b pos) (dIf dc da db) := by
  obtain ⟨_, p0, s0⟩ := hc.ex
  obtain ⟨_, p1, s1⟩ := ha.ex
  obtain ⟨_, p2, s2⟩ := hb.ex
  refine ⟨_, pe_ifExp p0 p1 p2, fun ρ μ P h F al σ H S L Q k => s0 ρ μ _ h F al σ H S L _ fun c μ1 F1 al1 H1 q g S1 => ?_⟩
  cases c with
  | true => exact iteT (s1 ρ μ1 _ (by rw [if_pos rfl] at q; exact q) F1 al1 σ H1 S1 (g.slots L) _ (k.fwd g))
  | false => exact iteF (s2 ρ μ1 _ (by rw [if_neg Bool.false_ne_true] at q; exact q) F1 al1 σ H1 S1 (g.slots L) _ (k.fwd g))
theorem dw_and1 (h : DTest X a dc) : DW X (.BoolOp .And [a] pos) dc := by
  obtain ⟨_, p, s⟩ := h.ex
  exact ⟨_, pw_and1 p, s⟩
theorem dw_or1 (h : DTest X a dc) : DW X (.BoolOp .Or [a] pos) dc := by
  obtain ⟨_, p, s⟩ := h.ex
  exact ⟨_, pw_or1 p, s⟩
theorem dw_and (ha : DTest X a dc) (hb : DW X (.BoolOp .And (b :: rest) pos) du) : DW X (.BoolOp .And (a :: b :: rest) pos) (dtAnd dc du) := by
  obtain ⟨_, p1, s1⟩ := ha.ex
  obtain ⟨_, p2, s2⟩ := hb.ex
  refine ⟨_, pw_and p1 p2, fun ρ μ P h F al σ H S L Q k => s1 ρ μ _ h F al σ H S L _ fun c μ1 F1 al1 H1 q g S1 => ?_⟩
  cases c with
  | true => exact iteT (s2 ρ μ1 _ (by rw [if_pos rfl] at q; exact q) F1 al1 σ H1 S1 (g.slots L) _ (k.fwd g))
  | false => exact iteF (k _ _ _ _ _ (by rw [if_neg Bool.false_ne_true] at q; exact q) g S1)
theorem dw_or (ha : DTest X a dc) (hb : DW X (.BoolOp .Or (b :: rest) pos) du) : DW X (.BoolOp .Or (a :: b :: rest) pos) (dtOr dc du) := by
  obtain ⟨_, p1, s1⟩ := ha.ex
  obtain ⟨_, p2, s2⟩ := hb.ex
  refine ⟨_, pw_or p1 p2, fun ρ μ P h F al σ H S L Q k => s1 ρ μ _ h F al σ H S L _ fun c μ1 F1 al1 H1 q g S1 => ?_⟩
  cases c with
  | true => exact iteT (k _ _ _ _ _ (by rw [if_pos rfl] at q; exact q) g S1)
  | false => exact iteF (s2 ρ μ1 _ (by rw [if_neg Bool.false_ne_true] at q; exact q) F1 al1 σ H1 S1 (g.slots L) _ (k.fwd g))
theorem dt_w (h : DW X a dc) : DTest X a dc := by
  obtain ⟨_, p, s⟩ := h.ex
  exact ⟨_, p.pt, s⟩
theorem dt_not (ha : DTest X a dc) : DTest X (.UnaryOp .Not a pos) (dtNot dc) := by
  obtain ⟨_, p1, s1⟩ := ha.ex
  exact ⟨_, pt_not p1, fun ρ μ P h F al σ H S L Q k => s1 ρ μ _ h F al σ H S L _ fun c μ1 F1 al1 H1 q g S1 => k _ _ _ _ _ q g S1⟩
/-- a value's truth -/
def TruD (x : A) (μ : Mu) (b : Bool) : Prop := match x with
  | .d .none => b = false
  | .d (.bool k) => b = k
  | .d (.int i) => b = (i != 0)
  | .d (.str y) => y.length ≤ sizeLine ∧ b = ((y.length : Int) != 0)
  | .d (.list ds) => b = !ds.isEmpty
  | .d (.tuple ds) => b = !ds.isEmpty
  | .c i => (∃ xs, μ[i]? = some (.lst xs) ∧ b = !xs.isEmpty) ∨ ∃ ks, μ[i]? = some (.dct ks) ∧ b = !ks.isEmpty
  | _ => False
theorem isE {α β : Type} {l : List α} {m : List β} (h : l.length = m.length) : (!l.isEmpty) = !m.isEmpty := by
  cases l <;> cases m <;> first | rfl | simp at h
theorem tru_ab {F : Hp} {al : List Addr} {μ : Mu} {H : Hp} {v : V} {x : A} {b : Bool} (S : Sto K F al μ H) (a : Ab K F al v x) (h : TruD x μ b) : TruV K v H b := by
  cases x with
  | d x =>
    cases x with
    | none => rw [dp_non a]; exact h
    | bool k => rw [dp_bl a]; exact h
    | int i => rw [dp_int a]; exact h
    | str y => rw [dp_str a]; exact h
    | list ds =>
      obtain ⟨p, vs, rfl, q, r⟩ := dp_lst a
      exact .inl ⟨vs, S.seq q, (show b = !ds.isEmpty from h).trans (isE (DpAll.len r).symm)⟩
    | tuple ds =>
      obtain ⟨p, vs, rfl, q, r⟩ := dp_tup a
      exact .inr (.inl ⟨vs, S.seqT q, (show b = !ds.isEmpty from h).trans (isE (DpAll.len r).symm)⟩)
    | dict _ => exact h.elim
  | c i =>
    obtain ⟨p, ep, rfl⟩ := a
    rcases h with ⟨xs, e, r⟩ | ⟨ks, e, r⟩
    · obtain ⟨q, vs, e1, e2, e3⟩ := cell_lst S e
      rw [ep] at e1
      obtain rfl := Option.some.inj e1
      exact .inl ⟨vs, .inl (.inl e2), r.trans (isE (pair_len e3).symm)⟩
    · obtain ⟨ho, h1, h2⟩ := S.cell i p _ ep e
      have h3 := (h2 (fun z => nomatch z)).2
      cases ho with
      | dK kvs => exact .inr (.inr ⟨kvs, h1, r.trans (isE (pair_len h3).symm)⟩)
      | _ => exact h3.elim
  | v _ => exact h.elim
  | x _ _ _ _ => exact h.elim
abbrev dTru (d : DT) : DTT := fun ρ μ P => d ρ μ fun x μ1 => ∃ b, TruD x μ1 b ∧ P b μ1
theorem dt_truth (ha : DE X a da) (he : ∀ whole, isTrue a X.env whole = (do let v ← whole; standAt a.pos; holding [v] (truthy v)) := by intro _; rfl) : DTest X a (dTru da) := by
  obtain ⟨_, p, s⟩ := ha.ex
  refine ⟨_, pt_truth p he, fun ρ μ P h F al σ H S L Q k => s ρ μ _ h F al σ H S L _ fun v x μ1 F1 al1 H1 q g S1 a1 => ?_⟩
  obtain ⟨b, t, q⟩ := q
  exact ⟨b, tru_ab S1 a1 t, k _ _ _ _ _ q g S1⟩
end
end Dl

set_option Elab.async false
set_option linter.all false
set_option maxRecDepth 100000
set_option maxHeartbeats 4000000
namespace Dl
open PySem PySem.Spec PyProof.Rows L2
/-! ### comparisons of data -/
section
variable {X : Cx} {K : PySem.W.Frag}
def rdEqI : A → A → Mu → DK → Prop := rdI0 fun i j => .bool (decide (i = j))
def rdNeI : A → A → Mu → DK → Prop := rdI0 fun i j => .bool (!decide (i = j))
def rdS (g : Str → Str → PyData) : A → A → Mu → DK → Prop := fun x y μ P => ∃ i j, x = .d (.str i) ∧ y = .d (.str j) ∧ P (.d (g i j)) μ
theorem vint_eq (i j : Int) : decide (V.int i = V.int j) = decide (i = j) := by simp
theorem vstr_eq (i j : Str) : decide (V.str i = V.str j) = decide (i = j) := by simp
theorem s_eqI : SimR2 K rEq rdEqI := fun x y μ P h F al H v w S a b Q k => by
  obtain ⟨i, j, rfl, rfl, h⟩ := h
  rw [dp_int a, dp_int b]
  exact ⟨rfl, by rw [vint_eq]; exact k.now h S (.bl _)⟩
theorem s_neI : SimR2 K rNe rdNeI := fun x y μ P h F al H v w S a b Q k => by
  obtain ⟨i, j, rfl, rfl, h⟩ := h
  rw [dp_int a, dp_int b]
  exact ⟨rfl, by rw [vint_eq]; exact k.now h S (.bl _)⟩
theorem s_eqS : SimR2 K rEq (rdS fun i j => .bool (decide (i = j))) := fun x y μ P h F al H v w S a b Q k => by
  obtain ⟨i, j, rfl, rfl, h⟩ := h
  rw [dp_str a, dp_str b]
  exact ⟨rfl, by rw [vstr_eq]; exact k.now h S (.bl _)⟩
theorem s_neS : SimR2 K rNe (rdS fun i j => .bool (!decide (i = j))) := fun x y μ P h F al H v w S a b Q k => by
  obtain ⟨i, j, rfl, rfl, h⟩ := h
  rw [dp_str a, dp_str b]
  exact ⟨rfl, by rw [vstr_eq]; exact k.now h S (.bl _)⟩
/-- == of data of one form -/
def rdEqD (neg : Bool) : A → A → Mu → DK → Prop := fun x y μ P => ∃ d e, x = .d d ∧ y = .d e ∧ SeqAt.shaped d = true ∧ SeqAt.shaped e = true ∧ P (.d (.bool (if neg then !PyData.eqv d e else PyData.eqv d e))) μ
theorem s_eqD : SimR2 K (rEqD K) (rdEqD false) := fun x y μ P h F al H v w S a b Q k => by
  obtain ⟨d, e, rfl, rfl, s1, s2, h⟩ := h
  exact ⟨d, e, (Dp.mono S.sub a).lib, (Dp.mono S.sub b).lib, s1, s2, k.now h S (.bl _)⟩
theorem s_neD : SimR2 K (rNeD K) (rdEqD true) := fun x y μ P h F al H v w S a b Q k => by
  obtain ⟨d, e, rfl, rfl, s1, s2, h⟩ := h
  exact ⟨d, e, (Dp.mono S.sub a).lib, (Dp.mono S.sub b).lib, s1, s2, k.now h S (.bl _)⟩
/-- x is None, x is not None: of data -/
def noneD : PyData → Bool
  | .none => true
  | _ => false
def rdIsN (neg : Bool) : A → A → Mu → DK → Prop := fun x y μ P => ∃ d, x = .d d ∧ y = .d .none ∧ P (.d (.bool (if neg then !noneD d else noneD d))) μ
theorem isN_v {F : Hp} {v : V} {d : PyData} (h : Dp K F v d) : decide (v = V.non) = noneD d := by
  cases h <;> rfl
theorem s_isN : SimR2 K (fun x y H Q => y = .non ∧ Q (.bl (decide (x = .non))) H) (rdIsN false) := fun x y μ P h F al H v w S a b Q k => by
  obtain ⟨d, rfl, rfl, h⟩ := h
  exact ⟨dp_non b, by rw [isN_v a]; exact k.now h S (.bl _)⟩
theorem s_notN : SimR2 K (fun x y H Q => y = .non ∧ Q (.bl (!decide (x = .non))) H) (rdIsN true) := fun x y μ P h F al H v w S a b Q k => by
  obtain ⟨d, rfl, rfl, h⟩ := h
  exact ⟨dp_non b, by rw [isN_v a]; exact k.now h S (.bl _)⟩
/-! ### in -/
/-- flat data -/
def flatD : PyData → Bool
  | .none => true | .bool _ => true | .int _ => true | .str _ => true | _ => false
def eqF : PyData → PyData → Bool
  | .none, .none => true
  | .bool a, .bool b => a == b
  | .bool a, .int b => (if a then 1 else 0) == b
  | .int a, .bool b => a == (if b then 1 else 0)
  | .int a, .int b => a == b
  | .str a, .str b => a == b
  | _, _ => false
theorem flat_v {F : Hp} {v : V} {d : PyData} (h : Dp K F v d) (f : flatD d = true) : flatV v = true := by
  cases h <;> first | rfl | cases f
theorem eqF_v {F : Hp} {v w : V} {d e : PyData} (h : Dp K F v d) (g : Dp K F w e) (f : flatD d = true) (f' : flatD e = true) : eqV v w = eqF d e := by
  cases h <;> cases g <;> first | rfl | cases f | cases f'
theorem flat_all {F : Hp} : ∀ {vs : List V} {ds : List PyData}, DpAll K F vs ds → ds.all flatD = true → vs.all flatV = true
  | _, _, .nil, _ => rfl
  | _, _, .cons a b, f => by
    rw [List.all_cons, Bool.and_eq_true] at f ⊢
    exact ⟨flat_v a f.1, flat_all b f.2⟩
theorem in_all {F : Hp} {v : V} {d : PyData} (h : Dp K F v d) (f : flatD d = true) : ∀ {vs : List V} {ds : List PyData}, DpAll K F vs ds → ds.all flatD = true → inV v vs = ds.any (fun e => eqF e d)
  | _, _, .nil, _ => rfl
  | _, _, .cons a b, g => by
    rw [List.all_cons, Bool.and_eq_true] at g
    have ih := in_all h f b g.2
    unfold inV at ih ⊢
    rw [List.any_cons, List.any_cons, eqF_v a h g.1 f, ih]
/-- the items of a list or tuple: data, or a cell of data -/
def ItemsD (x : A) (μ : Mu) (ds : List PyData) : Prop := x = .d (.list ds) ∨ x = .d (.tuple ds) ∨ ∃ i, x = .c i ∧ μ[i]? = some (.lst (ds.map A.d))
theorem items_ab {F : Hp} {al : List Addr} {μ : Mu} {H : Hp} {v : V} {x : A} {ds : List PyData} (S : Sto K F al μ H) (a : Ab K F al v x) (h : ItemsD x μ ds) : ∃ p vs, v = .ref p ∧ (SqL K H p vs ∨ SqT K H p vs) ∧ DpAll K F vs ds := by
  rcases h with rfl | rfl | ⟨i, rfl, e⟩
  · obtain ⟨p, vs, rfl, q, r⟩ := dp_lst a
    exact ⟨p, vs, rfl, .inl (S.seq q), r⟩
  · obtain ⟨p, vs, rfl, q, r⟩ := dp_tup a
    exact ⟨p, vs, rfl, .inr (S.seqT q), r⟩
  · obtain ⟨p, ep, rfl⟩ := a
    obtain ⟨q, vs, e1, e2, e3⟩ := cell_lst S e
    rw [ep] at e1
    obtain rfl := Option.some.inj e1
    exact ⟨p, vs, rfl, .inl (.inl (.inl e2)), DpAll.of e3⟩
def rdIn (neg : Bool) : A → A → Mu → DK → Prop := fun x y μ P => ∃ d ds, x = .d d ∧ ItemsD y μ ds ∧ flatD d = true ∧ ds.all flatD = true ∧ P (.d (.bool (if neg then !ds.any (fun e => eqF e d) else ds.any (fun e => eqF e d)))) μ
theorem s_in (neg : Bool) : SimR2 K (rIn K neg) (rdIn neg) := fun x y μ P h F al H v w S a b Q k => by
  obtain ⟨d, ds, rfl, hi, f, g, h⟩ := h
  obtain ⟨p, vs, rfl, hq, r⟩ := items_ab S b hi
  exact ⟨p, vs, rfl, hq, flat_v a f, flat_all r g, by rw [in_all a f r g]; exact k.now h S (.bl _)⟩
/-! ### items, lengths -/
def ofAt (S : Prop) : Prop := S
theorem ixN_len {α β : Type} {xs : List α} {ys : List β} (h : xs.length = ys.length) (i : Int) : ixN xs.length i = ixN ys.length i := by rw [h]
theorem dpall_at {F : Hp} {vs : List V} {ds : List PyData} (r : DpAll K F vs ds) {i : Int} {z : PyData} (h : atI ds i = some z) : ∃ v, atI vs i = some v ∧ Dp K F v z := by
  unfold atI at h ⊢
  rw [ixN_len (DpAll.len r) i]
  cases e : ixN ds.length i with
  | none => rw [e] at h; cases h
  | some j =>
    rw [e] at h
    exact DpAll.get r h
theorem pair_at {F : Hp} {al : List Addr} {vs : List V} {xs : List A} (r : Paired (Ab K F al) vs xs) {i : Int} {z : A} (h : atI xs i = some z) : ∃ v, atI vs i = some v ∧ Ab K F al v z := by
  unfold atI at h ⊢
  rw [ixN_len (pair_len r) i]
  cases e : ixN xs.length i with
  | none => rw [e] at h; cases h
  | some j =>
    rw [e] at h
    exact pair_get r h
/-- x[i]: of a list, a tuple, a text, a cell -/
def rdIx : A → A → Mu → DK → Prop := fun x y μ P => ∃ i, y = .d (.int i) ∧
  ((∃ ds z, (x = .d (.list ds) ∨ x = .d (.tuple ds)) ∧ atI ds i = some z ∧ P (.d z) μ) ∨ (∃ n xs z, x = .c n ∧ μ[n]? = some (.lst xs) ∧ atI xs i = some z ∧ P z μ) ∨ ∃ (s : Str) (c : Nat), x = .d (.str s) ∧ s.length ≤ sizeLine ∧ atI s.cps.toList i = some c ∧ P (.d (.str ⟨#[c]⟩)) μ)
theorem s_ix : SimR2 K (rIx K) rdIx := fun x y μ P h F al H v w S a b Q k => by
  obtain ⟨i, rfl, h⟩ := h
  rw [dp_int b]
  rcases h with ⟨ds, z, h1, h2, h3⟩ | ⟨n, xs, z, rfl, h1, h2, h3⟩ | ⟨s, c, rfl, h1, h2, h3⟩
  · rcases h1 with rfl | rfl
    · obtain ⟨p, vs, rfl, q, r⟩ := dp_lst a
      obtain ⟨u, e, dz⟩ := dpall_at r h2
      exact .inl ⟨p, vs, i, u, rfl, rfl, S.seq q, e, k.now h3 S dz⟩
    · obtain ⟨p, vs, rfl, q, r⟩ := dp_tup a
      obtain ⟨u, e, dz⟩ := dpall_at r h2
      exact .inr (.inl ⟨p, vs, i, u, rfl, rfl, S.seqT q, e, k.now h3 S dz⟩)
  · obtain ⟨p, ep, rfl⟩ := a
    obtain ⟨q, vs, e1, e2, e3⟩ := cell_lst S h1
    rw [ep] at e1
    obtain rfl := Option.some.inj e1
    obtain ⟨u, e, dz⟩ := pair_at e3 h2
    exact .inl ⟨p, vs, i, u, rfl, rfl, .inl (.inl e2), e, k.now h3 S dz⟩
  · rw [dp_str a]
    exact .inr (.inr ⟨s, i, c, rfl, rfl, h1, h2, k.now h3 S (.str _)⟩)
/-! ### built-in functions -/
variable {e : Expr} {es : List Expr} {pos p : Pos} {da : DAT} {x : Str} {id T : String} {r : List V → Hp → VK → Prop} {rd : List A → Mu → DK → Prop}
abbrev dCall (rd : List A → Mu → DK → Prop) (da : DAT) : DT := fun ρ μ P => da ρ μ fun xs μ1 => rd xs μ1 P
theorem sim_call {ta : TA} (hs : SimC K r rd) (ha : SimA K ta da) : SimE K (tCB r ta) (dCall rd da) := fun ρ μ P h F al σ H S L Q k =>
  ha ρ μ _ h F al σ H S L _ fun vs xs μ1 F1 al1 H1 q g S1 a => hs xs μ1 P q F1 al1 H1 vs S1 a Q (k.fwd g)
theorem d_callB (hc : CallR X (.builtin id) r) (hs : SimC X.K r rd) (ha : DA X (e :: es) da) (hm : X.mg x = none) (hg : Gl X x := by rfl) (hv : bootBuiltins x = some (.builtin id) := by decide +kernel) (hn : x ≠ "__name__" := by decide) (hdb : (x == ("__debug__" : Str)) = false := by decide)
    (he : starEach (e :: es) X.env = (false, eval e X.env) :: starEach es X.env := by rfl) (hpl : (backTo pos (starEach es X.env)).any (·.1) = false := by rfl) : DE X (.Call (.Name x p) (e :: es) [] pos) (dCall rd da) := by
  obtain ⟨_, pa, sa⟩ := ha.ex
  exact ⟨_, pe_callB hc hg hm hv pa hn hdb he hpl, sim_call hs sa⟩
theorem d_callTy (hc : CallR X (.type T) r) (hs : SimC X.K r rd) (ha : DA X (e :: es) da) (hm : X.mg x = none) (hg : Gl X x := by rfl) (hv : bootBuiltins x = some (.type T) := by decide +kernel) (hn : x ≠ "__name__" := by decide) (hdb : (x == ("__debug__" : Str)) = false := by decide)
    (he : starEach (e :: es) X.env = (false, eval e X.env) :: starEach es X.env := by rfl) (hpl : (backTo pos (starEach es X.env)).any (·.1) = false := by rfl) : DE X (.Call (.Name x p) (e :: es) [] pos) (dCall rd da) := by
  obtain ⟨_, pa, sa⟩ := ha.ex
  exact ⟨_, pe_callTy hc hg hm hv pa hn hdb he hpl, sim_call hs sa⟩
/-- len -/
def LenD (x : A) (μ : Mu) (n : Nat) : Prop := (∃ ds, ItemsD x μ ds ∧ n = ds.length) ∨ (∃ i xs, x = .c i ∧ μ[i]? = some (.lst xs) ∧ n = xs.length) ∨ ∃ y : Str, x = .d (.str y) ∧ y.length ≤ sizeLine ∧ n = y.length
def rdLen : List A → Mu → DK → Prop := fun xs μ P => ∃ x n, xs = [x] ∧ LenD x μ n ∧ P (.d (.int n)) μ
theorem s_len : SimC K (fun xs H Q => ∃ x n, xs = [x] ∧ LenV K x H n ∧ Q (.int n) H) rdLen := fun xs μ P h F al H vs S a Q k => by
  obtain ⟨x, n, rfl, hl, h⟩ := h
  cases a with
  | cons a1 a2 =>
    rename_i v _
    cases a2
    refine ⟨v, n, rfl, ?_, k.now h S (.int _)⟩
    rcases hl with ⟨ds, hi, rfl⟩ | ⟨i, xs, rfl, hi, rfl⟩ | ⟨y, rfl, hz, rfl⟩
    · obtain ⟨p, vs, rfl, hq, r⟩ := items_ab S a1 hi
      rcases hq with hq | hq
      · exact .inl ⟨vs, hq, (DpAll.len r).symm⟩
      · exact .inr ⟨vs, hq, (DpAll.len r).symm⟩
    · obtain ⟨p, ep, rfl⟩ := a1
      obtain ⟨q, vs, e1, e2, e3⟩ := cell_lst S hi
      rw [ep] at e1
      obtain rfl := Option.some.inj e1
      exact .inl ⟨vs, .inl (.inl e2), (pair_len e3).symm⟩
    · rw [dp_str a1]
      exact ⟨hz, rfl⟩
/-- one or two whole numbers -/
def rd1I (g : Int → PyData) : List A → Mu → DK → Prop := fun xs μ P => ∃ i, xs = [.d (.int i)] ∧ P (.d (g i)) μ
def rd2I (g : Int → Int → PyData) : List A → Mu → DK → Prop := fun xs μ P => ∃ i j, xs = [.d (.int i), .d (.int j)] ∧ P (.d (g i j)) μ
theorem s_max2 : SimC K (fun xs H Q => ∃ i j, xs = [.int i, .int j] ∧ Q (.int (if j > i then j else i)) H) (rd2I fun i j => .int (if j > i then j else i)) := fun xs μ P h F al H vs S a Q k => by
  obtain ⟨i, j, rfl, h⟩ := h
  cases a with
  | cons a1 a2 =>
    cases a2 with
    | cons a2 a3 =>
      cases a3
      exact ⟨i, j, by rw [dp_int a1, dp_int a2], k.now h S (.int _)⟩
theorem s_min2 : SimC K (fun xs H Q => ∃ i j, xs = [.int i, .int j] ∧ Q (.int (if j < i then j else i)) H) (rd2I fun i j => .int (if j < i then j else i)) := fun xs μ P h F al H vs S a Q k => by
  obtain ⟨i, j, rfl, h⟩ := h
  cases a with
  | cons a1 a2 =>
    cases a2 with
    | cons a2 a3 =>
      cases a3
      exact ⟨i, j, by rw [dp_int a1, dp_int a2], k.now h S (.int _)⟩
theorem s_int1 : SimC K (fun xs H Q => (∃ i, xs = [.int i] ∧ Q (.int i) H) ∨ ∃ b, xs = [.bl b] ∧ Q (.int (if b then 1 else 0)) H) (rd1I fun i => .int i) := fun xs μ P h F al H vs S a Q k => by
  obtain ⟨i, rfl, h⟩ := h
  cases a with
  | cons a1 a2 =>
    cases a2
    exact .inl ⟨i, by rw [dp_int a1], k.now h S (.int _)⟩
theorem ints_of {F : Hp} : ∀ {vs : List V} {ns : List Int}, DpAll K F vs (ns.map PyData.int) → vs = ns.map V.int
  | [], [], _ => rfl
  | _ :: _, _ :: _, .cons a b => by
    rw [dp_int a, ints_of b]
    rfl
theorem strs_of {F : Hp} : ∀ {vs : List V} {ns : List Str}, DpAll K F vs (ns.map PyData.str) → vs = ns.map V.str
  | [], [], _ => rfl
  | _ :: _, _ :: _, .cons a b => by
    rw [dp_str a, strs_of b]
    rfl
def rdSum : List A → Mu → DK → Prop := fun xs μ P => ∃ (x : A) (ns : List Int), xs = [x] ∧ (x = .d (.list (ns.map PyData.int)) ∨ ∃ i, x = .c i ∧ μ[i]? = some (.lst ((ns.map PyData.int).map A.d))) ∧ P (.d (.int ns.sum)) μ
theorem s_sum : SimC K (rSum K) rdSum := fun xs μ P h F al H vs S a Q k => by
  obtain ⟨x, ns, rfl, hx, h⟩ := h
  cases a with
  | cons a1 a2 =>
    cases a2
    rcases hx with rfl | ⟨i, rfl, hi⟩
    · obtain ⟨p, vs, rfl, q, r⟩ := dp_lst a1
      obtain rfl := ints_of r
      exact ⟨p, ns, rfl, S.seq q, k.now h S (.int _)⟩
    · obtain ⟨p, ep, rfl⟩ := a1
      obtain ⟨q, vs, e1, e2, e3⟩ := cell_lst S hi
      rw [ep] at e1
      obtain rfl := Option.some.inj e1
      obtain rfl := ints_of (DpAll.of e3)
      exact ⟨p, ns, rfl, .inl (.inl e2), k.now h S (.int _)⟩
/-- list(x), a new cell; a new list that stays -/
def rdListC : List A → Mu → DK → Prop := fun xs μ P => ∃ x ds, xs = [x] ∧ ItemsD x μ ds ∧ P (.c μ.length) (μ ++ [.lst (ds.map A.d)])
def rdList : List A → Mu → DK → Prop := fun xs μ P => ∃ x ds, xs = [x] ∧ ItemsD x μ ds ∧ P (.d (.list ds)) μ
theorem s_listC : SimC K (fun xs H Q => ∃ p ys, xs = [.ref p] ∧ (SqL K H p ys ∨ SqT K H p ys) ∧ ∀ l, H l = none → Q (.ref l) (upd H l (.lst ys))) rdListC := fun xs μ P h F al H vs S a Q k => by
  obtain ⟨x, ds, rfl, hi, h⟩ := h
  cases a with
  | cons a1 a2 =>
    cases a2
    obtain ⟨p, vs, rfl, hq, r⟩ := items_ab S a1 hi
    refine ⟨p, vs, rfl, hq, fun l hl => ?_⟩
    obtain ⟨S2, g2⟩ := S.cellNew (ho := .lst vs) (o := .lst (ds.map A.d)) hl (DpAll.to r)
    refine k _ _ _ _ _ _ h g2 S2 ⟨l, ?_, rfl⟩
    rw [← S.len, List.getElem?_append_right (Nat.le_refl _), Nat.sub_self]
    rfl
theorem s_list : SimC K (fun xs H Q => ∃ p ys, xs = [.ref p] ∧ (SqL K H p ys ∨ SqT K H p ys) ∧ ∀ l, H l = none → Q (.ref l) (upd H l (.lst ys))) rdList := fun xs μ P h F al H vs S a Q k => by
  obtain ⟨x, ds, rfl, hi, h⟩ := h
  cases a with
  | cons a1 a2 =>
    cases a2
    obtain ⟨p, vs, rfl, hq, r⟩ := items_ab S a1 hi
    refine ⟨p, vs, rfl, hq, fun l hl => ?_⟩
    obtain ⟨S2, g2⟩ := S.lay (o := .lst vs) hl
    exact k _ _ _ _ _ _ h g2 S2 (.lst (.inl (.inl upd_same)) (DpAll.mono g2.f r))
/-- tuple(x) -/
def rdTuple : List A → Mu → DK → Prop := fun xs μ P => ∃ x ds, xs = [x] ∧ ItemsD x μ ds ∧ P (.d (.tuple ds)) μ
def rTupleN (K : PySem.W.Frag) : List V → Hp → VK → Prop := fun xs H Q => ∃ p ys, xs = [.ref p] ∧ ((SqL K H p ys ∧ ∀ l ob, H l = none → ob.dict = none → Q (.ref l) (upd H l (.frz ob (.tup ys)))) ∨ (SqT K H p ys ∧ Q (.ref p) H))
theorem call_tupleN {X : Cx} : CallR X (.type "tuple") (rTupleN X.K) := by
  intro pins s σ H vv us Q I rv h
  obtain ⟨p, ys, rfl, h⟩ := h
  obtain ⟨u, rfl, ru⟩ := vals1 rv
  cases ru
  rcases h with ⟨sq, q⟩ | ⟨sq, q⟩
  · obtain ⟨its, r1, pl, small⟩ := I.list sq
    have ln := r1.length
    refine call_tuple_list pl.isList (fun h1 kp => ?_) (by simp only [List.size_toArray] <;> omega)
    have J : Inv X pins σ H { s with heap := h1 } := I.kept (t' := s.toks) kp
    have at_ := Heap.get?_push_size h1 (o := { cls := .type "tuple", data := .seq its.toArray }) rfl
    have J2 : Inv X pins σ (upd H h1.objs.size (.frz { cls := .type "tuple", data := .seq its.toArray } (.tup ys))) { s with heap := h1.push { cls := .type "tuple", data := .seq its.toArray } } :=
      J.laid (t' := s.toks) (fun _ _ e => Heap.get?_push_of_some _ e) (Nat.le_refl _) ⟨at_, small, its, r1, IsTup.new _ _⟩
    exact ⟨.ref h1.objs.size, _, J2, rfl, q _ _ (J.hok.fresh (Nat.le_refl _)) rfl⟩
  · obtain ⟨its, _, pl, _⟩ := I.tuple sq
    exact call_tuple_same pl ⟨.ref p, H, I, rfl, q⟩
theorem s_tuple : SimC K (rTupleN K) rdTuple := fun xs μ P h F al H vs S a Q k => by
  obtain ⟨x, ds, rfl, hi, h⟩ := h
  cases a with
  | @cons v0 _ _ _ a1 a2 =>
    cases a2
    by_cases ht : x = .d (.tuple ds)
    · subst ht
      obtain ⟨p, vs, rfl, q, r⟩ := dp_tupN a1
      exact ⟨p, vs, rfl, .inr ⟨S.seqT q.t, k.now h S (.tup q r)⟩⟩
    · have go : ∃ p vs, v0 = V.ref p ∧ SqL K H p vs ∧ DpAll K F vs ds := by
        rcases hi with rfl | rfl | ⟨i, rfl, e⟩
        · obtain ⟨p, vs, rfl, q, r⟩ := dp_lst a1
          exact ⟨p, vs, rfl, S.seq q, r⟩
        · exact absurd rfl ht
        · obtain ⟨p, ep, rfl⟩ := a1
          obtain ⟨q, vs, e1, e2, e3⟩ := cell_lst S e
          rw [ep] at e1
          obtain rfl := Option.some.inj e1
          exact ⟨p, vs, rfl, .inl (.inl e2), DpAll.of e3⟩
      obtain ⟨p, vs, rfl, hq, r⟩ := go
      refine ⟨p, vs, rfl, .inl ⟨hq, fun l ob hl hd => ?_⟩⟩
      obtain ⟨S2, g2⟩ := S.lay (o := .frz ob (.tup vs)) hl
      exact k _ _ _ _ _ _ h g2 S2 (.tup (.inl ⟨ob, upd_same, hd⟩) (DpAll.mono g2.f r))
end
end Dl

set_option Elab.async false
set_option linter.all false
set_option maxRecDepth 100000
set_option maxHeartbeats 4000000
namespace Dl
open PySem PySem.Spec PyProof.Rows L2
/-! ### methods -/
section
variable {X : Cx} {K : PySem.W.Frag} {o e : Expr} {es : List Expr} {apos cpos : Pos} {do_ : DT} {da : DAT} {name : Str} {id T : String} {r : V → List V → Hp → VK → Prop} {rd : A → List A → Mu → DK → Prop}
def TyD (T : String) (x : A) (μ : Mu) : Prop := (T = "str" ∧ ∃ y, x = .d (.str y)) ∨ (T = "list" ∧ ((∃ ds, x = .d (.list ds)) ∨ ∃ i xs, x = .c i ∧ μ[i]? = some (.lst xs))) ∨ (T = "dict" ∧ ∃ i ks, x = .c i ∧ μ[i]? = some (.dct ks))
theorem tyD_ab {F : Hp} {al : List Addr} {μ : Mu} {H : Hp} {v : V} {x : A} (S : Sto K F al μ H) (a : Ab K F al v x) (h : TyD T x μ) : tyV K T v H := by
  rcases h with ⟨rfl, y, rfl⟩ | ⟨rfl, ⟨ds, rfl⟩ | ⟨i, xs, rfl, e⟩⟩ | ⟨rfl, i, ks, rfl, e⟩
  · rw [dp_str a]
    rfl
  · obtain ⟨p, vs, rfl, q, _⟩ := dp_lst a
    exact .inl ⟨rfl, vs, S.seq q⟩
  · obtain ⟨p, ep, rfl⟩ := a
    obtain ⟨q, vs, e1, e2, e3⟩ := cell_lst S e
    rw [ep] at e1
    obtain rfl := Option.some.inj e1
    exact .inl ⟨rfl, vs, .inl (.inl e2)⟩
  · obtain ⟨p, ep, rfl⟩ := a
    obtain ⟨ho, h1, h2⟩ := S.cell i p _ ep e
    have h3 := (h2 (fun z => nomatch z)).2
    cases ho with
    | dK kvs => exact .inr (.inr (.inl ⟨rfl, .inl ⟨kvs, h1⟩⟩))
    | _ => exact h3.elim
abbrev dBm (T : String) (rd : A → List A → Mu → DK → Prop) (do_ : DT) (da : DAT) : DT := fun ρ μ P => do_ ρ μ fun x μ1 => TyD T x μ1 ∧ da ρ μ1 fun xs μ2 => rd x xs μ2 P
theorem d_bm (pa : PlainAttrs T) (slot : Slot T name id) (hty : typeOf (.builtin id) = pure (.type "method_descriptor")) (hm : MtR X id r) (hs : SimM X.K T r rd) (ho : DE X o do_) (ha : DA X (e :: es) da)
    (hbase : attributeBase o name X.env (eval o X.env) = eval o X.env := by rfl)
    (hfew : ((backTo cpos (starEach (e :: es) X.env)).all (fun x => !x.1) && (backToKw cpos (keywordEach [] X.env)).all (fun x => x.1.isSome)
      && decide ((e :: es).length + ([] : List Keyword).length + (if ([] : List Keyword).isEmpty then 0 else 1) < 30)) = true := by rfl)
    (hline : (apos.endLine == cpos.line) = true := by rfl) (hst : starEach (e :: es) X.env = (false, eval e X.env) :: starEach es X.env := by rfl) (hplain : (backTo cpos (starEach es X.env)).any (·.1) = false := by rfl) :
    DE X (.Call (.Attribute o name apos) (e :: es) [] cpos) (dBm T rd do_ da) := by
  obtain ⟨_, p1, s1⟩ := ho.ex
  obtain ⟨_, p2, s2⟩ := ha.ex
  refine ⟨_, pe_bm pa slot hty hm p1 p2 hbase hfew hline hst hplain, fun ρ μ P h F al σ H S L Q k => s1 ρ μ _ h F al σ H S L _ fun v x μ1 F1 al1 H1 q g S1 a1 => ?_⟩
  obtain ⟨ty, q⟩ := q
  refine ⟨tyD_ab S1 a1 ty, s2 ρ μ1 _ q F1 al1 σ H1 S1 (g.slots L) _ fun vs xs μ2 F2 al2 H2 q2 g2 S2 a2 => ?_⟩
  exact hs x xs μ2 P q2 F2 al2 H2 v vs S2 (g2.ab a1) a2 Q (k.fwd (g.trans g2))
theorem d_bm0 (pa : PlainAttrs T) (slot : Slot T name id) (hty : typeOf (.builtin id) = pure (.type "method_descriptor")) (hm : MtR X id r) (hs : SimM X.K T r rd) (ho : DE X o do_)
    (hbase : attributeBase o name X.env (eval o X.env) = eval o X.env := by rfl) (hline : (apos.endLine == cpos.line) = true := by rfl) : DE X (.Call (.Attribute o name apos) [] [] cpos) (dBm T rd do_ daNil) := by
  obtain ⟨_, p1, s1⟩ := ho.ex
  refine ⟨_, pe_bm0 pa slot hty hm p1 hbase hline, fun ρ μ P h F al σ H S L Q k => s1 ρ μ _ h F al σ H S L _ fun v x μ1 F1 al1 H1 q g S1 a1 => ?_⟩
  obtain ⟨ty, q⟩ := q
  exact ⟨tyD_ab S1 a1 ty, hs x [] μ1 P q F1 al1 H1 v [] S1 a1 .nil Q (k.fwd g)⟩
theorem Paired.app {α β : Type} {R : α → β → Prop} : ∀ {l l' : List α} {m m' : List β}, Paired R l m → Paired R l' m' → Paired R (l ++ l') (m ++ m')
  | _, _, _, _, .nil, h => h
  | _, _, _, _, .cons a b, h => .cons a (Paired.app b h)
theorem Paired.takeP {α β : Type} {R : α → β → Prop} : ∀ {l : List α} {m : List β} (n : Nat), Paired R l m → Paired R (l.take n) (m.take n)
  | _, _, 0, _ => .nil
  | _, _, n + 1, .nil => .nil
  | _, _, n + 1, .cons a b => .cons a (Paired.takeP n b)
theorem Paired.dropP {α β : Type} {R : α → β → Prop} : ∀ {l : List α} {m : List β} (n : Nat), Paired R l m → Paired R (l.drop n) (m.drop n)
  | _, _, 0, h => h
  | _, _, n + 1, .nil => .nil
  | _, _, n + 1, .cons a b => Paired.dropP n b
theorem Paired.setP {α β : Type} {R : α → β → Prop} {x : α} {y : β} (h : R x y) : ∀ {l : List α} {m : List β} (n : Nat), Paired R l m → Paired R (l.set n x) (m.set n y)
  | _, _, _, .nil => .nil
  | _, _, 0, .cons a b => .cons h b
  | _, _, n + 1, .cons a b => .cons a (Paired.setP h n b)
theorem Paired.eraseP {α β : Type} {R : α → β → Prop} : ∀ {l : List α} {m : List β} (n : Nat), Paired R l m → Paired R (l.eraseIdx n) (m.eraseIdx n)
  | _, _, _, .nil => .nil
  | _, _, 0, .cons a b => b
  | _, _, n + 1, .cons a b => .cons a (Paired.eraseP n b)
/-- a cell's list is written -/
theorem cell_put {F : Hp} {al : List Addr} {μ : Mu} {H : Hp} {p : Addr} {i : Nat} {xs ys : List A} {vs : List V} (S : Sto K F al μ H) (hp : al[i]? = some p) (h : μ[i]? = some (.lst xs)) (r : Paired (Ab K F al) vs ys) :
    Sto K F al (μ.set i (.lst ys)) (upd H p (.lst vs)) ∧ Grow F al H F al (upd H p (.lst vs)) := S.put hp h (fun z => nomatch z) r
theorem one_of {F : Hp} {al : List Addr} {vs : List V} {y : A} (h : Paired (Ab K F al) vs [y]) : ∃ v, vs = [v] ∧ Ab K F al v y := by
  cases h with
  | cons a b =>
    cases b
    exact ⟨_, rfl, a⟩
theorem two_of {F : Hp} {al : List Addr} {vs : List V} {y z : A} (h : Paired (Ab K F al) vs [y, z]) : ∃ v w, vs = [v, w] ∧ Ab K F al v y ∧ Ab K F al w z := by
  cases h with
  | cons a b =>
    cases b with
    | cons b c =>
      cases c
      exact ⟨_, _, rfl, a, b⟩
def rdAppend : A → List A → Mu → DK → Prop := fun x xs μ P => ∃ i ys y, x = .c i ∧ xs = [y] ∧ μ[i]? = some (.lst ys) ∧ ys.length < sizeLine ∧ P (.d .none) (μ.set i (.lst (ys ++ [y])))
theorem s_append : SimM K "list" rAppend rdAppend := fun x xs μ P h F al H v vs S a as Q k => by
  obtain ⟨i, ys, y, rfl, rfl, e, hz, h⟩ := h
  obtain ⟨p, ep, rfl⟩ := a
  obtain ⟨q, ws, e1, e2, e3⟩ := cell_lst S e
  rw [ep] at e1
  obtain rfl := Option.some.inj e1
  obtain ⟨w, rfl, aw⟩ := one_of as
  obtain ⟨S2, g2⟩ := cell_put S ep e (Paired.app e3 (.cons aw .nil))
  exact ⟨p, ws, w, rfl, rfl, e2, by rw [pair_len e3]; exact hz, k _ _ _ _ _ _ h g2 S2 .non⟩
/-- xs.pop(i) -/
def rdPopAt : A → List A → Mu → DK → Prop := fun x xs μ P => ∃ (n : Nat) (ys : List A) (i : Int) (j : Nat) (y : A), x = .c n ∧ xs = [.d (.int i)] ∧ μ[n]? = some (.lst ys) ∧ i = (j : Int) ∧ j < 2 ^ 62 ∧ ys[j]? = some y ∧ P y (μ.set n (.lst (ys.eraseIdx j)))
theorem seq_nat {n j : Nat} (h : j < n) : seqIndex? (j : Int) n = some j := by
  have := seqIndex_of (k := (j : Int)) (n := n) (by omega) (by omega)
  simpa using this
theorem s_popAt : SimM K "list" rPopAt rdPopAt := fun x xs μ P h F al H v vs S a as Q k => by
  obtain ⟨n, ys, i, j, y, rfl, rfl, e, rfl, hj, hy, h⟩ := h
  obtain ⟨p, ep, rfl⟩ := a
  obtain ⟨q, ws, e1, e2, e3⟩ := cell_lst S e
  rw [ep] at e1
  obtain rfl := Option.some.inj e1
  obtain ⟨w, rfl, aw⟩ := one_of as
  obtain ⟨u, eu, au⟩ := pair_get e3 hy
  have lt := (List.getElem?_eq_some_iff.mp eu).1
  obtain ⟨S2, g2⟩ := cell_put S ep e (Paired.eraseP j e3)
  exact ⟨p, ws, j, j, u, rfl, by rw [dp_int aw], e2, by omega, by omega, seq_nat lt, eu, k _ _ _ _ _ _ h g2 S2 (g2.ab au)⟩
/-- xs.insert(i, y) -/
def rdInsert : A → List A → Mu → DK → Prop := fun x xs μ P => ∃ (n : Nat) (ys : List A) (i : Int) (y : A), x = .c n ∧ xs = [.d (.int i), y] ∧ μ[n]? = some (.lst ys) ∧ ys.length < sizeLine ∧ 0 ≤ i ∧ i < 2 ^ 63 ∧ P (.d .none) (μ.set n (.lst (ys.take i.toNat ++ [y] ++ ys.drop i.toNat)))
theorem s_insert : SimM K "list" (fun x vs H Q => ∃ (l : Addr) (xs : List V) (i : Int) (y : V), x = .ref l ∧ vs = [.int i, y] ∧ H l = some (.lst xs) ∧ xs.length < sizeLine ∧ 0 ≤ i ∧ i < 2 ^ 63 ∧
    Q .non (upd H l (.lst (xs.take i.toNat ++ [y] ++ xs.drop i.toNat)))) rdInsert := fun x xs μ P h F al H v vs S a as Q k => by
  obtain ⟨n, ys, i, y, rfl, rfl, e, hz, h0, h1, h⟩ := h
  obtain ⟨p, ep, rfl⟩ := a
  obtain ⟨q, ws, e1, e2, e3⟩ := cell_lst S e
  rw [ep] at e1
  obtain rfl := Option.some.inj e1
  obtain ⟨w, u, rfl, aw, au⟩ := two_of as
  obtain ⟨S2, g2⟩ := cell_put S ep e (Paired.app (Paired.app (Paired.takeP i.toNat e3) (.cons au .nil)) (Paired.dropP i.toNat e3))
  exact ⟨p, ws, i, u, rfl, by rw [dp_int aw], e2, by rw [pair_len e3]; exact hz, h0, h1, k _ _ _ _ _ _ h g2 S2 .non⟩
end

/-! ### calls of the text's own defs -/
/-- an exception: its class, its fields -/
abbrev Flds := Option (List (Str × PyData))
abbrev DX := Value → Flds → Mu → Prop
def KoX (K : PySem.W.Frag) (F : Hp) (al : List Addr) (H : Hp) (Ex : DX) (E : XK) : Prop := ∀ C o μ' F' al' H' d, Ex C o μ' → Grow F al H F' al' H' → Sto K F' al' μ' H' → XdOk K F' o d → E C d H'
theorem KoX.fwd {K : PySem.W.Frag} {F F1 : Hp} {al al1 : List Addr} {H H1 : Hp} {Ex : DX} {E : XK} (k : KoX K F al H Ex E) (g : Grow F al H F1 al1 H1) : KoX K F1 al1 H1 Ex E := fun C o μ' F' al' H' d h g' S x => k C o μ' F' al' H' d h (g.trans g') S x
abbrev DR := List A → Mu → DK → DX → Prop
/-- a promise over data -/
def SpD (K : PySem.W.Frag) (R : DR) : Sp := fun vs H Q E => ∃ xs μ P Ex F al, Sto K F al μ H ∧ Paired (Ab K F al) vs xs ∧ R xs μ P Ex ∧ Ko K F al H P Q ∧ KoX K F al H Ex E
abbrev noX : DX := fun _ _ _ => False
section
variable {X : Cx} {CX : CXT} {k : Nat} {f : Addr} {fd : FuncData} {ps : List Str} {R : DR} {x : Str} {p pos : Pos} {e : Expr} {es : List Expr} {da : DAT}
abbrev dFn (R : DR) (da : DAT) : DT := fun ρ μ P => da ρ μ fun xs μ1 => R xs μ1 P noX
theorem sim_fn {ta : TA} (ha : SimA X.K ta da) : SimE X.K (tCall (SpD X.K R) [] E0 ta) (dFn R da) := fun ρ μ P h F al σ H S L Q kk =>
  ha ρ μ _ h F al σ H S L _ fun vs xs μ1 F1 al1 H1 q g S1 a => by
    rw [List.append_nil]
    exact ⟨xs, μ1, P, noX, F1, al1, S1, a, q, kk.fwd g, fun _ _ _ _ _ _ _ z => z.elim⟩
theorem d_call (G : FnOk X.prog X.w X.K X.mg X.base (L2.CX X.prog X.w) k f fd ps (SpD X.K R)) (hr : Room k X.A) (hm : X.mg x = some (.ref f)) (hk : PySem.W.keepIn X.K (.ref f) = true) (hb : Binds X.K fd ps []) (ha : DA X (e :: es) da) (hg : Gl X x := by rfl)
    (hdb : (x == ("__debug__" : Str)) = false := by decide) (he : starEach (e :: es) X.env = (false, eval e X.env) :: starEach es X.env := by rfl) (hpl : (backTo pos (starEach es X.env)).any (·.1) = false := by rfl) : DE X (.Call (.Name x p) (e :: es) [] pos) (dFn R da) := by
  obtain ⟨_, p2, s2⟩ := ha.ex
  exact ⟨_, pe_call G hr hg hm hk hb .nil passL p2 hdb he hpl, sim_fn s2⟩
end

/-! ### statements -/
structure DEnds where
  nx : Rho → Mu → Prop
  rt : DK
  bk : Rho → Mu → Prop := fun _ _ => False
  ct : Rho → Mu → Prop := fun _ _ => False
  ex : Value → Flds → Rho → Mu → Prop := fun _ _ _ _ => False
abbrev DS := DEnds → Rho → Mu → Prop
structure KoS (K : PySem.W.Frag) (W : WX) (F : Hp) (al : List Addr) (H : Hp) (D : DEnds) (E : Ends) : Prop where
  nx : ∀ ρ' μ' F' al' σ' H', D.nx ρ' μ' → Grow F al H F' al' H' → Sto K F' al' μ' H' → Slots K F' al' σ' ρ' → E.nx σ' H'
  rt : Ko K F al H D.rt E.rt
  bk : ∀ ρ' μ' F' al' σ' H', D.bk ρ' μ' → Grow F al H F' al' H' → Sto K F' al' μ' H' → Slots K F' al' σ' ρ' → E.bk σ' H'
  ct : ∀ ρ' μ' F' al' σ' H', D.ct ρ' μ' → Grow F al H F' al' H' → Sto K F' al' μ' H' → Slots K F' al' σ' ρ' → E.ct σ' H'
  ex : ∀ C o ρ' μ' F' al' σ' H' d, D.ex C o ρ' μ' → Grow F al H F' al' H' → Sto K F' al' μ' H' → Slots K F' al' σ' ρ' → XdOk K F' o d → W C d σ' H'
theorem KoS.fwd {K : PySem.W.Frag} {W : WX} {F F1 : Hp} {al al1 : List Addr} {H H1 : Hp} {D : DEnds} {E : Ends} (k : KoS K W F al H D E) (g : Grow F al H F1 al1 H1) : KoS K W F1 al1 H1 D E :=
  ⟨fun a b c d e f h g' => k.nx a b c d e f h (g.trans g'), k.rt.fwd g, fun a b c d e f h g' => k.bk a b c d e f h (g.trans g'), fun a b c d e f h g' => k.ct a b c d e f h (g.trans g'), fun a b c d e f i j l h g' => k.ex a b c d e f i j l h (g.trans g')⟩
def SimS (K : PySem.W.Frag) (W : WX) (t : TS) (d : DS) : Prop := ∀ ρ μ D, d D ρ μ → ∀ F al σ H, Sto K F al μ H → Slots K F al σ ρ → ∀ E, KoS K W F al H D E → t E σ H
structure DSt (X : Cx) (W : WX) (st : Stmt) (d : DS) : Prop where
  ex : ∃ t, PS X st t ∧ SimS X.K W t d
structure DSs (X : Cx) (W : WX) (st : List Stmt) (d : DS) : Prop where
  ex : ∃ t, PSs X st t ∧ SimS X.K W t d
theorem Slots.set {K : PySem.W.Frag} {F : Hp} {al : List Addr} {σ : L2.St} {ρ : Rho} {i : Nat} {v : V} {x : A} (L : Slots K F al σ ρ) (a : Ab K F al v x) : Slots K F al (σ.set i (some v)) (ρ.set i (some x)) := by
  refine ⟨by rw [List.length_set, List.length_set]; exact L.len, fun j y e => ?_⟩
  by_cases z : j = i
  · subst z
    have lt : j < ρ.length := by
      have := (List.getElem?_eq_some_iff.mp e).1
      rw [List.length_set] at this
      exact this
    rw [List.getElem?_set_self lt] at e
    obtain rfl : x = y := Option.some.inj (Option.some.inj e)
    exact ⟨v, List.getElem?_set_self (by rw [L.len]; exact lt), a⟩
  · rw [List.getElem?_set_ne (Ne.symm z)] at e
    obtain ⟨w, e1, e2⟩ := L.at_ j y e
    exact ⟨w, by rw [List.getElem?_set_ne (Ne.symm z)]; exact e1, e2⟩
section
variable {X : Cx} {W : WX} {st : Stmt} {rest a b : List Stmt} {d d1 d2 : DS} {de : DT} {dc : DTT} {e c : Expr} {pos : Pos}
abbrev dsNext : DS := fun D ρ μ => D.nx ρ μ
abbrev dsSeq (t u : DS) : DS := fun D ρ μ => t { D with nx := u D } ρ μ
theorem dss_nil : DSs X W [] dsNext := ⟨_, pss_nil, fun ρ μ D h F al σ H S L E k => k.nx _ _ _ _ _ _ h Grow.refl S L⟩
theorem dss_one (h : DSt X W st d) : DSs X W [st] d := by
  obtain ⟨_, p, s⟩ := h.ex
  exact ⟨_, pss_one p, s⟩
theorem dss_cons (h1 : DSt X W st d1) (h2 : DSs X W rest d2) : DSs X W (st :: rest) (dsSeq d1 d2) := by
  obtain ⟨_, p1, s1⟩ := h1.ex
  obtain ⟨_, p2, s2⟩ := h2.ex
  refine ⟨_, pss_cons p1 p2, fun ρ μ D h F al σ H S L E k => s1 ρ μ _ h F al σ H S L _ ⟨fun ρ' μ' F' al' σ' H' h' g' S' L' => s2 ρ' μ' D h' F' al' σ' H' S' L' E (k.fwd g'), k.rt, k.bk, k.ct, k.ex⟩⟩
abbrev dsSet (i : Nat) (de : DT) : DS := fun D ρ μ => de ρ μ fun x μ1 => D.nx (ρ.set i (some x)) μ1
theorem ds_set {i : Nat} {x : Str} {pos' : Pos} (hN : X.N.Nodup) (he : DE X e de) (hi : X.N[i]? = some x := by rfl) (hx : Loc X.env.scope x := by first | exact Or.inl rfl | exact Or.inr rfl) (hs : swapsWith e (some (.Name x pos')) pos.line X.env = pure false := by rfl)
    (hf : X.fn x = true ∨ X.env.scope.names.lookup x = some .local := by first | exact .inl rfl | exact .inr rfl | assumption) : DSt X W (.Assign [.Name x pos'] e pos) (dsSet i de) := by
  obtain ⟨_, p, s⟩ := he.ex
  exact ⟨_, ps_set (i := i) hN hi hx p hs hf, fun ρ μ D h F al σ H S L E k => s ρ μ _ h F al σ H S L _ fun v x μ1 F1 al1 H1 q g S1 a => k.nx _ _ _ _ _ _ q g S1 ((g.slots L).set a)⟩
abbrev dsExpr (de : DT) : DS := fun D ρ μ => de ρ μ fun _ μ1 => D.nx ρ μ1
theorem ds_expr (he : DE X e de) (hs : swapsWith e none pos.line X.env = pure false := by rfl) : DSt X W (.Expr e pos) (dsExpr de) := by
  obtain ⟨_, p, s⟩ := he.ex
  exact ⟨_, ps_expr p hs, fun ρ μ D h F al σ H S L E k => s ρ μ _ h F al σ H S L _ fun v x μ1 F1 al1 H1 q g S1 a => k.nx _ _ _ _ _ _ q g S1 (g.slots L)⟩
abbrev dsRet (de : DT) : DS := fun D ρ μ => de ρ μ D.rt
theorem ds_ret (he : DE X e de) : DSt X W (.Return (some e) pos) (dsRet de) := by
  obtain ⟨_, p, s⟩ := he.ex
  exact ⟨_, ps_ret p, fun ρ μ D h F al σ H S L E k => s ρ μ _ h F al σ H S L _ k.rt⟩
abbrev dsIf (dc : DTT) (t u : DS) : DS := fun D ρ μ => dc ρ μ fun b μ1 => if b = true then t D ρ μ1 else u D ρ μ1
theorem ds_if (hc : DTest X c dc) (ha : DSs X W a d1) (hb : DSs X W b d2) : DSt X W (.If c a b pos) (dsIf dc d1 d2) := by
  obtain ⟨_, p0, s0⟩ := hc.ex
  obtain ⟨_, p1, s1⟩ := ha.ex
  obtain ⟨_, p2, s2⟩ := hb.ex
  refine ⟨_, ps_if p0 p1 p2, fun ρ μ D h F al σ H S L E k => s0 ρ μ _ h F al σ H S L _ fun b μ1 F1 al1 H1 q g S1 => ?_⟩
  cases b with
  | true => exact iteT (s1 ρ μ1 D (by rw [if_pos rfl] at q; exact q) F1 al1 σ H1 S1 (g.slots L) E (k.fwd g))
  | false => exact iteF (s2 ρ μ1 D (by rw [if_neg Bool.false_ne_true] at q; exact q) F1 al1 σ H1 S1 (g.slots L) E (k.fwd g))
theorem ds_pass : DSt X W (.Pass pos) dsNext := ⟨_, ps_pass, fun ρ μ D h F al σ H S L E k => k.nx _ _ _ _ _ _ h Grow.refl S L⟩
abbrev dsBreak : DS := fun D ρ μ => D.bk ρ μ
abbrev dsCont : DS := fun D ρ μ => D.ct ρ μ
theorem ds_break : DSt X W (.Break pos) dsBreak := ⟨_, ps_break, fun ρ μ D h F al σ H S L E k => k.bk _ _ _ _ _ _ h Grow.refl S L⟩
theorem ds_cont : DSt X W (.Continue pos) dsCont := ⟨_, ps_continue, fun ρ μ D h F al σ H S L E k => k.ct _ _ _ _ _ _ h Grow.refl S L⟩
end
end Dl

set_option Elab.async false
set_option linter.all false
set_option maxRecDepth 100000
set_option maxHeartbeats 4000000
namespace Dl
open PySem PySem.Spec PyProof.Rows L2
/-! ### the reading that d itself gives -/
def tD (K : PySem.W.Frag) (d : DT) : TE := fun σ H Q => ∃ ρ μ P F al, d ρ μ P ∧ Sto K F al μ H ∧ Slots K F al σ ρ ∧ Ko K F al H P Q
def tDT (K : PySem.W.Frag) (d : DTT) : TT := fun σ H Q => ∃ ρ μ P F al, d ρ μ P ∧ Sto K F al μ H ∧ Slots K F al σ ρ ∧ KoT K F al H P Q
theorem sim_tD {K : PySem.W.Frag} {d : DT} : SimE K (tD K d) d := fun ρ μ P h F al σ H S L Q k => ⟨ρ, μ, P, F, al, h, S, L, k⟩
theorem sim_tDT {K : PySem.W.Frag} {d : DTT} : SimT K (tDT K d) d := fun ρ μ P h F al σ H S L Q k => ⟨ρ, μ, P, F, al, h, S, L, k⟩
theorem DE.pe {X : Cx} {e : Expr} {d : DT} (h : DE X e d) : PE X e (tD X.K d) := by
  obtain ⟨t, p, s⟩ := h.ex
  exact ⟨fun pins s' σ H Q I ⟨ρ, μ, P, F, al, hd, S, L, k⟩ => p.run pins s' σ H Q I (s ρ μ P hd F al σ H S L Q k)⟩
theorem DTest.pt {X : Cx} {e : Expr} {d : DTT} (h : DTest X e d) : PT X e (tDT X.K d) := by
  obtain ⟨t, p, s⟩ := h.ex
  exact ⟨fun pins s' σ H Q I ⟨ρ, μ, P, F, al, hd, S, L, k⟩ => p.run pins s' σ H Q I (s ρ μ P hd F al σ H S L Q k)⟩

/-! ### targets -/
/-- what a walk yields: one thing, a new pair -/
inductive Y where
  | one (x : A)
  | two (x y : A)
def AbY (K : PySem.W.Frag) (F : Hp) (al : List Addr) (v : V) : Y → Prop
  | .one x => Ab K F al v x
  | .two x y => ∃ a v1 v2, v = .ref a ∧ SqT K F a [v1, v2] ∧ Ab K F al v1 x ∧ Ab K F al v2 y
abbrev RM := Rho → Mu → Prop
abbrev DG := Y → Rho → Mu → RM → Prop
abbrev DGs := List A → Rho → Mu → RM → Prop
def KoG (K : PySem.W.Frag) (F : Hp) (al : List Addr) (H : Hp) (σ : L2.St) (vs : List Nat) (P : RM) (Q : L2.St → Hp → Prop) : Prop :=
  ∀ ρ' μ' F' al' σ' H', P ρ' μ' → Grow F al H F' al' H' → Sto K F' al' μ' H' → Slots K F' al' σ' ρ' → σ'.length = σ.length → (∀ i, i ∉ vs → σ'[i]? = σ[i]?) → Q σ' H'
def SimG (K : PySem.W.Frag) (vs : List Nat) (g : TG) (d : DG) : Prop := ∀ y ρ μ P, d y ρ μ P → ∀ F al σ H v, Sto K F al μ H → Slots K F al σ ρ → AbY K F al v y → ∀ Q, KoG K F al H σ vs P Q → g v σ H Q
def SimGs (K : PySem.W.Frag) (vs : List Nat) (g : TGs) (d : DGs) : Prop := ∀ xs ρ μ P, d xs ρ μ P → ∀ F al σ H ws, Sto K F al μ H → Slots K F al σ ρ → Paired (Ab K F al) ws xs → ∀ Q, KoG K F al H σ vs P Q → g ws σ H Q
structure DGt (X : Cx) (tg : Expr) (vs : List Nat) (d : DG) : Prop where
  ex : ∃ g, PG X tg g ∧ SimG X.K vs g d
structure DGts (X : Cx) (tgs : List Expr) (vs : List Nat) (d : DGs) : Prop where
  ex : ∃ g, PGs X tgs g ∧ SimGs X.K vs g d
def tDG (K : PySem.W.Frag) (vs : List Nat) (d : DG) : TG := fun v σ H Q => ∃ y ρ μ P F al, d y ρ μ P ∧ Sto K F al μ H ∧ Slots K F al σ ρ ∧ AbY K F al v y ∧ KoG K F al H σ vs P Q
theorem sim_tDG {K : PySem.W.Frag} {vs : List Nat} {d : DG} : SimG K vs (tDG K vs d) d := fun y ρ μ P h F al σ H v S L a Q k => ⟨y, ρ, μ, P, F, al, h, S, L, a, k⟩
theorem DGt.pg {X : Cx} {e : Expr} {vs : List Nat} {d : DG} (h : DGt X e vs d) : PG X e (tDG X.K vs d) := by
  obtain ⟨t, p, s⟩ := h.ex
  exact ⟨fun pins s' σ H v u Q I r ⟨y, ρ, μ, P, F, al, hd, S, L, a, k⟩ => p.run pins s' σ H v u Q I r (s y ρ μ P hd F al σ H v S L a Q k)⟩
/-- a pair of data is data -/
def yOne : Y → Option A
  | .one x => some x

  | _ => none
theorem yOne_ab {K : PySem.W.Frag} {F : Hp} {al : List Addr} {v : V} {y : Y} {x : A} (e : yOne y = some x) (h : AbY K F al v y) : Ab K F al v x := by
  unfold yOne at e
  split at e
  · obtain rfl := Option.some.inj e
    exact h
  · cases e
abbrev dgName (i : Nat) : DG := fun y ρ μ P => ∃ x, yOne y = some x ∧ P (ρ.set i (some x)) μ
/-- the parts of what is taken apart -/
def yPart : Y → Option (List A)
  | .two x y => some [x, y]
  | .one (.d (.tuple ds)) => some (ds.map .d)
  | _ => none
theorem yPart_ab {K : PySem.W.Frag} {F : Hp} {al : List Addr} {v : V} {y : Y} {xs : List A} (e : yPart y = some xs) (h : AbY K F al v y) : ∃ a vs, v = .ref a ∧ SqT K F a vs ∧ Paired (Ab K F al) vs xs := by
  unfold yPart at e
  split at e
  · obtain rfl := Option.some.inj e
    obtain ⟨p, v1, v2, rfl, q, a1, a2⟩ := h
    exact ⟨p, _, rfl, q, .cons a1 (.cons a2 .nil)⟩
  · obtain rfl := Option.some.inj e
    obtain ⟨p, vs, rfl, q, r⟩ := dp_tup h
    exact ⟨p, vs, rfl, q, DpAll.to r⟩
  · cases e
abbrev dgTup (n : Nat) (d : DGs) : DG := fun y ρ μ P => ∃ xs, yPart y = some xs ∧ xs.length = n ∧ d xs ρ μ P
abbrev dgNil : DGs := fun xs ρ μ P => xs = [] ∧ P ρ μ
abbrev dgCons (d : DG) (ds : DGs) : DGs := fun xs ρ μ P => ∃ x r, xs = x :: r ∧ d (.one x) ρ μ fun ρ1 μ1 => ds r ρ1 μ1 P
section
variable {X : Cx} {W : WX} {pos : Pos} {K : PySem.W.Frag}
theorem dg_name {i : Nat} {x : Str} (hN : X.N.Nodup) (hi : X.N[i]? = some x := by rfl) (hx : Loc X.env.scope x := by first | exact Or.inl rfl | exact Or.inr rfl) (hf : X.fn x = true ∨ X.env.scope.names.lookup x = some .local := by first | exact .inl rfl | exact .inr rfl | assumption) : DGt X (.Name x pos) [i] (dgName i) :=
  ⟨_, pg_name hN hi hx hf, fun y ρ μ P h F al σ H v S L a Q k => by
    obtain ⟨x, e, h⟩ := h
    refine k _ _ _ _ _ _ h Grow.refl S (L.set (yOne_ab e a)) (by rw [List.length_set]) fun j hj => ?_
    rw [List.getElem?_set_ne]
    intro z
    exact hj (by rw [z]; exact List.mem_singleton.mpr rfl)⟩
theorem dgs_nil : DGts X [] [] dgNil := ⟨_, pgs_nil, fun xs ρ μ P h F al σ H ws S L a Q k => by
  obtain ⟨rfl, h⟩ := h
  cases a
  exact ⟨rfl, k _ _ _ _ _ _ h Grow.refl S L rfl fun _ _ => rfl⟩⟩
theorem dgs_cons {e : Expr} {es : List Expr} {v1 v2 : List Nat} {d1 : DG} {d2 : DGs} (h1 : DGt X e v1 d1) (h2 : DGts X es v2 d2)
    (hs : (assignEach (e :: es) X.env).map (·.2) = assign e X.env :: (assignEach es X.env).map (·.2) := by rfl) : DGts X (e :: es) (v1 ++ v2) (dgCons d1 d2) := by
  obtain ⟨_, p1, s1⟩ := h1.ex
  obtain ⟨_, p2, s2⟩ := h2.ex
  refine ⟨_, pgs_cons p1 p2 hs, fun xs ρ μ P h F al σ H ws S L a Q k => ?_⟩
  obtain ⟨x, r, rfl, h⟩ := h
  cases a with
  | cons a b =>
    refine ⟨_, _, rfl, s1 (.one x) ρ μ _ h F al σ H _ S L a _ fun ρ1 μ1 F1 al1 σ1 H1 q g S1 L1 hl ho => ?_⟩
    refine s2 r ρ1 μ1 P q F1 al1 σ1 H1 _ S1 L1 (g.abs b) Q fun ρ2 μ2 F2 al2 σ2 H2 q2 g2 S2 L2 hl2 ho2 => ?_
    refine k _ _ _ _ _ _ q2 (g.trans g2) S2 L2 (hl2.trans hl) fun i hi => ?_
    rw [List.mem_append, not_or] at hi
    rw [ho2 i hi.2, ho i hi.1]
theorem dg_tup {es : List Expr} {k : Nat} {vs : List Nat} {d : DGs} {n : Nat} (hc : X.calm = true) (h : DGts X es vs d)
    (hn : (assignEach es X.env).length = n := by rfl) (hst : (assignEach es X.env).findIdx? (·.1) = none := by rfl) : DGt X (.Tuple es k pos) vs (dgTup n d) := by
  obtain ⟨_, p, s⟩ := h.ex
  refine ⟨_, pg_tup hc p hn hst, fun y ρ μ P h F al σ H v S L a Q k => ?_⟩
  obtain ⟨xs, e, hl, h⟩ := h
  obtain ⟨p, ws, rfl, q, r⟩ := yPart_ab e a
  exact ⟨p, ws, rfl, S.seqT q, by rw [pair_len r]; exact hl, s xs ρ μ P h F al σ H ws S L r Q k⟩
abbrev dsAsg (de : DT) (dg : DG) : DS := fun D ρ μ => de ρ μ fun x μ1 => dg (.one x) ρ μ1 D.nx
theorem ds_asg {tg e : Expr} {vs : List Nat} {de : DT} {dg : DG} (he : DE X e de) (hg : DGt X tg vs dg) (hs : swapsWithSole [tg] e pos.line X.env = pure false := by rfl) (hw : swappedStores [tg] e X.env = pure none := by rfl)
    (h1 : (assignEach [tg] X.env).map (·.2) = [assign tg X.env] := by rfl) : DSt X W (.Assign [tg] e pos) (dsAsg de dg) := by
  obtain ⟨_, p1, s1⟩ := he.ex
  obtain ⟨_, p2, s2⟩ := hg.ex
  refine ⟨_, ps_asg p1 p2 hs hw h1, fun ρ μ D h F al σ H S L E k => s1 ρ μ _ h F al σ H S L _ fun v x μ1 F1 al1 H1 q g S1 a => ?_⟩
  exact s2 (.one x) ρ μ1 _ q F1 al1 σ H1 v S1 (g.slots L) a _ fun ρ2 μ2 F2 al2 σ2 H2 q2 g2 S2 L2 _ _ => k.nx _ _ _ _ _ _ q2 (g.trans g2) S2 L2
end
end Dl

set_option Elab.async false
set_option linter.all false
set_option maxRecDepth 100000
set_option maxHeartbeats 4000000
namespace Dl
open PySem PySem.Spec PyProof.Rows L2
/-! ### a, b = x, y; o[i] = x; x += y -/
section
variable {X : Cx} {W : WX} {pos : Pos} {K : PySem.W.Frag}
theorem three_of {F : Hp} {al : List Addr} {vs : List V} {y z u : A} (h : Paired (Ab K F al) vs [y, z, u]) : ∃ v w q, vs = [v, w, q] ∧ Ab K F al v y ∧ Ab K F al w z ∧ Ab K F al q u := by
  cases h with
  | cons a b =>
    cases b with
    | cons b c =>
      cases c with
      | cons c d =>
        cases d
        exact ⟨_, _, _, rfl, a, b, c⟩
abbrev dsPar (i j : Nat) (da : DAT) : DS := fun D ρ μ => da ρ μ fun xs μ1 => ∃ x y, xs = [x, y] ∧ D.nx ((ρ.set i (some x)).set j (some y)) μ1
theorem ds_par {i j : Nat} {x y : Str} {a b : Expr} {da : DAT} {px py pt : Pos} {kt k2 pt2} (hc : X.calm = true) (hN : X.N.Nodup) (ha : DA X [a, b] da) (hi : X.N[i]? = some x := by rfl) (hj : X.N[j]? = some y := by rfl) (hij : i ≠ j := by decide)
    (hx : X.env.scope.names.lookup x = some .local := by rfl) (hy : X.env.scope.names.lookup y = some .local := by rfl)
    (hw : swappedStores [.Tuple [.Name x px, .Name y py] kt pt] (.Tuple [a, b] k2 pt2) X.env = pure (some [x, y]) := by rfl)
    (hs : swapsWithSole [.Tuple [.Name x px, .Name y py] kt pt] (.Tuple [a, b] k2 pt2) pos.line X.env = pure false := by rfl) :
    DSt X W (.Assign [.Tuple [.Name x px, .Name y py] kt pt] (.Tuple [a, b] k2 pt2) pos) (dsPar i j da) := by
  obtain ⟨_, p, s⟩ := ha.ex
  refine ⟨_, ps_par hc hN hi hj hij hx hy p hw hs, fun ρ μ D h F al σ H S L E k => s ρ μ _ h F al σ H S L _ fun vs xs μ1 F1 al1 H1 q g S1 a => ?_⟩
  obtain ⟨x, y, rfl, q⟩ := q
  obtain ⟨v, w, rfl, a1, a2⟩ := two_of a
  exact ⟨v, w, rfl, k.nx _ _ _ _ _ _ q g S1 (((g.slots L).set a1).set a2)⟩
abbrev dsPar3 (i j l : Nat) (da : DAT) : DS := fun D ρ μ => da ρ μ fun xs μ1 => ∃ x y z, xs = [x, y, z] ∧ D.nx (((ρ.set i (some x)).set j (some y)).set l (some z)) μ1
theorem ds_par3 {i j l : Nat} {x y z : Str} {a b c : Expr} {da : DAT} {px py pz pt : Pos} {kt k2 pt2} (hc : X.calm = true) (hN : X.N.Nodup) (ha : DA X [a, b, c] da) (hi : X.N[i]? = some x := by rfl) (hj : X.N[j]? = some y := by rfl) (hl : X.N[l]? = some z := by rfl)
    (hij : i ≠ j := by decide) (hil : i ≠ l := by decide) (hjl : j ≠ l := by decide)
    (hx : X.env.scope.names.lookup x = some .local := by rfl) (hy : X.env.scope.names.lookup y = some .local := by rfl) (hz : X.env.scope.names.lookup z = some .local := by rfl)
    (hw : swappedStores [.Tuple [.Name x px, .Name y py, .Name z pz] kt pt] (.Tuple [a, b, c] k2 pt2) X.env = pure (some [x, y, z]) := by rfl)
    (hs : swapsWithSole [.Tuple [.Name x px, .Name y py, .Name z pz] kt pt] (.Tuple [a, b, c] k2 pt2) pos.line X.env = pure false := by rfl) :
    DSt X W (.Assign [.Tuple [.Name x px, .Name y py, .Name z pz] kt pt] (.Tuple [a, b, c] k2 pt2) pos) (dsPar3 i j l da) := by
  obtain ⟨_, p, s⟩ := ha.ex
  refine ⟨_, ps_par3 hc hN hi hj hl hij hil hjl hx hy hz p hw hs, fun ρ μ D h F al σ H S L E k => s ρ μ _ h F al σ H S L _ fun vs xs μ1 F1 al1 H1 q g S1 a => ?_⟩
  obtain ⟨x, y, z, rfl, q⟩ := q
  obtain ⟨v, w, u, rfl, a1, a2, a3⟩ := three_of a
  exact ⟨v, w, u, rfl, k.nx _ _ _ _ _ _ q g S1 ((((g.slots L).set a1).set a2).set a3)⟩
/-- o[i] = x, o a cell -/
abbrev dgSub (do_ di : DT) : DG := fun y ρ μ P => ∃ x, yOne y = some x ∧ do_ ρ μ fun o μ1 => di ρ μ1 fun k μ2 => ∃ n xs i j, o = .c n ∧ k = .d (.int i) ∧ μ2[n]? = some (.lst xs) ∧ ixN xs.length i = some j ∧ P ρ (μ2.set n (.lst (xs.set j x)))
theorem dg_sub {o i : Expr} {do_ di : DT} (h1 : DE X o do_) (h2 : DE X i di)
    (ha : ∀ v, assign (.Subscript o i pos) X.env v = (do
      let ov ← holding [v] (eval o X.env)
      let iv ← holding [v, ov] (eval i X.env)
      standAt pos
      holding [v, ov, iv] (setItem ov iv v)
      release [v, ov, iv] []) := by intro _; rfl) : DGt X (.Subscript o i pos) [] (dgSub do_ di) := by
  obtain ⟨_, p1, s1⟩ := h1.ex
  obtain ⟨_, p2, s2⟩ := h2.ex
  refine ⟨_, pg_sub p1 p2 set_list ha, fun y ρ μ P h F al σ H v S L a Q k => ?_⟩
  obtain ⟨x, e, h⟩ := h
  have a := yOne_ab e a
  refine s1 ρ μ _ h F al σ H S L _ fun ov xo μ1 F1 al1 H1 q1 g1 S1 a1 => s2 ρ μ1 _ q1 F1 al1 σ H1 S1 (g1.slots L) _ fun iv xi μ2 F2 al2 H2 q2 g2 S2 a2 => ?_
  obtain ⟨n, xs, i, j, rfl, rfl, hc, hj, q⟩ := q2
  obtain ⟨p, ep, rfl⟩ := g2.ab a1
  obtain ⟨p', vs, e1, e2, e3⟩ := cell_lst S2 hc
  rw [ep] at e1
  obtain rfl := Option.some.inj e1
  obtain ⟨S3, g3⟩ := cell_put S2 ep hc (Paired.setP ((g1.trans g2).ab a) j e3)
  have g := (g1.trans g2).trans g3
  exact ⟨p, vs, i, j, rfl, dp_int a2, e2, by rw [pair_len e3]; exact hj, k _ _ _ _ _ _ q g S3 (g.slots L) rfl fun _ _ => rfl⟩
abbrev dsAugI (i : Nat) (f : Int → Int → Int) (de : DT) : DS := fun D ρ μ => ∃ a, ρ[i]? = some (some (.d (.int a))) ∧ de ρ μ fun y μ1 => ∃ b, y = .d (.int b) ∧ D.nx (ρ.set i (some (.d (.int (f a b))))) μ1
theorem ds_augI {i : Nat} {x : Str} {e : Expr} {de : DT} {op : Operator} {f : Int → Int → Int} {pos' : Pos} (hN : X.N.Nodup) (he : DE X e de) (ho : PIp X op (ipI f)) (hi : X.N[i]? = some x := by rfl) (hx : Loc X.env.scope x := by first | exact Or.inl rfl | exact Or.inr rfl)
    (hf : X.fn x = true ∨ X.env.scope.names.lookup x = some .local := by first | exact .inl rfl | exact .inr rfl | assumption) : DSt X W (.AugAssign (.Name x pos') op e pos) (dsAugI i f de) := by
  obtain ⟨_, p, s⟩ := he.ex
  refine ⟨_, ps_aug hN hi hx p ho hf, fun ρ μ D h F al σ H S L E k => ?_⟩
  obtain ⟨a, e, h⟩ := h
  obtain ⟨v, e1, av⟩ := L.at_ i _ e
  refine ⟨v, e1, s ρ μ _ h F al σ H S L _ fun w y μ1 F1 al1 H1 q g S1 aw => ?_⟩
  obtain ⟨b, rfl, q⟩ := q
  exact ⟨a, b, dp_int av, dp_int aw, k.nx _ _ _ _ _ _ q g S1 ((g.slots L).set (x := .d (.int (f a b))) (Dp.int _))⟩
end
/-! ### x[lo:hi] -/
/-- the items of a slice -/
def cut {α : Type} (xs : List α) (lo hi : Option Int) : List α := (xs.drop (HT.sIx xs.length 0 lo)).take (HT.sIx xs.length xs.length hi - HT.sIx xs.length 0 lo)
theorem cut_map {α β : Type} (f : α → β) (xs : List α) (lo hi : Option Int) : cut (xs.map f) lo hi = (cut xs lo hi).map f := by
  unfold cut
  rw [List.length_map, List.map_take, List.map_drop]
theorem cut_pair {α β : Type} {R : α → β → Prop} {l : List α} {m : List β} (h : Paired R l m) (lo hi : Option Int) : Paired R (cut l lo hi) (cut m lo hi) := by
  unfold cut
  rw [pair_len h]
  exact Paired.takeP _ (Paired.dropP _ h)
theorem cut_dp {K : PySem.W.Frag} {F : Hp} {vs : List V} {ds : List PyData} (h : DpAll K F vs ds) (lo hi : Option Int) : DpAll K F (cut vs lo hi) (cut ds lo hi) := by
  unfold cut
  rw [DpAll.len h]
  exact DpAll.take _ (DpAll.drop _ h)
abbrev DO := Rho → Mu → (Option Int → Mu → Prop) → Prop
def SimO (K : PySem.W.Frag) (t : TO) (d : DO) : Prop := ∀ ρ μ P, d ρ μ P → ∀ F al σ H, Sto K F al μ H → Slots K F al σ ρ → ∀ (Q : Option Int → Hp → Prop), (∀ o μ' F' al' H', P o μ' → Grow F al H F' al' H' → Sto K F' al' μ' H' → Q o H') → t σ H Q
structure DOp (X : Cx) (e : Option Expr) (d : DO) : Prop where
  ex : ∃ t, PO X e t ∧ SimO X.K t d
abbrev doNone : DO := fun _ μ P => P none μ
abbrev doSome (d : DT) : DO := fun ρ μ P => d ρ μ fun x μ1 => ∃ i, x = .d (.int i) ∧ P (some i) μ1
section
variable {X : Cx} {e : Expr} {lo hi : Option Expr} {de : DT} {dl dh : DO} {pos p2 : Pos} {K : PySem.W.Frag}
theorem do_none : DOp X none doNone := ⟨_, po_none, fun ρ μ P h F al σ H S L Q k => k _ _ _ _ _ h Grow.refl S⟩
theorem do_some (h : DE X e de) : DOp X (some e) (doSome de) := by
  obtain ⟨_, p, s⟩ := h.ex
  refine ⟨_, po_some p, fun ρ μ P h F al σ H S L Q k => s ρ μ _ h F al σ H S L _ fun v x μ1 F1 al1 H1 q g S1 a => ?_⟩
  obtain ⟨i, rfl, q⟩ := q
  exact ⟨i, dp_int a, k _ _ _ _ _ q g S1⟩
/-- what a slice is -/
def rdCut : A → Option Int → Option Int → Mu → DK → Prop := fun x lo hi μ P =>
  (∃ s, x = .d (.str s) ∧ s.length ≤ sizeLine ∧ P (.d (.str (cutS s lo hi))) μ) ∨ (∃ ds, x = .d (.tuple ds) ∧ P (.d (.tuple (cut ds lo hi))) μ) ∨
    (∃ ds, x = .d (.list ds) ∧ P (.d (.list (cut ds lo hi))) μ) ∨ ∃ n xs, x = .c n ∧ μ[n]? = some (.lst xs) ∧ ((∃ ds, xs = ds.map A.d ∧ P (.d (.list (cut ds lo hi))) μ) ∨ P (.c μ.length) (μ ++ [.lst (cut xs lo hi)]))
abbrev dSlice (rd : A → Option Int → Option Int → Mu → DK → Prop) (de : DT) (dl dh : DO) : DT := fun ρ μ P => de ρ μ fun x μ1 => dl ρ μ1 fun l μ2 => dh ρ μ2 fun h μ3 => rd x l h μ3 P
def rSlN (K : PySem.W.Frag) : V → Option Int → Option Int → Hp → VK → Prop := fun x lo hi H Q => ∃ a xs, x = .ref a ∧ SqT K H a xs ∧
  (HT.sIx xs.length 0 lo = 0 ∧ HT.sIx xs.length xs.length hi = xs.length → Q (.ref a) H) ∧ (¬ (HT.sIx xs.length 0 lo = 0 ∧ HT.sIx xs.length xs.length hi = xs.length) → ∀ p ob, H p = none → ob.dict = none → Q (.ref p) (upd H p (.frz ob (.tup (cutV xs lo hi)))))
theorem sl_tupN {X : Cx} : SlR X (rSlN X.K) := by
  intro pins s σ H x v vl vu lo hi sl Q I rx hs pl pu h
  obtain ⟨a, vs, rfl, sq, all, some_⟩ := h
  by_cases w : HT.sIx vs.length 0 lo = 0 ∧ HT.sIx vs.length vs.length hi = vs.length
  · exact sl_tupA pins s σ H _ v vl vu lo hi sl Q I rx hs pl pu ⟨a, vs, rfl, sq, all, fun n => absurd w n⟩
  · cases rx
    obtain ⟨its, r1, tp, small⟩ := I.tuple sq
    have ln : its.toArray.size = vs.length := by rw [List.size_toArray]; exact r1.length.symm
    refine ⟨"tuple", _, PyProof.Rows.slot_tuple_getitem.lookup, tp.typeIs, ?_⟩
    refine HT.getItem_tuple_cut tp hs pl pu (by rw [ln]; exact w) ?_ (by rw [ln]; exact small)
    rw [ln]
    let ob : Obj := { cls := .type "tuple", data := .seq ((its.toArray.toList.drop (HT.sIx vs.length 0 lo)).take (HT.sIx vs.length vs.length hi - HT.sIx vs.length 0 lo)).toArray }
    refine ⟨.ref s.heap.objs.size, upd H s.heap.objs.size (.frz ob (.tup (cutV vs lo hi))), I.laid (t' := s.toks) (fun _ _ e => Heap.get?_push_of_some _ e) (Nat.le_refl _) ?_, rfl, some_ w _ ob (I.hok.fresh (Nat.le_refl _)) rfl⟩
    exact ⟨Heap.get?_push_size _ rfl, Nat.le_trans (cutV_length vs lo hi) small, _, (r1.drop (HT.sIx vs.length 0 lo)).take (HT.sIx vs.length vs.length hi - HT.sIx vs.length 0 lo), IsTup.new _ _⟩
theorem d_slice (he : DE X e de) (hl : DOp X lo dl) (hu : DOp X hi dh) : DE X (.Subscript e (.Slice lo hi none p2) pos) (dSlice rdCut de dl dh) := by
  obtain ⟨_, p1, s1⟩ := he.ex
  obtain ⟨_, p2, s2⟩ := hl.ex
  obtain ⟨_, p3, s3⟩ := hu.ex
  refine ⟨_, pe_slice (sl_str.or (sl_tupN.or sl_list)) p1 p2 p3, fun ρ μ P h F al σ H S L Q k => s1 ρ μ _ h F al σ H S L _ fun v x μ1 F1 al1 H1 q1 g1 S1 a1 => ?_⟩
  refine s2 ρ μ1 _ q1 F1 al1 σ H1 S1 (g1.slots L) _ fun l μ2 F2 al2 H2 q2 g2 S2 => s3 ρ μ2 _ q2 F2 al2 σ H2 S2 (g2.slots (g1.slots L)) _ fun u μ3 F3 al3 H3 q3 g3 S3 => ?_
  have g := (g1.trans g2).trans g3
  have a := (g2.trans g3).ab a1
  have k := k.fwd g
  rcases q3 with ⟨s, rfl, hz, q⟩ | ⟨ds, rfl, q⟩ | ⟨ds, rfl, q⟩ | ⟨n, xs, rfl, hc, q⟩
  · exact .inl ⟨s, dp_str a, hz, k.now q S3 (.str _)⟩
  · obtain ⟨p, vs, rfl, e1, e2⟩ := dp_tup a
    refine .inr (.inl ⟨p, vs, rfl, S3.seqT e1, fun w => ?_, fun w p' ob hp hd => ?_⟩)
    · refine k.now q S3 ?_
      have : cut ds l u = ds := by
        have z := DpAll.len e2
        unfold cut
        rw [← z, w.1, w.2, List.drop_zero, Nat.sub_zero, z, List.take_length]
      rw [this]
      exact a
    · obtain ⟨S4, g4⟩ := S3.lay (o := .frz ob (.tup (cutV vs l u))) hp
      exact k _ _ _ _ _ _ q g4 S4 (.tup (.inl ⟨ob, upd_same, hd⟩) (DpAll.mono g4.f (cut_dp e2 l u)))
  · obtain ⟨p, vs, rfl, e1, e2⟩ := dp_lst a
    refine .inr (.inr ⟨p, vs, rfl, S3.seq e1, fun p' hp => ?_⟩)
    obtain ⟨S4, g4⟩ := S3.lay (o := .lst (cutV vs l u)) hp
    exact k _ _ _ _ _ _ q g4 S4 (.lst (.inl (.inl upd_same)) (DpAll.mono g4.f (cut_dp e2 l u)))
  · obtain ⟨p, ep, rfl⟩ := a
    obtain ⟨p', vs, e1, e2, e3⟩ := cell_lst S3 hc
    rw [ep] at e1
    obtain rfl := Option.some.inj e1
    refine .inr (.inr ⟨p, vs, rfl, .inl (.inl e2), fun p' hp => ?_⟩)
    rcases q with ⟨ds, rfl, q⟩ | q
    · obtain ⟨S4, g4⟩ := S3.lay (o := .lst (cutV vs l u)) hp
      exact k _ _ _ _ _ _ q g4 S4 (.lst (.inl (.inl upd_same)) (DpAll.mono g4.f (cut_dp (DpAll.of e3) l u)))
    · obtain ⟨S4, g4⟩ := S3.cellNew (ho := .lst (cutV vs l u)) (o := .lst (cut xs l u)) hp (cut_pair e3 l u)
      refine k _ _ _ _ _ _ q g4 S4 ⟨p', ?_, rfl⟩
      rw [← S3.len, List.getElem?_append_right (Nat.le_refl _), Nat.sub_self]
      rfl
end
end Dl

set_option Elab.async false
set_option linter.all false
set_option maxRecDepth 100000
set_option maxHeartbeats 4000000
namespace Dl
open PySem PySem.Spec PyProof.Rows L2
/-! ### what a loop walks -/
/-- the walk J yields ys, one after the other, as long as ok holds of the cells at each turn -/
structure JW (K : PySem.W.Frag) (F : Hp) (al : List Addr) (H : Hp) (J : It) (ys : List Y) (ok : Mu → Prop) : Prop where
  go : ∀ F2 al2 μ2 H2 i y, Grow F al H F2 al2 H2 → Sto K F2 al2 μ2 H2 → ok μ2 → ys[i]? = some y → J.go i H2 ∧ ∀ x H3, J.yld i H2 x H3 → ∃ F3, Grow F2 al2 H2 F3 al2 H3 ∧ Sto K F3 al2 μ2 H3 ∧ AbY K F3 al2 x y
  stop : ∀ F2 al2 μ2 H2, Grow F al H F2 al2 H2 → Sto K F2 al2 μ2 H2 → ok μ2 → J.stop ys.length H2
def KoI (K : PySem.W.Frag) (F : Hp) (al : List Addr) (H : Hp) (P : List Y → (Mu → Prop) → Mu → Prop) (R : It → Hp → Prop) : Prop :=
  ∀ J ys ok μ' F' al' H', P ys ok μ' → Grow F al H F' al' H' → Sto K F' al' μ' H' → JW K F' al' H' J ys ok → R J H'
abbrev DI := Rho → Mu → (List Y → (Mu → Prop) → Mu → Prop) → Prop
def SimI (K : PySem.W.Frag) (w : TI) (d : DI) : Prop := ∀ ρ μ P, d ρ μ P → ∀ F al σ H, Sto K F al μ H → Slots K F al σ ρ → ∀ R, KoI K F al H P R → w σ H R
structure DIt (X : Cx) (tg iter : Expr) (d : DI) : Prop where
  ex : ∃ w, PI X tg iter w ∧ SimI X.K w d
section
variable {X : Cx} {tg e e2 : Expr} {de : DT} {da : DAT} {K : PySem.W.Frag} {p pos : Pos}
def oneD (ds : List PyData) : List Y := ds.map fun d => .one (.d d)
abbrev always : Mu → Prop := fun _ => True
theorem oneD_get {ds : List PyData} {i : Nat} {y : Y} (h : (oneD ds)[i]? = some y) : ∃ d, ds[i]? = some d ∧ y = .one (.d d) := by
  unfold oneD at h
  rw [List.getElem?_map] at h
  cases e : ds[i]? with
  | none => rw [e] at h; cases h
  | some d =>
    rw [e] at h
    exact ⟨d, rfl, (Option.some.inj h).symm⟩
/-- over a list: data, or a cell that is as it was at each turn -/
def dItL (de : DT) : DI := fun ρ μ P => de ρ μ fun x μ1 => (∃ ds, x = .d (.list ds) ∧ P (oneD ds) always μ1) ∨ ∃ n xs, x = .c n ∧ μ1[n]? = some (.lst xs) ∧ P (xs.map .one) (fun μ => μ[n]? = some (.lst xs)) μ1
def dItT (de : DT) : DI := fun ρ μ P => de ρ μ fun x μ1 => ∃ ds, x = .d (.tuple ds) ∧ P (oneD ds) always μ1
theorem jw_list {F : Hp} {al : List Addr} {H : Hp} {a : Addr} {vs : List V} {ds : List PyData} (h : SqL K F a vs) (r : DpAll K F vs ds) : JW K F al H (Itl K a) (oneD ds) always where
  go F2 al2 μ2 H2 i y g S _ hy := by
    obtain ⟨d, e, rfl⟩ := oneD_get hy
    obtain ⟨v, e1, av⟩ := DpAll.get r e
    refine ⟨⟨vs, v, S.seq (g.f.seq h), e1⟩, fun x H3 hx => ?_⟩
    obtain ⟨rfl, hx⟩ := hx
    have := hx vs (S.seq (g.f.seq h))
    rw [e1] at this
    obtain rfl := Option.some.inj this
    exact ⟨F2, Grow.refl, S, Dp.mono g.f av⟩
  stop F2 al2 μ2 H2 g S _ := ⟨vs, S.seq (g.f.seq h), by rw [DpAll.len r]; unfold oneD; rw [List.length_map]; exact Nat.le_refl _⟩
theorem jw_tup {F : Hp} {al : List Addr} {H : Hp} {a : Addr} {vs : List V} {ds : List PyData} (h : SqT K F a vs) (r : DpAll K F vs ds) : JW K F al H (Itt K a) (oneD ds) always where
  go F2 al2 μ2 H2 i y g S _ hy := by
    obtain ⟨d, e, rfl⟩ := oneD_get hy
    obtain ⟨v, e1, av⟩ := DpAll.get r e
    have q := S.seqT (sqT_mono g.f h)
    refine ⟨⟨vs, v, q, e1⟩, fun x H3 hx => ?_⟩
    obtain ⟨rfl, hx⟩ := hx
    have := hx vs q
    rw [e1] at this
    obtain rfl := Option.some.inj this
    exact ⟨F2, Grow.refl, S, Dp.mono g.f av⟩
  stop F2 al2 μ2 H2 g S _ := ⟨vs, S.seqT (sqT_mono g.f h), by rw [DpAll.len r]; unfold oneD; rw [List.length_map]; exact Nat.le_refl _⟩
theorem jw_cell {F : Hp} {al : List Addr} {H : Hp} {a : Addr} {n : Nat} {xs : List A} (h : al[n]? = some a) : JW K F al H (Itl K a) (xs.map .one) (fun μ => μ[n]? = some (.lst xs)) where
  go F2 al2 μ2 H2 i y g S hok hy := by
    rw [List.getElem?_map] at hy
    obtain ⟨p, vs, e1, e2, e3⟩ := cell_lst S hok
    obtain ⟨t, rfl⟩ := g.px
    rw [List.getElem?_append_left (List.getElem?_eq_some_iff.mp h).1, h] at e1
    obtain rfl := Option.some.inj e1
    cases e : xs[i]? with
    | none => rw [e] at hy; cases hy
    | some x =>
      rw [e] at hy
      obtain rfl := Option.some.inj hy
      obtain ⟨v, ev, av⟩ := pair_get e3 e
      have q : SqL K H2 a vs := .inl (.inl e2)
      refine ⟨⟨vs, v, q, ev⟩, fun x' H3 hx => ?_⟩
      obtain ⟨rfl, hx⟩ := hx
      have := hx vs q
      rw [ev] at this
      obtain rfl := Option.some.inj this
      exact ⟨F2, Grow.refl, S, av⟩
  stop F2 al2 μ2 H2 g S hok := by
    obtain ⟨p, vs, e1, e2, e3⟩ := cell_lst S hok
    obtain ⟨t, rfl⟩ := g.px
    rw [List.getElem?_append_left (List.getElem?_eq_some_iff.mp h).1, h] at e1
    obtain rfl := Option.some.inj e1
    exact ⟨vs, .inl (.inl e2), by rw [List.length_map, pair_len e3]; exact Nat.le_refl _⟩
theorem di_list (h : DE X e de) : DIt X tg e (dItL de) := by
  obtain ⟨_, p, s⟩ := h.ex
  refine ⟨_, pi_list p, fun ρ μ P h F al σ H S L R k => s ρ μ _ h F al σ H S L _ fun v x μ1 F1 al1 H1 q g S1 a => ?_⟩
  rcases q with ⟨ds, rfl, q⟩ | ⟨n, xs, rfl, hc, q⟩
  · obtain ⟨p, vs, rfl, e1, e2⟩ := dp_lst a
    exact ⟨p, rfl, ⟨vs, S1.seq e1⟩, k _ _ _ _ _ _ _ q g S1 (jw_list e1 e2)⟩
  · obtain ⟨p, ep, rfl⟩ := a
    obtain ⟨p', vs, e1, e2, e3⟩ := cell_lst S1 hc
    rw [ep] at e1
    obtain rfl := Option.some.inj e1
    exact ⟨p, rfl, ⟨vs, .inl (.inl e2)⟩, k _ _ _ _ _ _ _ q g S1 (jw_cell ep)⟩
theorem di_tup (h : DE X e de) : DIt X tg e (dItT de) := by
  obtain ⟨_, p, s⟩ := h.ex
  refine ⟨_, pi_tup p, fun ρ μ P h F al σ H S L R k => s ρ μ _ h F al σ H S L _ fun v x μ1 F1 al1 H1 q g S1 a => ?_⟩
  obtain ⟨ds, rfl, q⟩ := q
  obtain ⟨p, vs, rfl, e1, e2⟩ := dp_tup a
  exact ⟨p, rfl, ⟨vs, S1.seqT e1⟩, k _ _ _ _ _ _ _ q g S1 (jw_tup e1 e2)⟩
/-- range -/
def rngY (lo : Int) (n : Nat) : List Y := (List.range n).map fun (i : Nat) => .one (.d (.int (lo + (i : Int))))
theorem rngY_len (lo : Int) (n : Nat) : (rngY lo n).length = n := by
  unfold rngY
  rw [List.length_map, List.length_range]
theorem rngY_get {lo : Int} {n i : Nat} {y : Y} (h : (rngY lo n)[i]? = some y) : i < n ∧ y = .one (.d (.int (lo + (i : Int)))) := by
  have lt := (List.getElem?_eq_some_iff.mp h).1
  rw [rngY_len] at lt
  unfold rngY at h
  rw [List.getElem?_map, List.getElem?_range lt] at h
  exact ⟨lt, (Option.some.inj h).symm⟩
theorem jw_range {F : Hp} {al : List Addr} {H : Hp} {lo : Int} {n : Nat} : JW K F al H (Itr lo n) (rngY lo n) always where
  go F2 al2 μ2 H2 i y g S _ hy := by
    obtain ⟨lt, rfl⟩ := rngY_get hy
    refine ⟨lt, fun x H3 hx => ?_⟩
    obtain ⟨rfl, rfl⟩ := hx
    exact ⟨F2, Grow.refl, S, .int _⟩
  stop F2 al2 μ2 H2 g S _ := by rw [rngY_len]; exact Nat.le_refl _
abbrev dRng1 (da : DAT) : DI := fun ρ μ P => da ρ μ fun xs μ1 => ∃ j : Int, xs = [.d (.int j)] ∧ -(2 ^ 62) ≤ j ∧ j < 2 ^ 62 ∧ P (rngY 0 j.toNat) always μ1
abbrev dRng2 (da : DAT) : DI := fun ρ μ P => da ρ μ fun xs μ1 => ∃ i j : Int, xs = [.d (.int i), .d (.int j)] ∧ (-(2 ^ 62) ≤ i ∧ i < 2 ^ 62 ∧ -(2 ^ 62) ≤ j ∧ j < 2 ^ 62) ∧ P (rngY i (j - i).toNat) always μ1
theorem di_range1 (ha : DA X [e] da) (hm : X.mg "range" = none) (hg : Gl X "range" := by rfl) (hs : starEach [e] X.env = [(false, eval e X.env)] := by rfl) : DIt X tg (.Call (.Name "range" p) [e] [] pos) (dRng1 da) := by
  obtain ⟨_, p1, s⟩ := ha.ex
  refine ⟨_, pi_range1 hg hm p1 hs, fun ρ μ P h F al σ H S L R k => s ρ μ _ h F al σ H S L _ fun vs xs μ1 F1 al1 H1 q g S1 a => ?_⟩
  obtain ⟨j, rfl, h1, h2, q⟩ := q
  obtain ⟨v, rfl, av⟩ := one_of a
  exact ⟨j, by rw [dp_int av], h1, h2, k _ _ _ _ _ _ _ q g S1 jw_range⟩
theorem di_range2 (ha : DA X [e, e2] da) (hm : X.mg "range" = none) (hg : Gl X "range" := by rfl) (hs : starEach [e, e2] X.env = [(false, eval e X.env), (false, eval e2 X.env)] := by rfl) (hs2 : starEach [e2] X.env = [(false, eval e2 X.env)] := by rfl) : DIt X tg (.Call (.Name "range" p) [e, e2] [] pos) (dRng2 da) := by
  obtain ⟨_, p1, s⟩ := ha.ex
  refine ⟨_, pi_range2 hg hm p1 hs hs2, fun ρ μ P h F al σ H S L R k => s ρ μ _ h F al σ H S L _ fun vs xs μ1 F1 al1 H1 q g S1 a => ?_⟩
  obtain ⟨i, j, rfl, hb, q⟩ := q
  obtain ⟨v, w, rfl, av, aw⟩ := two_of a
  exact ⟨i, j, by rw [dp_int av, dp_int aw], hb, k _ _ _ _ _ _ _ q g S1 jw_range⟩
/-- the signs of a str -/
def chrY (z : Str) : List Y := z.cps.toList.map fun c => .one (.d (.str ⟨#[c]⟩))
/-- enumerate of a list of data, or of a cell -/
def enumY (xs : List A) : List Y := xs.mapIdx fun i x => .two (.d (.int (i : Nat))) x
theorem enumY_get {xs : List A} {i : Nat} {y : Y} (h : (enumY xs)[i]? = some y) : ∃ x, xs[i]? = some x ∧ y = .two (.d (.int (i : Nat))) x := by
  unfold enumY at h
  rw [List.getElem?_mapIdx] at h
  cases e : xs[i]? with
  | none => rw [e] at h; cases h
  | some d =>
    rw [e] at h
    exact ⟨d, rfl, (Option.some.inj h).symm⟩
theorem pairNew {F2 : Hp} {al2 : List Addr} {μ2 : Mu} {H2 : Hp} {T : Addr} {x y : V} {a b : A} (S : Sto K F2 al2 μ2 H2) (hT : H2 T = none) (h1 : Ab K F2 al2 x a) (h2 : Ab K F2 al2 y b) :
    ∃ F3, Grow F2 al2 H2 F3 al2 (upd H2 T (.tup [x, y])) ∧ Sto K F3 al2 μ2 (upd H2 T (.tup [x, y])) ∧ AbY K F3 al2 (.ref T) (.two a b) := by
  obtain ⟨S3, g3⟩ := S.lay (o := .tup [x, y]) hT
  exact ⟨_, g3, S3, T, x, y, rfl, .inl (.inl upd_same), g3.ab h1, g3.ab h2⟩
theorem jw_enumD {F : Hp} {al : List Addr} {H : Hp} {a : Addr} {vs : List V} {ds : List PyData} (h : SqL K F a vs) (r : DpAll K F vs ds) : JW K F al H (Ite K a) (enumY (ds.map .d)) always where
  go F2 al2 μ2 H2 i y g S _ hy := by
    obtain ⟨x, e, rfl⟩ := enumY_get hy
    rw [List.getElem?_map] at e
    cases e' : ds[i]? with
    | none => rw [e'] at e; cases e
    | some d =>
      rw [e'] at e
      obtain rfl := Option.some.inj e
      obtain ⟨v, e1, av⟩ := DpAll.get r e'
      have q := S.seq (g.f.seq h)
      refine ⟨⟨vs, v, q, e1⟩, fun x H3 hx => ?_⟩
      obtain ⟨T, x', rfl, hT, rfl, hx⟩ := hx
      have := hx vs q
      rw [e1] at this
      obtain rfl := Option.some.inj this
      exact pairNew S hT (a := .d (.int (i : Nat))) (b := .d d) (.int _) (Dp.mono g.f av)
  stop F2 al2 μ2 H2 g S _ := ⟨vs, S.seq (g.f.seq h), by rw [DpAll.len r]; unfold enumY; rw [List.length_mapIdx, List.length_map]; exact Nat.le_refl _⟩
theorem jw_enumC {F : Hp} {al : List Addr} {H : Hp} {a : Addr} {n : Nat} {xs : List A} (h : al[n]? = some a) : JW K F al H (Ite K a) (enumY xs) (fun μ => μ[n]? = some (.lst xs)) where
  go F2 al2 μ2 H2 i y g S hok hy := by
    obtain ⟨x, e, rfl⟩ := enumY_get hy
    obtain ⟨p, vs, e1, e2, e3⟩ := cell_lst S hok
    obtain ⟨t, rfl⟩ := g.px
    rw [List.getElem?_append_left (List.getElem?_eq_some_iff.mp h).1, h] at e1
    obtain rfl := Option.some.inj e1
    obtain ⟨v, ev, av⟩ := pair_get e3 e
    have q : SqL K H2 a vs := .inl (.inl e2)
    refine ⟨⟨vs, v, q, ev⟩, fun x H3 hx => ?_⟩
    obtain ⟨T, x', rfl, hT, rfl, hx⟩ := hx
    have := hx vs q
    rw [ev] at this
    obtain rfl := Option.some.inj this
    exact pairNew S hT (a := .d (.int (i : Nat))) (.int _) av
  stop F2 al2 μ2 H2 g S hok := by
    obtain ⟨p, vs, e1, e2, e3⟩ := cell_lst S hok
    obtain ⟨t, rfl⟩ := g.px
    rw [List.getElem?_append_left (List.getElem?_eq_some_iff.mp h).1, h] at e1
    obtain rfl := Option.some.inj e1
    exact ⟨vs, .inl (.inl e2), by unfold enumY; rw [List.length_mapIdx, pair_len e3]; exact Nat.le_refl _⟩
abbrev dEnum (da : DAT) : DI := fun ρ μ P => da ρ μ fun zs μ1 => (∃ ds, zs = [.d (.list ds)] ∧ P (enumY (ds.map .d)) always μ1) ∨ ∃ n xs, zs = [.c n] ∧ μ1[n]? = some (.lst xs) ∧ P (enumY xs) (fun μ => μ[n]? = some (.lst xs)) μ1
theorem di_enum {tpos : Pos} {elts : List Expr} {kk : Nat} (ha : DA X [e] da) (hm : X.mg "enumerate" = none) (hg : Gl X "enumerate" := by rfl) (hs : starEach [e] X.env = [(false, eval e X.env)] := by rfl) :
    DIt X (.Tuple elts kk tpos) (.Call (.Name "enumerate" p) [e] [] pos) (dEnum da) := by
  obtain ⟨_, p1, s⟩ := ha.ex
  refine ⟨_, pi_enum hg hm p1 hs, fun ρ μ P h F al σ H S L R k => s ρ μ _ h F al σ H S L _ fun vs xs μ1 F1 al1 H1 q g S1 a => ?_⟩
  rcases q with ⟨ds, rfl, q⟩ | ⟨n, xs, rfl, hc, q⟩
  · obtain ⟨v, rfl, av⟩ := one_of a
    obtain ⟨p, vs, rfl, e1, e2⟩ := dp_lst av
    exact ⟨p, vs, rfl, S1.seq e1, k _ _ _ _ _ _ _ q g S1 (jw_enumD e1 e2)⟩
  · obtain ⟨v, rfl, av⟩ := one_of a
    obtain ⟨p, ep, rfl⟩ := av
    obtain ⟨p', vs, e1, e2, e3⟩ := cell_lst S1 hc
    rw [ep] at e1
    obtain rfl := Option.some.inj e1
    exact ⟨p, vs, rfl, .inl (.inl e2), k _ _ _ _ _ _ _ q g S1 (jw_enumC ep)⟩
/-- zip of two lists of data -/
def zipY (xs ys : List PyData) : List Y := List.zipWith (fun a b => .two (.d a) (.d b)) xs ys
theorem jw_zip {F : Hp} {al : List Addr} {H : Hp} {a b : Addr} {vs ws : List V} {ds es : List PyData} (h : SqL K F a vs) (r : DpAll K F vs ds) (h' : SqL K F b ws) (r' : DpAll K F ws es) : JW K F al H (Itz K a b) (zipY ds es) always where
  go F2 al2 μ2 H2 i y g S _ hy := by
    unfold zipY at hy
    rw [List.getElem?_zipWith] at hy
    cases e' : ds[i]? with
    | none => rw [e'] at hy; cases hy
    | some d =>
      cases e'' : es[i]? with
      | none => rw [e', e''] at hy; cases hy
      | some d' =>
        rw [e', e''] at hy
        obtain rfl := Option.some.inj hy
        obtain ⟨v, e1, av⟩ := DpAll.get r e'
        obtain ⟨w, e2, aw⟩ := DpAll.get r' e''
        have q := S.seq (g.f.seq h)
        have q' := S.seq (g.f.seq h')
        refine ⟨⟨vs, ws, v, w, q, q', e1, e2⟩, fun x H3 hx => ?_⟩
        obtain ⟨T, x', y', rfl, hT, rfl, hx, hy⟩ := hx
        have := hx vs q
        rw [e1] at this
        obtain rfl := Option.some.inj this
        have := hy ws q'
        rw [e2] at this
        obtain rfl := Option.some.inj this
        exact pairNew S hT (a := .d d) (b := .d d') (Dp.mono g.f av) (Dp.mono g.f aw)
  stop F2 al2 μ2 H2 g S _ := ⟨vs, ws, S.seq (g.f.seq h), S.seq (g.f.seq h'), by
    unfold zipY
    rw [List.length_zipWith, DpAll.len r, DpAll.len r']
    omega⟩
theorem jw_zipT {F : Hp} {al : List Addr} {H : Hp} {a b : Addr} {vs ws : List V} {ds es : List PyData} (h : SqT K F a vs) (r : DpAll K F vs ds) (h' : SqT K F b ws) (r' : DpAll K F ws es) : JW K F al H (RZ.ItzT K a b) (zipY ds es) always where
  go F2 al2 μ2 H2 i y g S _ hy := by
    unfold zipY at hy
    rw [List.getElem?_zipWith] at hy
    cases e' : ds[i]? with
    | none => rw [e'] at hy; cases hy
    | some d =>
      cases e'' : es[i]? with
      | none => rw [e', e''] at hy; cases hy
      | some d' =>
        rw [e', e''] at hy
        obtain rfl := Option.some.inj hy
        obtain ⟨v, e1, av⟩ := DpAll.get r e'
        obtain ⟨w, e2, aw⟩ := DpAll.get r' e''
        have q := S.seqT (sqT_mono g.f h)
        have q' := S.seqT (sqT_mono g.f h')
        refine ⟨⟨vs, ws, v, w, q, q', e1, e2⟩, fun x H3 hx => ?_⟩
        obtain ⟨T, x', y', rfl, hT, rfl, hx, hy⟩ := hx
        have := hx vs q
        rw [e1] at this
        obtain rfl := Option.some.inj this
        have := hy ws q'
        rw [e2] at this
        obtain rfl := Option.some.inj this
        exact pairNew S hT (a := .d d) (b := .d d') (Dp.mono g.f av) (Dp.mono g.f aw)
  stop F2 al2 μ2 H2 g S _ := ⟨vs, ws, S.seqT (sqT_mono g.f h), S.seqT (sqT_mono g.f h'), by
    unfold zipY
    rw [List.length_zipWith, DpAll.len r, DpAll.len r']
    omega⟩
/-- a list's items, of data or of a cell of data: a cell's are copied where the walk is of what stands now -/
abbrev dZip (da : DAT) : DI := fun ρ μ P => da ρ μ fun zs μ1 => (∃ ds es, zs = [.d (.list ds), .d (.list es)] ∧ P (zipY ds es) always μ1) ∨ ∃ ds es, zs = [.d (.tuple ds), .d (.tuple es)] ∧ P (zipY ds es) always μ1
theorem di_zip {tpos : Pos} {elts : List Expr} {kk : Nat} (ha : DA X [e, e2] da) (hm : X.mg "zip" = none) (hg : Gl X "zip" := by rfl)
    (hs : starEach [e, e2] X.env = (false, eval e X.env) :: starEach [e2] X.env := by rfl) (hpl : (backTo pos (starEach [e2] X.env)).any (·.1) = false := by rfl) :
    DIt X (.Tuple elts kk tpos) (.Call (.Name "zip" p) [e, e2] [] pos) (dZip da) := by
  obtain ⟨_, p1, s⟩ := ha.ex
  refine ⟨_, RZ.pi_zipA hg hm p1 hs hpl, fun ρ μ P h F al σ H S L R k => s ρ μ _ h F al σ H S L _ fun vs xs μ1 F1 al1 H1 q g S1 a => ?_⟩
  rcases q with ⟨ds, es, rfl, q⟩ | ⟨ds, es, rfl, q⟩
  · obtain ⟨v, w, rfl, av, aw⟩ := two_of a
    obtain ⟨p, vs, rfl, e1, e2⟩ := dp_lst av
    obtain ⟨p', ws, rfl, f1, f2⟩ := dp_lst aw
    exact ⟨p, p', vs, ws, rfl, .inl ⟨S1.seq e1, S1.seq f1, k _ _ _ _ _ _ _ q g S1 (jw_zip e1 e2 f1 f2)⟩⟩
  · obtain ⟨v, w, rfl, av, aw⟩ := two_of a
    obtain ⟨p, vs, rfl, e1, e2⟩ := dp_tup av
    obtain ⟨p', ws, rfl, f1, f2⟩ := dp_tup aw
    exact ⟨p, p', vs, ws, rfl, .inr ⟨S1.seqT e1, S1.seqT f1, k _ _ _ _ _ _ _ q g S1 (jw_zipT e1 e2 f1 f2)⟩⟩
theorem jw_chr {F : Hp} {al : List Addr} {H : Hp} {z : Str} : JW K F al H (Its z) (chrY z) always where
  go F2 al2 μ2 H2 i y g S _ hy := by
    unfold chrY at hy
    rw [List.getElem?_map] at hy
    have lt : i < z.cps.size := by
      cases e : z.cps.toList[i]? with
      | none => rw [e] at hy; cases hy
      | some c =>
        have := (List.getElem?_eq_some_iff.mp e).1
        simpa using this
    refine ⟨lt, fun x H3 hx => ?_⟩
    obtain ⟨rfl, c, hc, rfl⟩ := hx
    rw [Array.getElem?_toList, hc] at hy
    obtain rfl := Option.some.inj hy
    exact ⟨F2, Grow.refl, S, .str _⟩
  stop F2 al2 μ2 H2 g S _ := by
    unfold chrY
    rw [List.length_map, Array.length_toList]
    exact Nat.le_refl _
def dChr (de : DT) : DI := fun ρ μ P => de ρ μ fun x μ1 => ∃ z, x = .d (.str z) ∧ P (chrY z) always μ1
theorem di_str (h : DE X e de) : DIt X tg e (dChr de) := by
  obtain ⟨_, p, s⟩ := h.ex
  refine ⟨_, pi_str p, fun ρ μ P h F al σ H S L R k => s ρ μ _ h F al σ H S L _ fun v x μ1 F1 al1 H1 q g S1 a => ?_⟩
  obtain ⟨z, rfl, q⟩ := q
  exact ⟨z, dp_str a, k _ _ _ _ _ _ _ q g S1 jw_chr⟩
end
end Dl

set_option Elab.async false
set_option linter.all false
set_option maxRecDepth 100000
set_option maxHeartbeats 4000000
namespace Dl
open PySem PySem.Spec PyProof.Rows L2
/-! ### for -/
section
variable {X : Cx} {W : WX} {tg iter : Expr} {body : List Stmt} {di : DI} {dg : DG} {db : DS} {vs : List Nat} {pos : Pos} {K : PySem.W.Frag}
/-- Pv: the word of the turn's number, the names and the cells -/
abbrev dsFor (di : DI) (dg : DG) (db : DS) : DS := fun D ρ μ => di ρ μ fun ys ok μ1 => ∃ Pv : Nat → RM, Pv 0 ρ μ1 ∧
  (∀ i y ρ2 μ2, ys[i]? = some y → Pv i ρ2 μ2 → ok μ2 ∧ dg y ρ2 μ2 fun ρ3 μ3 => db { D with nx := Pv (i + 1), ct := Pv (i + 1), bk := D.nx } ρ3 μ3) ∧ ∀ ρ2 μ2, Pv ys.length ρ2 μ2 → ok μ2 ∧ D.nx ρ2 μ2
theorem sim_for {wi : TI} {g : TG} {tb : TS} (hi : SimI K wi di) (hg : SimG K vs g dg) (hb : SimS K W tb db) : SimS K W (tFor wi g tb) (dsFor di dg db) := by
  intro ρ μ D h F al σ H S L E k
  refine hi ρ μ _ h F al σ H S L _ fun J ys ok μ1 F1 al1 H1 q g1 S1 j => ?_
  obtain ⟨Pv, p0, step, last⟩ := q
  refine ⟨fun i m σ H2 => m = ys.length - i ∧ i ≤ ys.length ∧ ∃ ρ2 μ2 F2 al2, Pv i ρ2 μ2 ∧ Grow F1 al1 H1 F2 al2 H2 ∧ Sto K F2 al2 μ2 H2 ∧ Slots K F2 al2 σ ρ2,
    ⟨_, rfl, Nat.zero_le _, ρ, μ1, F1, al1, p0, Grow.refl, S1, g1.slots L⟩, ?_⟩
  rintro i m σ2 H2 ⟨rfl, hi, ρ2, μ2, F2, al2, p, g2, S2, L2'⟩
  by_cases lt : i < ys.length
  · have hy : ys[i]? = some ys[i] := List.getElem?_eq_getElem lt
    obtain ⟨o, st⟩ := step i _ ρ2 μ2 hy p
    obtain ⟨go, yl⟩ := j.go F2 al2 μ2 H2 i _ g2 S2 o hy
    refine .inr ⟨go, _, fun σ' H' w => ⟨ys.length - (i + 1), by omega, w⟩, fun x H3 hx => ?_⟩
    obtain ⟨F3, g3, S3, a3⟩ := yl x H3 hx
    refine hg _ ρ2 μ2 _ st F3 al2 σ2 H3 x S3 (g3.slots L2') a3 _ fun ρ4 μ4 F4 al4 σ4 H4 q4 g4 S4 L4 _ _ => ?_
    have g0 := (g2.trans g3).trans g4
    refine hb ρ4 μ4 _ q4 F4 al4 σ4 H4 S4 L4 _ ⟨fun ρ' μ' F' al' σ' H' h' g' S' L' => ⟨rfl, lt, ρ', μ', F', al', h', g0.trans g', S', L'⟩, k.rt.fwd (g1.trans g0), fun ρ' μ' F' al' σ' H' h' g' S' L' => ?_, fun ρ' μ' F' al' σ' H' h' g' S' L' => ⟨rfl, lt, ρ', μ', F', al', h', g0.trans g', S', L'⟩, fun C o ρ' μ' F' al' σ' H' d h' g' => k.ex C o ρ' μ' F' al' σ' H' d h' ((g1.trans g0).trans g')⟩
    exact k.nx ρ' μ' F' al' σ' H' h' ((g1.trans g0).trans g') S' L'
  · have e : i = ys.length := by omega
    subst e
    obtain ⟨o, hn⟩ := last ρ2 μ2 p
    exact .inl ⟨j.stop F2 al2 μ2 H2 g2 S2 o, k.nx ρ2 μ2 F2 al2 σ2 H2 hn (g1.trans g2) S2 L2'⟩
theorem ds_for (hp : PassesOwn (model X.prog X.w) X.A X.env X.xe) (hc : X.calm = true) (hi : DIt X tg iter di) (hg : DGt X tg vs dg) (hb : DSs X W body db)
    (hs : ∀ x, foldedSetIterable iter X.env x = pure x := by intro _; rfl) : DSt X W (.For tg iter body [] pos) (dsFor di dg db) := by
  obtain ⟨_, p1, s1⟩ := hi.ex
  obtain ⟨_, p2, s2⟩ := hg.ex
  obtain ⟨_, p3, s3⟩ := hb.ex
  exact ⟨_, ps_for hp hc p1 p2 p3 hs, sim_for s1 s2 s3⟩
/-! ### while -/
abbrev dsWhile (dc : DTT) (db : DS) : DS := fun D ρ μ => ∃ W : Nat → RM, (∃ m, W m ρ μ) ∧ ∀ m ρ2 μ2, W m ρ2 μ2 →
  dc ρ2 μ2 fun b μ3 => if b = true then db { D with nx := fun ρ' μ' => ∃ m', m' < m ∧ W m' ρ' μ', ct := fun ρ' μ' => ∃ m', m' < m ∧ W m' ρ' μ', bk := D.nx } ρ2 μ3 else D.nx ρ2 μ3
theorem ds_while {c : Expr} {dc : DTT} (hp : PassesOwn (model X.prog X.w) X.A X.env X.xe) (hc : DTest X c dc) (hb : DSs X W body db) : DSt X W (.While c body [] pos) (dsWhile dc db) := by
  obtain ⟨_, p1, s1⟩ := hc.ex
  obtain ⟨_, p2, s2⟩ := hb.ex
  refine ⟨_, ps_while hp p1 p2, fun ρ μ D h F al σ H S L E k => ?_⟩
  obtain ⟨W, ⟨m0, w0⟩, step⟩ := h
  refine ⟨fun m σ2 H2 => ∃ ρ2 μ2 F2 al2, W m ρ2 μ2 ∧ Grow F al H F2 al2 H2 ∧ Sto X.K F2 al2 μ2 H2 ∧ Slots X.K F2 al2 σ2 ρ2, ⟨m0, ρ, μ, F, al, w0, Grow.refl, S, L⟩, ?_⟩
  rintro m σ2 H2 ⟨ρ2, μ2, F2, al2, w, g2, S2, L2'⟩
  refine s1 ρ2 μ2 _ (step m ρ2 μ2 w) F2 al2 σ2 H2 S2 L2' _ fun b μ3 F3 al3 H3 q3 g3 S3 => ?_
  have g := g2.trans g3
  cases b with
  | true =>
    refine iteT ⟨fun σ' H' => ∃ m', m' < m ∧ ∃ ρ2 μ2 F2 al2, W m' ρ2 μ2 ∧ Grow F al H F2 al2 H' ∧ Sto X.K F2 al2 μ2 H' ∧ Slots X.K F2 al2 σ' ρ2, fun σ' H' h => h, ?_⟩
    refine s2 ρ2 μ3 { D with nx := fun ρ' μ' => ∃ m', m' < m ∧ W m' ρ' μ', ct := fun ρ' μ' => ∃ m', m' < m ∧ W m' ρ' μ', bk := D.nx } (by rw [if_pos rfl] at q3; exact q3) F3 al3 σ2 H3 S3 (g3.slots L2') _ ⟨fun ρ' μ' F' al' σ' H' ⟨m', hm, w'⟩ g' S' L' => ⟨m', hm, ρ', μ', F', al', w', g.trans g', S', L'⟩, k.rt.fwd g, fun ρ' μ' F' al' σ' H' h' g' S' L' => k.nx ρ' μ' F' al' σ' H' h' (g.trans g') S' L', fun ρ' μ' F' al' σ' H' ⟨m', hm, w'⟩ g' S' L' => ⟨m', hm, ρ', μ', F', al', w', g.trans g', S', L'⟩, fun C o ρ' μ' F' al' σ' H' d h' g' => k.ex C o ρ' μ' F' al' σ' H' d h' (g.trans g')⟩
  | false => exact iteF (k.nx ρ2 μ3 F3 al3 σ2 H3 (by rw [if_neg Bool.false_ne_true] at q3; exact q3) g S3 (g3.slots L2'))
end
/-! ### [e for x in xs if c] -/
/-- the names of a comprehension's own, forgotten -/
def wipeR (ρ : Rho) : List Nat → Rho
  | [] => ρ
  | v :: vs => (wipeR ρ vs).set v none
theorem wipeR_len (ρ : Rho) : ∀ vs : List Nat, (wipeR ρ vs).length = ρ.length
  | [] => rfl
  | v :: vs => by unfold wipeR; rw [List.length_set, wipeR_len ρ vs]
theorem wipeR_some {ρ : Rho} {i : Nat} {x : A} : ∀ {vs : List Nat}, (wipeR ρ vs)[i]? = some (some x) → ρ[i]? = some (some x) ∧ i ∉ vs
  | [], h => ⟨h, by simp⟩
  | v :: vs, h => by
    unfold wipeR at h
    by_cases hi : v = i
    · subst hi
      by_cases hv : v < (wipeR ρ vs).length
      · rw [List.getElem?_set_self hv] at h; cases h
      · rw [List.getElem?_eq_none (by simpa using hv)] at h; cases h
    · rw [List.getElem?_set_ne hi] at h
      obtain ⟨h1, h2⟩ := wipeR_some h
      exact ⟨h1, by simp only [List.mem_cons, not_or]; exact ⟨fun e => hi e.symm, h2⟩⟩
theorem wipe_out' {σ : L2.St} {i : Nat} : ∀ {vs : List Nat}, i ∉ vs → (wipe σ vs)[i]? = σ[i]?
  | [], _ => rfl
  | v :: vs, h => by
    rw [List.mem_cons, not_or] at h
    show ((wipe σ vs).set v none)[i]? = _
    rw [List.getElem?_set_ne (fun e => h.1 e.symm)]
    exact wipe_out' h.2
theorem Slots.wipe {K : PySem.W.Frag} {F : Hp} {al : List Addr} {σ : L2.St} {ρ : Rho} (L : Slots K F al σ ρ) (vs : List Nat) : Slots K F al (wipe σ vs) (wipeR ρ vs) := by
  refine ⟨by rw [wipe_length, wipeR_len]; exact L.len, fun i x e => ?_⟩
  obtain ⟨e, n⟩ := wipeR_some e
  obtain ⟨v, e1, a⟩ := L.at_ i x e
  exact ⟨v, by rw [wipe_out' n]; exact e1, a⟩
theorem wipe_in {σ : L2.St} {i : Nat} : ∀ {vs : List Nat}, i ∈ vs → i < σ.length → (L2.wipe σ vs)[i]? = some none
  | v :: vs, h, lt => by
    show ((L2.wipe σ vs).set v none)[i]? = _
    by_cases z : v = i
    · subst z
      rw [List.getElem?_set_self (by rw [wipe_length]; exact lt)]
    · rw [List.getElem?_set_ne z]
      exact wipe_in (by
        rcases List.mem_cons.mp h with q | q
        · exact absurd q.symm z
        · exact q) lt
theorem wipe_same {σ σ2 : L2.St} {vs : List Nat} (hl : σ2.length = σ.length) (h : ∀ i, i ∉ vs → σ2[i]? = (L2.wipe σ vs)[i]?) : L2.wipe σ2 vs = L2.wipe σ vs := by
  apply List.ext_getElem?
  intro i
  by_cases m : i ∈ vs
  · rcases Nat.lt_or_ge i σ.length with lt | ge
    · rw [wipe_in m (by rw [hl]; exact lt), wipe_in m lt]
    · rw [List.getElem?_eq_none (by rw [wipe_length, hl]; exact ge), List.getElem?_eq_none (by rw [wipe_length]; exact ge)]
  · rw [wipe_out' m]
    exact h i m
/-- an address that is no cell and does not stay, written -/
theorem Sto.free {K : PySem.W.Frag} {F : Hp} {al : List Addr} {μ : Mu} {H : Hp} {D : Addr} (S : Sto K F al μ H) (f : F D = none) (n : D ∉ al) (o : HO) : Sto K F al μ (upd H D o) := by
  refine ⟨fun b u e => ?_, S.nd, S.len, fun i a u e1 e2 => ?_⟩
  · rw [upd_ne (ne_of_none e f)]
    exact S.sub _ _ e
  · obtain ⟨ho, h1, h2⟩ := S.cell i a u e1 e2
    exact ⟨ho, by rw [upd_ne (fun z => n (by rw [← z]; exact List.mem_of_getElem? e1))]; exact h1, h2⟩
theorem Grow.free {F F' : Hp} {al al' : List Addr} {H H' : Hp} {D : Addr} (g : Grow F al H F' al' H') (hD : H D = none) (o : HO) : Grow F al H F' al' (upd H' D o) := by
  refine ⟨g.f, g.px, fun b u e n => ?_, g.nw, g.fz⟩
  rw [upd_ne (ne_of_none e hD)]
  exact g.fr b u e n
section
variable {X : Cx} {tg iter elt : Expr} {ifs : List Expr} {di : DI} {dg : DG} {dt : DTT} {de : DT} {vs : List Nat} {pos : Pos} {K : PySem.W.Frag}
/-- what becomes of the new list: data, or a cell -/
def lcEnd (P : DK) (acc : List A) (μ : Mu) : Prop := (∃ ds : List PyData, acc = ds.map A.d ∧ P (.d (.list ds)) μ) ∨ P (.c μ.length) (μ ++ [.lst acc])
abbrev dLc (di : DI) (dg : DG) (dt : DTT) (de : DT) (vs : List Nat) : DT := fun ρ μ P => di ρ μ fun ys ok μ1 => ∃ Pv : Nat → List A → Mu → Prop, Pv 0 [] μ1 ∧
  (∀ i y acc μ2, ys[i]? = some y → Pv i acc μ2 → ok μ2 ∧ dg y (wipeR ρ vs) μ2 fun ρ3 μ3 => dt ρ3 μ3 fun b μ4 => if b = true then de ρ3 μ4 fun z μ5 => acc.length < sizeLine ∧ Pv (i + 1) (acc ++ [z]) μ5 else Pv (i + 1) acc μ4) ∧
    ∀ acc μ2, Pv ys.length acc μ2 → ok μ2 ∧ lcEnd P acc μ2
theorem sim_lc {wi : TI} {g : TG} {tt : TT} {te : TE} (hi : SimI K wi di) (hg : SimG K vs g dg) (ht : SimT K tt dt) (he : SimE K te de) : SimE K (tLc wi g tt te vs) (dLc di dg dt de vs) := by
  intro ρ μ P h F al σ H S L Q k
  refine hi ρ μ _ h F al σ H S L _ fun J ys ok μ1 F1 al1 H1 q g1 S1 j D hD => ?_
  obtain ⟨Pv, p0, step, last⟩ := q
  have fD : F1 D = none := by
    cases e : F1 D with
    | none => rfl
    | some u =>
      rw [S1.sub _ _ e] at hD
      cases hD
  have nD : D ∉ al1 := fun m => by
    obtain ⟨u, e⟩ := S1.has m
    rw [e] at hD
    cases hD
  have L1 := (g1.slots L).wipe vs
  refine ⟨fun i m H2 => m = ys.length - i ∧ i ≤ ys.length ∧ ∃ acc μ2 F2 al2 ws, Pv i acc μ2 ∧ Grow F1 al1 H1 F2 al2 H2 ∧ Sto K F2 al2 μ2 H2 ∧ F2 D = none ∧ D ∉ al2 ∧ H2 D = some (.lst ws) ∧ Paired (Ab K F2 al2) ws acc,
    ⟨_, rfl, Nat.zero_le _, [], μ1, F1, al1, [], p0, Grow.refl.free hD _, S1.free fD nD _, fD, nD, upd_same, .nil⟩, ?_⟩
  rintro i m H2 ⟨rfl, hi, acc, μ2, F2, al2, ws, p, g2, S2, f2, n2, d2, a2⟩
  have keep : ∀ {F3 al3 μ3 H3}, Grow F2 al2 H2 F3 al3 H3 → Sto K F3 al3 μ3 H3 → F3 D = none ∧ D ∉ al3 ∧ H3 D = some (.lst ws) := fun {F3 al3 μ3 H3} g S => by
    have nD3 : D ∉ al3 := fun z => by
      rcases g.nw D z with q | q
      · exact n2 q
      · rw [d2] at q
        cases q
    refine ⟨?_, nD3, g.fr _ _ d2 n2⟩
    cases e : F3 D with
    | none => rfl
    | some u =>
      rcases g.fz D u e with q | q | q
      · rw [f2] at q
        cases q
      · rw [d2] at q
        cases q
      · exact absurd q n2
  by_cases lt : i < ys.length
  · have hy : ys[i]? = some ys[i] := List.getElem?_eq_getElem lt
    obtain ⟨o, st⟩ := step i _ acc μ2 hy p
    obtain ⟨go, yl⟩ := j.go F2 al2 μ2 H2 i _ g2 S2 o hy
    refine .inr ⟨go, _, fun H' w => ⟨ys.length - (i + 1), by omega, w⟩, fun x H3 hx => ?_⟩
    obtain ⟨F3, g3, S3, a3⟩ := yl x H3 hx
    refine hg _ (wipeR ρ vs) μ2 _ st F3 al2 _ H3 x S3 ((g2.trans g3).slots L1) a3 _ fun ρ4 μ4 F4 al4 σ4 H4 q4 g4 S4 L4 hl ho => ?_
    refine ⟨wipe_same (hl.trans (wipe_length _ _)) ho, ?_⟩
    refine ht ρ4 μ4 _ q4 F4 al4 σ4 H4 S4 L4 _ fun b μ5 F5 al5 H5 q5 g5 S5 => ?_
    have g35 := (g3.trans g4).trans g5
    cases b with
    | true =>
      rw [if_pos rfl] at q5
      refine iteT ?_
      refine he ρ4 μ5 _ q5 F5 al5 σ4 H5 S5 (g5.slots L4) _ fun v z μ6 F6 al6 H6 q6 g6 S6 a6 => ?_
      have g36 := g35.trans g6
      obtain ⟨k1, k2, k3⟩ := keep g36 S6
      refine ⟨ws, k3, by rw [pair_len a2]; exact q6.1, rfl, lt, acc ++ [z], μ6, F6, al6, ws ++ [v], q6.2, (g2.trans g36).free hD _, S6.free k1 k2 _, k1, k2, upd_same, Paired.app (g36.abs a2) (.cons a6 .nil)⟩
    | false =>
      rw [if_neg Bool.false_ne_true] at q5
      obtain ⟨k1, k2, k3⟩ := keep g35 S5
      exact iteF ⟨rfl, lt, acc, μ5, F5, al5, ws, q5, g2.trans g35, S5, k1, k2, k3, g35.abs a2⟩
  · have e : i = ys.length := by omega
    subst e
    obtain ⟨o, hn⟩ := last acc μ2 p
    refine .inl ⟨j.stop F2 al2 μ2 H2 g2 S2 o, ?_⟩
    have g := g1.trans g2
    rcases hn with ⟨ds, rfl, hn⟩ | hn
    · -- data: it stays
      have sf : Same F2 (upd F2 D (.lst ws)) := fun b u e => by
        rw [upd_ne (ne_of_none e f2)]
        exact e
      refine k _ _ μ2 (upd F2 D (.lst ws)) al2 H2 hn (g1.trans ⟨g2.f.trans sf, g2.px, g2.fr, g2.nw, fun b u e => ?_⟩) ⟨fun b u e => ?_, S2.nd, S2.len, fun i a u e1 e2 => ?_⟩ (.lst (.inl (.inl upd_same)) (DpAll.mono sf (DpAll.of a2)))
      · by_cases z : b = D
        · rw [z]
          exact .inr (.inl hD)
        · rw [upd_ne z] at e
          exact g2.fz b u e
      · by_cases z : b = D
        · rw [z, upd_same] at e
          rw [z, ← e]
          exact d2
        · rw [upd_ne z] at e
          exact S2.sub _ _ e
      · obtain ⟨ho, h1, h2⟩ := S2.cell i a u e1 e2
        refine ⟨ho, h1, fun nd => ⟨?_, (h2 nd).2.mono sf (List.prefix_refl _)⟩⟩
        rw [upd_ne (fun z => n2 (by rw [← z]; exact List.mem_of_getElem? e1))]
        exact (h2 nd).1
    · -- a new cell
      have px : al2 <+: al2 ++ [D] := ⟨[D], rfl⟩
      refine k (.ref D) (.c μ2.length) (μ2 ++ [.lst acc]) F2 (al2 ++ [D]) H2 hn (g1.trans ⟨g2.f, List.IsPrefix.trans g2.px px, g2.fr, fun a h => ?_, g2.fz⟩) ⟨S2.sub, ?_, by rw [List.length_append, List.length_append, S2.len] <;> rfl, fun i a u e1 e2 => ?_⟩ ⟨D, ?_, rfl⟩
      · rcases List.mem_append.mp h with z | z
        · exact g2.nw a z
        · rw [List.mem_singleton] at z
          rw [z]
          exact .inr hD
      · rw [List.nodup_append]
        refine ⟨S2.nd, by simp, fun a ha b hb e => ?_⟩
        rw [List.mem_singleton] at hb
        subst hb e
        exact n2 ha
      · rcases Nat.lt_or_ge i al2.length with lt' | ge
        · rw [List.getElem?_append_left lt'] at e1
          rw [List.getElem?_append_left (by rw [← S2.len]; exact lt')] at e2
          obtain ⟨w, h1, h2⟩ := S2.cell i a u e1 e2
          exact ⟨w, h1, fun nd => ⟨(h2 nd).1, (h2 nd).2.mono (Same.refl _) px⟩⟩
        · rw [List.getElem?_append_right ge] at e1
          rw [List.getElem?_append_right (by rw [← S2.len]; exact ge)] at e2
          have z : i - al2.length = 0 := by
            have := (List.getElem?_eq_some_iff.mp e1).1
            simp at this
            omega
          rw [z] at e1
          rw [← S2.len, z] at e2
          obtain rfl : D = a := Option.some.inj e1
          obtain rfl : O.lst acc = u := Option.some.inj e2
          exact ⟨.lst ws, d2, fun _ => ⟨f2, Paired.impl (fun _ _ => Ab.mono (Same.refl _) px) a2⟩⟩
      · rw [← S2.len, List.getElem?_append_right (Nat.le_refl _), Nat.sub_self]
        rfl
/-- the block of a comprehension, whatever its own objects are -/
def Blk (X : Cx) (scope : Scope) (R : Cx → Prop) : Prop := ∀ (s : Shared) (H : Hp) (C : Addr) (cl : List (Str × Addr)) (fp : List Addr), R (X.blk s H scope (compEnvC scope cl C X.env) fp)
abbrev dtYes : DTT := fun _ μ P => P true μ
structure DTs (X : Cx) (ifs : List Expr) (d : DTT) : Prop where
  ex : PTs X ifs (tDT X.K d)
theorem dts_nil : DTs X [] dtYes := ⟨⟨fun pins s σ H Q I ⟨ρ, μ, P, F, al, h, S, L, k⟩ => pts_nil.run pins s σ H Q I (k true μ F al H h Grow.refl S)⟩⟩
theorem dts_one {c : Expr} {d : DTT} (h : DTest X c d) : DTs X [c] d := ⟨pts_one h.pt⟩
theorem d_lc {scope : Scope} {own : List (Str × Nat)} (hc : X.calm = true) (hN : X.N.Nodup) (hi : DIt X tg iter di) (ok : BlkOk X.N X.env.scope scope own)
    (hg : Blk X scope fun Y => DGt Y tg (own.map (·.2)) dg) (ht : Blk X scope fun Y => DTs Y ifs dt) (he : Blk X scope fun Y => DE Y elt de) (hs : ∀ x, foldedSetIterable iter X.env x = pure x := by intro _; rfl) :
    DE X (.ListComp elt [⟨tg, iter, ifs, 0⟩] scope pos) (dLc di dg dt de (own.map (·.2))) := by
  obtain ⟨_, p1, s1⟩ := hi.ex
  exact ⟨_, pe_lc hc hN p1 ok (fun s H C cl fp => (hg s H C cl fp).pg) (fun s H C cl fp => (ht s H C cl fp).ex) (fun s H C cl fp => (he s H C cl fp).pe) hs, sim_lc s1 sim_tDG sim_tDT sim_tD⟩
end
end Dl

set_option Elab.async false
set_option linter.all false
set_option maxRecDepth 100000
set_option maxHeartbeats 4000000
namespace Dl
open PySem PySem.Spec PyProof.Rows L2
/-! ### what leaves a def: the cells that are new in it become data, but one that is kept -/
mutual
inductive Rfy (m : Nat) (kp : Option Nat) (μ : Mu) : A → PyData → Prop
  | d (x : PyData) : Rfy m kp μ (.d x) x
  | c {i : Nat} {xs : List A} {ds : List PyData} : m ≤ i → kp ≠ some i → μ[i]? = some (.lst xs) → RfyL m kp μ xs ds → Rfy m kp μ (.c i) (.list ds)
inductive RfyL (m : Nat) (kp : Option Nat) (μ : Mu) : List A → List PyData → Prop
  | nil : RfyL m kp μ [] []
  | cons {x : A} {d : PyData} {xs : List A} {ds : List PyData} : Rfy m kp μ x d → RfyL m kp μ xs ds → RfyL m kp μ (x :: xs) (d :: ds)
end
theorem RfyL.data {m : Nat} {kp : Option Nat} {μ : Mu} : ∀ (ds : List PyData), RfyL m kp μ (ds.map A.d) ds
  | [] => .nil
  | d :: ds => .cons (.d d) (RfyL.data ds)
/-- as seen from the call: data, or as it was, or the one new cell that is kept -/
def RfyV (m : Nat) (kp : Option Nat) (μ : Mu) (x y : A) : Prop := (∃ d, Rfy m kp μ x d ∧ y = .d d) ∨ (∃ i, x = .c i ∧ y = .c i ∧ i < m) ∨ (∃ i, x = .c i ∧ kp = some i ∧ y = .c m) ∨ (∃ v, x = .v v ∧ y = .v v) ∨ ∃ a c d o, x = .x a c d o ∧ y = .x a c d o
def RfyO (m : Nat) (kp : Option Nat) (μ : Mu) : O → O → Prop
  | _, .dead => True
  | .lst xs, .lst ys => Paired (RfyV m kp μ) xs ys
  | .dct ks, .dct ls => Paired (fun p q => p.1 = q.1 ∧ RfyV m kp μ p.2 q.2) ks ls
  | .fdct o vs ks, .fdct o' vs' ls => (o = o' ∧ vs = vs') ∧ Paired (fun p q => p.1 = q.1 ∧ RfyV m kp μ p.2 q.2) ks ls
  | _, _ => False
def RfyM (m : Nat) (kp : Option Nat) (μ μ' : Mu) : Prop := (∀ j, kp = some j → m ≤ j ∧ j < μ.length) ∧ μ'.length = m + kp.toList.length ∧
  (∀ (i : Nat) o, i < m → μ'[i]? = some o → ∃ o₀, μ[i]? = some o₀ ∧ RfyO m kp μ o₀ o) ∧ ∀ j o, kp = some j → μ'[m]? = some o → ∃ o₀, μ[j]? = some o₀ ∧ RfyO m kp μ o₀ o
section
variable {K : PySem.W.Frag} {F : Hp} {al : List Addr} {H : Hp} {μ μ' : Mu} {m : Nat} {kp : Option Nat}
def Fz (al : List Addr) (m : Nat) (kp : Option Nat) (b : Addr) : Prop := ∃ i, m ≤ i ∧ kp ≠ some i ∧ al[i]? = some b
open Classical in
noncomputable def frF (F : Hp) (al : List Addr) (m : Nat) (kp : Option Nat) (H : Hp) : Hp := fun b => if Fz al m kp b then H b else F b
theorem frF_in {b : Addr} (h : Fz al m kp b) : frF F al m kp H b = H b := if_pos h
theorem frF_out {b : Addr} (h : ¬ Fz al m kp b) : frF F al m kp H b = F b := if_neg h
/-- the cells that are kept -/
def kpAl (al : List Addr) (m : Nat) (kp : Option Nat) : List Addr := al.take m ++ (match kp with
  | none => []
  | some j => (al[j]?).toList)
theorem frF_same (S : Sto K F al μ H) : Same F (frF F al m kp H) := fun b o e => by
  by_cases z : Fz al m kp b
  · rw [frF_in z]
    exact S.sub b o e
  · rw [frF_out z]
    exact e
theorem rfy_aux (S : Sto K F al μ H) : ∀ n : Nat, (∀ x d v, sizeOf d ≤ n → Rfy m kp μ x d → Ab K F al v x → Dp K (frF F al m kp H) v d) ∧ (∀ xs ds vs, sizeOf ds ≤ n → RfyL m kp μ xs ds → Paired (Ab K F al) vs xs → DpAll K (frF F al m kp H) vs ds)
  | 0 => ⟨fun x d v h => by cases d <;> simp at h, fun xs ds vs h => by cases ds <;> simp at h⟩
  | n + 1 => by
    obtain ⟨i1, i2⟩ := rfy_aux S n
    refine ⟨fun x d v h r a => ?_, fun xs ds vs h r a => ?_⟩
    · cases r with
      | d x => exact Dp.mono (frF_same S) a
      | @c i xs ds hi hk hc hl =>
        obtain ⟨p, ep, rfl⟩ := a
        obtain ⟨q, vs, e1, e2, e3⟩ := cell_lst S hc
        rw [ep] at e1
        obtain rfl := Option.some.inj e1
        refine .lst (.inl (.inl ?_)) (i2 xs ds vs (by simp at h; omega) hl e3)
        rw [frF_in ⟨i, hi, hk, ep⟩]
        exact e2
    · cases r with
      | nil =>
        cases a
        exact .nil
      | cons r1 r2 =>
        cases a with
        | cons a1 a2 => exact .cons (i1 _ _ _ (by simp at h; omega) r1 a1) (i2 _ _ _ (by simp at h; omega) r2 a2)
theorem kpAl_lt {i : Nat} (hm : m ≤ al.length) (h : i < m) : (kpAl al m kp)[i]? = al[i]? := by
  unfold kpAl
  rw [List.getElem?_append_left (by rw [List.length_take]; omega), List.getElem?_take_of_lt h]
theorem kpAl_m {j : Nat} {a : Addr} (hm : m ≤ al.length) (h : al[j]? = some a) : (kpAl al m (some j))[m]? = some a := by
  unfold kpAl
  have e : (al.take m).length = m := by rw [List.length_take]; omega
  rw [List.getElem?_append_right (by omega), e, Nat.sub_self]
  show ((al[j]?).toList)[0]? = some a
  rw [h]
  rfl
theorem rfy_v (S : Sto K F al μ H) (hm : m ≤ al.length) {x y : A} {v : V} (r : RfyV m kp μ x y) (a : Ab K F al v x) : Ab K (frF F al m kp H) (kpAl al m kp) v y := by
  rcases r with ⟨d, r, rfl⟩ | ⟨i, rfl, rfl, hi⟩ | ⟨i, rfl, rfl, rfl⟩ | ⟨w, rfl, rfl⟩ | ⟨p, c, d, o, rfl, rfl⟩
  · exact (rfy_aux S _).1 x d v (Nat.le_refl _) r a
  · obtain ⟨p, ep, rfl⟩ := a
    exact ⟨p, by rw [kpAl_lt hm hi]; exact ep, rfl⟩
  · obtain ⟨p, ep, rfl⟩ := a
    exact ⟨p, kpAl_m hm ep, rfl⟩
  · exact a
  · exact ⟨a.1, a.2.mono (frF_same S)⟩
theorem Paired.comp {α β γ : Type} {R : α → β → Prop} {R' : β → γ → Prop} {T : α → γ → Prop} (f : ∀ a b c, R a b → R' b c → T a c) : ∀ {l : List α} {m : List β} {n : List γ}, Paired R l m → Paired R' m n → Paired T l n
  | _, _, _, .nil, .nil => .nil
  | _, _, _, .cons a b, .cons c d => .cons (f _ _ _ a c) (Paired.comp f b d)
theorem rfy_cell (S : Sto K F al μ H) (hm : m ≤ al.length) {i : Nat} {a : Addr} {o₀ o : O} (h : al[i]? = some a) (hi : i < m ∨ kp = some i) (e : μ[i]? = some o₀) (q : RfyO m kp μ o₀ o) : ∃ ho, H a = some ho ∧ (o ≠ .dead → frF F al m kp H a = none ∧ AbO K (frF F al m kp H) (kpAl al m kp) ho o) := by
  obtain ⟨ho, h1, h2⟩ := S.cell i a o₀ h e
  refine ⟨ho, h1, fun nd => ?_⟩
  have nd0 : o₀ ≠ .dead := fun z => by
    rw [z] at q
    cases o with
    | dead => exact nd rfl
    | lst _ => exact q.elim
    | dct _ => exact q.elim
    | fdct _ _ _ => exact q.elim
  obtain ⟨f, ab⟩ := h2 nd0
  have na : ¬ Fz al m kp a := fun ⟨i', h1, h2, h3⟩ => by
    obtain rfl := nd_ix S.nd h3 h
    rcases hi with z | z
    · omega
    · exact h2 z
  refine ⟨by rw [frF_out na]; exact f, ?_⟩
  cases o with
  | dead => exact absurd rfl nd
  | lst ys =>
    cases o₀ with
    | lst xs =>
      cases ho with
      | lst vs => exact Paired.comp (R := Ab K F al) (R' := RfyV m kp μ) (T := Ab K (frF F al m kp H) (kpAl al m kp)) (fun _ _ _ a r => rfy_v S hm r a) ab q
      | _ => exact ab.elim
    | dead => exact q.elim
    | dct _ => exact q.elim
    | fdct _ _ _ => exact q.elim
  | dct ls =>
    cases o₀ with
    | dct xs =>
      cases ho with
      | dK vs => exact Paired.comp (R := fun (p : Key × V) (q : Key × A) => p.1 = q.1 ∧ Ab K F al p.2 q.2) (R' := fun (p q : Key × A) => p.1 = q.1 ∧ RfyV m kp μ p.2 q.2) (T := fun (p : Key × V) (q : Key × A) => p.1 = q.1 ∧ Ab K (frF F al m kp H) (kpAl al m kp) p.2 q.2) (fun _ _ _ a r => ⟨a.1.trans r.1, rfy_v S hm r.2 a.2⟩) ab q
      | _ => exact ab.elim
    | dead => exact q.elim
    | lst _ => exact q.elim
    | fdct _ _ _ => exact q.elim
  | fdct oo vv ls =>
    cases o₀ with
    | fdct o1 v1 xs =>
      cases ho with
      | frz o u =>
        cases u with
        | dK vs => exact ⟨⟨ab.1.1.trans q.1.1, ab.1.2.trans q.1.2⟩, Paired.comp (R := fun (p : Key × V) (q : Key × A) => p.1 = q.1 ∧ Ab K F al p.2 q.2) (R' := fun (p q : Key × A) => p.1 = q.1 ∧ RfyV m kp μ p.2 q.2) (T := fun (p : Key × V) (q : Key × A) => p.1 = q.1 ∧ Ab K (frF F al m kp H) (kpAl al m kp) p.2 q.2) (fun _ _ _ a r => ⟨a.1.trans r.1, rfy_v S hm r.2 a.2⟩) ab.2 q.2⟩
        | _ => exact ab.elim
      | _ => exact ab.elim
    | dead => exact q.elim
    | lst _ => exact q.elim
    | dct _ => exact q.elim
theorem rfy_sto (S : Sto K F al μ H) (hm : m ≤ al.length) (r : RfyM m kp μ μ') : Sto K (frF F al m kp H) (kpAl al m kp) μ' H where
  sub b o e := by
    by_cases z : Fz al m kp b
    · rw [frF_in z] at e
      exact e
    · rw [frF_out z] at e
      exact S.sub b o e
  nd := by
    unfold kpAl
    rw [List.nodup_append]
    refine ⟨S.nd.sublist (List.take_sublist _ _), ?_, fun a ha b hb e => ?_⟩
    · cases kp with
      | none => exact List.nodup_nil
      | some j =>
        show ((al[j]?).toList).Nodup
        cases al[j]? with
        | none => exact List.nodup_nil
        | some _ => simp
    · subst e
      cases kp with
      | none => cases hb
      | some j =>
        have hj := (r.1 j rfl).1
        have hb : a ∈ (al[j]?).toList := hb
        cases e : al[j]? with
        | none => rw [e] at hb; cases hb
        | some c =>
          rw [e] at hb
          have : a = c := by simpa using hb
          subst this
          obtain ⟨i, hi⟩ := List.mem_iff_getElem?.mp ha
          have lt : i < m := by
            have := (List.getElem?_eq_some_iff.mp hi).1
            rw [List.length_take] at this
            omega
          rw [List.getElem?_take_of_lt lt] at hi
          have := nd_ix S.nd hi e
          omega
  len := by
    rw [r.2.1]
    unfold kpAl
    rw [List.length_append, List.length_take, Nat.min_eq_left hm]
    congr 1
    cases kp with
    | none => rfl
    | some j =>
      show ((al[j]?).toList).length = 1
      have := (r.1 j rfl).2
      rw [← S.len] at this
      rw [List.getElem?_eq_getElem this]
      rfl
  cell i a o e1 e2 := by
    by_cases lt : i < m
    · obtain ⟨o₀, e0, q⟩ := r.2.2.1 i o lt e2
      rw [kpAl_lt hm lt] at e1
      exact rfy_cell S hm e1 (.inl lt) e0 q
    · have hl := (List.getElem?_eq_some_iff.mp e2).1
      rw [r.2.1] at hl
      cases kp with
      | none =>
        simp at hl
        omega
      | some j =>
        have : i = m := by simp at hl; omega
        subst this
        obtain ⟨o₀, e0, q⟩ := r.2.2.2 j o rfl e2
        have hj := (r.1 j rfl).2
        rw [← S.len] at hj
        have ej := List.getElem?_eq_getElem hj
        rw [kpAl_m hm ej] at e1
        obtain rfl := Option.some.inj e1
        exact rfy_cell S hm ej (.inr rfl) e0 q
end
/-- what a def gives back, as seen from the call -/
def RetD (m : Nat) (P : DK) : DK := fun x μ' => ∃ kp y μ'', RfyV m kp μ' x y ∧ RfyM m kp μ' μ'' ∧ P y μ''
def OutD (m : Nat) (Ex : DX) : Value → Flds → Rho → Mu → Prop := fun C o _ μ' => ∃ μ'', RfyM m none μ' μ'' ∧ Ex C o μ''
theorem grow_ret {K : PySem.W.Frag} {F F' : Hp} {al al' : List Addr} {H H' : Hp} {μ μ' μ'' : Mu} {kp : Option Nat} (S : Sto K F al μ H) (g : Grow F al H F' al' H') (S' : Sto K F' al' μ' H') (r : RfyM μ.length kp μ' μ'') :
    ∃ F'' al'', Grow F al H F'' al'' H' ∧ Sto K F'' al'' μ'' H' ∧ Same F' F'' ∧ ∀ v x y, RfyV μ.length kp μ' x y → Ab K F' al' v x → Ab K F'' al'' v y := by
  have hm : μ.length ≤ al'.length := by
    rw [← S.len]
    exact g.px.length_le
  have tk : al'.take μ.length = al := by
    obtain ⟨t, rfl⟩ := g.px
    rw [← S.len, List.take_left]
  refine ⟨frF F' al' μ.length kp H', kpAl al' μ.length kp, ⟨g.f.trans (frF_same S'), ?_, g.fr, fun a h => ?_, fun b o e => ?_⟩, rfy_sto S' hm r, frF_same S', fun v x y q a => rfy_v S' hm q a⟩
  · unfold kpAl
    rw [tk]
    exact List.prefix_append _ _
  · unfold kpAl at h
    rcases List.mem_append.mp h with z | z
    · exact g.nw a (List.mem_of_mem_take z)
    · cases kp with
      | none => cases z
      | some j =>
        have z : a ∈ (al'[j]?).toList := z
        cases e : al'[j]? with
        | none => rw [e] at z; cases z
        | some c =>
          rw [e] at z
          have : a = c := by simpa using z
          subst this
          exact g.nw a (List.mem_of_getElem? e)
  · by_cases z : Fz al' μ.length kp b
    · obtain ⟨i, _, _, e3⟩ := z
      rcases g.nw b (List.mem_of_getElem? e3) with q | q
      · exact .inr (.inr q)
      · exact .inr (.inl q)
    · rw [frF_out z] at e
      exact g.fz b o e
theorem Ko.ret {K : PySem.W.Frag} {F : Hp} {al : List Addr} {H : Hp} {μ : Mu} {P : DK} {Q : VK} (S : Sto K F al μ H) (k : Ko K F al H P Q) : Ko K F al H (RetD μ.length P) Q := fun v x μ' F' al' H' ⟨kp, y, μ'', r, rm, h⟩ g S' a => by
  obtain ⟨F'', al'', g2, S2, _, q⟩ := grow_ret S g S' rm
  exact k v y μ'' F'' al'' H' h g2 S2 (q v x y r a)
/-- what stands in the cells are cells of the first m -/
def oldA (m : Nat) : A → Prop
  | .c i => i < m
  | _ => True
def oldO (m : Nat) : O → Prop
  | .lst xs => ∀ x ∈ xs, oldA m x
  | .dct ks => ∀ p ∈ ks, oldA m p.2
  | .fdct _ _ ks => ∀ p ∈ ks, oldA m p.2
  | .dead => True
def Old (m : Nat) (μ : Mu) : Prop := ∀ (i : Nat) o, μ[i]? = some o → oldO m o
theorem Paired.right {α β : Type} {R : α → β → Prop} {y : β} : ∀ {l : List α} {m : List β}, Paired R l m → y ∈ m → ∃ x, R x y
  | _, _, .nil, h => by cases h
  | _, _, .cons a b, h => by
    rcases List.mem_cons.mp h with rfl | h
    · exact ⟨_, a⟩
    · exact Paired.right b h
theorem old_ab {K : PySem.W.Frag} {F : Hp} {al : List Addr} {v : V} {x : A} (h : Ab K F al v x) : oldA al.length x := by
  cases x with
  | c i =>
    obtain ⟨a, e, _⟩ := h
    exact (List.getElem?_eq_some_iff.mp e).1
  | _ => trivial
theorem Sto.old {K : PySem.W.Frag} {F : Hp} {al : List Addr} {μ : Mu} {H : Hp} (S : Sto K F al μ H) : Old μ.length μ := fun i o e => by
  have lt : i < al.length := by
    rw [S.len]
    exact (List.getElem?_eq_some_iff.mp e).1
  obtain ⟨ho, _, h2⟩ := S.cell i _ o (List.getElem?_eq_getElem lt) e
  rw [← S.len]
  cases o with
  | dead => trivial
  | lst xs =>
    have ab := (h2 (fun z => nomatch z)).2
    cases ho with
    | lst vs => exact fun x hx => let ⟨_, a⟩ := Paired.right (R := Ab K F al) ab hx; old_ab a
    | _ => exact ab.elim
  | dct ks =>
    have ab := (h2 (fun z => nomatch z)).2
    cases ho with
    | dK vs => exact fun x hx => let ⟨_, a⟩ := Paired.right (R := fun (p : Key × V) (q : Key × A) => p.1 = q.1 ∧ Ab K F al p.2 q.2) ab hx; old_ab a.2
    | _ => exact ab.elim
  | fdct _ _ ks =>
    have ab := (h2 (fun z => nomatch z)).2
    cases ho with
    | frz o u =>
      cases u with
      | dK vs => exact fun x hx => let ⟨_, a⟩ := Paired.right (R := fun (p : Key × V) (q : Key × A) => p.1 = q.1 ∧ Ab K F al p.2 q.2) ab.2 hx; old_ab a.2
      | _ => exact ab.elim
    | _ => exact ab.elim
/-! ### the names at the entry -/
def startR (N : List Str) (xs : List A) : Rho := xs.map some ++ List.replicate (N.length - xs.length) none
theorem slots_start {K : PySem.W.Frag} {F : Hp} {al : List Addr} {N : List Str} {vs : List V} {xs : List A} (h : Paired (Ab K F al) vs xs) : Slots K F al (start N vs) (startR N xs) := by
  have hl := pair_len h
  refine ⟨?_, fun i x e => ?_⟩
  · unfold L2.start startR
    rw [List.length_append, List.length_append, List.length_map, List.length_map, List.length_replicate, List.length_replicate, hl]
  · unfold startR at e
    unfold L2.start
    rcases Nat.lt_or_ge i xs.length with lt | ge
    · rw [List.getElem?_append_left (by rw [List.length_map]; exact lt), List.getElem?_map] at e
      cases e' : xs[i]? with
      | none => rw [e'] at e; cases e
      | some y =>
        rw [e'] at e
        obtain rfl : y = x := Option.some.inj (Option.some.inj e)
        obtain ⟨v, e1, a⟩ := pair_get h e'
        exact ⟨v, by rw [List.getElem?_append_left (by rw [List.length_map, hl]; exact lt), List.getElem?_map, e1]; rfl, a⟩
    · rw [List.getElem?_append_right (by rw [List.length_map]; exact ge), List.getElem?_replicate] at e
      split at e <;> cases e
/-- THE RULE for a def, over data -/
theorem fn_data {P : Program} {w : World} {K : PySem.W.Frag} {mg : Str → Option Value} {base : Heap} {x qual : Str} {st : Stmt} {f : Addr} {fd : FuncData} {N ps : List Str} {k : Nat} {R : DR} (F : Fun K x qual st f fd) (sc : FnScope N ps (defScope st))
    (len : ∀ xs μ Pk Ex, R xs μ Pk Ex → xs.length = ps.length)
    (body : ∀ (cdv : Value) (A : Around) (outer : List Env) (s : Shared) (H : Hp) (E : XK) (W : WX), Room k (A.deeper (envOfC qual (defScope st) s.heap.objs.size f cdv)) →
      Takes (cxOf (L2.CX P w) P w K mg base N qual (defScope st) f cdv A outer s H E) W →
      PassesOwn (model P w) (A.deeper (envOfC qual (defScope st) s.heap.objs.size f cdv)) (envOfC qual (defScope st) s.heap.objs.size f cdv) (cxOf (L2.CX P w) P w K mg base N qual (defScope st) f cdv A outer s H E).xe →
      ∀ xs μ Pk Ex, Old μ.length μ → R xs μ Pk Ex → ∃ d, DSs (cxOf (L2.CX P w) P w K mg base N qual (defScope st) f cdv A outer s H E) W (defBody st) d ∧
        d { nx := fun _ μ' => RetD μ.length Pk (.d .none) μ', rt := RetD μ.length Pk, ex := OutD μ.length Ex } (startR N xs) μ) :
    FnOk P w K mg base (L2.CX P w) (k + 1) f fd ps (SpD K R) := by
  refine F.okX sc (fun vs H Q E h => ?_) (fun cdv A outer s H vs Q E hr h => ?_)
  · obtain ⟨xs, μ, Pk, Ex, F, al, S, a, r, _⟩ := h
    rw [pair_len a]
    exact len _ _ _ _ r
  · obtain ⟨xs, μ, Pk, Ex, F, al, S, a, r, kk, kx⟩ := h
    obtain ⟨d, hd, q⟩ := body cdv A outer s H E (fun cls d _ H' => E cls d H') hr (takes_of rfl rfl rfl rfl) (passes_of rfl) xs μ Pk Ex S.old r
    obtain ⟨t, p, sm⟩ := hd.ex
    refine ⟨t, p, sm _ μ _ q F al _ H S (slots_start a) _ ⟨fun ρ' μ' F' al' σ' H' h g S' _ => ?_, kk.ret S, fun _ _ _ _ _ _ z => z.elim, fun _ _ _ _ _ _ z => z.elim, fun C o ρ' μ' F' al' σ' H' dd h g S' _ xo => ?_⟩⟩
    · exact kk.ret S .non (.d .none) μ' F' al' H' h g S' .non
    · obtain ⟨μ'', rm, h⟩ := h
      obtain ⟨F'', al'', g2, S2, sf, _⟩ := grow_ret S g S' rm
      exact kx C o μ'' F'' al'' H' dd h g2 S2 (xo.mono sf)
/-! ### calls that may raise, as statements; raise -/
section
variable {X : Cx} {W : WX} {k : Nat} {f : Addr} {fd : FuncData} {ps : List Str} {R : DR} {x : Str} {p pos spos : Pos} {e : Expr} {es : List Expr} {da : DAT}
abbrev dcR (R : DR) (da : DAT) (nx : A → Rho → Mu → Prop) (D : DEnds) : RM := fun ρ μ => da ρ μ fun xs μ1 => R xs μ1 (fun y μ2 => nx y ρ μ2) fun C o μ2 => D.ex C o ρ μ2
theorem callX (G : FnOk X.prog X.w X.K X.mg X.base (L2.CX X.prog X.w) k f fd ps (SpD X.K R)) (hr : Room k X.A) (tk : Takes X W) (hm : X.mg x = some (.ref f)) (hk : PySem.W.keepIn X.K (.ref f) = true) (hb : Binds X.K fd ps []) (ha : DA X (e :: es) da) (hg : Gl X x := by rfl)
    (hdb : (x == ("__debug__" : Str)) = false := by decide) (he : starEach (e :: es) X.env = (false, eval e X.env) :: starEach es X.env := by rfl) (hpl : (backTo pos (starEach es X.env)).any (·.1) = false := by rfl) :
    ∃ t, PE X (.Call (.Name x p) (e :: es) [] pos) t ∧ ∀ nx D ρ μ, dcR R da nx D ρ μ → ∀ F al σ H, Sto X.K F al μ H → Slots X.K F al σ ρ → ∀ Q E, KoS X.K W F al H D E → (∀ v y μ' F' al' H', nx y ρ μ' → Grow F al H F' al' H' → Sto X.K F' al' μ' H' → Ab X.K F' al' v y → Q v H') → t σ H Q := by
  obtain ⟨_, p2, s2⟩ := ha.ex
  refine ⟨_, pe_callS G hr hg hm hk hb (passAt tk) p2 hdb he hpl, fun nx D ρ μ h F al σ H S L Q E kk kn => ?_⟩
  refine s2 ρ μ _ h F al σ H S L _ fun vs xs μ1 F1 al1 H1 q g S1 a => ?_
  exact ⟨xs, μ1, _, _, F1, al1, S1, a, q, fun v y μ' F' al' H' h' g' S' a' => kn v y μ' F' al' H' h' (g.trans g') S' a', fun C o μ' F' al' H' d h' g' S' xo => kk.ex C o ρ μ' F' al' σ H' d h' (g.trans g') S' ((g.trans g').slots L) xo⟩
abbrev dsExprX (R : DR) (da : DAT) : DS := fun D => dcR R da (fun _ ρ μ => D.nx ρ μ) D
abbrev dsSetX (i : Nat) (R : DR) (da : DAT) : DS := fun D => dcR R da (fun y ρ μ => D.nx (ρ.set i (some y)) μ) D
abbrev dsRetX (R : DR) (da : DAT) : DS := fun D => dcR R da (fun y _ μ => D.rt y μ) D
theorem ds_exprX (G : FnOk X.prog X.w X.K X.mg X.base (L2.CX X.prog X.w) k f fd ps (SpD X.K R)) (hr : Room k X.A) (tk : Takes X W) (hm : X.mg x = some (.ref f)) (hk : PySem.W.keepIn X.K (.ref f) = true) (hb : Binds X.K fd ps []) (ha : DA X (e :: es) da) (hg : Gl X x := by rfl)
    (hdb : (x == ("__debug__" : Str)) = false := by decide) (he : starEach (e :: es) X.env = (false, eval e X.env) :: starEach es X.env := by rfl) (hpl : (backTo pos (starEach es X.env)).any (·.1) = false := by rfl)
    (hs : swapsWith (.Call (.Name x p) (e :: es) [] pos) none spos.line X.env = pure false := by rfl) : DSt X W (.Expr (.Call (.Name x p) (e :: es) [] pos) spos) (dsExprX R da) := by
  obtain ⟨t, pe, q⟩ := callX (p := p) (pos := pos) G hr tk hm hk hb ha hg hdb he hpl
  exact ⟨_, ps_expr pe hs, fun ρ μ D h F al σ H S L E kk => q _ D ρ μ h F al σ H S L _ E kk fun v y μ' F' al' H' h' g' S' _ => kk.nx ρ μ' F' al' σ H' h' g' S' (g'.slots L)⟩
theorem ds_setX {i : Nat} {y : Str} {pos' : Pos} (hN : X.N.Nodup) (G : FnOk X.prog X.w X.K X.mg X.base (L2.CX X.prog X.w) k f fd ps (SpD X.K R)) (hr : Room k X.A) (tk : Takes X W) (hm : X.mg x = some (.ref f)) (hk : PySem.W.keepIn X.K (.ref f) = true) (hb : Binds X.K fd ps []) (ha : DA X (e :: es) da) (hg : Gl X x := by rfl)
    (hdb : (x == ("__debug__" : Str)) = false := by decide) (he : starEach (e :: es) X.env = (false, eval e X.env) :: starEach es X.env := by rfl) (hpl : (backTo pos (starEach es X.env)).any (·.1) = false := by rfl)
    (hi : X.N[i]? = some y := by rfl) (hx : Loc X.env.scope y := by first | exact Or.inl rfl | exact Or.inr rfl) (hs : swapsWith (.Call (.Name x p) (e :: es) [] pos) (some (.Name y pos')) spos.line X.env = pure false := by rfl)
    (hf : X.fn y = true ∨ X.env.scope.names.lookup y = some .local := by first | exact .inl rfl | exact .inr rfl | assumption) : DSt X W (.Assign [.Name y pos'] (.Call (.Name x p) (e :: es) [] pos) spos) (dsSetX i R da) := by
  obtain ⟨t, pe, q⟩ := callX (p := p) (pos := pos) G hr tk hm hk hb ha hg hdb he hpl
  exact ⟨_, ps_set (i := i) hN hi hx pe hs hf, fun ρ μ D h F al σ H S L E kk => q (fun y ρ μ => D.nx (ρ.set i (some y)) μ) D ρ μ h F al σ H S L _ E kk fun v y μ' F' al' H' h' g' S' a' => kk.nx (ρ.set i (some y)) μ' F' al' _ H' h' g' S' ((g'.slots L).set a')⟩
theorem ds_retX (G : FnOk X.prog X.w X.K X.mg X.base (L2.CX X.prog X.w) k f fd ps (SpD X.K R)) (hr : Room k X.A) (tk : Takes X W) (hm : X.mg x = some (.ref f)) (hk : PySem.W.keepIn X.K (.ref f) = true) (hb : Binds X.K fd ps []) (ha : DA X (e :: es) da) (hg : Gl X x := by rfl)
    (hdb : (x == ("__debug__" : Str)) = false := by decide) (he : starEach (e :: es) X.env = (false, eval e X.env) :: starEach es X.env := by rfl) (hpl : (backTo pos (starEach es X.env)).any (·.1) = false := by rfl) :
    DSt X W (.Return (some (.Call (.Name x p) (e :: es) [] pos)) spos) (dsRetX R da) := by
  obtain ⟨t, pe, q⟩ := callX (p := p) (pos := pos) G hr tk hm hk hb ha hg hdb he hpl
  exact ⟨_, ps_ret pe, fun ρ μ D h F al σ H S L E kk => q (fun y _ μ => D.rt y μ) D ρ μ h F al σ H S L _ E kk fun v y μ' F' al' H' h' g' S' a' => kk.rt v y μ' F' al' H' h' g' S' a'⟩
/-- raise C(e), C an own class without an own __init__ -/
abbrev dsRaise (C : Addr) (de : DT) : DS := fun D ρ μ => de ρ μ fun _ μ1 => D.ex (.ref C) none ρ μ1
theorem ds_raise1 {C : Addr} {bmB : List Value} {B newId initId : String} {de : DT} (hc : X.calm = true) (tk : Takes X W) (F : ExcBaseFacts B newId initId bmB) (q : PySem.W.excIn X.K C bmB newId = true) (gC : X.mg x = some (.ref C)) (kC : PySem.W.keepIn X.K (.ref C) = true) (r : Raises X (.ref C)) (h : DE X e de) (hg : Gl X x := by rfl)
    (hs : starEach [e] X.env = (false, eval e X.env) :: starEach [] X.env := by rfl) (hdb : (x == ("__debug__" : Str)) = false := by decide) : DSt X W (.Raise (some (.Call (.Name x p) [e] [] pos)) none spos) (dsRaise C de) := by
  obtain ⟨_, pe, s⟩ := h.ex
  refine ⟨_, ps_raise hc tk (SkE.pmk_own1 F q gC kC r hg pe hs hdb), fun ρ μ D h F al σ H S L E kk => ?_⟩
  exact s ρ μ _ h F al σ H S L _ fun v y μ1 F1 al1 H1 q1 g S1 a => kk.ex _ none ρ μ1 F1 al1 σ H1 none q1 g S1 (g.slots L) trivial
end
end Dl

set_option Elab.async false
set_option linter.all false
set_option maxRecDepth 100000
set_option maxHeartbeats 4000000
namespace Dl
open PySem PySem.Spec PyProof.Rows L2
/-! ### operators, whatever the operands are -/
section
variable {X : Cx} {K : PySem.W.Frag} {a b : Expr} {pos : Pos} {da db : DT}
/-- a list: data, or a cell -/
def LstOf (x : A) (μ : Mu) (xs : List A) : Prop := match x with
  | .d (.list ds) => xs = ds.map A.d
  | .c i => μ[i]? = some (.lst xs)
  | _ => False
theorem lstOf_ab {F : Hp} {al : List Addr} {μ : Mu} {H : Hp} {v : V} {x : A} {xs : List A} (S : Sto K F al μ H) (a : Ab K F al v x) (h : LstOf x μ xs) : ∃ p vs, v = .ref p ∧ SqL K H p vs ∧ Paired (Ab K F al) vs xs := by
  cases x with
  | d x =>
    cases x with
    | list ds =>
      obtain rfl : xs = ds.map A.d := h
      obtain ⟨p, vs, rfl, q, r⟩ := dp_lst a
      exact ⟨p, vs, rfl, S.seq q, DpAll.to r⟩
    | _ => exact h.elim
  | c i =>
    obtain ⟨p, ep, rfl⟩ := a
    obtain ⟨q, vs, e1, e2, e3⟩ := cell_lst S h
    rw [ep] at e1
    obtain rfl := Option.some.inj e1
    exact ⟨p, vs, rfl, .inl (.inl e2), e3⟩
  | v _ => exact h.elim
  | x _ _ _ _ => exact h.elim
/-- a new list -/
theorem lcEnd_new {F : Hp} {al : List Addr} {μ : Mu} {H : Hp} {P : DK} {Q : VK} {vs : List V} {xs : List A} (S : Sto K F al μ H) (a : Paired (Ab K F al) vs xs) (h : lcEnd P xs μ) (k : Ko K F al H P Q) : ∀ p, H p = none → Q (.ref p) (upd H p (.lst vs)) := fun p hp => by
  rcases h with ⟨ds, rfl, h⟩ | h
  · obtain ⟨S2, g2⟩ := S.lay (o := .lst vs) hp
    exact k _ _ _ _ _ _ h g2 S2 (.lst (.inl (.inl upd_same)) (DpAll.mono g2.f (DpAll.of a)))
  · obtain ⟨S2, g2⟩ := S.cellNew (ho := .lst vs) (o := .lst xs) hp a
    refine k (.ref p) (.c μ.length) _ _ _ _ h g2 S2 ⟨p, ?_, rfl⟩
    rw [← S.len, List.getElem?_append_right (Nat.le_refl _), Nat.sub_self]
    rfl
def rCatL (K : PySem.W.Frag) : R2 := fun x y H Q => ∃ l b xs zs, x = .ref l ∧ y = .ref b ∧ SqL K H l xs ∧ SqL K H b zs ∧ xs.length + zs.length ≤ sizeLine ∧ ∀ p, H p = none → Q (.ref p) (upd H p (.lst (xs ++ zs)))
theorem op_catL : OpR X (binaryOp .Add) (rCatL X.K) := by
  intro pins s σ H x y v u Q I rx ry h
  obtain ⟨l, b, xs, zs, rfl, rfl, hH, hB, hz, q⟩ := h
  cases rx
  cases ry
  obtain ⟨its, r, pl, z⟩ := I.list hH
  obtain ⟨its2, r2, pl2, z2⟩ := I.list hB
  obtain ⟨⟨cls, dd, data, sl⟩, n, ho, hc, _, hd⟩ := pl
  obtain ⟨⟨cls2, dd2, data2, sl2⟩, n2, ho2, hc2, _, hd2⟩ := pl2
  simp only at hc hd hc2 hd2
  subst hc hd hc2 hd2
  have e : its.toArray ++ its2.toArray = (its ++ its2).toArray := by simp
  refine concat_meets ⟨_, ho, rfl⟩ ⟨_, ho2, rfl⟩ noFill_list_add seq_list_add PySem.F.slot_list_add PySem.F.entry_list_add (PySem.F.args_list_add_2 _ _) (PyProof.Rows.list_addW l b its.toArray its2.toArray n n2 dd dd2 sl sl2 (by simp; rw [← r.length, ← r2.length]; exact hz)) ⟨ho, ho2, ?_⟩
  rw [e]
  exact ⟨.ref _, _, I.lnew (t' := s.toks) (r.append r2) (by rw [List.length_append]; omega), rfl, q _ I.fresh⟩
/-- t + u, of tuples -/
def rCatN (K : PySem.W.Frag) : R2 := fun x y H Q => ∃ a b xs ys, x = .ref a ∧ y = .ref b ∧ SqT K H a xs ∧ SqT K H b ys ∧ xs.length + ys.length ≤ sizeLine ∧
  (xs = [] → Q (.ref b) H) ∧ (ys = [] → Q (.ref a) H) ∧ (xs ≠ [] → ys ≠ [] → ∀ p ob, H p = none → ob.dict = none → Q (.ref p) (upd H p (.frz ob (.tup (xs ++ ys)))))
theorem op_catN {X : Cx} : OpR X (binaryOp .Add) (rCatN X.K) := by
  intro pins s σ H x y v u Q I rx ry h
  obtain ⟨a, b, xs, ys, rfl, rfl, ha, hb, small, q0, q1, q2⟩ := h
  cases rx
  cases ry
  obtain ⟨its, r1, p1, _⟩ := I.tuple ha
  obtain ⟨its2, r2, p2, _⟩ := I.tuple hb
  by_cases hx : xs = []
  · subst hx
    cases r1
    exact cat_tup0 p1 p2 ⟨.ref b, H, I, rfl, q0 rfl⟩
  · refine HT.cat_tup p1 p2 (fun z => hx (r1.nil_iff.mp z)) (fun z => ⟨.ref a, H, I, rfl, q1 (r2.nil_iff.mp z)⟩) (fun z => ?_) (by rw [← r1.length, ← r2.length]; exact small)
    have hy : ys ≠ [] := fun w => z (r2.nil_iff.mpr w)
    refine ⟨.ref s.heap.objs.size, _, I.laid (t' := s.toks) (o := .frz { cls := .type "tuple", data := .seq (its ++ its2).toArray } (.tup (xs ++ ys))) (fun _ _ e => Heap.get?_push_of_some _ e) (Nat.le_refl _) ?_, rfl, q2 hx hy _ _ (I.hok.fresh (Nat.le_refl _)) rfl⟩
    refine ⟨?_, by rw [List.length_append]; exact small, _, r1.append r2, ?_⟩
    · rw [← List.append_toArray]
      exact Heap.get?_push_size _ rfl
    · rw [← List.append_toArray]
      exact IsTup.new _ _
/-- x + y -/
def rdAdd : A → A → Mu → DK → Prop := fun x y μ P => match x, y with
  | .d (.int i), .d (.int j) => P (.d (.int (i + j))) μ
  | .d (.str i), .d (.str j) => i.length + j.length ≤ sizeLine ∧ P (.d (.str (i ++ j))) μ
  | .d (.tuple i), .d (.tuple j) => i.length + j.length ≤ sizeLine ∧ P (.d (.tuple (i ++ j))) μ
  | x, y => ∃ xs ys, LstOf x μ xs ∧ LstOf y μ ys ∧ xs.length + ys.length ≤ sizeLine ∧ lcEnd P (xs ++ ys) μ
theorem s_add : SimR2 K (fun x y H Q => rI0 (fun i j => .int (i + j)) x y H Q ∨ (∃ i j, x = .str i ∧ y = .str j ∧ i.length + j.length ≤ sizeLine ∧ Q (.str (i ++ j)) H) ∨ rCatN K x y H Q ∨ rCatL K x y H Q) rdAdd := fun x y μ P h F al H v w S a b Q k => by
  unfold rdAdd at h
  split at h
  · exact .inl ⟨_, _, dp_int a, dp_int b, k.now h S (.int _)⟩
  · exact .inr (.inl ⟨_, _, dp_str a, dp_str b, h.1, k.now h.2 S (.str _)⟩)
  · obtain ⟨p, vs, rfl, q, r⟩ := dp_tup a
    obtain ⟨p', ws, rfl, q', r'⟩ := dp_tup b
    refine .inr (.inr (.inl ⟨p, p', vs, ws, rfl, rfl, S.seqT q, S.seqT q', by rw [DpAll.len r, DpAll.len r']; exact h.1, fun e => ?_, fun e => ?_, fun _ _ p ob hp hd => ?_⟩))
    · subst e
      cases r
      exact k.now h.2 S b
    · subst e
      cases r'
      refine k.now h.2 S ?_
      rw [List.append_nil]
      exact a
    · obtain ⟨S2, g2⟩ := S.lay (o := .frz ob (.tup (vs ++ ws))) hp
      exact k _ _ _ _ _ _ h.2 g2 S2 (.tup (.inl ⟨ob, upd_same, hd⟩) (DpAll.mono g2.f (DpAll.app r r')))
  · obtain ⟨xs, ys, h1, h2, hz, h⟩ := h
    obtain ⟨p, vs, rfl, q, r⟩ := lstOf_ab S a h1
    obtain ⟨p', ws, rfl, q', r'⟩ := lstOf_ab S b h2
    exact .inr (.inr (.inr ⟨p, p', vs, ws, rfl, rfl, q, q', by rw [pair_len r, pair_len r']; exact hz, lcEnd_new S (Paired.app r r') h k⟩))
theorem dAdd (ha : DE X a da) (hb : DE X b db) : DE X (.BinOp a .Add b pos) (dOp rdAdd da db) := d_op (op_add.or (op_add_str.or (op_catN.or op_catL))) s_add ha hb
/-- x * y -/
def CMulA (i j : Int) : Prop := CMul i j ∨ CMulW i j
def rdMul : A → A → Mu → DK → Prop := fun x y μ P => match x, y with
  | .d (.int i), .d (.int j) => CMulA i j ∧ P (.d (.int (i * j))) μ
  | .c n, .d (.int k) => ∃ xs, μ[n]? = some (.lst xs) ∧ -(2 ^ 63) ≤ k ∧ k < 2 ^ 63 ∧ xs.length * k.toNat ≤ sizeLine ∧ lcEnd P (List.replicate k.toNat xs).flatten μ
  | _, _ => False
theorem rep_pair {F : Hp} {al : List Addr} {vs : List V} {xs : List A} (h : Paired (Ab K F al) vs xs) : ∀ n : Nat, Paired (Ab K F al) (List.replicate n vs).flatten (List.replicate n xs).flatten
  | 0 => .nil
  | n + 1 => by
    rw [List.replicate_succ, List.replicate_succ, List.flatten_cons, List.flatten_cons]
    exact Paired.app h (rep_pair h n)
theorem s_mul : SimR2 K (fun x y H Q => rI CMul (fun i j => .int (i * j)) x y H Q ∨ rI CMulW (fun i j => .int (i * j)) x y H Q ∨ rRep x y H Q) rdMul := fun x y μ P h F al H v w S a b Q k => by
  unfold rdMul at h
  split at h
  · rcases h.1 with c | c
    · exact .inl ⟨_, _, dp_int a, dp_int b, c, k.now h.2 S (.int _)⟩
    · exact .inr (.inl ⟨_, _, dp_int a, dp_int b, c, k.now h.2 S (.int _)⟩)
  · obtain ⟨xs, e, h1, h2, h3, h⟩ := h
    obtain ⟨p, ep, rfl⟩ := a
    obtain ⟨q, vs, e1, e2, e3⟩ := cell_lst S e
    rw [ep] at e1
    obtain rfl := Option.some.inj e1
    exact .inr (.inr ⟨p, _, vs, rfl, dp_int b, e2, h1, h2, by rw [pair_len e3]; exact h3, lcEnd_new S (rep_pair e3 _) h k⟩)
  · exact h.elim
theorem dMul (ha : DE X a da) (hb : DE X b db) : DE X (.BinOp a .Mult b pos) (dOp rdMul da db) := d_op (op_mul.or (op_mulW.or op_rep)) s_mul ha hb
theorem dDiv (ha : DE X a da) (hb : DE X b db) : DE X (.BinOp a .FloorDiv b pos) (dOp (rdI CDivW fun i j => .int (i / j)) da db) := d_fdivW ha hb op_fdivW
/-- data that stands at x -/
def DatOf (x : A) (μ : Mu) (d : PyData) : Prop := match x with
  | .d e => d = e
  | .c i => ∃ ds, μ[i]? = some (.lst (ds.map A.d)) ∧ d = .list ds
  | _ => False
theorem datOf_ab {F : Hp} {al : List Addr} {μ : Mu} {H : Hp} {v : V} {x : A} {d : PyData} (S : Sto K F al μ H) (a : Ab K F al v x) (h : DatOf x μ d) : Dp K H v d := by
  cases x with
  | d x =>
    obtain rfl : d = x := h
    exact Dp.mono S.sub a
  | c i =>
    obtain ⟨ds, e, rfl⟩ := h
    obtain ⟨p, ep, rfl⟩ := a
    obtain ⟨q, vs, e1, e2, e3⟩ := cell_lst S e
    rw [ep] at e1
    obtain rfl := Option.some.inj e1
    exact .lst (.inl (.inl e2)) (DpAll.mono S.sub (DpAll.of e3))
  | v _ => exact h.elim
  | x _ _ _ _ => exact h.elim
/-- x == y -/
def rdEq (neg : Bool) : A → A → Mu → DK → Prop := fun x y μ P => match x, y with
  | .d (.int i), .d (.int j) => P (.d (.bool (neg ^^ decide (i = j)))) μ
  | .d (.str i), .d (.str j) => P (.d (.bool (neg ^^ decide (i = j)))) μ
  | x, y => ∃ d e, DatOf x μ d ∧ DatOf y μ e ∧ SeqAt.shaped d = true ∧ SeqAt.shaped e = true ∧ P (.d (.bool (neg ^^ PyData.eqv d e))) μ
theorem s_eq : SimR2 K (fun x y H Q => rEq x y H Q ∨ rEqD K x y H Q) (rdEq false) := fun x y μ P h F al H v w S a b Q k => by
  unfold rdEq at h
  split at h
  · rw [dp_int a, dp_int b]
    exact .inl ⟨rfl, by rw [vint_eq]; exact k.now (x := .d (.bool _)) h S (by rw [Bool.false_xor]; exact .bl _)⟩
  · rw [dp_str a, dp_str b]
    exact .inl ⟨rfl, by rw [vstr_eq]; exact k.now (x := .d (.bool _)) h S (by rw [Bool.false_xor]; exact .bl _)⟩
  · obtain ⟨d, e, h1, h2, s1, s2, h⟩ := h
    exact .inr ⟨d, e, (datOf_ab S a h1).lib, (datOf_ab S b h2).lib, s1, s2, k.now (x := .d (.bool _)) h S (by rw [Bool.false_xor]; exact .bl _)⟩
theorem s_ne : SimR2 K (fun x y H Q => rNe x y H Q ∨ rNeD K x y H Q) (rdEq true) := fun x y μ P h F al H v w S a b Q k => by
  unfold rdEq at h
  split at h
  · rw [dp_int a, dp_int b]
    exact .inl ⟨rfl, by rw [vint_eq]; exact k.now (x := .d (.bool _)) h S (by rw [Bool.true_xor]; exact .bl _)⟩
  · rw [dp_str a, dp_str b]
    exact .inl ⟨rfl, by rw [vstr_eq]; exact k.now (x := .d (.bool _)) h S (by rw [Bool.true_xor]; exact .bl _)⟩
  · obtain ⟨d, e, h1, h2, s1, s2, h⟩ := h
    exact .inr ⟨d, e, (datOf_ab S a h1).lib, (datOf_ab S b h2).lib, s1, s2, k.now (x := .d (.bool _)) h S (by rw [Bool.true_xor]; exact .bl _)⟩
/-- x is None -/
def noneA : A → Option Bool
  | .d .none => some true
  | .v v => some (decide (v = .non))
  | .x _ _ _ _ => some false
  | .c _ => some false
  | .d (.bool _) => some false
  | .d (.int _) => some false
  | .d (.str _) => some false
  | .d (.list _) => some false
  | .d (.tuple _) => some false
  | .d (.dict _) => none
theorem noneA_ab {F : Hp} {al : List Addr} {v : V} : ∀ {x : A} {c : Bool}, noneA x = some c → Ab K F al v x → decide (v = V.non) = c
  | .d .none, _, e, a => by rw [dp_non a]; exact Option.some.inj e
  | .v w, _, e, a => by
    obtain rfl : v = w := a
    exact Option.some.inj e
  | .x _ _ _ _, _, e, a => by rw [a.1]; exact Option.some.inj e
  | .c _, _, e, a => by
    obtain ⟨p, _, rfl⟩ := a
    exact Option.some.inj e
  | .d (.bool _), _, e, a => by rw [dp_bl a]; exact Option.some.inj e
  | .d (.int _), _, e, a => by rw [dp_int a]; exact Option.some.inj e
  | .d (.str _), _, e, a => by rw [dp_str a]; exact Option.some.inj e
  | .d (.list _), _, e, a => by
    obtain ⟨p, vs, rfl, _⟩ := dp_lst a
    exact Option.some.inj e
  | .d (.tuple _), _, e, a => by
    obtain ⟨p, vs, rfl, _⟩ := dp_tup a
    exact Option.some.inj e
  | .d (.dict _), _, e, _ => by cases e
def rdIs (neg : Bool) : A → A → Mu → DK → Prop := fun x y μ P => ∃ c, noneA x = some c ∧ y = .d .none ∧ P (.d (.bool (neg ^^ c))) μ
theorem s_is : SimR2 K (fun x y H Q => y = .non ∧ Q (.bl (decide (x = .non))) H) (rdIs false) := fun x y μ P h F al H v w S a b Q k => by
  obtain ⟨c, hc, rfl, h⟩ := h
  exact ⟨dp_non b, by rw [noneA_ab hc a]; exact k.now (x := .d (.bool _)) h S (by rw [Bool.false_xor]; exact .bl _)⟩
theorem s_isNot : SimR2 K (fun x y H Q => y = .non ∧ Q (.bl (!decide (x = .non))) H) (rdIs true) := fun x y μ P h F al H v w S a b Q k => by
  obtain ⟨c, hc, rfl, h⟩ := h
  exact ⟨dp_non b, by rw [noneA_ab hc a]; exact k.now (x := .d (.bool _)) h S (by rw [Bool.true_xor]; exact .bl _)⟩
theorem dEq (hu : X.A.units + 64 < cLine) (ha : DE X a da) (hb : DE X b db) (hm : behindInMarks .Eq b = false := by rfl) : DE X (.Compare a [.Eq] [b] pos) (dOp (rdEq false) da db) := d_cmp (op_eq.or (op_eqD hu)) s_eq ha hb hm
theorem dNe (hu : X.A.units + 64 < cLine) (ha : DE X a da) (hb : DE X b db) (hm : behindInMarks .NotEq b = false := by rfl) : DE X (.Compare a [.NotEq] [b] pos) (dOp (rdEq true) da db) := d_cmp (op_ne.or (op_neD hu)) s_ne ha hb hm
theorem dIs (ha : DE X a da) (hb : DE X b db) (hm : behindInMarks .Is b = false := by rfl) : DE X (.Compare a [.Is] [b] pos) (dOp (rdIs false) da db) := d_cmp op_isN s_is ha hb hm
theorem dIsNot (ha : DE X a da) (hb : DE X b db) (hm : behindInMarks .IsNot b = false := by rfl) : DE X (.Compare a [.IsNot] [b] pos) (dOp (rdIs true) da db) := d_cmp op_notN s_isNot ha hb hm
theorem dLt (ha : DE X a da) (hb : DE X b db) (hm : behindInMarks .Lt b = false := by rfl) : DE X (.Compare a [.Lt] [b] pos) (dOp rdLt da db) := d_cmp op_lt s_lt ha hb hm
theorem dLe (ha : DE X a da) (hb : DE X b db) (hm : behindInMarks .LtE b = false := by rfl) : DE X (.Compare a [.LtE] [b] pos) (dOp rdLe da db) := d_cmp op_le s_le ha hb hm
theorem dGt (ha : DE X a da) (hb : DE X b db) (hm : behindInMarks .Gt b = false := by rfl) : DE X (.Compare a [.Gt] [b] pos) (dOp rdGt da db) := d_cmp op_gt s_gt ha hb hm
theorem dGe (ha : DE X a da) (hb : DE X b db) (hm : behindInMarks .GtE b = false := by rfl) : DE X (.Compare a [.GtE] [b] pos) (dOp rdGe da db) := d_cmp op_ge s_ge ha hb hm
theorem dIx (ha : DE X a da) (hb : DE X b db) (hp : PlainIx b := by exact fun _ _ => rfl) : DE X (.Subscript a b pos) (dOp rdIx da db) := d_ix ix_seq s_ix ha hb hp
end
end Dl

set_option Elab.async false
set_option linter.all false
set_option maxRecDepth 100000
set_option maxHeartbeats 4000000
namespace Dl
open PySem PySem.Spec PyProof.Rows L2
/-! ### a def of the text and its promise, in short -/
/-- the def x of the module -/
structure Defn (K : PySem.W.Frag) (mg : Str → Option Value) (x : Str) (st : Stmt) (ps : List Str) : Prop where
  ex : ∃ f fd, Fun K x x st f fd ∧ mg x = some (.ref f) ∧ Binds K fd ps []
structure Cal (P : Program) (w : World) (K : PySem.W.Frag) (mg : Str → Option Value) (base : Heap) (x : Str) (k : Nat) (R : DR) : Prop where
  ex : ∃ f fd ps, mg x = some (.ref f) ∧ PySem.W.keepIn K (.ref f) = true ∧ Binds K fd ps [] ∧ FnOk P w K mg base (L2.CX P w) k f fd ps (SpD K R)
theorem cal_of {P : Program} {w : World} {K : PySem.W.Frag} {mg : Str → Option Value} {base : Heap} {x : Str} {st : Stmt} {ps N : List Str} {k : Nat} {R : DR} (D : Defn K mg x st ps) (sc : FnScope N ps (defScope st))
    (len : ∀ xs μ Pk Ex, R xs μ Pk Ex → xs.length = ps.length)
    (body : ∀ (f : Addr) (cdv : Value) (A : Around) (outer : List Env) (s : Shared) (H : Hp) (E : XK) (W : WX), Room k (A.deeper (envOfC x (defScope st) s.heap.objs.size f cdv)) →
      Takes (cxOf (L2.CX P w) P w K mg base N x (defScope st) f cdv A outer s H E) W →
      PassesOwn (model P w) (A.deeper (envOfC x (defScope st) s.heap.objs.size f cdv)) (envOfC x (defScope st) s.heap.objs.size f cdv) (cxOf (L2.CX P w) P w K mg base N x (defScope st) f cdv A outer s H E).xe →
      ∃ d, DSs (cxOf (L2.CX P w) P w K mg base N x (defScope st) f cdv A outer s H E) W (defBody st) d ∧ ∀ xs μ Pk Ex, Old μ.length μ → R xs μ Pk Ex →
        d { nx := fun _ μ' => RetD μ.length Pk (.d .none) μ', rt := RetD μ.length Pk, ex := OutD μ.length Ex } (startR N xs) μ) : Cal P w K mg base x (k + 1) R := by
  obtain ⟨f, fd, F, m, b⟩ := D.ex
  exact ⟨f, fd, ps, m, F.kp, b, fn_data F sc len fun cdv A outer s H E W hr tk po xs μ Pk Ex old r => let ⟨d, h1, h2⟩ := body f cdv A outer s H E W hr tk po; ⟨d, h1, h2 xs μ Pk Ex old r⟩⟩
section
variable {X : Cx} {W : WX} {k : Nat} {R : DR} {x : Str} {p pos spos : Pos} {e : Expr} {es : List Expr} {da : DAT}
theorem d_cal (C : Cal X.prog X.w X.K X.mg X.base x k R) (hr : Room k X.A) (ha : DA X (e :: es) da) (hg : Gl X x := by rfl)
    (hdb : (x == ("__debug__" : Str)) = false := by decide) (he : starEach (e :: es) X.env = (false, eval e X.env) :: starEach es X.env := by rfl) (hpl : (backTo pos (starEach es X.env)).any (·.1) = false := by rfl) : DE X (.Call (.Name x p) (e :: es) [] pos) (dFn R da) := by
  obtain ⟨f, fd, ps, m, hk, b, F⟩ := C.ex
  exact d_call F hr m hk b ha hg hdb he hpl
theorem ds_calE (C : Cal X.prog X.w X.K X.mg X.base x k R) (hr : Room k X.A) (tk : Takes X W) (ha : DA X (e :: es) da) (hg : Gl X x := by rfl)
    (hdb : (x == ("__debug__" : Str)) = false := by decide) (he : starEach (e :: es) X.env = (false, eval e X.env) :: starEach es X.env := by rfl) (hpl : (backTo pos (starEach es X.env)).any (·.1) = false := by rfl)
    (hs : swapsWith (.Call (.Name x p) (e :: es) [] pos) none spos.line X.env = pure false := by rfl) : DSt X W (.Expr (.Call (.Name x p) (e :: es) [] pos) spos) (dsExprX R da) := by
  obtain ⟨f, fd, ps, m, hk, b, F⟩ := C.ex
  exact ds_exprX F hr tk m hk b ha hg hdb he hpl hs
theorem ds_calS {i : Nat} {y : Str} {pos' : Pos} (hN : X.N.Nodup) (C : Cal X.prog X.w X.K X.mg X.base x k R) (hr : Room k X.A) (tk : Takes X W) (ha : DA X (e :: es) da) (hg : Gl X x := by rfl)
    (hdb : (x == ("__debug__" : Str)) = false := by decide) (he : starEach (e :: es) X.env = (false, eval e X.env) :: starEach es X.env := by rfl) (hpl : (backTo pos (starEach es X.env)).any (·.1) = false := by rfl)
    (hi : X.N[i]? = some y := by rfl) (hx : Loc X.env.scope y := by first | exact Or.inl rfl | exact Or.inr rfl) (hs : swapsWith (.Call (.Name x p) (e :: es) [] pos) (some (.Name y pos')) spos.line X.env = pure false := by rfl)
    (hf : X.fn y = true ∨ X.env.scope.names.lookup y = some .local := by first | exact .inl rfl | exact .inr rfl | assumption) : DSt X W (.Assign [.Name y pos'] (.Call (.Name x p) (e :: es) [] pos) spos) (dsSetX i R da) := by
  obtain ⟨f, fd, ps, m, hk, b, F⟩ := C.ex
  exact ds_setX hN F hr tk m hk b ha hg hdb he hpl hi hx hs hf
theorem ds_calR (C : Cal X.prog X.w X.K X.mg X.base x k R) (hr : Room k X.A) (tk : Takes X W) (ha : DA X (e :: es) da) (hg : Gl X x := by rfl)
    (hdb : (x == ("__debug__" : Str)) = false := by decide) (he : starEach (e :: es) X.env = (false, eval e X.env) :: starEach es X.env := by rfl) (hpl : (backTo pos (starEach es X.env)).any (·.1) = false := by rfl) :
    DSt X W (.Return (some (.Call (.Name x p) (e :: es) [] pos)) spos) (dsRetX R da) := by
  obtain ⟨f, fd, ps, m, hk, b, F⟩ := C.ex
  exact ds_retX F hr tk m hk b ha hg hdb he hpl
end
theorem Cal.mono {P : Program} {w : World} {K : PySem.W.Frag} {mg : Str → Option Value} {base : Heap} {x : Str} {j k : Nat} {R : DR} (C : Cal P w K mg base x j R) (h : j ≤ k) : Cal P w K mg base x k R := by
  obtain ⟨f, fd, ps, m, hk, b, F⟩ := C.ex
  exact ⟨f, fd, ps, m, hk, b, F.mono h⟩
/-! ### walks, displays, lists, whatever stands there -/
section
variable {X : Cx} {W : WX} {tg e : Expr} {es : List Expr} {de : DT} {da : DAT} {K : PySem.W.Frag} {p pos : Pos}
def iAny (K : PySem.W.Frag) (te : TE) : TI := fun σ H R => te σ H fun x H1 => (∃ a, x = .ref a ∧ (∃ xs, SqL K H1 a xs) ∧ R (Itl K a) H1) ∨ (∃ a, x = .ref a ∧ (∃ xs, SqT K H1 a xs) ∧ R (Itt K a) H1) ∨ ∃ z, x = .str z ∧ R (Its z) H1
theorem pi_any {te : TE} (he : PE X e te) : PI X tg e (iAny X.K te) := by
  refine ⟨fun pins s σ H R I h => ?_⟩
  refine thn (he.run pins s σ H _ I h) fun v s1 ⟨x, H1, I1, r1, q1⟩ => ?_
  rcases q1 with ⟨a, rfl, ⟨xs, hq⟩, q⟩ | ⟨a, rfl, ⟨xs, hq⟩, q⟩ | ⟨x, rfl, q⟩
  · cases r1
    obtain ⟨its, rv, p, hz⟩ := I1.list hq
    refine wpAny_pyIter_list p.isList ?_
    refine ⟨s1.heap.objs.size, [s1.heap.objs.size], _, _, H1, rfl, I1.kept (t' := s1.toks) fun b o e => Heap.get?_push_of_some _ e, turn_list a _, ⟨_, Heap.get?_push_size _ rfl, rfl, rfl⟩, fun b hb => ?_, q⟩
    have e : b = s1.heap.objs.size := by simpa using hb
    subst e
    exact I1.fpOk (Nat.le_refl _) (I1.hok.fresh (Nat.le_refl _))
  · cases r1
    obtain ⟨its, rv, p, hz⟩ := I1.tuple hq
    refine wpAny_pyIter_tuple (show s1.heap.IsTuple a its.toArray from p) ?_
    refine ⟨s1.heap.objs.size, [s1.heap.objs.size], _, _, H1, rfl, I1.kept (t' := s1.toks) fun b o e => Heap.get?_push_of_some _ e, turn_tuple a _, ⟨_, Heap.get?_push_size _ rfl, rfl, rfl⟩, fun b hb => ?_, q⟩
    have e : b = s1.heap.objs.size := by simpa using hb
    subst e
    exact I1.fpOk (Nat.le_refl _) (I1.hok.fresh (Nat.le_refl _))
  · obtain ⟨t, rfl⟩ := r1
    cases ha : x.cps.all (· < 128)
    · exact wpAny_pyIter_wide ha (pi_one (tk := s1.toks) I1 _ (turn_str _ x t "str_iterator" (.inr rfl)) ⟨_, Heap.get?_push_size _ rfl, rfl, rfl⟩ q)
    · exact wpAny_pyIter_ascii ha (pi_one (tk := s1.toks) I1 _ (turn_str _ x t "str_ascii_iterator" (.inl rfl)) ⟨_, Heap.get?_push_size _ rfl, rfl, rfl⟩ q)
/-- over the items of a list, a tuple, a str -/
def rdIt (P : List Y → (Mu → Prop) → Mu → Prop) (x : A) (μ : Mu) : Prop := match x with
  | .d (.list ds) => P (oneD ds) always μ
  | .d (.tuple ds) => P (oneD ds) always μ
  | .d (.str z) => P (chrY z) always μ
  | .c n => ∃ xs, μ[n]? = some (.lst xs) ∧ P (xs.map .one) (fun μ => μ[n]? = some (.lst xs)) μ
  | _ => False
abbrev dIt (de : DT) : DI := fun ρ μ P => de ρ μ fun x μ1 => rdIt P x μ1
theorem di_any (h : DE X e de) : DIt X tg e (dIt de) := by
  obtain ⟨_, p, s⟩ := h.ex
  refine ⟨_, pi_any p, fun ρ μ P h F al σ H S L R k => s ρ μ _ h F al σ H S L _ fun v x μ1 F1 al1 H1 q g S1 a => ?_⟩
  replace q : rdIt P x μ1 := q
  unfold rdIt at q
  split at q
  · obtain ⟨p, vs, rfl, e1, e2⟩ := dp_lst a
    exact .inl ⟨p, rfl, ⟨vs, S1.seq e1⟩, k _ _ _ _ _ _ _ q g S1 (jw_list e1 e2)⟩
  · obtain ⟨p, vs, rfl, e1, e2⟩ := dp_tup a
    exact .inr (.inl ⟨p, rfl, ⟨vs, S1.seqT e1⟩, k _ _ _ _ _ _ _ q g S1 (jw_tup e1 e2)⟩)
  · exact .inr (.inr ⟨_, dp_str a, k _ _ _ _ _ _ _ q g S1 jw_chr⟩)
  · obtain ⟨xs, hc, q⟩ := q
    obtain ⟨p, ep, rfl⟩ := a
    obtain ⟨p', vs, e1, e2, e3⟩ := cell_lst S1 hc
    rw [ep] at e1
    obtain rfl := Option.some.inj e1
    exact .inl ⟨p, rfl, ⟨vs, .inl (.inl e2)⟩, k _ _ _ _ _ _ _ q g S1 (jw_cell ep)⟩
  · exact q.elim
/-- [..]: data, or a cell -/
abbrev dLstU (da : DAT) : DT := fun ρ μ P => da ρ μ fun xs μ1 => xs.length ≤ sizeLine ∧ lcEnd P xs μ1
theorem d_lstU (h : DA X es da) : DE X (.List es pos) (dLstU da) := by
  obtain ⟨_, p, s⟩ := h.ex
  refine ⟨_, pe_lst p, fun ρ μ P h F al σ H S L Q k => s ρ μ _ h F al σ H S L _ fun vs xs μ1 F1 al1 H1 q g S1 a => ?_⟩
  exact ⟨by rw [pair_len a]; exact q.1, lcEnd_new S1 a q.2 (k.fwd g)⟩
/-- list(x) -/
def rdListU : List A → Mu → DK → Prop := fun xs μ P => ∃ x ys, xs = [x] ∧ (LstOf x μ ys ∨ ∃ ds, x = .d (.tuple ds) ∧ ys = ds.map A.d) ∧ lcEnd P ys μ
theorem s_listU : SimC K (fun xs H Q => ∃ p ys, xs = [.ref p] ∧ (SqL K H p ys ∨ SqT K H p ys) ∧ ∀ l, H l = none → Q (.ref l) (upd H l (.lst ys))) rdListU := fun xs μ P h F al H vs S a Q k => by
  obtain ⟨x, ys, rfl, hi, h⟩ := h
  obtain ⟨v, rfl, a1⟩ := one_of a
  rcases hi with hi | ⟨ds, rfl, rfl⟩
  · obtain ⟨p, vs, rfl, q, r⟩ := lstOf_ab S a1 hi
    exact ⟨p, vs, rfl, .inl q, lcEnd_new S r h k⟩
  · obtain ⟨p, vs, rfl, q, r⟩ := dp_tup a1
    exact ⟨p, vs, rfl, .inr (S.seqT q), lcEnd_new S (DpAll.to r) h k⟩
/-- len(x) -/
def rdLenU : List A → Mu → DK → Prop := fun xs μ P => match xs with
  | [.d (.list ds)] => P (.d (.int ds.length)) μ
  | [.d (.tuple ds)] => P (.d (.int ds.length)) μ
  | [.d (.str z)] => z.length ≤ sizeLine ∧ P (.d (.int z.length)) μ
  | [.c n] => ∃ ys, μ[n]? = some (.lst ys) ∧ P (.d (.int ys.length)) μ
  | _ => False
theorem s_lenU : SimC K (fun xs H Q => ∃ x n, xs = [x] ∧ LenV K x H n ∧ Q (.int n) H) rdLenU := fun xs μ P h F al H vs S a Q k => by
  unfold rdLenU at h
  split at h
  · exact s_len _ μ P ⟨_, _, rfl, .inl ⟨_, .inl rfl, rfl⟩, h⟩ F al H vs S a Q k
  · exact s_len _ μ P ⟨_, _, rfl, .inl ⟨_, .inr (.inl rfl), rfl⟩, h⟩ F al H vs S a Q k
  · exact s_len _ μ P ⟨_, _, rfl, .inr (.inr ⟨_, rfl, h.1, rfl⟩), h.2⟩ F al H vs S a Q k
  · obtain ⟨ys, e, h⟩ := h
    exact s_len _ μ P ⟨_, _, rfl, .inr (.inl ⟨_, _, rfl, e, rfl⟩), h⟩ F al H vs S a Q k
  · exact h.elim
end
end Dl

set_option Elab.async false
set_option linter.all false
set_option maxRecDepth 100000
set_option maxHeartbeats 4000000
namespace Dl
open PySem PySem.Spec PyProof.Rows L2
section
variable {X : Cx} {W : WX} {K : PySem.W.Frag} {a b c e : Expr} {x : Str} {p pos : Pos} {da db dc de : DT} {r r' : R2} {rd rd' : A → A → Mu → DK → Prop}
theorem d_constI {i : Int} (hm : ∃ t, X.mg x = some (.int i t)) (hg : Gl X x := by rfl) (hd : (x == ("__debug__" : Str)) = false := by decide) : DE X (.Name x pos) (dC (.d (.int i))) := let ⟨_, h⟩ := hm; d_globI hg h hd
theorem d_constS {i : Str} (hm : ∃ t, X.mg x = some (.str i t)) (hg : Gl X x := by rfl) (hd : (x == ("__debug__" : Str)) = false := by decide) : DE X (.Name x pos) (dC (.d (.str i))) := let ⟨_, h⟩ := hm; d_globS hg h hd
abbrev dNeg (da : DT) : DT := fun ρ μ P => da ρ μ fun x μ1 => ∃ i, x = .d (.int i) ∧ P (.d (.int (-i))) μ1
theorem d_neg (ha : DE X a da) : DE X (.UnaryOp .USub a pos) (dNeg da) := by
  obtain ⟨_, p, s⟩ := ha.ex
  refine ⟨_, pe_un un_neg p, fun ρ μ P h F al σ H S L Q k => s ρ μ _ h F al σ H S L _ fun v x μ1 F1 al1 H1 q g S1 a => ?_⟩
  obtain ⟨i, rfl, q⟩ := q
  exact ⟨i, dp_int a, (k.fwd g).now q S1 (.int _)⟩
/-- x in y -/
def rdInU (neg : Bool) : A → A → Mu → DK → Prop := fun x y μ P => match x, y with
  | .d (.str s), .d (.str z) => ∃ c, s = ⟨#[c]⟩ ∧ P (.d (.bool (neg ^^ decide (c ∈ z.cps.toList)))) μ
  | .d d, y => ∃ ds, ItemsD y μ ds ∧ flatD d = true ∧ ds.all flatD = true ∧ P (.d (.bool (neg ^^ ds.any (fun e => eqF e d)))) μ
  | _, _ => False
theorem s_inU : SimR2 K (fun x y H Q => rIn K false x y H Q ∨ ∃ (c : Nat) (z : Str), x = .str ⟨#[c]⟩ ∧ y = .str z ∧ Q (.bl (decide (c ∈ z.cps.toList))) H) (rdInU false) := fun x y μ P h F al H v w S a b Q k => by
  unfold rdInU at h
  split at h
  · obtain ⟨c, rfl, h⟩ := h
    exact .inr ⟨c, _, dp_str a, dp_str b, k.now (x := .d (.bool _)) h S (by rw [Bool.false_xor]; exact .bl _)⟩
  · obtain ⟨ds, h1, h2, h3, h⟩ := h
    refine .inl (s_in false _ _ μ P ⟨_, ds, rfl, h1, h2, h3, ?_⟩ F al H v w S a b Q k)
    rw [Bool.false_xor] at h
    exact h
  · exact h.elim
theorem s_notInU : SimR2 K (fun x y H Q => rIn K true x y H Q ∨ ∃ (c : Nat) (z : Str), x = .str ⟨#[c]⟩ ∧ y = .str z ∧ Q (.bl (!decide (c ∈ z.cps.toList))) H) (rdInU true) := fun x y μ P h F al H v w S a b Q k => by
  unfold rdInU at h
  split at h
  · obtain ⟨c, rfl, h⟩ := h
    exact .inr ⟨c, _, dp_str a, dp_str b, k.now (x := .d (.bool _)) h S (by rw [Bool.true_xor]; exact .bl _)⟩
  · obtain ⟨ds, h1, h2, h3, h⟩ := h
    refine .inl (s_in true _ _ μ P ⟨_, ds, rfl, h1, h2, h3, ?_⟩ F al H v w S a b Q k)
    rw [Bool.true_xor] at h
    exact h
  · exact h.elim
theorem dIn (ha : DE X a da) (hb : DE X b db) (hm : behindInMarks .In b = false := by rfl) : DE X (.Compare a [.In] [b] pos) (dOp (rdInU false) da db) := d_cmp (op_in_seq.or op_in_sign) s_inU ha hb hm
theorem dNotIn (ha : DE X a da) (hb : DE X b db) (hm : behindInMarks .NotIn b = false := by rfl) : DE X (.Compare a [.NotIn] [b] pos) (dOp (rdInU true) da db) := d_cmp (op_notIn_seq.or op_notIn_sign) s_notInU ha hb hm
theorem tEq (hu : X.A.units + 64 < cLine) (ha : DE X a da) (hb : DE X b db) (hm : behindInMarks .Eq b = false := by rfl) : DTest X (.Compare a [.Eq] [b] pos) (dB (dOp (rdEq false) da db)) := dt_cmp (op_eq.or (op_eqD hu)) s_eq ha hb hm
theorem tNe (hu : X.A.units + 64 < cLine) (ha : DE X a da) (hb : DE X b db) (hm : behindInMarks .NotEq b = false := by rfl) : DTest X (.Compare a [.NotEq] [b] pos) (dB (dOp (rdEq true) da db)) := dt_cmp (op_ne.or (op_neD hu)) s_ne ha hb hm
theorem tIs (ha : DE X a da) (hb : DE X b db) (hm : behindInMarks .Is b = false := by rfl) : DTest X (.Compare a [.Is] [b] pos) (dB (dOp (rdIs false) da db)) := dt_cmp op_isN s_is ha hb hm
theorem tIsNot (ha : DE X a da) (hb : DE X b db) (hm : behindInMarks .IsNot b = false := by rfl) : DTest X (.Compare a [.IsNot] [b] pos) (dB (dOp (rdIs true) da db)) := dt_cmp op_notN s_isNot ha hb hm
theorem tLt (ha : DE X a da) (hb : DE X b db) (hm : behindInMarks .Lt b = false := by rfl) : DTest X (.Compare a [.Lt] [b] pos) (dB (dOp rdLt da db)) := dt_cmp op_lt s_lt ha hb hm
theorem tLe (ha : DE X a da) (hb : DE X b db) (hm : behindInMarks .LtE b = false := by rfl) : DTest X (.Compare a [.LtE] [b] pos) (dB (dOp rdLe da db)) := dt_cmp op_le s_le ha hb hm
theorem tGt (ha : DE X a da) (hb : DE X b db) (hm : behindInMarks .Gt b = false := by rfl) : DTest X (.Compare a [.Gt] [b] pos) (dB (dOp rdGt da db)) := dt_cmp op_gt s_gt ha hb hm
theorem tGe (ha : DE X a da) (hb : DE X b db) (hm : behindInMarks .GtE b = false := by rfl) : DTest X (.Compare a [.GtE] [b] pos) (dB (dOp rdGe da db)) := dt_cmp op_ge s_ge ha hb hm
theorem tIn (ha : DE X a da) (hb : DE X b db) (hm : behindInMarks .In b = false := by rfl) : DTest X (.Compare a [.In] [b] pos) (dB (dOp (rdInU false) da db)) := dt_cmp (op_in_seq.or op_in_sign) s_inU ha hb hm
theorem tNotIn (ha : DE X a da) (hb : DE X b db) (hm : behindInMarks .NotIn b = false := by rfl) : DTest X (.Compare a [.NotIn] [b] pos) (dB (dOp (rdInU true) da db)) := dt_cmp (op_notIn_seq.or op_notIn_sign) s_notInU ha hb hm
/-- a op b op' c -/
abbrev dChain (rd rd' : A → A → Mu → DK → Prop) (da db dc : DT) : DT := fun ρ μ P => da ρ μ fun x μ1 => db ρ μ1 fun y μ2 => rd x y μ2 fun z μ3 => ∃ k, z = .d (.bool k) ∧ if k = true then dc ρ μ3 fun u μ4 => rd' y u μ4 P else P (.d (.bool false)) μ3
theorem sim_chain {ta tb tc : TE} (h1 : SimR2 K r rd) (h2 : SimR2 K r' rd') (ha : SimE K ta da) (hb : SimE K tb db) (hc : SimE K tc dc) : SimE K (tChain r r' ta tb tc) (dChain rd rd' da db dc) := fun ρ μ P h F al σ H S L Q k => by
  refine ha ρ μ _ h F al σ H S L _ fun v x μ1 F1 al1 H1 q1 g1 S1 a1 => hb ρ μ1 _ q1 F1 al1 σ H1 S1 (g1.slots L) _ fun w y μ2 F2 al2 H2 q2 g2 S2 a2 => ?_
  refine h1 x y μ2 _ q2 F2 al2 H2 v w S2 (g2.ab a1) a2 _ fun u z μ3 F3 al3 H3 q3 g3 S3 a3 => ?_
  obtain ⟨c, rfl, q3⟩ := q3
  refine ⟨c, dp_bl a3, ?_⟩
  have g := (g1.trans g2).trans g3
  cases c with
  | true =>
    rw [if_pos rfl] at q3
    refine iteT (hc ρ μ3 _ q3 F3 al3 σ H3 S3 (g.slots L) _ fun u' z' μ4 F4 al4 H4 q4 g4 S4 a4 => ?_)
    exact h2 y z' μ4 P q4 F4 al4 H4 w u' S4 ((g3.trans g4).ab a2) a4 Q (k.fwd (g.trans g4))
  | false =>
    rw [if_neg Bool.false_ne_true] at q3
    exact iteF ((k.fwd g).now (x := .d (.bool false)) q3 S3 (Dp.bl _))
theorem d_chain {op op' : CmpOp} (ho : OpR X (compareOp op) r) (ho' : OpR X (compareOp op') r') (h1 : SimR2 X.K r rd) (h2 : SimR2 X.K r' rd') (ha : DE X a da) (hb : DE X b db) (hc : DE X c dc) (hm : lastMarks [op, op'] [b, c] = false := by with_unfolding_all rfl) :
    DE X (.Compare a [op, op'] [b, c] pos) (dChain rd rd' da db dc) := by
  obtain ⟨_, pa, sa⟩ := ha.ex
  obtain ⟨_, pb, sb⟩ := hb.ex
  obtain ⟨_, pc, sc⟩ := hc.ex
  exact ⟨_, pe_chain ho ho' pa pb pc hm, sim_chain h1 h2 sa sb sc⟩
theorem dt_chain {op op' : CmpOp} (ho : OpR X (compareOp op) r) (ho' : OpR X (compareOp op') r') (h1 : SimR2 X.K r rd) (h2 : SimR2 X.K r' rd') (ha : DE X a da) (hb : DE X b db) (hc : DE X c dc) (hm : lastMarks [op, op'] [b, c] = false := by with_unfolding_all rfl) :
    DTest X (.Compare a [op, op'] [b, c] pos) (dB (dChain rd rd' da db dc)) := by
  obtain ⟨_, pa, sa⟩ := ha.ex
  obtain ⟨_, pb, sb⟩ := hb.ex
  obtain ⟨_, pc, sc⟩ := hc.ex
  exact ⟨_, pt_chain ho ho' pa pb pc hm, sim_b (sim_chain h1 h2 sa sb sc)⟩
end
/-- name = [..] on one line -/
theorem ds_setLc {X : Cx} {W : WX} {tg iter elt : Expr} {ifs : List Expr} {di : DI} {dg : DG} {dt : DTT} {de : DT} {pos spos py : Pos} {scope : Scope} {own : List (Str × Nat)} {i : Nat} {y : Str} (hc : X.calm = true) (hN : X.N.Nodup) (hi : DIt X tg iter di) (ok : BlkOk X.N X.env.scope scope own)
    (hg : Blk X scope fun Y => DGt Y tg (own.map (·.2)) dg) (ht : Blk X scope fun Y => DTs Y ifs dt) (he : Blk X scope fun Y => DE Y elt de)
    (hsw : swapsWith (.ListComp elt [⟨tg, iter, ifs, 0⟩] scope pos) (some (.Name y py)) spos.line X.env = pure true) (hy : X.N[i]? = some y := by rfl) (hyl : X.env.scope.names.lookup y = some .local := by rfl) (hs : ∀ x, foldedSetIterable iter X.env x = pure x := by intro _; rfl) :
    DSt X W (.Assign [.Name y py] (.ListComp elt [⟨tg, iter, ifs, 0⟩] scope pos) spos) (dsSet i (dLc di dg dt de (own.map (·.2)))) := by
  obtain ⟨_, p1, s1⟩ := hi.ex
  refine ⟨_, ps_setLc (te := tD X.K de) (tt := tDT X.K dt) (g := tDG X.K (own.map (·.2)) dg) hc hN hy hyl hsw p1 ok (fun s H C cl fp => (hg s H C cl fp).pg) (fun s H C cl fp => (ht s H C cl fp).ex) (fun s H C cl fp => (he s H C cl fp).pe) hs, fun ρ μ D h F al σ H S L E k => ?_⟩
  exact sim_lc s1 sim_tDG sim_tDT sim_tD ρ μ _ h F al σ H S L _ fun v x μ1 F1 al1 H1 q g S1 a => k.nx _ _ _ _ _ _ q g S1 ((g.slots L).set a)
end Dl

set_option Elab.async false
set_option linter.all false
set_option maxRecDepth 100000
set_option maxHeartbeats 4000000
namespace Dl
open PySem PySem.Spec PyProof.Rows L2
/-! ### the end of a def, in short: μ₁ the call's cells, l the new ones -/
theorem rfyV_old {m : Nat} {kp : Option Nat} {μ : Mu} {x : A} (h : oldA m x) : RfyV m kp μ x x := by
  cases x with
  | d d => exact .inl ⟨d, .d d, rfl⟩
  | c i => exact .inr (.inl ⟨i, rfl, rfl, h⟩)
  | v v => exact .inr (.inr (.inr (.inl ⟨v, rfl, rfl⟩)))
  | x a c d o => exact .inr (.inr (.inr (.inr ⟨a, c, d, o, rfl, rfl⟩)))
theorem pair_self {α : Type} {R : α → α → Prop} : ∀ {l : List α}, (∀ x ∈ l, R x x) → Paired R l l
  | [], _ => .nil
  | x :: l, h => .cons (h x (List.mem_cons_self ..)) (pair_self fun y hy => h y (List.mem_cons_of_mem _ hy))
theorem rfyO_old {m : Nat} {kp : Option Nat} {μ : Mu} {o : O} (h : oldO m o) : RfyO m kp μ o o := by
  cases o with
  | dead => trivial
  | lst xs => exact pair_self fun x hx => rfyV_old (h x hx)
  | dct ks => exact pair_self fun x hx => ⟨rfl, rfyV_old (h x hx)⟩
  | fdct o vs ks => exact ⟨⟨rfl, rfl⟩, pair_self fun x hx => ⟨rfl, rfyV_old (h x hx)⟩⟩
theorem rfyM_old {m : Nat} {μ1 l : Mu} (hl : μ1.length = m) (ho : Old m μ1) : RfyM m none (μ1 ++ l) μ1 :=
  ⟨fun j e => (nomatch e), by rw [hl]; rfl, fun i o lt e => ⟨o, by rw [List.getElem?_append_left (by omega)]; exact e, rfyO_old (ho i o e)⟩, fun j o e => (nomatch e)⟩
theorem ret_data {m : Nat} {P : DK} {d : PyData} {μ1 : Mu} (l : Mu) (hl : μ1.length = m) (ho : Old m μ1) (h : P (.d d) μ1) : RetD m P (.d d) (μ1 ++ l) := ⟨none, .d d, μ1, .inl ⟨d, .d d, rfl⟩, rfyM_old hl ho, h⟩
theorem ret_data0 {m : Nat} {P : DK} {d : PyData} {μ1 : Mu} (hl : μ1.length = m) (ho : Old m μ1) (h : P (.d d) μ1) : RetD m P (.d d) μ1 := by
  have := ret_data [] hl ho h
  rw [List.append_nil] at this
  exact this
/-- a new list is given back: as data -/
theorem ret_frz {m : Nat} {P : DK} {xs : List A} {ds : List PyData} {μ1 l : Mu} {j : Nat} (hl : μ1.length = m) (ho : Old m μ1) (e : l[j]? = some (.lst xs)) (r : RfyL m none (μ1 ++ l) xs ds) (h : P (.d (.list ds)) μ1) : RetD m P (.c (m + j)) (μ1 ++ l) :=
  ⟨none, .d (.list ds), μ1, .inl ⟨_, .c (Nat.le_add_right _ _) (fun z => nomatch z) (by rw [List.getElem?_append_right (by omega), hl, Nat.add_sub_cancel_left]; exact e) r, rfl⟩, rfyM_old hl ho, h⟩
/-- .. as a cell -/
theorem ret_keep {m : Nat} {P : DK} {xs : List A} {μ1 l : Mu} {j : Nat} (hl : μ1.length = m) (ho : Old m μ1) (e : l[j]? = some (.lst xs)) (hx : ∀ x ∈ xs, oldA m x) (h : P (.c m) (μ1 ++ [.lst xs])) : RetD m P (.c (m + j)) (μ1 ++ l) := by
  have e' : (μ1 ++ l)[m + j]? = some (.lst xs) := by rw [List.getElem?_append_right (by omega), hl, Nat.add_sub_cancel_left]; exact e
  refine ⟨some (m + j), .c m, μ1 ++ [.lst xs], .inr (.inr (.inl ⟨_, rfl, rfl, rfl⟩)), ⟨fun i z => ?_, ?_, fun i o lt z => ?_, fun i o z z2 => ?_⟩, h⟩
  · obtain rfl := Option.some.inj z
    exact ⟨Nat.le_add_right _ _, (List.getElem?_eq_some_iff.mp e').1⟩
  · rw [List.length_append, hl]
    rfl
  · rw [List.getElem?_append_left (by omega)] at z
    exact ⟨o, by rw [List.getElem?_append_left (by omega)]; exact z, rfyO_old (ho i o z)⟩
  · obtain rfl := Option.some.inj z
    rw [List.getElem?_append_right (by omega), hl, Nat.sub_self] at z2
    obtain rfl : O.lst xs = o := Option.some.inj z2
    exact ⟨_, e', rfyO_old (o := .lst xs) hx⟩
theorem ret_new {m : Nat} {P : DK} {xs : List A} {μ1 l : Mu} {j : Nat} (hl : μ1.length = m) (ho : Old m μ1) (e : l[j]? = some (.lst xs)) (hx : ∀ x ∈ xs, oldA m x) (h : lcEnd P xs μ1) : RetD m P (.c (m + j)) (μ1 ++ l) := by
  rcases h with ⟨ds, rfl, h⟩ | h
  · exact ret_frz hl ho e (.data ds) h
  · rw [hl] at h
    exact ret_keep hl ho e hx h
theorem Old.set {m : Nat} {μ : Mu} {n : Nat} {o : O} (h : Old m μ) (ho : oldO m o) : Old m (μ.set n o) := fun i u e => by
  by_cases z : n = i
  · subst z
    have lt := (List.getElem?_eq_some_iff.mp e).1
    rw [List.length_set] at lt
    rw [List.getElem?_set_self lt] at e
    obtain rfl := Option.some.inj e
    exact ho
  · rw [List.getElem?_set_ne z] at e
    exact h i u e
theorem oldO_data {m : Nat} {xs : List A} (h : ∀ x ∈ xs, ∃ d, x = .d d) : oldO m (.lst xs) := fun x hx => by
  obtain ⟨d, rfl⟩ := h x hx
  trivial
theorem oldO_map {m : Nat} (ds : List PyData) : oldO m (.lst (ds.map A.d)) := oldO_data fun x hx => by
  obtain ⟨d, _, rfl⟩ := List.mem_map.mp hx
  exact ⟨d, rfl⟩
theorem ret_old {m : Nat} {P : DK} {x : A} {μ1 : Mu} (l : Mu) (hl : μ1.length = m) (ho : Old m μ1) (hx : oldA m x) (h : P x μ1) : RetD m P x (μ1 ++ l) := ⟨none, x, μ1, rfyV_old hx, rfyM_old hl ho, h⟩
theorem ret_old0 {m : Nat} {P : DK} {x : A} {μ1 : Mu} (hl : μ1.length = m) (ho : Old m μ1) (hx : oldA m x) (h : P x μ1) : RetD m P x μ1 := by
  have := ret_old [] hl ho hx h
  rw [List.append_nil] at this
  exact this
/-! ### cells that are new -/
theorem get_new {μ l : Mu} {j : Nat} : (μ ++ l)[μ.length + j]? = l[j]? := by rw [List.getElem?_append_right (Nat.le_add_right _ _), Nat.add_sub_cancel_left]
theorem set_new {μ l : Mu} {j : Nat} {o : O} : (μ ++ l).set (μ.length + j) o = μ ++ l.set j o := by rw [List.set_append_right _ _ (Nat.le_add_right _ _), Nat.add_sub_cancel_left]
theorem get_old {μ l : Mu} {n : Nat} {o : O} (h : μ[n]? = some o) : (μ ++ l)[n]? = some o := by rw [List.getElem?_append_left (List.getElem?_eq_some_iff.mp h).1]; exact h
theorem set_old {μ l : Mu} {n : Nat} {o u : O} (h : μ[n]? = some u) : (μ ++ l).set n o = μ.set n o ++ l := List.set_append_left _ _ (List.getElem?_eq_some_iff.mp h).1
theorem set_self {α : Type} {l : List α} {n : Nat} {x : α} (h : l[n]? = some x) : l.set n x = l := by
  apply List.ext_getElem?
  intro i
  by_cases z : n = i
  · subst z
    rw [List.getElem?_set_self (List.getElem?_eq_some_iff.mp h).1, h]
  · rw [List.getElem?_set_ne z]
theorem erase_perm {α : Type} : ∀ {l : List α} {k : Nat} (h : k < l.length), (l[k] :: l.eraseIdx k).Perm l
  | x :: l, 0, _ => List.Perm.refl _
  | x :: l, k + 1, h => by
    have h' : k < l.length := Nat.lt_of_succ_lt_succ h
    have := erase_perm h'
    rw [List.eraseIdx_cons_succ, List.getElem_cons_succ]
    exact (List.Perm.swap _ _ _).trans (List.Perm.cons x this)
theorem get_set {μ : Mu} {n : Nat} {o u : O} (h : μ[n]? = some u) : (μ.set n o)[n]? = some o := List.getElem?_set_self (List.getElem?_eq_some_iff.mp h).1
/-! ### what a list or a tuple holds -/
def SeqOf (y : A) (μ : Mu) (zs : List A) : Prop := LstOf y μ zs ∨ ∃ ds, y = .d (.tuple ds) ∧ zs = ds.map A.d
theorem len_of {y : A} {μ : Mu} {zs : List A} {P : DK} (h : SeqOf y μ zs) (q : P (.d (.int zs.length)) μ) : rdLenU [y] μ P := by
  rcases h with h | ⟨ds, rfl, rfl⟩
  · cases y with
    | d x =>
      cases x with
      | list ds =>
        obtain rfl : zs = ds.map A.d := h
        rw [List.length_map] at q
        exact q
      | _ => exact h.elim
    | c i => exact ⟨zs, h, q⟩
    | v _ => exact h.elim
    | x _ _ _ _ => exact h.elim
  · rw [List.length_map] at q
    exact q
theorem atI_nat {α : Type} {xs : List α} {j : Nat} {x : α} (h : xs[j]? = some x) : atI xs (j : Int) = some x := by
  have lt := (List.getElem?_eq_some_iff.mp h).1
  unfold atI ixN
  rw [if_pos (by omega), if_pos (by omega)]
  exact h
theorem ix_of {y : A} {μ : Mu} {zs : List A} {P : DK} {j : Nat} {x : A} (h : SeqOf y μ zs) (e : zs[j]? = some x) (q : P x μ) : rdIx y (.d (.int (j : Nat))) μ P := by
  refine ⟨_, rfl, ?_⟩
  rcases h with h | ⟨ds, rfl, rfl⟩
  · cases y with
    | d y =>
      cases y with
      | list ds =>
        obtain rfl : zs = ds.map A.d := h
        rw [List.getElem?_map] at e
        cases e' : ds[j]? with
        | none => rw [e'] at e; cases e
        | some d =>
          rw [e'] at e
          obtain rfl := Option.some.inj e
          exact .inl ⟨ds, d, .inl rfl, atI_nat e', q⟩
      | _ => exact h.elim
    | c i => exact .inr (.inl ⟨i, zs, x, rfl, h, atI_nat e, q⟩)
    | v _ => exact h.elim
    | x _ _ _ _ => exact h.elim
  · rw [List.getElem?_map] at e
    cases e' : ds[j]? with
    | none => rw [e'] at e; cases e
    | some d =>
      rw [e'] at e
      obtain rfl := Option.some.inj e
      exact .inl ⟨ds, d, .inr rfl, atI_nat e', q⟩
theorem SeqOf.old {y : A} {μ : Mu} {zs : List A} (h : SeqOf y μ zs) (o : Old μ.length μ) : ∀ x ∈ zs, oldA μ.length x := by
  rcases h with h | ⟨ds, rfl, rfl⟩
  · cases y with
    | d y =>
      cases y with
      | list ds =>
        obtain rfl : zs = ds.map A.d := h
        intro x hx
        obtain ⟨d, _, rfl⟩ := List.mem_map.mp hx
        trivial
      | _ => exact h.elim
    | c i => exact o i _ h
    | v _ => exact h.elim
    | x _ _ _ _ => exact h.elim
  · intro x hx
    obtain ⟨d, _, rfl⟩ := List.mem_map.mp hx
    trivial
/-- another cell is written -/
theorem SeqOf.set {y : A} {μ : Mu} {zs : List A} {n : Nat} {o : O} (h : SeqOf y μ zs) (hy : y ≠ .c n) : SeqOf y (μ.set n o) zs := by
  rcases h with h | h
  · refine .inl ?_
    cases y with
    | c i =>
      show (μ.set n o)[i]? = _
      rw [List.getElem?_set_ne (fun e => hy (by rw [e]))]
      exact h
    | d y => cases y <;> exact h
    | v _ => exact h
    | x _ _ _ _ => exact h
  · exact .inr h
theorem SeqOf.app {y : A} {μ l : Mu} {zs : List A} (h : SeqOf y μ zs) : SeqOf y (μ ++ l) zs := by
  rcases h with h | h
  · refine .inl ?_
    cases y with
    | c i => exact get_old h
    | d y => cases y <;> exact h
    | v _ => exact h
    | x _ _ _ _ => exact h
  · exact .inr h
end Dl

set_option Elab.async false
set_option linter.all false
set_option maxRecDepth 100000
set_option maxHeartbeats 4000000
namespace Dl
open PySem PySem.Spec PyProof.Rows L2
section
variable {X : Cx} {K : PySem.W.Frag}
/-! ### isinstance(x, T), T built-in -/
def tyN : A → Option String
  | .d .none => some "NoneType"
  | .d (.bool _) => some "bool"
  | .d (.int _) => some "int"
  | .d (.str _) => some "str"
  | .d (.list _) => some "list"
  | .d (.tuple _) => some "tuple"
  | _ => none
theorem tyN_ab {F : Hp} {al : List Addr} {μ : Mu} {H : Hp} {v : V} {x : A} {T : String} (S : Sto K F al μ H) (a : Ab K F al v x) (h : tyN x = some T) : TyX K H v (.type T) := by
  unfold tyN at h
  split at h
  · obtain rfl := Option.some.inj h
    rw [dp_non a]
    exact .base .non
  · obtain rfl := Option.some.inj h
    rw [dp_bl a]
    exact .base (.bl _)
  · obtain rfl := Option.some.inj h
    rw [dp_int a]
    exact .base (.int _)
  · obtain rfl := Option.some.inj h
    rw [dp_str a]
    exact .base (.str _)
  · obtain rfl := Option.some.inj h
    obtain ⟨p, vs, rfl, q, r⟩ := dp_lst a
    rcases S.seq q with (e | ⟨o, e⟩) | ⟨o, its, n, e, c, _⟩
    · exact .base (.lst e)
    · exact .base (.frz e)
    · exact .kList e c
  · obtain rfl := Option.some.inj h
    obtain ⟨p, vs, rfl, q, r⟩ := dp_tup a
    rcases S.seqT q with (e | ⟨o, e⟩) | ⟨o, its, n, e, c, _⟩
    · exact .base (.tup e)
    · exact .fTuple e
    · exact .kTuple e c
  · cases h
def rdIsi (K : PySem.W.Frag) : List A → Mu → DK → Prop := fun xs μ P => ∃ x t T b, xs = [x, .v (.ty T)] ∧ tyN x = some t ∧ PySem.W.kitOne K (.type t) (.type T) = some b ∧ P (.d (.bool b)) μ
theorem s_isi : SimC K (rIsi K) (rdIsi K) := fun xs μ P h F al H vs S a Q k => by
  obtain ⟨x, t, T, b, rfl, ht, hk, h⟩ := h
  obtain ⟨v, w, rfl, a1, a2⟩ := two_of a
  obtain rfl : w = .ty T := a2
  exact ⟨v, _, _, _, b, rfl, .ty T, tyN_ab S a1 ht, hk, k.now h S (.bl b)⟩
/-! ### methods of texts -/
def StrsOf (x : A) (μ : Mu) (ys : List Str) : Prop := SeqOf x μ ((ys.map PyData.str).map A.d)
theorem seqOf_ab {F : Hp} {al : List Addr} {μ : Mu} {H : Hp} {v : V} {x : A} {xs : List A} (S : Sto K F al μ H) (a : Ab K F al v x) (h : SeqOf x μ xs) : ∃ p vs, v = .ref p ∧ (SqL K H p vs ∨ SqT K H p vs) ∧ Paired (Ab K F al) vs xs := by
  rcases h with h | ⟨ds, rfl, rfl⟩
  · obtain ⟨p, vs, rfl, q, r⟩ := lstOf_ab S a h
    exact ⟨p, vs, rfl, .inl q, r⟩
  · obtain ⟨p, vs, rfl, q, r⟩ := dp_tup a
    exact ⟨p, vs, rfl, .inr (S.seqT q), DpAll.to r⟩
def rdJoin : A → List A → Mu → DK → Prop := fun x xs μ P => ∃ a y, ∃ ys : List Str, x = .d (.str a) ∧ xs = [y] ∧ StrsOf y μ ys ∧ (ys.map (·.length)).sum + ys.length * a.length ≤ 16777216 ∧ P (.d (.str (Txt.join a ys))) μ
theorem s_join : SimM K "str" (fun x xs H Q => ∃ a p, ∃ ys : List Str, x = .str a ∧ xs = [.ref p] ∧ (SqL K H p (ys.map V.str) ∨ SqT K H p (ys.map V.str)) ∧ (ys.map (·.length)).sum + ys.length * a.length ≤ 16777216 ∧ Q (.str (Txt.join a ys)) H) rdJoin := fun x xs μ P h F al H v vs S a as Q k => by
  obtain ⟨z, y, ys, rfl, rfl, hy, hz, h⟩ := h
  obtain ⟨w, rfl, aw⟩ := one_of as
  obtain ⟨p, ws, rfl, q, r⟩ := seqOf_ab S aw hy
  obtain rfl := strs_of (DpAll.of r)
  exact ⟨z, p, ys, dp_str a, rfl, q, hz, k.now h S (.str _)⟩
def rdSplit : A → List A → Mu → DK → Prop := fun x xs μ P => ∃ a b, x = .d (.str a) ∧ xs = [.d (.str b)] ∧ (b.length == 0) = false ∧ a.length + 2 ≤ sizeLine ∧ lcEnd P (((Txt.split a b).map PyData.str).map A.d) μ
theorem s_split : SimM K "str" (fun x xs H Q => ∃ a b, x = .str a ∧ xs = [.str b] ∧ (b.length == 0) = false ∧ a.length + 2 ≤ sizeLine ∧ rNewStrs (Txt.split a b) H Q) rdSplit := fun x xs μ P h F al H v vs S a as Q k => by
  obtain ⟨y, z, rfl, rfl, h1, h2, h⟩ := h
  obtain ⟨w, rfl, aw⟩ := one_of as
  refine ⟨y, z, dp_str a, by rw [dp_str aw], h1, h2, ?_⟩
  have r : ∀ l : List Str, Paired (Ab K F al) (l.map V.str) ((l.map PyData.str).map A.d) := fun l => by
    induction l with
    | nil => exact .nil
    | cons y l ih => exact .cons (Dp.str y) ih
  exact lcEnd_new S (r _) h k
def rdStripC : A → List A → Mu → DK → Prop := fun x xs μ P => ∃ a b, x = .d (.str a) ∧ xs = [.d (.str b)] ∧ a.length ≤ sizeLine ∧ P (.d (.str (Txt.stripChars a b))) μ
theorem s_stripC : SimM K "str" (fun x xs H Q => ∃ a b, x = .str a ∧ xs = [.str b] ∧ a.length ≤ sizeLine ∧ Q (.str (Txt.stripChars a b)) H) rdStripC := fun x xs μ P h F al H v vs S a as Q k => by
  obtain ⟨y, z, rfl, rfl, h1, h⟩ := h
  obtain ⟨w, rfl, aw⟩ := one_of as
  exact ⟨y, z, dp_str a, by rw [dp_str aw], h1, k.now h S (.str _)⟩
/-- all(..), any(..) of truths -/
def rdAll : List A → Mu → DK → Prop := fun xs μ P => ∃ x, ∃ bs : List Bool, xs = [x] ∧ LstOf x μ ((bs.map PyData.bool).map A.d) ∧ P (.d (.bool (bs.all id))) μ
def rdAny : List A → Mu → DK → Prop := fun xs μ P => ∃ x, ∃ bs : List Bool, xs = [x] ∧ LstOf x μ ((bs.map PyData.bool).map A.d) ∧ P (.d (.bool (bs.any id))) μ
theorem bools_of {F : Hp} : ∀ {vs : List V} {ns : List Bool}, DpAll K F vs (ns.map PyData.bool) → vs = ns.map V.bl
  | [], [], _ => rfl
  | _ :: _, _ :: _, .cons a b => by
    rw [dp_bl a, bools_of b]
    rfl
theorem s_all : SimC K (rAll K) rdAll := fun xs μ P h F al H vs S a Q k => by
  obtain ⟨x, bs, rfl, hx, h⟩ := h
  obtain ⟨v, rfl, a1⟩ := one_of a
  obtain ⟨p, ws, rfl, q, r⟩ := lstOf_ab S a1 hx
  obtain rfl := bools_of (DpAll.of r)
  exact ⟨p, bs, rfl, q, k.now h S (.bl _)⟩
theorem s_any : SimC K (rAny K) rdAny := fun xs μ P h F al H vs S a Q k => by
  obtain ⟨x, bs, rfl, hx, h⟩ := h
  obtain ⟨v, rfl, a1⟩ := one_of a
  obtain ⟨p, ws, rfl, q, r⟩ := lstOf_ab S a1 hx
  obtain rfl := bools_of (DpAll.of r)
  exact ⟨p, bs, rfl, q, k.now h S (.bl _)⟩
/-- str(i) -/
def rdStrI : List A → Mu → DK → Prop := fun xs μ P => ∃ i : Int, xs = [.d (.int i)] ∧ i.natAbs.log2 < 1920 ∧ P (.d (.str (toString i))) μ
theorem s_strI : SimC K (fun xs H Q => ∃ i : Int, xs = [.int i] ∧ i.natAbs.log2 < 1920 ∧ Q (.str (toString i)) H) rdStrI := fun xs μ P h F al H vs S a Q k => by
  obtain ⟨i, rfl, hz, h⟩ := h
  obtain ⟨v, rfl, a1⟩ := one_of a
  exact ⟨i, by rw [dp_int a1], hz, k.now h S (.str _)⟩
/-- a built-in type as a value -/
theorem d_ty {x : Str} {T : String} {pos : Pos} (hm : X.mg x = none) (hg : Gl X x := by rfl) (hv : bootBuiltins x = some (.type T) := by decide +kernel) (hn : x ≠ "__name__" := by decide) (hd : (x == ("__debug__" : Str)) = false := by decide) : DE X (.Name x pos) (dC (.v (.ty T))) :=
  d_bltV hg hm hv (v := .ty T) rfl hn hd
/-- a comprehension that changes nothing -/
theorem lc_pure {ys : List Y} {ok : Mu → Prop} {μ : Mu} {ρ : Rho} {dg : DG} {de : DT} {vs : List Nat} {P : DK} (f : Y → A) (hok : ok μ) (hz : ys.length ≤ sizeLine)
    (hs : ∀ (i : Nat) y, ys[i]? = some y → ∀ Q : DK, Q (f y) μ → dg y (wipeR ρ vs) μ fun ρ3 μ3 => de ρ3 μ3 Q) (h : lcEnd P (ys.map f) μ) :
    ∃ Pv : Nat → List A → Mu → Prop, Pv 0 [] μ ∧
      (∀ (i : Nat) y acc μ2, ys[i]? = some y → Pv i acc μ2 → ok μ2 ∧ dg y (wipeR ρ vs) μ2 fun ρ3 μ3 => dtYes ρ3 μ3 fun b μ4 => if b = true then de ρ3 μ4 fun z μ5 => acc.length < sizeLine ∧ Pv (i + 1) (acc ++ [z]) μ5 else Pv (i + 1) acc μ4) ∧
        ∀ acc μ2, Pv ys.length acc μ2 → ok μ2 ∧ lcEnd P acc μ2 := by
  refine ⟨fun i acc μ2 => acc = (ys.take i).map f ∧ μ2 = μ, ⟨by rw [List.take_zero]; rfl, rfl⟩, ?_, ?_⟩
  · rintro i y acc μ2 hy ⟨rfl, rfl⟩
    refine ⟨hok, hs i y hy _ ?_⟩
    have lt := (List.getElem?_eq_some_iff.mp hy).1
    refine ⟨?_, ?_, rfl⟩
    · rw [List.length_map, List.length_take]
      omega
    · rw [List.take_add_one, hy, List.map_append]
      rfl
  · rintro acc μ2 ⟨rfl, rfl⟩
    rw [List.take_length]
    exact ⟨hok, h⟩
theorem oneD_len (ds : List PyData) : (oneD ds).length = ds.length := List.length_map ..
end
end Dl

set_option Elab.async false
set_option linter.all false
set_option maxRecDepth 100000
set_option maxHeartbeats 4000000
/-! promises of defs that are called while nothing is shown by repr: the stack has no guards -/
namespace Dl
open PySem PySem.Spec PyProof.Rows L2
/-- nothing on the stack is inside a repr -/
def Calm0 (A : Around) : Prop := A.guards = some []
structure FnG (P : Program) (w : World) (K : PySem.W.Frag) (mg : Str → Option Value) (base : Heap) (C : CXT) (k : Nat) (f : Addr) (fd : FuncData) (ps : List Str) (sp : Sp) : Prop where
  ln : ∀ vv H Q E, sp vv H Q E → vv.length = ps.length
  go : ∀ (A : Around) (ou : List Env) (s : Shared) (H : Hp) (ar : Args) (uu : List Value) (vv : List V) (Q : VK) (E : XK), Calm0 A → Room k A → Env0 P w K mg base A ou s H →
    BindsTo s fd ar (ps.zip uu) → Vals vv uu → sp vv H Q E → codeAny (model P w) A (.call (.ref f) ar) (CR C ou P w H s Q E) s
theorem FnG.mono {P : Program} {w : World} {K : PySem.W.Frag} {mg : Str → Option Value} {base : Heap} {C : CXT} {j k : Nat} {f : Addr} {fd : FuncData} {ps : List Str} {sp : Sp} (F : FnG P w K mg base C j f fd ps sp) (h : j ≤ k) : FnG P w K mg base C k f fd ps sp :=
  ⟨F.ln, fun A ou s H ar uu vv Q E g hr => F.go A ou s H ar uu vv Q E g (hr.mono h)⟩
theorem FnOk.fg {P : Program} {w : World} {K : PySem.W.Frag} {mg : Str → Option Value} {base : Heap} {C : CXT} {k : Nat} {f : Addr} {fd : FuncData} {ps : List Str} {sp : Sp} (F : FnOk P w K mg base C k f fd ps sp) : FnG P w K mg base C k f fd ps sp :=
  ⟨F.len, fun A ou s H ar uu vv Q E _ => F.run A ou s H ar uu vv Q E⟩
theorem calm_deeper {A : Around} (g : Calm0 A) (e : Env) : Calm0 (A.deeper e) := g
/-- a def of the text, with defaults or without -/
structure FunV (K : PySem.W.Frag) (x qual : Str) (st : Stmt) (f : Addr) (fd : FuncData) : Prop where
  ex : ∃ (oc : Value) (od : Option Addr) (dV kV doc pm : Value) (an : Option Addr) (cd ct : Value) (osl : Array (Option Value)),
    fd = PySem.W.fnOf x qual (defArgs st) (defBody st) (defScope st) dV kV doc pm an cd ct ∧ K.lookup f = some ⟨oc, od, .func fd, osl⟩ ∧ PySem.W.codeIn K cd qual = true
  keep : PySem.W.keepIn K (.ref f) = true
theorem FunV.of {K : PySem.W.Frag} {x qual : Str} {st : Stmt} {f : Addr} {fd : FuncData} (F : Fun K x qual st f fd) : FunV K x qual st f fd := by
  obtain ⟨oc, od, kV, doc, pm, an, cd, ct, osl, e, look, code⟩ := F.ex
  exact ⟨⟨oc, od, _, kV, doc, pm, an, cd, ct, osl, e, look, code⟩, F.kp⟩
/-- the def's rule -/
theorem fg_body {P : Program} {w : World} {K : PySem.W.Frag} {mg : Str → Option Value} {base : Heap} {x qual : Str} {st : Stmt} {f : Addr} {fd : FuncData} {N ps : List Str} {k : Nat} {sp : Sp} (F : FunV K x qual st f fd) (S : FnScope N ps (defScope st))
    (ln : ∀ vv H Q E, sp vv H Q E → vv.length = ps.length)
    (bd : ∀ (cd : Value) (A : Around) (ou : List Env) (s : Shared) (H : Hp) (vv : List V) (Q : VK) (E : XK), Calm0 (A.deeper (envOfC qual (defScope st) s.heap.objs.size f cd)) → Room k (A.deeper (envOfC qual (defScope st) s.heap.objs.size f cd)) → sp vv H Q E →
      ∃ t, PSs (cxOf (L2.CX P w) P w K mg base N qual (defScope st) f cd A ou s H E) (defBody st) t ∧ t { nx := fun _ H' => Q .non H', rt := Q } (start N vv) H) : FnG P w K mg base (L2.CX P w) (k + 1) f fd ps sp := by
  obtain ⟨oc, od, dV, kV, doc, pm, an, cd, ct, osl, rfl, look, code⟩ := F.ex
  refine ⟨ln, fun A ou s H ar uu vv Q E g hr en bi rv hs => ?_⟩
  have lnv := ln _ _ _ _ hs
  have kin : K.In s.heap := en.mod.kin.keeps fun b o z => (en.bs b o z).1
  have nolim : s.heap.NoLimit := en.mod.nolimit.keeps fun b o z => (en.bs b o z).1
  have kinds : ∀ y ∈ ps.zip uu, (defScope st).names.lookup y.1 = some .local ∨ ((defScope st).names.lookup y.1 = some .cell ∧ ((cellsFrom (s.heap.objs.size + 1) (defScope st).names []).lookup y.1).isSome = true) := by
    rintro ⟨n, v⟩ hy
    rcases S.par n (List.of_mem_zip hy).1 with z | z
    · exact .inl z
    · exact .inr ⟨z, PySem.W.cellsFrom_some _ _ _ (.inl z)⟩
  refine codeAny_call_function hr.depth (kin _ _ look) rfl S.co S.gen rfl (PySem.W.codeRec_of kin code) (bi _ _ _ _ ?_)
  refine wpAny_newFunctionEnv_cells S.kind kinds fun env ee s1 x1 => ?_
  subst ee
  refine ⟨nolim.keeps x1.toInCall.keep, codeAny_func ?_⟩
  obtain ⟨t, pt, qt⟩ := bd cd A ou s H vv Q E (calm_deeper g _) (hr.deeper _) hs
  have I0 := inv_start (CX := L2.CX P w) (K := K) (mg := mg) (base := base) (E := E) S hr.hd en lnv rv x1
  refine wpAny_mono (pt.run [] s1 (start N vv) H _ I0 qt) (fun fl s' z => ?_) fun e s' z => z
  have done : ∀ {σ' : L2.St} {H' : Hp} {v : V} {u : Value}, Inv (cxOf (L2.CX P w) P w K mg base N qual (defScope st) f cd A ou s H E) [] σ' H' s' → RelV v u → Q v H' → CE ou P w H s Q u s' :=
    fun {_ H' v _} J r1 q1 => ⟨v, H', J.os, J.bare, J.base, J.hok, r1, q1⟩
  cases fl with
  | ret u => obtain ⟨v, σ', H', J, r1, q1⟩ := z; exact done J r1 q1
  | next => obtain ⟨σ', H', J, q1⟩ := z; exact done (v := V.non) (u := Value.none) J rfl q1
  | brk => obtain ⟨_, _, _, q1⟩ := z; exact q1.elim
  | cont => obtain ⟨_, _, _, q1⟩ := z; exact q1.elim
/-- the head: the law's call by the claim's caller -/
theorem law_callG {P : Program} {w : World} {K : PySem.W.Frag} {mg mb : Str → Option Value} {C : CXT} {k : Nat} {fa a : Addr} {fd : FuncData} {x : Str} {sp : Sp} {z : Shared} {vv : List Value} {ns : List Int}
    (kin : K.In z.heap) (glob : z.heap.Ns mainGlobals mg) (bl : z.heap.Ns builtinsNs mb) (bb : ∀ x : Str, x ≠ "__name__" → mb x = bootBuiltins x) (nolim : z.heap.NoLimit) (gens : z.gens = #[])
    (la : z.heap.get? a = some { cls := .type "list", data := .seq vv.toArray }) (ig : IntsAre vv ns) (few : ns.length ≤ sizeLine) (room : Room k callerA)
    (F : ∀ base : Heap, K.In base → base.Ns mainGlobals mg → FnG P w K mg base C k fa fd [x] sp) (bi : ∀ (s : Shared) (u : Value), BindsTo s fd ⟨[u], []⟩ [(x, u)])
    (prom : ∀ H : Hp, Only H → SqL K H a (ns.map V.int) → sp [.ref a] H (fun v _ => v = .bl true) fun _ _ _ => False)
    (noex : ∀ H e s', C [] H z (fun _ _ _ => False) e s' → False) :
    codeAny (model P w) callerA (.call (.ref fa) ⟨[.ref a], []⟩) (fun r s' => r = .ok (.ret (.bool true)) ∧ OldK z.heap s'.heap ∧ s'.os = z.os ∧ AllBare s'.gens) z := by
  have vals := vals_ints ig
  have lens := ig.length
  have main : ∀ H : Hp, Only H → SqL K H a (ns.map V.int) → HOk P w H z.heap → (∀ b, H b ≠ none → b = a) → (H a ≠ none → K.lookup a = none) →
      codeAny (model P w) callerA (.call (.ref fa) ⟨[.ref a], []⟩) (fun r s' => r = .ok (.ret (.bool true)) ∧ OldK z.heap s'.heap ∧ s'.os = z.os ∧ AllBare s'.gens) z := by
    intro H only sq hok onlyA notK
    have isA : ∀ {b : Addr} {u : HO}, H b = some u → b = a := fun {b u} q => onlyA b (by rw [q]; simp)
    have free : ∀ {b : Addr} {o : Obj} {es : Array DictEntry} {ep : Nat}, z.heap.get? b = some o → o.data = .dict es ep → H b = none := by
      intro b o es ep e d
      cases q : H b with
      | none => rfl
      | some u =>
        obtain rfl := isA q
        rw [la] at e
        cases e
        cases (show Data.seq vv.toArray _ = Data.dict es ep from d)
    have nsOk : ∀ {b : Addr} {m : Str → Option Value}, z.heap.Ns b m → (hidT z.heap H).Ns b m := by
      rintro b m ⟨o, es, ep, e, d, r⟩
      exact ⟨o, es, ep, hidT_get e (free e d), d, r⟩
    have kb : K.In (hidT z.heap H) := by
      intro b o e
      refine hidT_get (kin b o e) ?_
      cases q : H b with
      | none => rfl
      | some u =>
        obtain rfl := isA q
        rw [notK (by rw [q]; simp)] at e
        cases e
    have md : Mod K mg (hidT z.heap H) := ⟨kb, nsOk glob, ⟨mb, nsOk bl, bb⟩, let ⟨mc, i1, i2⟩ := nolim; ⟨mc, nsOk i1, i2⟩⟩
    have en : Env0 P w K mg (hidT z.heap H) callerA [] z H := ⟨rfl, md, fun b o e => of_hidT e, Nat.le_of_eq (hidT_size _ _), trivial, (fun b hb => by cases hb), hok, .of_eq gens⟩
    have run := (F _ kb (nsOk glob)).go callerA [] z H ⟨[.ref a], []⟩ [.ref a] [.ref a] _ _ rfl room en (bi z (.ref a)) (.cons rfl .nil) (prom H only sq)
    refine codeAny_mono run fun r s' h => ?_
    cases r with
    | error e => exact (noex H e s' h).elim
    | ok fl =>
      cases fl with
      | next => exact (show False from h).elim
      | brk => exact (show False from h).elim
      | cont => exact (show False from h).elim
      | ret u =>
        obtain ⟨v, H', os, bare, un, hok', rv, q⟩ := h
        obtain rfl : v = .bl true := q
        obtain rfl : u = Value.bool true := rv
        refine ⟨rfl, OldK.of_keep fun b o e => ?_, os, bare⟩
        cases q : H b with
        | none => exact un.keep b o e q (fun y => by cases y) (by simp)
        | some u =>
          rcases only b with y | ⟨ob, xs, y⟩
          · rw [q] at y
            cases y
          · obtain ⟨e1, _⟩ := hok b _ y
            obtain ⟨e2, _⟩ := hok' b _ (un.frzs b ob _ y)
            rw [e] at e1
            cases e1
            exact e2
  cases look : K.lookup a with
  | some o =>
    have e := kin a o look
    rw [la] at e
    cases e
    exact main (fun _ => none) (fun _ => .inl rfl) (.inr ⟨_, vv.toArray, _, look, rfl, rfl, rfl, by rw [List.size_toArray, lens]; exact few, by simpa using vals⟩) (fun b u y => by cases (show (none : Option HO) = some u from y)) (fun b y => absurd rfl y) fun y => absurd rfl y
  | none =>
    let Ha : Hp := fun b => if b = a then some (.frz { cls := .type "list", data := .seq vv.toArray } (.lst (ns.map V.int))) else none
    have yes : Ha a = some (.frz { cls := .type "list", data := .seq vv.toArray } (.lst (ns.map V.int))) := if_pos rfl
    have no : ∀ {b : Addr}, b ≠ a → Ha b = none := fun hb => if_neg hb
    refine main Ha (fun b => ?_) (.inl (.inr ⟨_, yes⟩)) (fun b u y => ?_) (fun b y => ?_) fun _ => look
    · by_cases hb : b = a
      · subst hb
        exact .inr ⟨_, _, yes⟩
      · exact .inl (no hb)
    · by_cases hb : b = a
      · subst hb
        rw [yes] at y
        cases y
        exact ⟨la, by rw [List.length_map]; exact few, vv, _, vals, la⟩
      · rw [no hb] at y
        cases y
    · by_cases hb : b = a
      · exact hb
      · exact absurd (no hb) y
theorem walkG {l : PySem.W.OpenLaw} {n k : Nat} {q : Program} {loose : List Str} {XP : (Str → Option Value) → Heap → Prop} {YP : World → Heap → Prop} {d : DefRec} {K : Params → PySem.W.Frag} {C : World → CXT} {sp : World → Sp} {x : Str}
    (most : l.most = some n) (few : n ≤ sizeLine) (nodf : d.params.defaults = []) (room : Room k callerA) (hY : ∀ (w : World) (h : Heap), YP w h → (K w.params).In h)
    (F : ∀ (w : World) (mg : Str → Option Value) (fa : Addr) (h : Heap), (K w.params).In h → h.Ns mainGlobals mg → mg d.name = some (.ref fa) →
      ∃ fd : FuncData, (∀ (s : Shared) (u : Value), BindsTo s fd ⟨[u], []⟩ [(x, u)]) ∧ ∀ base : Heap, (K w.params).In base → base.Ns mainGlobals mg → FnG l.prog w (K w.params) mg base (C w) k fa fd [x] (sp w))
    (prom : ∀ (w : World) (H : Hp) (a : Addr) (ns : List Int), ns.length ≤ n → Only H → SqL (K w.params) H a (ns.map V.int) → sp w [.ref a] H (fun v _ => v = .bl true) fun _ _ _ => False)
    (noex : ∀ (w : World) (H : Hp) (s : Shared) (e : Value) (s' : Shared), C w [] H s (fun _ _ _ => False) e s' → False) : PySem.W.WalkO q loose XP YP l.row.toRowW d [] (fun f vs => PySem.call f vs) := by
  refine Att.attach_call most nodf fun w s0 s1 mg mb fa o pm cd doc a vv ns G Y _ _ _ hmg obj ig len gens => ?_
  have kin := hY w _ Y
  obtain ⟨fd, bi, hF⟩ := F w mg fa _ kin G.T.g hmg
  exact law_callG kin G.T.g G.T.b G.T.builtins G.T.nolimit gens obj ig (Nat.le_trans len few) room hF bi (fun H only sq => prom w H a ns len only sq) fun H e s' => noex w H s1 e s'
end Dl

set_option Elab.async false
set_option linter.all false
set_option maxRecDepth 100000
set_option maxHeartbeats 4000000
namespace Dl
open PySem PySem.Spec PyProof.Rows L2
/-! ### repr of data -/
def rRep (K : PySem.W.Frag) : List V → Hp → VK → Prop := fun xs H Q => ∃ x d, xs = [x] ∧ Dp K H x d ∧ d.showable = true ∧ d.hasDict = false ∧ d.depth ≤ 60 ∧ d.shown.length ≤ sizeLine ∧ Q (.str d.shown) H
theorem cr_rep {X : Cx} (g : Calm0 X.A) (hu : X.A.units + 64 < cLine) : CallR X (.builtin "repr") (rRep X.K) := by
  intro pins s σ H xs us Q I r h
  obtain ⟨x, d, rfl, hd, sh, nd, dp, sz, q⟩ := h
  obtain ⟨u, rfl, ru⟩ := vals1 r
  obtain ⟨as, rd⟩ := Dp.reads I d x u hd.lib ru
  have fin : ∀ (h' : Heap) (t tk : Tok), (∀ b o, s.heap.get? b = some o → h'.get? b = some o) → EP X pins σ Q (.str d.shown t) { s with heap := h', toks := tk } :=
    fun h' t tk kk => ⟨.str d.shown, H, I.kept kk, ⟨t, rfl⟩, q⟩
  cases d with
  | none =>
    cases rd
    exact PySem.P.repr_of_none (by
      have e := fin s.heap s.toks (s.toks + 1) fun _ _ z => z
      rw [PyData.shown] at e
      exact e)
  | bool b =>
    cases rd
    exact PySem.P.repr_of_bool (by
      have e := fin s.heap s.toks (s.toks + 1) fun _ _ z => z
      rw [PyData.shown] at e
      exact e)
  | int i =>
    cases rd
    exact PySem.P.repr_of_int (by simpa [PyData.showable] using sh) (by
      have e := fin s.heap s.toks (s.toks + 1) fun _ _ z => z
      rw [PyData.shown] at e
      exact e)
  | str y =>
    cases rd
    exact PySem.P.repr_of_str (by
      have e := fin s.heap s.toks (s.toks + 1) fun _ _ z => z
      rw [PyData.shown] at e
      exact e) (by rw [PyData.shown] at sz; exact sz)
  | list ds =>
    obtain ⟨a, rfl⟩ : ∃ a, u = .ref a := by cases rd; exact ⟨_, rfl⟩
    exact repr_of_reads' rd sh (fun z => by rw [nd] at z; cases z) g (by omega) (fun _ _ e => e) (fun h' t tk kk => fin h' t tk kk) sz
  | tuple ds =>
    obtain ⟨a, rfl⟩ : ∃ a, u = .ref a := by cases rd; exact ⟨_, rfl⟩
    exact repr_of_reads' rd sh (fun z => by rw [nd] at z; cases z) g (by omega) (fun _ _ e => e) (fun h' t tk kk => fin h' t tk kk) sz
  | dict kvs => cases hd
def rdRep : List A → Mu → DK → Prop := fun xs μ P => ∃ d : PyData, xs = [.d d] ∧ d.showable = true ∧ d.hasDict = false ∧ d.depth ≤ 60 ∧ d.shown.length ≤ sizeLine ∧ P (.d (.str d.shown)) μ
theorem s_rep {K : PySem.W.Frag} : SimC K (rRep K) rdRep := fun xs μ P h F al H vs S a Q k => by
  obtain ⟨d, rfl, h1, h2, h3, h4, h⟩ := h
  obtain ⟨v, rfl, a1⟩ := one_of a
  exact ⟨v, d, rfl, Dp.mono S.sub a1, h1, h2, h3, h4, k.now h S (.str _)⟩
end Dl

set_option Elab.async false
set_option linter.all false
set_option maxRecDepth 100000
set_option maxHeartbeats 4000000
namespace Dl
open PySem PySem.Spec PyProof.Rows L2
/-! ### the frame: a def is promised over the cells that it is given -/
/-- a callee's thing, seen from the caller -/
def upA (sel : List Nat) (m : Nat) : A → A
  | .c j => if j < sel.length then .c (sel.getD j 0) else .c (m + (j - sel.length))
  | x => x
/-- a cell of data -/
def dO : O → Prop
  | .lst xs => ∀ x ∈ xs, ∃ d, x = .d d
  | .dct ks => ∀ p ∈ ks, ∃ d, p.2 = .d d
  | .fdct _ _ _ => False
  | .dead => False
def putAll : Mu → List Nat → Mu → Mu
  | μ, n :: sel, o :: ν => putAll (μ.set n o) sel ν
  | μ, _, _ => μ
structure Pick (sel : List Nat) (μ ν : Mu) : Prop where
  nd : sel.Nodup
  len : ν.length = sel.length
  at_ : ∀ (j n : Nat), sel[j]? = some n → ∃ o, μ[n]? = some o ∧ ν[j]? = some o ∧ dO o
def FR (R : DR) : DR := fun xs μ P Ex => ∃ sel zs ν, Pick sel μ ν ∧ xs = zs.map (upA sel μ.length) ∧ (∀ z ∈ zs, oldA sel.length z) ∧
  R zs ν (fun y ν' => (∀ o ∈ ν', dO o) ∧ P (upA sel μ.length y) (putAll μ sel ν' ++ ν'.drop sel.length)) fun C o ν' => (∀ o ∈ ν', dO o) ∧ Ex C o (putAll μ sel ν' ++ ν'.drop sel.length)
theorem putAll_len : ∀ (sel : List Nat) (μ ν : Mu), (putAll μ sel ν).length = μ.length
  | [], _, _ => by unfold putAll; rfl
  | n :: sel, μ, [] => by unfold putAll; rfl
  | n :: sel, μ, o :: ν => by
    unfold putAll
    rw [putAll_len, List.length_set]
theorem putAll_out : ∀ (sel : List Nat) (μ ν : Mu) (i : Nat), i ∉ sel → (putAll μ sel ν)[i]? = μ[i]?
  | [], _, _, _, _ => by unfold putAll; rfl
  | n :: sel, μ, [], _, _ => by unfold putAll; rfl
  | n :: sel, μ, o :: ν, i, h => by
    rw [List.mem_cons, not_or] at h
    unfold putAll
    rw [putAll_out sel _ _ i h.2, List.getElem?_set_ne (Ne.symm h.1)]
theorem putAll_in : ∀ (sel : List Nat) (μ ν : Mu) (j n : Nat) (o : O), sel.Nodup → sel[j]? = some n → n < μ.length → ν[j]? = some o → (putAll μ sel ν)[n]? = some o
  | [], _, _, _, _, _, _, h, _, _ => by simp at h
  | m :: sel, μ, [], _, _, _, _, _, _, h => by simp at h
  | m :: sel, μ, u :: ν, 0, n, o, nd, h, lt, e => by
    obtain rfl := Option.some.inj h
    obtain rfl := Option.some.inj e
    unfold putAll
    rw [putAll_out sel _ _ m (List.nodup_cons.mp nd).1, List.getElem?_set_self lt]
  | m :: sel, μ, u :: ν, j + 1, n, o, nd, h, lt, e => by
    unfold putAll
    exact putAll_in sel _ ν j n o (List.nodup_cons.mp nd).2 (by simpa using h) (by rw [List.length_set]; exact lt) (by simpa using e)
section
variable {K : PySem.W.Frag} {F F' : Hp} {al al' : List Addr} {H H' : Hp} {μ ν ν' : Mu} {sel : List Nat}
def pickA (al : List Addr) (sel : List Nat) : List Addr := sel.map fun n => al.getD n 0
theorem pickA_get {j n : Nat} {a : Addr} (h : sel[j]? = some n) (e : al[n]? = some a) : (pickA al sel)[j]? = some a := by
  unfold pickA
  rw [List.getElem?_map, h]
  show some (al.getD n 0) = _
  rw [List.getD_eq_getElem?_getD, e]
  rfl
theorem Pick.lt (p : Pick sel μ ν) {n : Nat} (h : n ∈ sel) : n < μ.length := by
  obtain ⟨j, e⟩ := List.mem_iff_getElem?.mp h
  obtain ⟨o, e1, _⟩ := p.at_ j n e
  exact (List.getElem?_eq_some_iff.mp e1).1
theorem pickA_sub (S : Sto K F al μ H) (p : Pick sel μ ν) {a : Addr} (h : a ∈ pickA al sel) : ∃ (j n : Nat), sel[j]? = some n ∧ al[n]? = some a := by
  obtain ⟨n, hn, e⟩ := List.mem_map.mp h
  obtain ⟨j, ej⟩ := List.mem_iff_getElem?.mp hn
  have lt : n < al.length := by rw [S.len]; exact p.lt hn
  refine ⟨j, n, ej, ?_⟩
  rw [List.getD_eq_getElem?_getD, List.getElem?_eq_getElem lt] at e
  rw [List.getElem?_eq_getElem lt]
  exact congrArg some e
theorem dO_ab {o : O} {ho : HO} (d : dO o) (h : AbO K F al ho o) : AbO K F al' ho o := by
  cases o with
  | dead => exact d.elim
  | fdct _ _ _ => exact d.elim
  | lst xs =>
    cases ho with
    | lst vs =>
      have h' : Paired (Ab K F al) vs xs := h
      show Paired (Ab K F al') vs xs
      induction h' with
      | nil => exact .nil
      | cons a b ih =>
        refine .cons ?_ (ih (fun x hx => d x (List.mem_cons_of_mem _ hx)) b)
        obtain ⟨e, rfl⟩ := d _ (List.mem_cons_self ..)
        exact a
    | _ => exact h.elim
  | dct ks =>
    cases ho with
    | dK kvs =>
      have h' : Paired (fun (p : Key × V) (q : Key × A) => p.1 = q.1 ∧ Ab K F al p.2 q.2) kvs ks := h
      show Paired (fun (p : Key × V) (q : Key × A) => p.1 = q.1 ∧ Ab K F al' p.2 q.2) kvs ks
      induction h' with
      | nil => exact .nil
      | cons a b ih =>
        refine .cons ?_ (ih (fun x hx => d x (List.mem_cons_of_mem _ hx)) b)
        obtain ⟨e, he⟩ := d _ (List.mem_cons_self ..)
        rw [he] at a ⊢
        exact a
    | _ => exact h.elim
theorem pick_sto (S : Sto K F al μ H) (p : Pick sel μ ν) : Sto K F (pickA al sel) ν H := by
  refine ⟨S.sub, ?_, by unfold pickA; rw [List.length_map, p.len], fun j a o e1 e2 => ?_⟩
  · unfold pickA
    refine (List.pairwise_map).mpr (List.Pairwise.imp_of_mem ?_ p.nd)
    intro a b ha hb hne e
    have la : a < al.length := by rw [S.len]; exact p.lt ha
    have lb : b < al.length := by rw [S.len]; exact p.lt hb
    rw [List.getD_eq_getElem?_getD, List.getD_eq_getElem?_getD, List.getElem?_eq_getElem la, List.getElem?_eq_getElem lb] at e
    exact hne (nd_ix S.nd (List.getElem?_eq_getElem la) (by rw [List.getElem?_eq_getElem lb]; exact congrArg some e.symm))
  · have lt : j < sel.length := by rw [← p.len]; exact (List.getElem?_eq_some_iff.mp e2).1
    have es : sel[j]? = some sel[j] := List.getElem?_eq_getElem lt
    obtain ⟨u, m1, m2, m3⟩ := p.at_ j _ es
    rw [m2] at e2
    obtain rfl := Option.some.inj e2
    have ltn : sel[j] < al.length := by rw [S.len]; exact (List.getElem?_eq_some_iff.mp m1).1
    have ea : al[sel[j]]? = some al[sel[j]] := List.getElem?_eq_getElem ltn
    rw [pickA_get es ea] at e1
    obtain rfl := Option.some.inj e1
    obtain ⟨ho, h1, h2⟩ := S.cell _ _ _ ea m1
    exact ⟨ho, h1, fun nd => ⟨(h2 nd).1, dO_ab m3 (h2 nd).2⟩⟩
theorem pick_ab (S : Sto K F al μ H) (p : Pick sel μ ν) {v : V} {z : A} (o : oldA sel.length z) (h : Ab K F al v (upA sel μ.length z)) : Ab K F (pickA al sel) v z := by
  cases z with
  | c j =>
    have lt : j < sel.length := o
    have h' : Ab K F al v (.c (sel.getD j 0)) := by
      have e : upA sel μ.length (.c j) = .c (sel.getD j 0) := if_pos lt
      rw [e] at h
      exact h
    obtain ⟨a, ea, rfl⟩ := h'
    rw [List.getD_eq_getElem?_getD, List.getElem?_eq_getElem lt] at ea
    exact ⟨a, pickA_get (List.getElem?_eq_getElem lt) ea, rfl⟩
  | _ => exact h
/-- behind the call -/
theorem pick_back (S : Sto K F al μ H) (p : Pick sel μ ν) (g : Grow F (pickA al sel) H F' al' H') (S' : Sto K F' al' ν' H') (dd : ∀ o ∈ ν', dO o) :
    ∃ al2, Grow F al H F' al2 H' ∧ Sto K F' al2 (putAll μ sel ν' ++ ν'.drop sel.length) H' ∧ ∀ v y, Ab K F' al' v y → Ab K F' al2 v (upA sel μ.length y) := by
  have hl : (pickA al sel).length = sel.length := by unfold pickA; rw [List.length_map]
  have hle : sel.length ≤ al'.length := by rw [← hl]; exact g.px.length_le
  have hle' : sel.length ≤ ν'.length := by rw [← S'.len]; exact hle
  have pre : ∀ (j n : Nat) (a : Addr), sel[j]? = some n → al[n]? = some a → al'[j]? = some a := fun j n a e1 e2 => by
    obtain ⟨t, rfl⟩ := g.px
    have e3 := pickA_get e1 e2
    rw [List.getElem?_append_left (List.getElem?_eq_some_iff.mp e3).1]
    exact e3
  have mem0 : ∀ {a}, a ∈ pickA al sel → a ∈ al := fun {a} h => by
    obtain ⟨j, n, _, e⟩ := pickA_sub S p h
    exact List.mem_of_getElem? e
  have newNot : ∀ {a}, a ∈ al'.drop sel.length → a ∉ pickA al sel := fun {a} h m => by
    obtain ⟨j, n, e1, e2⟩ := pickA_sub S p m
    obtain ⟨i, hi⟩ := List.mem_iff_getElem?.mp h
    rw [List.getElem?_drop] at hi
    have := nd_ix S'.nd hi (pre j n a e1 e2)
    have := (List.getElem?_eq_some_iff.mp e1).1
    omega
  have fresh : ∀ {a}, a ∈ al'.drop sel.length → H a = none := fun {a} h => (g.nw a (List.mem_of_mem_drop h)).resolve_left (newNot h)
  have px : al <+: al ++ al'.drop sel.length := ⟨_, rfl⟩
  refine ⟨al ++ al'.drop sel.length, ⟨g.f, px, fun b o e n => g.fr b o e fun m => n (mem0 m), fun a h => ?_, fun b o e => ?_⟩, ⟨S'.sub, ?_, ?_, fun i a o e1 e2 => ?_⟩, fun v y h => ?_⟩
  · rcases List.mem_append.mp h with h | h
    · exact .inl h
    · exact .inr (fresh h)
  · rcases g.fz b o e with h | h | h
    · exact .inl h
    · exact .inr (.inl h)
    · exact .inr (.inr (mem0 h))
  · rw [List.nodup_append]
    refine ⟨S.nd, S'.nd.sublist (List.drop_sublist _ _), fun a ha b hb e => ?_⟩
    subst e
    obtain ⟨u, hu⟩ := S.has ha
    rw [fresh hb] at hu
    cases hu
  · rw [List.length_append, List.length_append, List.length_drop, List.length_drop, putAll_len, S.len, S'.len]
  · rcases Nat.lt_or_ge i al.length with lt | ge
    · rw [List.getElem?_append_left lt] at e1
      rw [List.getElem?_append_left (by rw [putAll_len, ← S.len]; exact lt)] at e2
      by_cases m : i ∈ sel
      · obtain ⟨j, ej⟩ := List.mem_iff_getElem?.mp m
        have lj : j < ν'.length := Nat.lt_of_lt_of_le (List.getElem?_eq_some_iff.mp ej).1 hle'
        have en : ν'[j]? = some ν'[j] := List.getElem?_eq_getElem lj
        rw [putAll_in sel μ ν' j i _ p.nd ej (by rw [← S.len]; exact lt) en] at e2
        obtain rfl := Option.some.inj e2
        obtain ⟨ho, h1, h2⟩ := S'.cell j a _ (pre j i a ej e1) en
        exact ⟨ho, h1, fun nd => ⟨(h2 nd).1, dO_ab (dd _ (List.mem_of_getElem? en)) (h2 nd).2⟩⟩
      · rw [putAll_out sel μ ν' i m] at e2
        obtain ⟨ho, h1, h2⟩ := S.cell i a o e1 e2
        have na : a ∉ pickA al sel := fun z => by
          obtain ⟨j, n, q1, q2⟩ := pickA_sub S p z
          have := nd_ix S.nd q2 e1
          subst this
          exact m (List.mem_of_getElem? q1)
        refine ⟨ho, g.fr a ho h1 na, fun nd => ⟨?_, (h2 nd).2.mono g.f px⟩⟩
        cases q : F' a with
        | none => rfl
        | some u =>
          rcases g.fz a u q with z | z | z
          · rw [(h2 nd).1] at z
            cases z
          · rw [h1] at z
            cases z
          · exact absurd z na
    · rw [List.getElem?_append_right ge, List.getElem?_drop] at e1
      rw [List.getElem?_append_right (by rw [putAll_len, ← S.len]; exact ge), putAll_len, ← S.len, List.getElem?_drop] at e2
      obtain ⟨ho, h1, h2⟩ := S'.cell _ a o e1 e2
      exact ⟨ho, h1, fun nd => ⟨(h2 nd).1, dO_ab (dd _ (List.mem_of_getElem? e2)) (h2 nd).2⟩⟩
  · cases y with
    | c j =>
      obtain ⟨a, ea, rfl⟩ := h
      by_cases lt : j < sel.length
      · have e : upA sel μ.length (.c j) = .c (sel.getD j 0) := if_pos lt
        rw [e]
        have es : sel[j]? = some sel[j] := List.getElem?_eq_getElem lt
        have ln : sel[j] < al.length := by rw [S.len]; exact p.lt (List.getElem_mem lt)
        have e2 : al[sel[j]]? = some al[sel[j]] := List.getElem?_eq_getElem ln
        have e3 := pre j _ _ es e2
        rw [ea] at e3
        refine ⟨a, ?_, rfl⟩
        rw [List.getD_eq_getElem?_getD, es]
        show (al ++ _)[sel[j]]? = _
        rw [List.getElem?_append_left ln, e2, ← e3]
      · have e : upA sel μ.length (.c j) = .c (μ.length + (j - sel.length)) := if_neg lt
        rw [e]
        refine ⟨a, ?_, rfl⟩
        rw [← S.len, List.getElem?_append_right (Nat.le_add_right _ _), Nat.add_sub_cancel_left, List.getElem?_drop, show sel.length + (j - sel.length) = j by omega]
        exact ea
    | _ => exact h
end
theorem paired_unmap {α β γ : Type} {R : α → γ → Prop} {f : β → γ} {R' : α → β → Prop} (h : ∀ a b, R a (f b) → R' a b) : ∀ {l : List α} {m : List β}, Paired R l (m.map f) → Paired R' l m
  | [], [], _ => .nil
  | _ :: _, _ :: _, .cons a b => .cons (h _ _ a) (paired_unmap h b)
theorem paired_unmapM {α β γ : Type} {R : α → γ → Prop} {f : β → γ} {R' : α → β → Prop} : ∀ {l : List α} {m : List β}, (∀ a, ∀ b ∈ m, R a (f b) → R' a b) → Paired R l (m.map f) → Paired R' l m
  | [], [], _, _ => .nil
  | _ :: _, _ :: _, h, .cons a b => .cons (h _ _ (List.mem_cons_self ..) a) (paired_unmapM (fun a b hb => h a b (List.mem_cons_of_mem _ hb)) b)
theorem frame_imp {K : PySem.W.Frag} {R : DR} : ∀ vs H Q E, SpD K (FR R) vs H Q E → SpD K R vs H Q E := by
  rintro vs H Q E ⟨xs, μ, P, Ex, F, al, S, a, ⟨sel, zs, ν, p, rfl, old, r⟩, k, kx⟩
  refine ⟨zs, ν, _, _, F, pickA al sel, pick_sto S p, paired_unmapM (fun v z hz h => pick_ab S p (old z hz) h) a, r, fun v y ν' F' al' H' h g S' ab => ?_, fun C o ν' F' al' H' d h g S' x => ?_⟩
  · obtain ⟨al2, g2, S2, q⟩ := pick_back S p g S' h.1
    exact k v _ _ F' al2 H' h.2 g2 S2 (q v y ab)
  · obtain ⟨al2, g2, S2, _⟩ := pick_back S p g S' h.1
    exact kx C o _ F' al2 H' d h.2 g2 S2 x
end Dl

set_option Elab.async false
set_option linter.all false
set_option maxRecDepth 100000
set_option maxHeartbeats 4000000
namespace Dl
open PySem PySem.Spec PyProof.Rows L2
/-! ### calls of such defs -/
section
variable {X : Cx} {C : CXT} {k : Nat} {f : Addr} {fd : FuncData} {ps ks : List Str} {sp : Sp} {dvs : List V} {ds : List Value} {x : Str} {p pos : Pos} {e : Expr} {es : List Expr} {kws : List Keyword} {t : TA} {Er : L2.St → XK}
theorem go_fn {pins : List (Addr × Obj)} {σ : L2.St} {H : Hp} {s : Shared} {Q : VK} {ar : Args} {uu : List Value} {vv : List V} (F : FnG X.prog X.w X.K X.mg X.base C k f fd ps sp) (g : Calm0 X.A) (hr : Room k X.A) (bi : BindsTo s fd ar (ps.zip uu)) (pass : PassesAt C X σ (Er σ))
    (I : Inv X pins σ H s) (rv : Vals vv uu) (h : sp vv H Q (Er σ)) : codeAny (model X.prog X.w) X.A (.call (.ref f) ar) (fun r s' => match r with | .ok (.ret u) => EP X pins σ Q u s' | .ok _ => False | .error er => X.xe er s') s := by
  refine codeAny_mono (F.go X.A X.stack s H ar uu vv Q (Er σ) g hr I.env0 bi rv h) fun r s' z => ?_
  match r, z with
  | .error er, z => exact pass pins H s er s' I z
  | .ok (.ret u), z => exact I.after z
theorem pe_callG (F : FnG X.prog X.w X.K X.mg X.base C k f fd ps sp) (g : Calm0 X.A) (hr : Room k X.A) (gl : Gl X x) (mx : X.mg x = some (.ref f)) (kp : PySem.W.keepIn X.K (.ref f) = true) (bi : Binds X.K fd ps ds) (dv : Vals dvs ds) (pass : ∀ σ, PassesAt C X σ (Er σ))
    (pa : PA X (e :: es) t) (db : (x == ("__debug__" : Str)) = false := by decide) (se : starEach (e :: es) X.env = (false, eval e X.env) :: starEach es X.env := by rfl) (sp0 : (backTo pos (starEach es X.env)).any (·.1) = false := by rfl) :
    PE X (.Call (.Name x p) (e :: es) [] pos) (fun σ H Q => t σ H fun vv H1 => sp (vv ++ dvs) H1 Q (Er σ)) := by
  constructor
  intro pins s σ H Q I h
  apply wpAny_Call_Name_kw
  refine ld_glob I gl mx ?_ db
  have args := pa.run pos pins s σ H _ I h
  refine PySem.W.callWith_K (h₀ := X.base) I.ok.mod.kin kp (thn args ?_) se sp0
  rintro uu s1 ⟨vv, H1, I1, rv, q⟩
  refine ⟨I1.kIn, ?_⟩
  have rv2 := rv.append dv
  have ln : (uu ++ ds).length = ps.length := by rw [← rv2.length]; exact F.ln _ _ _ _ q
  refine wpAny_call (codeAny_mono (go_fn F g hr (bi s1 uu I1.kIn ln) (pass σ) I1 rv2 q) fun r s' z => ?_)
  match r, z with
  | .error er, z => exact z
  | .ok (.ret u), z => exact z
/-- by keywords alone: π tells which keyword's value each parameter has -/
def perm {α : Type} (d : α) (π : List Nat) (zs : List α) : List α := π.map fun i => zs.getD i d
theorem perm_vals (π : List Nat) {zs : List V} {ws : List Value} (r : Vals zs ws) : Vals (perm .non π zs) (perm .none π ws) := by
  have at_ : ∀ i : Nat, RelV (zs.getD i .non) (ws.getD i .none) := by
    intro i
    induction r generalizing i with
    | nil => exact rfl
    | cons a b ih => cases i with
      | zero => exact a
      | succ i => exact ih i
  unfold perm
  induction π with
  | nil => exact .nil
  | cons i π ih => exact .cons (at_ i) ih
theorem perm_ab {K : PySem.W.Frag} {F : Hp} {al : List Addr} (π : List Nat) {zs : List V} {xs : List A} (r : Paired (Ab K F al) zs xs) : Paired (Ab K F al) (perm .non π zs) (perm (.d .none) π xs) := by
  have at_ : ∀ i : Nat, Ab K F al (zs.getD i .non) (xs.getD i (.d .none)) := by
    intro i
    induction r generalizing i with
    | nil => exact .non
    | cons a b ih => cases i with
      | zero => exact a
      | succ i => exact ih i
  unfold perm
  induction π with
  | nil => exact .nil
  | cons i π ih => exact .cons (at_ i) ih
def BindsK (fd : FuncData) (ps ks : List Str) (π : List Nat) : Prop := ∀ (s : Shared) (ws : List Value), ws.length = ks.length → BindsTo s fd ⟨[], ks.zip ws⟩ (ps.zip (perm .none π ws))
theorem pe_callGK {π : List Nat} (F : FnG X.prog X.w X.K X.mg X.base C k f fd ps sp) (g : Calm0 X.A) (hr : Room k X.A) (gl : Gl X x) (mx : X.mg x = some (.ref f)) (kp : PySem.W.keepIn X.K (.ref f) = true) (bi : BindsK fd ps ks π) (pass : ∀ σ, PassesAt C X σ (Er σ))
    (pk : PK X kws t) (hl : kws.length = ks.length) (all : (backToKw pos (keywordEach kws X.env)).all (·.1.isSome) = true := by rfl) (nam : (backToKw pos (keywordEach kws X.env)).filterMap (·.1) = ks := by rfl)
    (db : (x == ("__debug__" : Str)) = false := by decide) (sp0 : ((backTo pos (starEach [] X.env)).any (·.1) || (backToKw pos (keywordEach kws X.env)).any (·.1.isNone)) = false := by rfl) :
    PE X (.Call (.Name x p) [] kws pos) (fun σ H Q => t σ H fun vv H1 => vv.length = ks.length ∧ sp (perm .non π vv) H1 Q (Er σ)) := by
  constructor
  intro pins s σ H Q I h
  apply wpAny_Call_Name_kw
  refine ld_glob I gl mx ?_ db
  have args := pk.run pos pins s σ H _ I h
  refine PySem.W.callWith_KW0 (h₀ := X.base) I.ok.mod.kin kp all (thn args ?_) sp0
  rintro uu s1 ⟨vv, H1, I1, rv, lv, q⟩
  refine ⟨I1.kIn, ?_⟩
  have b := bi s1 uu (by rw [← rv.length]; exact lv)
  refine wpAny_call (codeAny_mono (go_fn F g hr (by rw [← nam] at b; exact b) (pass σ) I1 (perm_vals π rv) q) fun r s' z => ?_)
  match r, z with
  | .error er, z => exact z
  | .ok (.ret u), z => exact z
end
/-! ### a def's promise in short -/
structure CalG (P : Program) (w : World) (K : PySem.W.Frag) (mg : Str → Option Value) (base : Heap) (x : Str) (k : Nat) (R : DR) : Prop where
  ex : ∃ (f : Addr) (fd : FuncData) (ps : List Str) (ds : List Value) (dvs : List V) (das : List PyData) (R' : DR), mg x = some (.ref f) ∧ PySem.W.keepIn K (.ref f) = true ∧ Binds K fd ps ds ∧ Vals dvs ds ∧
    (∀ F, DpAll K F dvs das) ∧ FnG P w K mg base (L2.CX P w) k f fd ps (SpD K R') ∧ ∀ xs μ Pk Ex, R xs μ Pk Ex → R' (xs ++ das.map A.d) μ Pk Ex
structure CalK (P : Program) (w : World) (K : PySem.W.Frag) (mg : Str → Option Value) (base : Heap) (x : Str) (k : Nat) (ks : List Str) (R : DR) : Prop where
  ex : ∃ (f : Addr) (fd : FuncData) (ps : List Str) (π : List Nat) (R' : DR), mg x = some (.ref f) ∧ PySem.W.keepIn K (.ref f) = true ∧ BindsK fd ps ks π ∧
    FnG P w K mg base (L2.CX P w) k f fd ps (SpD K R') ∧ ∀ xs μ Pk Ex, xs.length = ks.length → R xs μ Pk Ex → R' (perm (.d .none) π xs) μ Pk Ex
theorem CalG.mono {P : Program} {w : World} {K : PySem.W.Frag} {mg : Str → Option Value} {base : Heap} {x : Str} {j k : Nat} {R : DR} (C : CalG P w K mg base x j R) (h : j ≤ k) : CalG P w K mg base x k R := by
  obtain ⟨f, fd, ps, ds, dvs, das, R', h1, h2, h3, h4, h5, F, h6⟩ := C.ex
  exact ⟨f, fd, ps, ds, dvs, das, R', h1, h2, h3, h4, h5, F.mono h, h6⟩
theorem passNo {X : Cx} : ∀ σ : L2.St, PassesAt (L2.CX X.prog X.w) X σ ((fun _ => E0) σ) := fun σ pins H s e s' I z => passL pins σ H s e s' I z
theorem map_up_d (sel : List Nat) (m : Nat) (ds : List PyData) : (ds.map A.d).map (upA sel m) = ds.map A.d := by
  rw [List.map_map]
  rfl
theorem FR.add {R R' : DR} {das : List PyData} (h : ∀ xs μ Pk Ex, R xs μ Pk Ex → R' (xs ++ das.map A.d) μ Pk Ex) {xs : List A} {μ : Mu} {P : DK} {Ex : DX} (q : FR R xs μ P Ex) : FR R' (xs ++ das.map A.d) μ P Ex := by
  obtain ⟨sel, zs, ν, p, rfl, old, r⟩ := q
  refine ⟨sel, zs ++ das.map A.d, ν, p, by rw [List.map_append, map_up_d], fun z hz => ?_, h _ _ _ _ r⟩
  rcases List.mem_append.mp hz with hz | hz
  · exact old z hz
  · obtain ⟨d, _, rfl⟩ := List.mem_map.mp hz
    trivial
theorem perm_map {α β : Type} {f : α → β} {d : α} {d' : β} (hd : f d = d') (π : List Nat) (xs : List α) : perm d' π (xs.map f) = (perm d π xs).map f := by
  unfold perm
  rw [List.map_map]
  refine List.map_congr_left fun i _ => ?_
  show (xs.map f).getD i d' = f (xs.getD i d)
  rw [List.getD_eq_getElem?_getD, List.getD_eq_getElem?_getD, List.getElem?_map]
  cases xs[i]? with
  | none => exact hd.symm
  | some x => rfl
theorem FR.perm {R R' : DR} {π : List Nat} {n : Nat} (h : ∀ xs μ Pk Ex, xs.length = n → R xs μ Pk Ex → R' (Dl.perm (.d .none) π xs) μ Pk Ex) {xs : List A} {μ : Mu} {P : DK} {Ex : DX} (hl : xs.length = n) (q : FR R xs μ P Ex) : FR R' (Dl.perm (.d .none) π xs) μ P Ex := by
  obtain ⟨sel, zs, ν, p, rfl, old, r⟩ := q
  refine ⟨sel, Dl.perm (.d .none) π zs, ν, p, perm_map (f := upA sel μ.length) (d := .d .none) (d' := .d .none) rfl π zs, fun z hz => ?_, h _ _ _ _ (by rw [List.length_map] at hl; exact hl) r⟩
  obtain ⟨i, _, rfl⟩ := List.mem_map.mp hz
  show oldA _ (zs.getD i (.d .none))
  rw [List.getD_eq_getElem?_getD]
  cases e : zs[i]? with
  | none => trivial
  | some x => exact old x (List.mem_of_getElem? e)
section
variable {X : Cx} {W : WX} {k : Nat} {R : DR} {x : Str} {p pos spos : Pos} {e : Expr} {es : List Expr} {da : DAT} {ks : List Str} {kws : List Keyword}
theorem d_calG (C : CalG X.prog X.w X.K X.mg X.base x k R) (g : Calm0 X.A) (hr : Room k X.A) (ha : DA X (e :: es) da) (gl : Gl X x := by rfl)
    (db : (x == ("__debug__" : Str)) = false := by decide) (se : starEach (e :: es) X.env = (false, eval e X.env) :: starEach es X.env := by rfl) (sp0 : (backTo pos (starEach es X.env)).any (·.1) = false := by rfl) : DE X (.Call (.Name x p) (e :: es) [] pos) (dFn (FR R) da) := by
  obtain ⟨f, fd, ps, ds, dvs, das, R', mx, kp, b, dv, dd, F, im⟩ := C.ex
  obtain ⟨_, p2, s2⟩ := ha.ex
  refine ⟨_, pe_callG F g hr gl mx kp b dv passNo p2 db se sp0, fun ρ μ P h Fh al σ H S L Q kk => ?_⟩
  refine s2 ρ μ _ h Fh al σ H S L _ fun vs xs μ1 F1 al1 H1 q g1 S1 a => ?_
  exact frame_imp _ _ _ _ ⟨xs ++ das.map A.d, μ1, P, noX, F1, al1, S1, Paired.app a (DpAll.to (dd F1)), FR.add im q, kk.fwd g1, fun C o μ' F' al' H' d h => h.elim⟩
structure DKw (X : Cx) (kws : List Keyword) (d : DAT) : Prop where
  ex : ∃ t, PK X kws t ∧ SimA X.K t d
theorem dk_nil : DKw X [] daNil := ⟨_, pk_nil, sim_nil⟩
theorem dk_cons {nm : Option Str} {kp : Pos} {de : DT} (h1 : DE X e de) (h2 : DKw X kws da) : DKw X (⟨nm, e, kp⟩ :: kws) (daCons de da) := by
  obtain ⟨_, p1, s1⟩ := h1.ex
  obtain ⟨_, p2, s2⟩ := h2.ex
  exact ⟨_, pk_cons p1 p2, sim_cons s1 s2⟩
abbrev dFnK (n : Nat) (R : DR) (da : DAT) : DT := fun ρ μ P => da ρ μ fun xs μ1 => xs.length = n ∧ R xs μ1 P noX
theorem d_calK (C : CalK X.prog X.w X.K X.mg X.base x k ks R) (g : Calm0 X.A) (hr : Room k X.A) (ha : DKw X kws da) (gl : Gl X x := by rfl) (hl : kws.length = ks.length := by rfl)
    (all : (backToKw pos (keywordEach kws X.env)).all (·.1.isSome) = true := by rfl) (nam : (backToKw pos (keywordEach kws X.env)).filterMap (·.1) = ks := by rfl)
    (db : (x == ("__debug__" : Str)) = false := by decide) (sp0 : ((backTo pos (starEach [] X.env)).any (·.1) || (backToKw pos (keywordEach kws X.env)).any (·.1.isNone)) = false := by rfl) : DE X (.Call (.Name x p) [] kws pos) (dFnK ks.length (FR R) da) := by
  obtain ⟨f, fd, ps, π, R', mx, kp, b, F, im⟩ := C.ex
  obtain ⟨_, p2, s2⟩ := ha.ex
  refine ⟨_, pe_callGK F g hr gl mx kp b passNo p2 hl all nam db sp0, fun ρ μ P h Fh al σ H S L Q kk => ?_⟩
  refine s2 ρ μ _ h Fh al σ H S L _ fun vs xs μ1 F1 al1 H1 q g1 S1 a => ?_
  exact ⟨by rw [pair_len a]; exact q.1, frame_imp _ _ _ _ ⟨perm (.d .none) π xs, μ1, P, noX, F1, al1, S1, perm_ab π a, FR.perm im q.1 q.2, kk.fwd g1, fun C o μ' F' al' H' d h => h.elim⟩⟩
end
/-! ### the def's rule, over data -/
theorem cal_ofG {P : Program} {w : World} {K : PySem.W.Frag} {mg : Str → Option Value} {base : Heap} {x : Str} {st : Stmt} {ps N : List Str} {k : Nat} {R : DR} {f : Addr} {fd : FuncData} (F : FunV K x x st f fd) (sc : FnScope N ps (defScope st))
    (ln : ∀ xs μ Pk Ex, R xs μ Pk Ex → xs.length = ps.length)
    (bd : ∀ (cd : Value) (A : Around) (ou : List Env) (s : Shared) (H : Hp) (E : XK) (W : WX), Calm0 (A.deeper (envOfC x (defScope st) s.heap.objs.size f cd)) → Room k (A.deeper (envOfC x (defScope st) s.heap.objs.size f cd)) →
      Takes (cxOf (L2.CX P w) P w K mg base N x (defScope st) f cd A ou s H E) W →
      PassesOwn (model P w) (A.deeper (envOfC x (defScope st) s.heap.objs.size f cd)) (envOfC x (defScope st) s.heap.objs.size f cd) (cxOf (L2.CX P w) P w K mg base N x (defScope st) f cd A ou s H E).xe →
      ∃ d, DSs (cxOf (L2.CX P w) P w K mg base N x (defScope st) f cd A ou s H E) W (defBody st) d ∧ ∀ xs μ Pk Ex, Old μ.length μ → R xs μ Pk Ex →
        d { nx := fun _ μ' => RetD μ.length Pk (.d .none) μ', rt := RetD μ.length Pk, ex := OutD μ.length Ex } (startR N xs) μ) : FnG P w K mg base (L2.CX P w) (k + 1) f fd ps (SpD K R) := by
  refine fg_body F sc (fun vs H Q E h => ?_) (fun cd A ou s H vs Q E g hr h => ?_)
  · obtain ⟨xs, μ, Pk, Ex, Fh, al, S, a, r, _⟩ := h
    rw [pair_len a]
    exact ln _ _ _ _ r
  · obtain ⟨xs, μ, Pk, Ex, Fh, al, S, a, r, kk, kx⟩ := h
    obtain ⟨d, hd, q⟩ := bd cd A ou s H E (fun cls d _ H' => E cls d H') g hr (takes_of rfl rfl rfl rfl) (passes_of rfl)
    obtain ⟨t, pt, sm⟩ := hd.ex
    refine ⟨t, pt, sm _ μ _ (q xs μ Pk Ex S.old r) Fh al _ H S (slots_start a) _ ⟨fun ρ' μ' F' al' σ' H' h g S' _ => ?_, kk.ret S, fun _ _ _ _ _ _ z => z.elim, fun _ _ _ _ _ _ z => z.elim, fun C o ρ' μ' F' al' σ' H' dd h g S' _ xo => ?_⟩⟩
    · exact kk.ret S .non (.d .none) μ' F' al' H' h g S' .non
    · obtain ⟨μ'', rm, h⟩ := h
      obtain ⟨F'', al'', g2, S2, sf, _⟩ := grow_ret S g S' rm
      exact kx C o μ'' F'' al'' H' dd h g2 S2 (xo.mono sf)
end Dl

set_option Elab.async false
set_option linter.all false
set_option maxRecDepth 100000
set_option maxHeartbeats 4000000
namespace Dl
open PySem PySem.Spec PyProof.Rows L2
/-! ### what is never come to -/
section
variable {X : Cx} {W : WX} {st : Stmt} {rest : List Stmt} {e : Expr}
abbrev dsNo : DS := fun _ _ _ => False
theorem ds_no : DSt X W st dsNo := ⟨fun _ _ _ => False, ⟨fun _ _ _ _ _ _ h => h.elim⟩, fun _ _ _ h => h.elim⟩
/-! ### a list cell that is never changed again becomes data -/
def dsFrz (i : Nat) (d : DS) : DS := fun D ρ μ => ∃ n ds, ρ[i]? = some (some (.c n)) ∧ μ[n]? = some (.lst (ds.map A.d)) ∧ d D (ρ.set i (some (.d (.list ds)))) (μ.set n .dead)
theorem frz_sto {K : PySem.W.Frag} {F : Hp} {al : List Addr} {μ : Mu} {H : Hp} {n : Nat} {ds : List PyData} {a : Addr} (S : Sto K F al μ H) (ea : al[n]? = some a) (h : μ[n]? = some (.lst (ds.map A.d))) :
    ∃ F', Sto K F' al (μ.set n .dead) H ∧ Grow F al H F' al H ∧ Dp K F' (.ref a) (.list ds) := by
  obtain ⟨b, vs, eb, hb, r⟩ := cell_lst S h
  rw [ea] at eb
  obtain rfl := Option.some.inj eb
  obtain ⟨ho, h1, h2⟩ := S.cell n a _ ea h
  have fa : F a = none := (h2 (fun z => nomatch z)).1
  have sf : Same F (upd F a (.lst vs)) := fun c u e => by
    rw [upd_ne (ne_of_none e fa)]
    exact e
  refine ⟨upd F a (.lst vs), ⟨fun c u e => ?_, S.nd, by rw [List.length_set]; exact S.len, fun j c u e1 e2 => ?_⟩, ⟨sf, List.prefix_refl _, fun _ _ e _ => e, fun _ m => .inl m, fun c u e => ?_⟩, .lst (.inl (.inl upd_same)) (DpAll.mono sf (DpAll.of r))⟩
  · by_cases z : c = a
    · subst z
      rw [upd_same] at e
      rw [← e]
      exact hb
    · rw [upd_ne z] at e
      exact S.sub _ _ e
  · by_cases z : j = n
    · subst z
      rw [List.getElem?_set_self (List.getElem?_eq_some_iff.mp h).1] at e2
      obtain rfl := Option.some.inj e2
      rw [ea] at e1
      obtain rfl := Option.some.inj e1
      exact ⟨_, hb, fun nd => absurd rfl nd⟩
    · rw [List.getElem?_set_ne (Ne.symm z)] at e2
      obtain ⟨w, w1, w2⟩ := S.cell j c u e1 e2
      have nc : c ≠ a := fun e => by
        subst e
        exact z (nd_ix S.nd e1 ea)
      exact ⟨w, w1, fun nd => ⟨by rw [upd_ne nc]; exact (w2 nd).1, (w2 nd).2.mono sf (List.prefix_refl _)⟩⟩
  · by_cases z : c = a
    · subst z
      exact .inr (.inr (List.mem_of_getElem? ea))
    · rw [upd_ne z] at e
      exact .inl e
theorem dss_frz {i : Nat} {d : DS} (h : DSs X W rest d) : DSs X W rest (dsFrz i d) := by
  obtain ⟨t, p, s⟩ := h.ex
  refine ⟨t, p, fun ρ μ D q F al σ H S L E k => ?_⟩
  obtain ⟨n, ds, e1, e2, q⟩ := q
  obtain ⟨v, e3, a, ea, rfl⟩ := L.at_ i _ e1
  obtain ⟨F', S', g, dd⟩ := frz_sto S ea e2
  have L' := g.slots L
  refine s _ _ D q F' al σ H S' ⟨by rw [List.length_set]; exact L'.len, fun j x ej => ?_⟩ E (k.fwd g)
  by_cases z : j = i
  · subst z
    rw [List.getElem?_set_self (List.getElem?_eq_some_iff.mp e1).1] at ej
    obtain rfl := Option.some.inj (Option.some.inj ej)
    exact ⟨_, e3, dd⟩
  · rw [List.getElem?_set_ne (Ne.symm z)] at ej
    exact L'.at_ j x ej
end
/-! ### dicts -/
def valA (ks : List (Key × A)) (k : Key) : Option A := (ks.find? fun p => decide (p.1 = k)).map (·.2)
def putA (ks : List (Key × A)) (k : Key) (x : A) : List (Key × A) := if (ks.any fun p => decide (p.1 = k)) = true then ks.map (fun p => if p.1 = k then (p.1, x) else p) else ks ++ [(k, x)]
def kD : Key → A
  | .inl i => .d (.int i)
  | .inr s => .d (.str s)
def kP : Key → PyData
  | .inl i => .int i
  | .inr s => .str s
theorem kD_kP (k : Key) : kD k = .d (kP k) := by cases k <;> rfl
section
variable {K : PySem.W.Frag} {F F' : Hp} {al al' : List Addr} {H H' : Hp} {μ : Mu}
abbrev KPr (K : PySem.W.Frag) (F : Hp) (al : List Addr) (kvs : List (Key × V)) (ks : List (Key × A)) : Prop := Paired (fun (p : Key × V) (q : Key × A) => p.1 = q.1 ∧ Ab K F al p.2 q.2) kvs ks
theorem kD_ab {v : V} {k : Key} (h : Ab K F al v (kD k)) : v = kV k := by
  cases k with
  | inl i => exact dp_int h
  | inr s => exact dp_str h
theorem kp_val {kvs : List (Key × V)} {ks : List (Key × A)} (h : KPr K F al kvs ks) (k : Key) : (valV kvs k = none ∧ valA ks k = none) ∨ ∃ v x, valV kvs k = some v ∧ valA ks k = some x ∧ Ab K F al v x := by
  induction h with
  | nil => exact .inl ⟨rfl, rfl⟩
  | @cons p q ps qs hp _ ih =>
    by_cases e : p.1 = k
    · refine .inr ⟨p.2, q.2, valV_pos e, ?_, hp.2⟩
      unfold valA
      rw [List.find?_cons, decide_eq_true (show q.1 = k by rw [← hp.1]; exact e)]
      rfl
    · have e' : ¬ q.1 = k := by rw [← hp.1]; exact e
      have r1 : valV (p :: ps) k = valV ps k := valV_neg e
      have r2 : valA (q :: qs) k = valA qs k := by
        unfold valA
        rw [List.find?_cons, decide_eq_false e']
      rw [r1, r2]
      exact ih
theorem kp_any {kvs : List (Key × V)} {ks : List (Key × A)} (h : KPr K F al kvs ks) (k : Key) : (kvs.any fun p => decide (p.1 = k)) = ks.any fun p => decide (p.1 = k) := by
  induction h with
  | nil => rfl
  | cons hp _ ih => rw [List.any_cons, List.any_cons, ih, hp.1]
theorem Paired.map2 {α β γ δ : Type} {R : α → β → Prop} {R' : γ → δ → Prop} {f : α → γ} {g : β → δ} (h : ∀ a b, R a b → R' (f a) (g b)) : ∀ {l : List α} {m : List β}, Paired R l m → Paired R' (l.map f) (m.map g)
  | _, _, .nil => .nil
  | _, _, .cons a b => .cons (h _ _ a) (Paired.map2 h b)
theorem kp_put {kvs : List (Key × V)} {ks : List (Key × A)} (h : KPr K F al kvs ks) (k : Key) {v : V} {x : A} (a : Ab K F al v x) : KPr K F al (putK kvs k v) (putA ks k x) := by
  unfold putK putA
  rw [kp_any h k]
  split
  · refine Paired.map2 (fun p q hp => ?_) h
    by_cases e : q.1 = k
    · have e' : p.1 = k := by rw [hp.1]; exact e
      simp only [if_pos e, if_pos e']
      exact ⟨hp.1, a⟩
    · have e' : ¬ p.1 = k := by rw [hp.1]; exact e
      simp only [if_neg e, if_neg e']
      exact hp
  · exact Paired.app h (.cons ⟨rfl, a⟩ .nil)
def mergeA (ks more : List (Key × A)) : List (Key × A) := more.foldl (fun acc p => putA acc p.1 p.2) ks
theorem kp_merge {more : List (Key × V)} {moreA : List (Key × A)} (h : KPr K F al more moreA) : ∀ {kvs : List (Key × V)} {ks : List (Key × A)}, KPr K F al kvs ks → KPr K F al (mergeK kvs more) (mergeA ks moreA) := by
  unfold mergeK mergeA
  induction h with
  | nil => intro kvs ks q; exact q
  | @cons p q ps qs hp _ ih =>
    intro kvs ks r
    rw [List.foldl_cons, List.foldl_cons]
    refine ih ?_
    rw [hp.1]
    exact kp_put r _ hp.2
theorem cell_dct (S : Sto K F al μ H) {i : Nat} {ks : List (Key × A)} (h : μ[i]? = some (.dct ks)) : ∃ a kvs, al[i]? = some a ∧ H a = some (.dK kvs) ∧ KPr K F al kvs ks := by
  have lt : i < al.length := by
    rw [S.len]
    exact (List.getElem?_eq_some_iff.mp h).1
  obtain ⟨ho, h1, h2⟩ := S.cell i _ _ (List.getElem?_eq_getElem lt) h
  have h3 := (h2 (fun e => nomatch e)).2
  cases ho with
  | dK kvs => exact ⟨_, kvs, List.getElem?_eq_getElem lt, h1, h3⟩
  | _ => exact h3.elim
theorem ab_cell {v : V} {n : Nat} (h : Ab K F al v (.c n)) : ∃ a, al[n]? = some a ∧ v = .ref a := h
theorem dct_at (S : Sto K F al μ H) {v : V} {n : Nat} {ks : List (Key × A)} (h : Ab K F al v (.c n)) (e : μ[n]? = some (.dct ks)) : ∃ a kvs, v = .ref a ∧ al[n]? = some a ∧ H a = some (.dK kvs) ∧ KPr K F al kvs ks := by
  obtain ⟨a, ea, rfl⟩ := h
  obtain ⟨b, kvs, eb, hb, r⟩ := cell_dct S e
  rw [ea] at eb
  obtain rfl := Option.some.inj eb
  exact ⟨a, kvs, rfl, ea, hb, r⟩
/-- an address that was made meanwhile becomes a cell -/
theorem Sto.adopt {F2 : Hp} {al2 : List Addr} {H2 : Hp} {D : Addr} {ho : HO} {o : O} (S : Sto K F2 al2 μ H2) (g : Grow F al H F2 al2 H2) (hD : H D = none) (f2 : F2 D = none) (n2 : D ∉ al2) (ab : AbO K F2 al2 ho o) :
    Sto K F2 (al2 ++ [D]) (μ ++ [o]) (upd H2 D ho) ∧ Grow F al H F2 (al2 ++ [D]) (upd H2 D ho) := by
  have px : al2 <+: al2 ++ [D] := ⟨[D], rfl⟩
  have nd : ∀ {b}, b ∈ al2 → b ≠ D := fun h e => n2 (by rw [← e]; exact h)
  refine ⟨⟨fun b u e => ?_, ?_, by rw [List.length_append, List.length_append, S.len] <;> rfl, fun i a u e1 e2 => ?_⟩, ⟨g.f, List.IsPrefix.trans g.px px, fun b u e n => ?_, fun a h => ?_, g.fz⟩⟩
  · rw [upd_ne (ne_of_none e f2)]
    exact S.sub _ _ e
  · rw [List.nodup_append]
    refine ⟨S.nd, by simp, fun a ha b hb e => ?_⟩
    rw [List.mem_singleton] at hb
    subst hb e
    exact n2 ha
  · rcases Nat.lt_or_ge i al2.length with lt | ge
    · rw [List.getElem?_append_left lt] at e1
      rw [List.getElem?_append_left (by rw [← S.len]; exact lt)] at e2
      obtain ⟨w, h1, h2⟩ := S.cell i a u e1 e2
      exact ⟨w, by rw [upd_ne (nd (List.mem_of_getElem? e1))]; exact h1, fun k => ⟨(h2 k).1, (h2 k).2.mono (Same.refl _) px⟩⟩
    · rw [List.getElem?_append_right ge] at e1
      rw [List.getElem?_append_right (by rw [← S.len]; exact ge)] at e2
      have z : i - al2.length = 0 := by
        have := (List.getElem?_eq_some_iff.mp e1).1
        simp at this
        omega
      rw [z] at e1
      rw [← S.len, z] at e2
      obtain rfl : D = a := Option.some.inj e1
      obtain rfl : o = u := Option.some.inj e2
      exact ⟨ho, upd_same, fun _ => ⟨f2, ab.mono (Same.refl _) px⟩⟩
  · rw [upd_ne (ne_of_none e hD)]
    exact g.fr b u e n
  · rcases List.mem_append.mp h with z | z
    · exact g.nw a z
    · rw [List.mem_singleton] at z
      subst z
      exact .inr hD
theorem free_both (S : Sto K F al μ H) {D : Addr} (h : H D = none) : F D = none ∧ D ∉ al := by
  refine ⟨?_, fun m => ?_⟩
  · cases e : F D with
    | none => rfl
    | some u =>
      rw [S.sub _ _ e] at h
      cases h
  · obtain ⟨u, e⟩ := S.has m
    rw [e] at h
    cases h
/-- an address that is not ours stays as it is -/
theorem stays {F2 F3 : Hp} {al2 al3 : List Addr} {H2 H3 : Hp} {D : Addr} {ho : HO} (g : Grow F2 al2 H2 F3 al3 H3) (f2 : F2 D = none) (n2 : D ∉ al2) (d2 : H2 D = some ho) : F3 D = none ∧ D ∉ al3 ∧ H3 D = some ho := by
  have nD3 : D ∉ al3 := fun z => by
    rcases g.nw D z with q | q
    · exact n2 q
    · rw [d2] at q
      cases q
  refine ⟨?_, nD3, g.fr _ _ d2 n2⟩
  cases e : F3 D with
  | none => rfl
  | some u =>
    rcases g.fz D u e with q | q | q
    · rw [f2] at q
      cases q
    · rw [d2] at q
      cases q
    · exact absurd q n2
end
/-! ### rules of dicts -/
section
variable {X : Cx} {o i e value : Expr} {pos pos' tpos apos cpos : Pos} {dd dk dv : DT} {W : WX}
abbrev dDGet (dd dk : DT) : DT := fun ρ μ P => dd ρ μ fun x μ1 => dk ρ μ1 fun y μ2 => ∃ n ks k v, x = .c n ∧ μ2[n]? = some (.dct ks) ∧ y = kD k ∧ valA ks k = some v ∧ P v μ2
theorem d_dget (hu : X.A.units + 64 < cLine) (ho : DE X o dd) (hi : DE X i dk) (hs : NoSl i := by exact fun _ _ => rfl) : DE X (.Subscript o i pos) (dDGet dd dk) := by
  obtain ⟨_, p1, s1⟩ := ho.ex
  obtain ⟨_, p2, s2⟩ := hi.ex
  refine ⟨_, pe_dget (by omega) p1 p2 hs, fun ρ μ P h F al σ H S L Q kk => ?_⟩
  refine s1 ρ μ _ h F al σ H S L _ fun u x μ1 F1 al1 H1 q1 g1 S1 a1 => ?_
  refine s2 ρ μ1 _ q1 F1 al1 σ H1 S1 (g1.slots L) _ fun u2 y μ2 F2 al2 H2 q2 g2 S2 a2 => ?_
  obtain ⟨n, ks, k, x', rfl, en, rfl, ev, q⟩ := q2
  obtain ⟨a, kvs, rfl, ea, hb, r⟩ := dct_at S2 (g2.ab a1) en
  rcases kp_val r k with ⟨_, z⟩ | ⟨v, x, e1, e2, ab⟩
  · rw [ev] at z
    cases z
  · rw [ev] at e2
    obtain rfl := Option.some.inj e2
    exact ⟨a, v, rfl, .inl ⟨kvs, k, .inl hb, kD_ab a2, e1.symm⟩, (kk.fwd (g1.trans g2)).now q S2 ab⟩
abbrev dDIn (neg : Bool) (dk dd : DT) : DT := fun ρ μ P => dk ρ μ fun y μ1 => dd ρ μ1 fun x μ2 => ∃ n ks k, x = .c n ∧ μ2[n]? = some (.dct ks) ∧ y = kD k ∧ P (.d (.bool (neg ^^ (valA ks k).isSome))) μ2
theorem some_eq {K : PySem.W.Frag} {F : Hp} {al : List Addr} {kvs : List (Key × V)} {ks : List (Key × A)} (h : KPr K F al kvs ks) (k : Key) : (valV kvs k).isSome = (valA ks k).isSome := by
  rcases kp_val h k with ⟨e1, e2⟩ | ⟨v, x, e1, e2, _⟩
  · rw [e1, e2]
    rfl
  · rw [e1, e2]
    rfl
theorem d_din (hu : X.A.units + 64 < cLine) (hi : DE X i dk) (ho : DE X o dd) (hm : behindInMarks .In o = false := by rfl) : DE X (.Compare i [.In] [o] pos) (dDIn false dk dd) := by
  obtain ⟨_, p1, s1⟩ := hi.ex
  obtain ⟨_, p2, s2⟩ := ho.ex
  refine ⟨_, pe_cmp (pc_din (by omega) p1 p2) hm, fun ρ μ P h F al σ H S L Q kk => ?_⟩
  refine s1 ρ μ _ h F al σ H S L _ fun u y μ1 F1 al1 H1 q1 g1 S1 a1 => ?_
  refine s2 ρ μ1 _ q1 F1 al1 σ H1 S1 (g1.slots L) _ fun u2 x μ2 F2 al2 H2 q2 g2 S2 a2 => ?_
  obtain ⟨n, ks, k, rfl, en, rfl, q⟩ := q2
  obtain ⟨a, kvs, rfl, ea, hb, r⟩ := dct_at S2 a2 en
  refine ⟨a, _, rfl, .inl ⟨kvs, k, .inl hb, kD_ab (g2.ab a1), rfl⟩, (kk.fwd (g1.trans g2)).now q S2 ?_⟩
  rw [some_eq r, Bool.false_xor]
  exact .bl _
theorem d_dnotin (hu : X.A.units + 64 < cLine) (hi : DE X i dk) (ho : DE X o dd) (hm : behindInMarks .NotIn o = false := by rfl) : DE X (.Compare i [.NotIn] [o] pos) (dDIn true dk dd) := by
  obtain ⟨_, p1, s1⟩ := hi.ex
  obtain ⟨_, p2, s2⟩ := ho.ex
  refine ⟨_, pe_cmp (pc_dnotin (by omega) p1 p2) hm, fun ρ μ P h F al σ H S L Q kk => ?_⟩
  refine s1 ρ μ _ h F al σ H S L _ fun u y μ1 F1 al1 H1 q1 g1 S1 a1 => ?_
  refine s2 ρ μ1 _ q1 F1 al1 σ H1 S1 (g1.slots L) _ fun u2 x μ2 F2 al2 H2 q2 g2 S2 a2 => ?_
  obtain ⟨n, ks, k, rfl, en, rfl, q⟩ := q2
  obtain ⟨a, kvs, rfl, ea, hb, r⟩ := dct_at S2 a2 en
  refine ⟨a, _, rfl, .inl ⟨kvs, k, .inl hb, kD_ab (g2.ab a1), rfl⟩, (kk.fwd (g1.trans g2)).now q S2 ?_⟩
  rw [some_eq r, Bool.true_xor]
  exact .bl _
abbrev dDGet1 (dd dk : DT) : DT := fun ρ μ P => dd ρ μ fun x μ1 => ∃ n, x = .c n ∧ (∃ ks, μ1[n]? = some (.dct ks)) ∧ dk ρ μ1 fun y μ2 => ∃ ks k, μ2[n]? = some (.dct ks) ∧ y = kD k ∧ P ((valA ks k).getD (.d .none)) μ2
theorem d_dget1 (hu : X.A.units + 64 < cLine) (ho : DE X o dd) (he : DE X e dk) (m : M1 X o "get" apos e cpos := by exact ⟨rfl, rfl, rfl, rfl⟩) : DE X (.Call (.Attribute o "get" apos) [e] [] cpos) (dDGet1 dd dk) := by
  obtain ⟨_, p1, s1⟩ := ho.ex
  obtain ⟨_, p2, s2⟩ := he.ex
  refine ⟨_, pe_dget1 (by omega) p1 p2 m, fun ρ μ P h F al σ H S L Q kk => ?_⟩
  refine s1 ρ μ _ h F al σ H S L _ fun u x μ1 F1 al1 H1 q1 g1 S1 a1 => ?_
  obtain ⟨n, rfl, ⟨ks0, e0⟩, q1⟩ := q1
  obtain ⟨a, kvs0, rfl, ea, hb0, r0⟩ := dct_at S1 a1 e0
  refine ⟨a, rfl, .inl ⟨kvs0, .inl hb0⟩, ?_⟩
  refine s2 ρ μ1 _ q1 F1 al1 σ H1 S1 (g1.slots L) _ fun u2 y μ2 F2 al2 H2 q2 g2 S2 a2 => ?_
  obtain ⟨ks, k, en, rfl, q⟩ := q2
  obtain ⟨a', kvs, e', ea', hb, r⟩ := dct_at S2 (g2.ab (v := .ref a) (x := .c n) ⟨a, ea, rfl⟩) en
  cases e'
  refine ⟨_, .inl ⟨kvs, k, .inl hb, kD_ab a2, rfl⟩, (kk.fwd (g1.trans g2)).now q S2 ?_⟩
  rcases kp_val r k with ⟨e1, e2⟩ | ⟨v, x, e1, e2, ab⟩
  · rw [e1, e2]
    exact .non
  · rw [e1, e2]
    exact ab
abbrev dsDPut (dd dk dv : DT) : DS := fun D ρ μ => dv ρ μ fun v μ1 => dd ρ μ1 fun x μ2 => dk ρ μ2 fun y μ3 => ∃ n ks k, x = .c n ∧ μ3[n]? = some (.dct ks) ∧ y = kD k ∧ ks.length < sizeLine ∧ D.nx ρ (μ3.set n (.dct (putA ks k v)))
theorem ds_dput (hu : X.A.units + 64 < cLine) (ho : DE X o dd) (hi : DE X i dk) (hv : DE X value dv) (hs : swapsWith value (some (.Subscript o i pos')) pos.line X.env = pure false := by rfl) : DSt X W (.Assign [.Subscript o i pos'] value pos) (dsDPut dd dk dv) := by
  obtain ⟨_, p1, s1⟩ := ho.ex
  obtain ⟨_, p2, s2⟩ := hi.ex
  obtain ⟨_, p3, s3⟩ := hv.ex
  refine ⟨_, ps_dput (by omega) p1 p2 p3 hs, fun ρ μ D h F al σ H S L E kk => ?_⟩
  refine s3 ρ μ _ h F al σ H S L _ fun v x0 μ1 F1 al1 H1 q1 g1 S1 a1 => ?_
  refine s1 ρ μ1 _ q1 F1 al1 σ H1 S1 (g1.slots L) _ fun u x μ2 F2 al2 H2 q2 g2 S2 a2 => ?_
  refine s2 ρ μ2 _ q2 F2 al2 σ H2 S2 ((g1.trans g2).slots L) _ fun u2 y μ3 F3 al3 H3 q3 g3 S3 a3 => ?_
  obtain ⟨n, ks, k, rfl, en, rfl, hl, q⟩ := q3
  obtain ⟨a, kvs, rfl, ea, hb, r⟩ := dct_at S3 (g3.ab a2) en
  have r2 := kp_put r k (g3.ab (g2.ab a1))
  obtain ⟨S4, g4⟩ := S3.put ea en (fun z => nomatch z) (ho := .dK (putK kvs k v)) (o' := .dct (putA ks k x0)) r2
  have gg := ((g1.trans g2).trans g3).trans g4
  refine ⟨a, _, rfl, .inl ⟨kvs, k, hb, kD_ab a3, by rw [pair_len r]; exact hl, rfl⟩, kk.nx ρ _ F3 al3 σ _ q gg S4 (gg.slots L)⟩
/-- {k: v} -/
abbrev dDisp1 (dk dv : DT) : DT := fun ρ μ P => dk ρ μ fun y μ1 => dv ρ μ1 fun x μ2 => ∃ k, y = kD k ∧ P (.c μ2.length) (μ2 ++ [.dct [(k, x)]])
theorem d_disp1 {ke ve : Expr} (hk : DE X ke dk) (hv : DE X ve dv) : DE X (.Dict [some ke] [ve] pos) (dDisp1 dk dv) := by
  obtain ⟨_, p1, s1⟩ := hk.ex
  obtain ⟨_, p2, s2⟩ := hv.ex
  refine ⟨_, pe_disp (pps_cons p1 p2 pps_nil) rfl rfl (by simp) (by show 1 ≤ 15; decide), fun ρ μ P h F al σ H S L Q kk D hD => ?_⟩
  obtain ⟨fD, nD⟩ := free_both S hD
  refine s1 ρ μ _ h F al σ _ (S.free fD nD (.dK [])) L _ fun u y μ1 F1 al1 H1 q1 g1 S1 a1 => ?_
  obtain ⟨f1, n1, d1⟩ := stays g1 fD nD upd_same
  refine s2 ρ μ1 _ q1 F1 al1 σ H1 S1 (g1.slots L) _ fun u2 x μ2 F2 al2 H2 q2 g2 S2 a2 => ?_
  obtain ⟨f2, n2, d2⟩ := stays g2 f1 n1 d1
  obtain ⟨k, rfl, q⟩ := q2
  have ek := kD_ab (g2.ab a1)
  subst ek
  refine ⟨d2, [(k, u2)], rfl, by show 1 ≤ 15; decide, ?_⟩
  have g0 : Grow F al H F al (upd H D (.dK [])) := Grow.refl.free hD _
  have m1 : mergeK [] [(k, u2)] = [(k, u2)] := rfl
  rw [m1]
  obtain ⟨S3, g3⟩ := S2.adopt (ho := .dK [(k, u2)]) (o := .dct [(k, x)]) (g0.trans (g1.trans g2)) hD f2 n2 (.cons ⟨rfl, a2⟩ .nil)
  refine kk (.ref D) (.c μ2.length) _ F2 _ _ q g3 S3 ⟨D, ?_, rfl⟩
  rw [← S2.len, List.getElem?_append_right (Nat.le_refl _), Nat.sub_self]
  rfl
end
end Dl

set_option Elab.async false
set_option linter.all false
set_option maxRecDepth 100000
set_option maxHeartbeats 4000000
namespace Dl
open PySem PySem.Spec PyProof.Rows L2
/-! ### {elt for ..}, elt a text or a number: how many there are -/
abbrev SKO (P : Program) (w : World) (D : Addr) (S : Key → Bool) (n : Nat) : HO := SetK P w D S n
section
variable {X : Cx}
def tSk (P : Program) (w : World) (wi : TI) (g : TG) (tt : TT) (te : TE) (vs : List Nat) : TE := fun σ H Q => wi σ H fun J H1 => ∀ D, H1 D = none → ∃ W : Nat → Nat → Hp → Prop, (∃ m, W 0 m (upd H1 D (SKO P w D (fun _ => false) 0))) ∧
  ∀ i m H, W i m H → (J.stop i H ∧ Q (.ref D) H) ∨ (J.go i H ∧ ∃ Nx : Hp → Prop, (∀ H', Nx H' → ∃ m', m' < m ∧ W (i + 1) m' H') ∧ ∀ x H', J.yld i H x H' → g x (wipe σ vs) H' fun σ2 H2 => wipe σ2 vs = wipe σ vs ∧ tt σ2 H2 fun b H3 =>
    if b = true then te σ2 H3 fun y H4 => ∃ (k : Key) (S : Key → Bool) (n : Nat), y = kV k ∧ H4 D = some (SKO P w D S n) ∧ n + 1 < scanBound ∧ Nx (upd H4 D (SKO P w D (fun j => S j || decide (j = k)) (if S k = true then n else n + 1))) else Nx H3)
theorem add_key {pins : List (Addr × Obj)} {σ : L2.St} {H : Hp} {s : Shared} {E : Value → Shared → Prop} {D : Addr} {S : Key → Bool} {n : Nat} {k : Key} {u : Value} {Q : Value → Shared → Prop} (I : Inv X pins σ H s) (hD : H D = some (SKO X.prog X.w D S n)) (room : n + 1 < scanBound) (ru : RelV (kV k) u)
    (q : ∀ v s', Inv X pins σ (upd H D (SKO X.prog X.w D (fun j => S j || decide (j = k)) (if S k = true then n else n + 1))) s' → Q v s') : wpAny (model X.prog X.w) X.A (call (.builtin "set.add") [.ref D, u]) Q E s := by
  refine call_set_add (kV_is ru) (key_scan ru) (setK_get I hD) room fun h' same new => ?_
  have got : ∃ o, h'.get? D = some o := by
    obtain ⟨o, _, _, _, e, _⟩ := new
    exact ⟨o, e⟩
  exact q _ _ (I.write (t' := s.toks + 1) (e := D) (by rw [hD]; trivial) (.inl rfl) (fun b o hb ho => (same.2 b hb).trans ho) got (setK_new new))
theorem sk_rule {elt tg iter : Expr} {ifs : List Expr} {scope : Scope} {own : List (Str × Nat)} {pos : Pos} {wi : TI} {g : TG} {tt : TT} {te : TE} (calm : X.calm = true) (nodup : X.N.Nodup) (it : PI X tg iter wi) (bok : BlkOk X.N X.env.scope scope own)
    (bg : Blk X scope fun Y => PG Y tg g) (bt : Blk X scope fun Y => PTs Y ifs tt) (be : Blk X scope fun Y => PE Y elt te) (fold : ∀ x, foldedSetIterable iter X.env x = pure x := by intro _; rfl) :
    PE X (.SetComp elt [⟨tg, iter, ifs, 0⟩] scope pos) (tSk X.prog X.w wi g tt te (own.map (·.2))) := by
  constructor
  intro pins s σ H Q I h
  rw [PpSet.eval_SetComp]
  have cells : ∀ y ∈ scope.names, y.2 = .free → ∃ c, X.env.cells.lookup y.1 = some c := by
    intro y hy e
    rcases bok.free y hy e with z | z
    · exact I.ok.has _ (.inl z)
    · exact I.ok.has _ (.inr z)
  refine wpAny_comprehension_free (use := none) rfl fold (closure_ok cells) bok.kind (fun y hy e => by rw [bok.uniq y hy, e]) ?_
  refine thn (it.run pins s σ H _ I h) fun xv sa ha => thn ha fun itv sb hb => ?_
  obtain ⟨ia, fp, tn, J, Hb, rfl, Ib, T, stb, fpb, q⟩ := hb
  refine PpSet.newSet_ok (newEnv_comp ?_)
  have noD : Hb sb.heap.objs.size = none := Ib.hok.fresh (Nat.le_refl _)
  obtain ⟨W, ⟨m0, w0⟩, turn⟩ := q sb.heap.objs.size noD
  let oD : Obj := { cls := .type "set", dict := none, data := .set #[] 0 (.fresh 0 0 (!X.w.params.followText "set-order")) }
  have fresh : (sb.heap.push oD).SetOf (mixKind X.prog X.w) sb.heap.objs.size (fun _ => false) 0 :=
    ⟨_, #[], 0, _, Heap.get?_push_size _ rfl, ⟨rfl, rfl, rfl⟩, rfl, (fun e he => by simp at he), (fun k => by simp), (by decide), (by rfl), rfl⟩
  generalize eD : sb.heap.objs.size = D at noD turn w0 fresh ⊢
  have Ic : Inv X pins σ (upd Hb D (SKO X.prog X.w D (fun _ => false) 0)) { sb with heap := sb.heap.push oD } :=
    Ib.laid (t' := sb.toks) (fun b o e => Heap.get?_push_of_some _ e) (Nat.le_of_eq eD) (setK_new fresh)
  generalize hsc : ({ sb with heap := sb.heap.push oD } : Shared) = sc at Ic
  have heapc : sc.heap = sb.heap.push oD := by rw [← hsc]
  have below : ∀ b ∈ fp, b < sb.heap.objs.size := by
    intro b hb
    obtain ⟨o, e, _⟩ := T.obj _ _ stb b hb
    exact Heap.lt_size e
  have fpc : ∀ b ∈ fp, FpOk X pins (upd Hb D (SKO X.prog X.w D (fun _ => false) 0)) b ∧ b < sc.heap.objs.size := by
    intro b hb
    have lt := below b hb
    have ne : b ≠ D := by rw [← eD]; exact Nat.ne_of_lt lt
    refine ⟨⟨by rw [upd_ne ne]; exact (fpb b hb).1, (fpb b hb).2⟩, ?_⟩
    rw [heapc, Heap.size_push]
    exact Nat.lt_succ_of_lt lt
  have stc : tn 0 sc.heap := T.keep _ _ _ stb fun b _ o e => by rw [heapc]; exact Heap.get?_push_of_some _ e
  have Id := block_start Ic bok nodup fpc
  generalize hHc : upd Hb D (SKO X.prog X.w D (fun _ => false) 0) = Hc at Ic Id fpc w0
  have rg := bg sc Hc sc.heap.objs.size (cellsFrom (sc.heap.objs.size + 1) scope.names (cloFrom X.env.cells scope.names [])) fp
  have rt := bt sc Hc sc.heap.objs.size (cellsFrom (sc.heap.objs.size + 1) scope.names (cloFrom X.env.cells scope.names [])) fp
  have re := be sc Hc sc.heap.objs.size (cellsFrom (sc.heap.objs.size + 1) scope.names (cloFrom X.env.cells scope.names [])) fp
  have goal : ∀ cenv : Env, cenv = compEnvC scope (cellsFrom (sc.heap.objs.size + 1) scope.names (cloFrom X.env.cells scope.names [])) sc.heap.objs.size X.env →
      codeAny (model X.prog X.w) X.A (.compStart (.SetComp elt [⟨tg, iter, ifs, 0⟩] scope pos) 0 (.ref ia) (.ref D) cenv) (compPost (model X.prog X.w) X.A X.xe none (EP X pins σ Q) (.ref D) sc.heap.objs.size) { sc with heap := pushCells (sc.heap.push { cls := .type "dict", data := .dict #[] }) scope.names } := by
    intro cenv ce
    rw [← ce] at Id rg rt re
    have loc : cenv.locals = sc.heap.objs.size := by rw [ce]; rfl
    have none_ : ∀ b ∈ fp, Hc b = none := fun b hb => (fpc b hb).1.1
    generalize hsd : ({ sc with heap := pushCells (sc.heap.push { cls := .type "dict", data := .dict #[] }) scope.names } : Shared) = sd at Id ⊢
    have std : tn 0 sd.heap := T.keep _ _ _ stc fun b _ o e => by rw [← hsd]; exact pushCells_keeps _ _ _ _ (Heap.get?_push_of_some _ e)
    have still : ∀ {σ' : L2.St} {H' : Hp} {s' : Shared}, Inv (X.blk sc Hc scope cenv fp) [] σ' H' s' → (∀ b ∈ fp, H' b = none) → ∀ b ∈ fp, FpOk (X.blk sc Hc scope cenv fp) [] H' b := by
      intro σ' H' s' J' hn b hb
      exact ⟨hn b hb, (J'.ok.exf b hb).1, J'.ok.exfs b hb, .inl hb, fun y c e => (J'.ok.exf b hb).2 y c e, fun pp hp => by cases hp⟩
    have loop : codeAny (model X.prog X.w) X.A (.compLoop (.SetComp elt [⟨tg, iter, ifs, 0⟩] scope pos) 0 (.ref ia) (.ref D) cenv) (compPost (model X.prog X.w) X.A X.xe none (EP X pins σ Q) (.ref D) sc.heap.objs.size) sd := by
      refine PpSet.compLoopS_any (fun n s' => ∃ i H', Inv (X.blk sc Hc scope cenv fp) [] (wipe σ (own.map (·.2))) H' s' ∧ tn i s'.heap ∧ (∀ b ∈ fp, H' b = none) ∧ W i n H') ?_ m0 ⟨0, Hc, Id, std, none_, w0⟩
      rintro n se ⟨i, He, Ie, ste, nne, we⟩
      rcases turn i n He we with ⟨stop, qq⟩ | ⟨go, Nx, hNx, step⟩
      · refine thnF (T.done (X.blk sc Hc scope cenv fp) rfl rfl rfl calm i [] se _ He (fun _ _ => False) Ie (still Ie nne) ste stop) fun r sf ⟨hr, If⟩ => ?_
        subst hr
        have Ig : Inv X pins σ He sf := Ic.call' (ch := fp) If.os If.base If.hok If.bare fun b hb => ⟨(fpc b hb).1.2.2.2.1, (fpc b hb).1.2.1, (fpc b hb).1.2.2.2.2.1, (fpc b hb).1.2.2.2.2.2⟩
        have noL : He sc.heap.objs.size = none := by rw [← loc]; exact If.free
        obtain ⟨mm, hmm, _⟩ := If.loc
        have hmm' : sf.heap.Ns sc.heap.objs.size mm := by rw [← loc]; exact hmm
        obtain ⟨f0, f1, f2, f3, f4, f5⟩ := Ic.fpOk (Nat.le_refl _) noL
        refine ⟨mm, hmm', fun h'' sb2 => ⟨.ref D, He, Ig.turned (t' := sf.toks) (fun b o hb e => (sb2.2 b hb).trans e) f0 f1 f3 f4 f5, rfl, qq⟩⟩
      · refine thnF (T.item (X.blk sc Hc scope cenv fp) rfl rfl rfl calm i [] se _ He (fun _ _ => False) Ie (still Ie nne) ste go) fun r sf ⟨u, hr, hf⟩ => ?_
        subst hr
        refine thnF hf fun _ sg ⟨xx, Hg, Ig, rg2, yg, stg, nng⟩ => ?_
        have Ip := Ig.pinned (still Ig nng) (T.obj _ _ stg)
        refine thnF (rg.run _ sg _ Hg xx u _ Ip rg2 (step xx Hg yg)) fun _ sh ⟨σh, Hh, Ih, eh, qh⟩ => ?_
        refine thnF (rt.run _ sh σh Hh _ Ih qh) fun b si ⟨Hi, Ii, qi⟩ => ?_
        have back : ∀ {s' : Shared} {H' : Hp}, Inv (X.blk sc Hc scope cenv fp) ([] ++ pinsAt fp sg.heap) σh H' s' → Nx H' →
            ∃ m, m < n ∧ ∃ i H', Inv (X.blk sc Hc scope cenv fp) [] (wipe σ (own.map (·.2))) H' s' ∧ tn i s'.heap ∧ (∀ b ∈ fp, H' b = none) ∧ W i m H' := by
          intro s' H' J' nx
          obtain ⟨m', lt, w'⟩ := hNx H' nx
          have pinned : ∀ b ∈ fp, ∀ o, sg.heap.get? b = some o → s'.heap.get? b = some o ∧ H' b = none := by
            intro b hb o e
            have z := J'.pin (b, o) (List.mem_append_right _ (List.mem_append_right _ (mem_pinsAt hb e)))
            exact ⟨z.1, z.2.1⟩
          have ln : (wipe σ (own.map (·.2))).length = σh.length := by rw [← eh, wipe_length]
          refine ⟨m', lt, i + 1, H', (J'.unpinned (pins := [])).weak ln (fun j v e => ?_), T.keep _ _ _ stg fun b hb o e => (pinned b hb o e).1, fun b hb => ?_, w'⟩
          · rw [← eh] at e
            exact (wipe_some e).1
          · obtain ⟨o, e, _⟩ := T.obj _ _ stg b hb
            exact (pinned b hb o e).2
        cases b with
        | false =>
          simp only [Bool.false_eq_true, if_false] at qi ⊢
          exact back Ii qi
        | true =>
          simp only [if_true] at qi ⊢
          refine thnF (re.run _ si σh Hi _ Ii qi) fun z sj ⟨yv, Hj, Ij, rj, k, S, c, ek, hDj, roomj, nx⟩ => ?_
          subst ek
          exact add_key (X := X.blk sc Hc scope cenv fp) Ij hDj roomj rj fun _ sk Ik => back Ik nx
    exact PpSet.codeAny_compStart_set loop (T.self X.A 0 _ _ _ std loop)
  exact goal _ rfl
end
end Dl

set_option Elab.async false
set_option linter.all false
set_option maxRecDepth 100000
set_option maxHeartbeats 4000000
namespace Dl
open PySem PySem.Spec PyProof.Rows L2
/-! ### set(items): how many unlike ones -/
instance (priority := high) decMem (k : Key) (l : List Key) : Decidable (k ∈ l) := decidable_of_iff (l.any (fun j => decide (j = k)) = true) (by rw [List.any_eq_true]; exact ⟨fun ⟨x, h, e⟩ => by rw [← of_decide_eq_true e]; exact h, fun h => ⟨k, h, decide_eq_true rfl⟩⟩)
theorem setOf_cong {prog : Program} {w : World} {h : Heap} {a : Addr} {S S' : Key → Bool} {n n' : Nat} (x : h.SetOf (mixKind prog w) a S n) (e : ∀ k, S k = S' k) (en : n = n') : h.SetOf (mixKind prog w) a S' n' := by
  obtain rfl : S = S' := funext e
  subst en
  exact x
def ddk (l : List Key) : List Key := l.foldl (fun acc k => if k ∈ acc then acc else acc ++ [k]) []
theorem ddk_snoc (l : List Key) (k : Key) : ddk (l ++ [k]) = if k ∈ ddk l then ddk l else ddk l ++ [k] := by
  unfold ddk
  rw [List.foldl_append]
  rfl
theorem ddk_aux : ∀ (n : Nat) (l : List Key), l.length = n → (∀ k, k ∈ ddk l ↔ k ∈ l) ∧ (ddk l).Nodup ∧ (ddk l).length ≤ l.length
  | 0, l, h => by
    obtain rfl := List.length_eq_zero_iff.mp h
    exact ⟨fun k => Iff.rfl, List.nodup_nil, Nat.le_refl _⟩
  | n + 1, l, h => by
    have ne : l ≠ [] := fun e => by rw [e] at h; cases h
    rw [← List.dropLast_concat_getLast ne] at h ⊢
    generalize l.dropLast = m at h ⊢
    generalize l.getLast ne = k at h ⊢
    obtain ⟨i1, i2, i3⟩ := ddk_aux n m (by simpa using h)
    rw [ddk_snoc]
    by_cases z : k ∈ ddk m
    · rw [if_pos z]
      refine ⟨fun j => ?_, i2, by rw [List.length_append]; exact Nat.le_trans i3 (Nat.le_add_right _ _)⟩
      rw [i1 j, List.mem_append, List.mem_singleton]
      exact ⟨.inl, fun q => q.elim id fun e => by rw [e]; exact (i1 k).mp z⟩
    · rw [if_neg z]
      refine ⟨fun j => by rw [List.mem_append, List.mem_append, i1 j], ?_, by rw [List.length_append, List.length_append]; exact Nat.add_le_add_right i3 _⟩
      rw [List.nodup_append]
      refine ⟨i2, by simp, fun a ha b hb e => ?_⟩
      rw [List.mem_singleton] at hb
      subst hb e
      exact z ha
theorem ddk_mem {l : List Key} {k : Key} : k ∈ ddk l ↔ k ∈ l := (ddk_aux _ l rfl).1 k
theorem ddk_le (l : List Key) : (ddk l).length ≤ l.length := (ddk_aux _ l rfl).2.2
theorem ddk_nodup : ∀ {l : List Key}, l.Nodup → ddk l = l := fun {l} h => by
  induction hn : l.length generalizing l with
  | zero =>
    obtain rfl := List.length_eq_zero_iff.mp hn
    rfl
  | succ n ih =>
    have ne : l ≠ [] := fun e => by rw [e] at hn; cases hn
    rw [← List.dropLast_concat_getLast ne] at h hn ⊢
    generalize l.dropLast = m at h hn ⊢
    generalize l.getLast ne = k at h hn ⊢
    obtain ⟨h1, _, h3⟩ := List.nodup_append.mp h
    have e := ih h1 (by simpa using hn)
    rw [ddk_snoc, e, if_neg (fun z => h3 k z k (by simp) rfl)]
theorem ddk_full {l : List Key} (h : (ddk l).length = l.length) : l.Nodup := by
  induction hn : l.length generalizing l with
  | zero =>
    obtain rfl := List.length_eq_zero_iff.mp hn
    exact List.nodup_nil
  | succ n ih =>
    have ne : l ≠ [] := fun e => by rw [e] at hn; cases hn
    rw [← List.dropLast_concat_getLast ne] at h hn ⊢
    generalize l.dropLast = m at h hn ⊢
    generalize l.getLast ne = k at h hn ⊢
    rw [ddk_snoc] at h
    by_cases z : k ∈ ddk m
    · rw [if_pos z, List.length_append] at h
      have := ddk_le m
      have : ([k] : List Key).length = 1 := rfl
      omega
    · rw [if_neg z, List.length_append, List.length_append] at h
      have nm := ih (Nat.add_right_cancel h) (by simpa using hn)
      rw [List.nodup_append]
      refine ⟨nm, by simp, fun a ha b hb e => ?_⟩
      rw [List.mem_singleton] at hb
      subst hb e
      exact z (ddk_mem.mpr ha)
theorem vals_get {ks : List Key} {us : List Value} (r : Vals (ks.map kV) us) : ∀ (i : Nat) (v : Value), us[i]? = some v → ∃ k, ks[i]? = some k ∧ RelV (kV k) v := by
  generalize e : ks.map kV = vs at r
  induction r generalizing ks with
  | nil => intro i v h; simp at h
  | cons a b ih =>
    cases ks with
    | nil => cases e
    | cons k ks =>
      obtain ⟨rfl, e2⟩ := List.cons.inj e
      intro i v h
      cases i with
      | zero =>
        obtain rfl := Option.some.inj h
        exact ⟨k, rfl, a⟩
      | succ i => exact ih e2 i v h
section
variable {prog : Program} {w : World} {A : Around} {R : Result → Shared → Prop} {I : Addr} {fp wr : List Addr} {G : Array GenState → Array GenState → Prop} {n : Nat} {P : Nat → Value → Prop} {St : Nat → Shared → Prop}
theorem loop_keys (W : WalksS prog w A.in1 I fp wr G n P St) (S : Addr) (out : S ∉ fp) (ks : List Key) (full : ks.length = n) (few : n + 1 < scanBound) (val : ∀ i v, P i v → ∃ k, ks[i]? = some k ∧ RelV (kV k) v) :
    ∀ (m i : Nat) (s : Shared), n - i = m → i ≤ n → St i s → s.heap.SetOf (mixKind prog w) S (fun j => decide (j ∈ ddk (ks.take i))) (ddk (ks.take i)).length →
      (∀ s', Moved (S :: wr) G s s' → s'.heap.SetOf (mixKind prog w) S (fun j => decide (j ∈ ddk ks)) (ddk ks).length → R (.ok (.ret .none)) s') → codeAny (model prog w) A (.builtin "set.update.loop" ⟨[.ref S, .ref I], []⟩) R s := by
  have Swr : S ∉ wr := fun h => out (W.sub _ h)
  have wider : ∀ b ∈ wr, b ∈ S :: wr := fun b hb => List.mem_cons_of_mem _ hb
  intro m
  induction m with
  | zero =>
    intro i s hk hi st set fin
    obtain rfl : i = n := by omega
    refine codeAny_builtin PyProof.Rows.F.entry_set_update_loop ?_; rw [Around.under_plainId PyProof.Rows.F.plain_set_update_loop _]; show wpAny _ A.in1 (pyNext (.ref I) >>= _) _ _ s
    refine wpAny_bind (W.done s _ _ st fun s' mv => ?_)
    show wpAny _ A.in1 (ret Value.none) _ _ s'; refine wpAny_pure (fin s' (mv.mono wider) ?_)
    rw [List.take_of_length_le (Nat.le_of_eq full)] at set
    obtain ⟨o, es, ep, t, ho, more⟩ := set
    exact ⟨o, es, ep, t, mv.heap S _ Swr ho, more⟩
  | succ m ih =>
    intro i s hk hi st set fin
    have lt : i < n := by omega
    refine codeAny_builtin PyProof.Rows.F.entry_set_update_loop ?_; rw [Around.under_plainId PyProof.Rows.F.plain_set_update_loop _]; show wpAny _ A.in1 (pyNext (.ref I) >>= _) _ _ s
    refine wpAny_bind (W.item i s _ _ lt st fun v s' hP st' mv => ?_)
    obtain ⟨k, ek, rk⟩ := val i v hP
    have set' : s'.heap.SetOf (mixKind prog w) S (fun j => decide (j ∈ ddk (ks.take i))) (ddk (ks.take i)).length := by
      obtain ⟨o, es, ep, tb, ho, more⟩ := set
      exact ⟨o, es, ep, tb, mv.heap S _ Swr ho, more⟩
    show wpAny _ A.in1 (holding [v] (setAdd S v) >>= _) _ _ s'
    refine wpAny_bind (wpAny_holding ?_); unfold setAdd; refine wpAny_holding ?_
    refine wpAny_bind ((mixKind prog w).pyHash (kV_is rk) ?_)
    have small : (ddk (ks.take i)).length + 1 < scanBound := by
      have a := ddk_le (ks.take i)
      rw [List.length_take] at a
      omega
    refine wpAny_setAddHashed_of (knd := mixKind prog w) (s := { s' with toks := s'.toks + 1 }) (kV_is rk) (key_scan rk) set' small fun h' same set2 => ?_
    have tk : ks.take (i + 1) = ks.take i ++ [k] := by rw [List.take_add_one, ek]; rfl
    have set3 : h'.SetOf (mixKind prog w) S (fun j => decide (j ∈ ddk (ks.take (i + 1)))) (ddk (ks.take (i + 1))).length := by
      rw [tk, ddk_snoc]
      by_cases z : k ∈ ddk (ks.take i)
      · rw [if_pos z]
        refine setOf_cong set2 (fun j => ?_) (by rw [if_pos (decide_eq_true z)])
        by_cases e : j = k
        · subst e
          rw [decide_eq_true z]
          rfl
        · rw [decide_eq_false e, Bool.or_false]
      · rw [if_neg z]
        refine setOf_cong set2 (fun j => ?_) (by rw [if_neg (fun q => z (of_decide_eq_true q)), List.length_append]; rfl)
        rw [← Bool.decide_or]
        exact decide_eq_decide.mpr (by rw [List.mem_append, List.mem_singleton])
    refine wpAny_pure ⟨plainId_quiet PyProof.Rows.F.plain_set_update_loop _, ih (i + 1) _ (by omega) lt (W.frame _ s' _ _ st' (Nat.le_succ _) fun b hb o e => ?_) set3 fun s2 mv2 set4 => fin s2 (Moved.trans W.gtrans ((mv.mono wider).then_heap (Nat.le_succ _) fun b o hb e => ?_) mv2) set4⟩
    · exact (same.2 b (fun z => out (by rw [← z]; exact hb))).trans e
    · exact (same.2 b (fun z => hb (by rw [z]; exact List.mem_cons_self))).trans e
end
section
variable {prog : Program} {w : World} {A : Around} {E : Value → Shared → Prop} {s : Shared}
set_option maxHeartbeats 6400000 in
theorem call_set_tupK {l : Addr} {its : Array Value} {ks : List Key} {Q : Value → Shared → Prop} (hd : A.handled = none) (tup : s.heap.IsTuple l its) (rel : Vals (ks.map kV) its.toList) (few : its.size + 1 < scanBound)
    (q : ∀ (h' : Heap) (tk : Nat), h'.SetOf (mixKind prog w) s.heap.objs.size (fun j => decide (j ∈ ddk ks)) (ddk ks).length → (∀ b o, b < s.heap.objs.size → s.heap.get? b = some o → h'.get? b = some o) → Q (.ref s.heap.objs.size) { s with heap := h', toks := tk }) :
    wpAny (model prog w) A (call (.type "set") [.ref l]) Q E s := by
  obtain ⟨c, tl, hmro⟩ := PySem.F.called_set.mro; have hmade := PySem.F.called_set.made; have hsub := PySem.F.called_set.sub
  refine wpAny_call (codeAny_of_tree ?_); show wpAny _ _ (callAny (.type "set") _) _ _ _
  refine wpAny_pure ⟨Code.quiet_builtin _ (by decide +kernel), codeAny_builtin PySem.F.entry_type_call ?_⟩; rw [Around.under_plain (weight_type_call_type "set" [.ref l] []) rfl]
  have h1 := PySem.F.called_set.notType; have h2 := PySem.F.called_set.canCreate; have hct := PySem.F.typeCall_set_1 (.ref l)
  repeat (any_goals (first | assumption | wp_step))
  let ob : Bool → Obj := fun led => { cls := .type "set", dict := none, data := .set #[] 0 (.fresh 0 0 led) }
  refine codeAny_mono (code_set_new_1 (.ref l) (E := E) (Q₁ := fun y z => ∃ led : Bool, y = .ref s.heap.objs.size ∧ z = { s with heap := s.heap.push (ob led) }) fun led => ⟨led, rfl, rfl⟩) fun r z hr => ?_
  cases r with
  | error e => exact hr
  | ok fl =>
    cases fl with
    | ret y =>
      obtain ⟨led, rfl, rfl⟩ := hr
      have gS : (s.heap.push (ob led)).get? s.heap.objs.size = some (ob led) := Heap.get?_push_size _ rfl
      have hT : Shared.TypeIs { s with heap := s.heap.push (ob led) } (.ref s.heap.objs.size) "set" := ⟨_, gS, rfl⟩
      have hli := PySem.F.called_set.init.lookup; have hbi := PySem.F.called_set.init.bind (.ref s.heap.objs.size)
      repeat (any_goals (first | assumption | wp_step))
      refine codeAny_mono (codeAny_call_builtin (R := wants (fun r z2 => r = .none ∧ ∃ h' tk, z2 = { s with heap := h', toks := tk } ∧ h'.SetOf (mixKind prog w) s.heap.objs.size (fun j => decide (j ∈ ddk ks)) (ddk ks).length ∧
          (∀ b o, b < s.heap.objs.size → s.heap.get? b = some o → h'.get? b = some o)) E) PySem.F.called_set.init.plain PySem.F.entry_set_init (check_set_init_1 hT ?_)) fun r₂ z₂ hr₂ => ?_
      · obtain ⟨ol, hol, hcl, nl, hdl⟩ := tup
        obtain ⟨ocls, odict, odata, oslots⟩ := ol
        simp only at hcl hdl; subst hcl; subst hdl
        have hol' : (s.heap.push (ob led)).get? l = some { cls := .type "tuple", dict := odict, data := .seq its nl, slots := oslots } := Heap.get?_push_of_some _ hol
        have hsls := PySem.F.sub_tuple_set; have hslf := PySem.F.sub_tuple_frozenset; have hne : (Value.type "tuple" == Value.type "dict") = false := by decide
        have tup1 : (s.heap.push (ob led)).IsTuple l its := ⟨_, hol', rfl, nl, rfl⟩
        unfold Builtin.«set.__init__» noKeywords Builtin.Frozenset.updateFrom; generalize hPI : pyIter = PI; wp_walk; subst hPI
        refine wpAny_pyIter_tuple tup1 ?_; refine wpAny_bind (wpAny_runValue ?_)
        have lS : l < s.heap.objs.size := Heap.lt_size hol
        have hd3 : A.in1.in1.in1.handled = none := by simp [hd]
        have neI : l ≠ (s.heap.push (ob led)).objs.size := by rw [Heap.size_push]; exact Nat.ne_of_lt (Nat.lt_succ_of_lt lS)
        have outS : s.heap.objs.size ∉ [(s.heap.push (ob led)).objs.size, l] := by
          rw [Heap.size_push]; simp only [List.mem_cons, List.mem_singleton, List.not_mem_nil, or_false, not_or]; exact ⟨Nat.ne_of_lt (Nat.lt_succ_self _), Nat.ne_of_gt lS⟩
        have full : ks.length = its.size := by rw [← Array.length_toList, ← rel.length, List.length_map]
        refine loop_keys ((Walks.tuple hd3 _ l neI its).toS) s.heap.objs.size outS ks full few (fun i v hv => vals_get rel i v (by rw [Array.getElem?_toList]; exact hv)) (its.size - 0) 0 _ (by omega) (Nat.zero_le _) ⟨⟨_, Heap.get?_push_size _ rfl, rfl, rfl⟩, (tup1.push _)⟩ ?h0 ?hR
        case h0 =>
          have got : ((s.heap.push (ob led)).push { cls := .type "tuple_iterator", data := .fields #[.ref l, .int 0 0] }).get? s.heap.objs.size = some (ob led) := Heap.get?_push_of_some _ gS
          exact setOf_cong (S := fun _ => false) (n := 0) ⟨_, #[], 0, _, got, ⟨rfl, rfl, rfl⟩, rfl, (fun e he => by simp at he), (fun k => by simp), (by decide), (by rfl), rfl⟩ (fun j => by rw [List.take_zero]; rfl) (by rw [List.take_zero]; rfl)
        case hR =>
          intro z2 mv set2
          obtain ⟨h', g', d', tk', os'⟩ := z2
          obtain rfl : g' = s.gens := mv.gens
          obtain rfl : d' = s.drawn := mv.drawn
          obtain rfl : os' = s.os := mv.os
          show wpAny _ _ _ _ _ _; refine wpAny_pure ?_; show wpAny _ _ (ret Value.none) _ _ _
          refine wpAny_pure ⟨rfl, h', tk', rfl, set2, fun b o hb e => ?_⟩
          refine mv.heap b o ?_ (Heap.get?_push_of_some _ (Heap.get?_push_of_some _ e))
          simp only [List.mem_cons, List.mem_singleton, List.not_mem_nil, or_false, not_or]
          exact ⟨Nat.ne_of_lt hb, by rw [Heap.size_push]; exact Nat.ne_of_lt (Nat.lt_succ_of_lt hb)⟩
      · cases r₂ with
        | error e => exact hr₂
        | ok fl₂ =>
          cases fl₂ with
          | ret r =>
            obtain ⟨rfl, h', tk, rfl, set2, keep⟩ := hr₂
            repeat (any_goals (first | assumption | wp_step))
            exact q _ _ set2 keep
          | _ => exact hr₂.elim
    | _ => exact hr.elim
end
end Dl

set_option Elab.async false
set_option linter.all false
set_option maxRecDepth 100000
set_option maxHeartbeats 4000000
namespace Dl
open PySem PySem.Spec PyProof.Rows L2
section
variable {X : Cx}
/-! ### len(set(t)) -/
def tLenK (K : PySem.W.Frag) (ta : TE) : TE := fun σ H Q => ta σ H fun x H1 => ∃ l, ∃ ks : List Key, x = .ref l ∧ SqT K H1 l (ks.map kV) ∧ ks.length + 1 < scanBound ∧ Q (.int (ddk ks).length) H1
theorem pe_lenK {a : Expr} {ta : TE} {p p2 q pos : Pos} (calm : X.calm = true) (m1 : X.mg "len" = none) (m2 : X.mg "set" = none) (ha : PE X a ta) (g1 : Gl X "len" := by rfl) (g2 : Gl X "set" := by rfl)
    (na : starEach [a] X.env = (false, eval a X.env) :: starEach [] X.env := by rfl) : PE X (.Call (.Name "len" p) [.Call (.Name "set" p2) [a] [] q] [] pos) (tLenK X.K ta) := by
  constructor
  intro pins s σ H Q I h
  refine Call_ (ld_blt I g1 m1 boot_len ?_); refine PyProof.Rows.callWith_builtin1 (PyProof.Rows.args_cons ?_ rfl) rfl rfl
  refine Call_ (ld_blt I g2 m2 boot_set ?_); refine PyProof.Rows.callWith_type1 (PyProof.Rows.args_cons (thn (ha.run pins s σ H _ I h) fun v s1 ⟨x, H1, I1, r1, q1⟩ => PyProof.Rows.args_nil ?_) na) na rfl
  obtain ⟨l, ks, rfl, sq, few, q1⟩ := q1
  cases r1
  obtain ⟨its, r, pl, hz⟩ := I1.tuple sq
  have ln : its.length = ks.length := by rw [← r.length, List.length_map]
  refine call_set_tupK (ks := ks) (I1.ok.hd calm) pl (by simpa using r) (by rw [List.size_toArray, ln]; exact few) fun h' tk set keep => ?_
  refine PyProof.Rows.args_nil ?_
  obtain ⟨o, es, ep, t, ho, hex, hd, _, _, _, hf, hn⟩ := set
  have I2 : Inv X pins σ H1 { s1 with heap := h', toks := tk } := I1.kept fun b o e => keep b o (Heap.lt_size e) e
  have small := ddk_le ks
  unfold scanBound at few
  refine call_len_set ho hex hd hf (by rw [hn]; omega) ⟨.int (ddk ks).length, H1, I2.tok _, ⟨_, by rw [hn]⟩, q1⟩
/-! ### len of a tracked set -/
def rLenSK (P : Program) (w : World) : List V → Hp → VK → Prop := fun xs H Q => ∃ (a : Addr) (S : Key → Bool) (n : Nat), xs = [.ref a] ∧ H a = some (SetK P w a S n) ∧ n < scanBound ∧ Q (.int n) H
theorem call_lenSK : CallR X (.builtin "len") (rLenSK X.prog X.w) := by
  intro pins s σ H xs us Q I r h
  obtain ⟨a, S, n, rfl, ha, few, q⟩ := h
  cases r with
  | cons r1 r2 =>
    cases r2
    cases r1
    obtain ⟨o, es, ep, t, ho, hex, hd, _, _, _, hf, hn⟩ := setK_get I ha
    unfold scanBound at few
    exact call_len_set ho hex hd hf (by rw [hn]; omega) ⟨.int n, H, I.tok _, ⟨_, by rw [hn]⟩, q⟩
end
abbrev dLenK (de : DT) : DT := fun ρ μ P => de ρ μ fun x μ1 => ∃ ks : List Key, x = .d (.tuple (ks.map kP)) ∧ ks.length + 1 < scanBound ∧ P (.d (.int (ddk ks).length)) μ1
theorem kV_dp {K : PySem.W.Frag} {F : Hp} : ∀ {vs : List V} {ks : List Key}, DpAll K F vs (ks.map kP) → vs = ks.map kV
  | [], [], _ => rfl
  | _ :: _, k :: ks, .cons a b => by
    rw [List.map_cons, ← kV_dp b]
    cases k with
    | inl i => rw [dp_int a]; rfl
    | inr s => rw [dp_str a]; rfl
section
variable {X : Cx} {a : Expr} {de : DT} {p p2 q pos : Pos} {tg iter elt ve : Expr} {ifs : List Expr} {di : DI} {dg : DG} {dt : DTT} {dk dv : DT} {vs : List Nat} {K : PySem.W.Frag} {P : Program} {w : World}
theorem d_lenK (calm : X.calm = true) (m1 : X.mg "len" = none) (m2 : X.mg "set" = none) (ha : DE X a de) (g1 : Gl X "len" := by rfl) (g2 : Gl X "set" := by rfl)
    (na : starEach [a] X.env = (false, eval a X.env) :: starEach [] X.env := by rfl) : DE X (.Call (.Name "len" p) [.Call (.Name "set" p2) [a] [] q] [] pos) (dLenK de) := by
  obtain ⟨_, p1, s1⟩ := ha.ex
  refine ⟨_, pe_lenK calm m1 m2 p1 g1 g2 na, fun ρ μ P h F al σ H S L Q kk => ?_⟩
  refine s1 ρ μ _ h F al σ H S L _ fun u x μ1 F1 al1 H1 q1 g1 S1 a1 => ?_
  obtain ⟨ks, rfl, few, q1⟩ := q1
  obtain ⟨l, vs, rfl, sq, dd⟩ := dp_tup a1
  obtain rfl := kV_dp dd
  exact ⟨l, ks, rfl, S1.seqT sq, few, (kk.fwd g1).now q1 S1 (.int _)⟩
/-! ### len({..}) -/
def skEnd (P : DK) (acc : List Key) (μ2 : Mu) : Prop := acc.length < scanBound ∧ P (.d (.int (ddk acc).length)) μ2
abbrev dLenSk (di : DI) (dg : DG) (dt : DTT) (de : DT) (vs : List Nat) : DT := fun ρ μ P => di ρ μ fun ys ok μ1 => ∃ Pv : Nat → List Key → Mu → Prop, Pv 0 [] μ1 ∧
  (∀ i y acc μ2, ys[i]? = some y → Pv i acc μ2 → ok μ2 ∧ dg y (wipeR ρ vs) μ2 fun ρ3 μ3 => dt ρ3 μ3 fun b μ4 => if b = true then de ρ3 μ4 fun z μ5 => ∃ k, z = kD k ∧ acc.length + 1 < scanBound ∧ Pv (i + 1) (acc ++ [k]) μ5 else Pv (i + 1) acc μ4) ∧
    ∀ acc μ2, Pv ys.length acc μ2 → ok μ2 ∧ skEnd P acc μ2
theorem sim_lenSk {wi : TI} {g : TG} {tt : TT} {te : TE} (hi : SimI K wi di) (hg : SimG K vs g dg) (ht : SimT K tt dt) (he : SimE K te de) : SimE K (tCB (rLenSK P w) (tCons (tSk P w wi g tt te vs) tNil)) (dLenSk di dg dt de vs) := by
  intro ρ μ Pk h F al σ H S L Q k
  refine hi ρ μ _ h F al σ H S L _ fun J ys ok μ1 F1 al1 H1 q g1 S1 j D hD => ?_
  obtain ⟨Pv, p0, step, last⟩ := q
  obtain ⟨fD, nD⟩ := free_both S1 hD
  have L1 := (g1.slots L).wipe vs
  let ob : List Key → HO := fun acc => SetK P w D (fun j => decide (j ∈ ddk acc)) (ddk acc).length
  have ob0 : SKO P w D (fun _ => false) 0 = ob [] := rfl
  have obs : ∀ acc kk, SKO P w D (fun j => decide (j ∈ ddk acc) || decide (j = kk)) (if decide (kk ∈ ddk acc) = true then (ddk acc).length else (ddk acc).length + 1) = ob (acc ++ [kk]) := fun acc kk => by
    show SetK P w D _ _ = SetK P w D (fun j => decide (j ∈ ddk (acc ++ [kk]))) (ddk (acc ++ [kk])).length
    rw [ddk_snoc]
    by_cases z : kk ∈ ddk acc
    · rw [if_pos z, if_pos (decide_eq_true z)]
      refine congrArg (fun f => SetK P w D f _) (funext fun y => ?_)
      by_cases e : y = kk
      · subst e
        rw [decide_eq_true z]
        rfl
      · rw [decide_eq_false e, Bool.or_false]
    · rw [if_neg z, if_neg (fun q => z (of_decide_eq_true q)), List.length_append]
      refine congrArg (fun f => SetK P w D f _) (funext fun y => ?_)
      rw [← Bool.decide_or]
      exact decide_eq_decide.mpr (by rw [List.mem_append, List.mem_singleton])
  refine ⟨fun i m H2 => m = ys.length - i ∧ i ≤ ys.length ∧ ∃ acc μ2 F2 al2, Pv i acc μ2 ∧ Grow F1 al1 H1 F2 al2 H2 ∧ Sto K F2 al2 μ2 H2 ∧ F2 D = none ∧ D ∉ al2 ∧ H2 D = some (ob acc),
    ⟨_, rfl, Nat.zero_le _, [], μ1, F1, al1, p0, Grow.refl.free hD _, S1.free fD nD _, fD, nD, upd_same⟩, ?_⟩
  rintro i m H2 ⟨rfl, hi, acc, μ2, F2, al2, pp, g2, S2, f2, n2, d2⟩
  by_cases lt : i < ys.length
  · have hy : ys[i]? = some ys[i] := List.getElem?_eq_getElem lt
    obtain ⟨o, st⟩ := step i _ acc μ2 hy pp
    obtain ⟨go, yl⟩ := j.go F2 al2 μ2 H2 i _ g2 S2 o hy
    refine .inr ⟨go, _, fun H' w => ⟨ys.length - (i + 1), by omega, w⟩, fun x H3 hx => ?_⟩
    obtain ⟨F3, g3, S3, a3⟩ := yl x H3 hx
    refine hg _ (wipeR ρ vs) μ2 _ st F3 al2 _ H3 x S3 ((g2.trans g3).slots L1) a3 _ fun ρ4 μ4 F4 al4 σ4 H4 q4 g4 S4 L4 hl ho => ?_
    refine ⟨wipe_same (hl.trans (wipe_length _ _)) ho, ?_⟩
    refine ht ρ4 μ4 _ q4 F4 al4 σ4 H4 S4 L4 _ fun b μ5 F5 al5 H5 q5 g5 S5 => ?_
    have g35 := (g3.trans g4).trans g5
    cases b with
    | true =>
      rw [if_pos rfl] at q5
      refine iteT ?_
      refine he ρ4 μ5 _ q5 F5 al5 σ4 H5 S5 (g5.slots L4) _ fun v z μ6 F6 al6 H6 q6 g6 S6 a6 => ?_
      have g36 := g35.trans g6
      obtain ⟨k1, k2, k3⟩ := stays g36 f2 n2 d2
      obtain ⟨kk, rfl, few, q6⟩ := q6
      have small := ddk_le acc
      refine ⟨kk, _, _, kD_ab a6, k3, by omega, rfl, lt, acc ++ [kk], μ6, F6, al6, q6, (g2.trans g36).free hD _, S6.free k1 k2 _, k1, k2, ?_⟩
      rw [upd_same]
      exact congrArg some (obs acc kk)
    | false =>
      rw [if_neg Bool.false_ne_true] at q5
      obtain ⟨k1, k2, k3⟩ := stays g35 f2 n2 d2
      exact iteF ⟨rfl, lt, acc, μ5, F5, al5, q5, g2.trans g35, S5, k1, k2, k3⟩
  · have e : i = ys.length := by omega
    subst e
    obtain ⟨o, few, hn⟩ := last acc μ2 pp
    have small := ddk_le acc
    exact .inl ⟨j.stop F2 al2 μ2 H2 g2 S2 o, D, _, _, rfl, d2, by omega, k _ _ μ2 F2 al2 H2 hn (g1.trans g2) S2 (.int _)⟩
theorem d_lenSk {scope : Scope} {own : List (Str × Nat)} (m1 : X.mg "len" = none) (hc : X.calm = true) (hN : X.N.Nodup) (hi : DIt X tg iter di) (ok : BlkOk X.N X.env.scope scope own)
    (hg : Blk X scope fun Y => DGt Y tg (own.map (·.2)) dg) (ht : Blk X scope fun Y => DTs Y ifs dt) (he : Blk X scope fun Y => DE Y elt de) (g1 : Gl X "len" := by rfl) (hs : ∀ x, foldedSetIterable iter X.env x = pure x := by intro _; rfl)
    (h1 : starEach [.SetComp elt [⟨tg, iter, ifs, 0⟩] scope p2] X.env = (false, eval (.SetComp elt [⟨tg, iter, ifs, 0⟩] scope p2) X.env) :: starEach [] X.env := by rfl) (h2 : (backTo pos (starEach [] X.env)).any (·.1) = false := by rfl) :
    DE X (.Call (.Name "len" p) [.SetComp elt [⟨tg, iter, ifs, 0⟩] scope p2] [] pos) (dLenSk di dg dt de (own.map (·.2))) := by
  obtain ⟨_, p1, s1⟩ := hi.ex
  have ps := sk_rule (g := tDG X.K (own.map (·.2)) dg) (tt := tDT X.K dt) (te := tD X.K de) (pos := p2) hc hN p1 ok (fun s H C cl fp => (hg s H C cl fp).pg) (fun s H C cl fp => (ht s H C cl fp).ex) (fun s H C cl fp => (he s H C cl fp).pe) hs
  exact ⟨_, pe_callB call_lenSK g1 m1 (by decide +kernel) (pa_cons ps pa_nil h1), sim_lenSk s1 sim_tDG sim_tDT sim_tD⟩
/-! ### {k: v for ..} -/
def dcEnd (P : DK) (acc : List (Key × A)) (μ2 : Mu) : Prop := P (.c μ2.length) (μ2 ++ [.dct acc])
abbrev dDc (di : DI) (dg : DG) (dt : DTT) (dk dv : DT) (vs : List Nat) : DT := fun ρ μ P => di ρ μ fun ys ok μ1 => ∃ Pv : Nat → List (Key × A) → Mu → Prop, Pv 0 [] μ1 ∧
  (∀ i y acc μ2, ys[i]? = some y → Pv i acc μ2 → ok μ2 ∧ dg y (wipeR ρ vs) μ2 fun ρ3 μ3 => dt ρ3 μ3 fun b μ4 => if b = true then dk ρ3 μ4 fun z μ5 => dv ρ3 μ5 fun u μ6 => ∃ k, z = kD k ∧ acc.length < sizeLine ∧ Pv (i + 1) (putA acc k u) μ6 else Pv (i + 1) acc μ4) ∧
    ∀ acc μ2, Pv ys.length acc μ2 → ok μ2 ∧ dcEnd P acc μ2
theorem sim_dc {wi : TI} {g : TG} {tt : TT} {tk tv : TE} (hi : SimI K wi di) (hg : SimG K vs g dg) (ht : SimT K tt dt) (hk : SimE K tk dk) (hv : SimE K tv dv) : SimE K (tDc wi g tt tk tv vs) (dDc di dg dt dk dv vs) := by
  intro ρ μ Pk h F al σ H S L Q k
  refine hi ρ μ _ h F al σ H S L _ fun J ys ok μ1 F1 al1 H1 q g1 S1 j D hD => ?_
  obtain ⟨Pv, p0, step, last⟩ := q
  obtain ⟨fD, nD⟩ := free_both S1 hD
  have L1 := (g1.slots L).wipe vs
  refine ⟨fun i m H2 => m = ys.length - i ∧ i ≤ ys.length ∧ ∃ acc μ2 F2 al2 kvs, Pv i acc μ2 ∧ Grow F1 al1 H1 F2 al2 H2 ∧ Sto K F2 al2 μ2 H2 ∧ F2 D = none ∧ D ∉ al2 ∧ H2 D = some (.dK kvs) ∧ KPr K F2 al2 kvs acc,
    ⟨_, rfl, Nat.zero_le _, [], μ1, F1, al1, [], p0, Grow.refl.free hD _, S1.free fD nD _, fD, nD, upd_same, .nil⟩, ?_⟩
  rintro i m H2 ⟨rfl, hi, acc, μ2, F2, al2, kvs, pp, g2, S2, f2, n2, d2, r2⟩
  have carry : ∀ {F' al' H'}, Grow F2 al2 H2 F' al' H' → KPr K F' al' kvs acc := fun {F' al' H'} g => Paired.impl (fun _ _ z => ⟨z.1, g.ab z.2⟩) r2
  by_cases lt : i < ys.length
  · have hy : ys[i]? = some ys[i] := List.getElem?_eq_getElem lt
    obtain ⟨o, st⟩ := step i _ acc μ2 hy pp
    obtain ⟨go, yl⟩ := j.go F2 al2 μ2 H2 i _ g2 S2 o hy
    refine .inr ⟨go, _, fun H' w => ⟨ys.length - (i + 1), by omega, w⟩, fun x H3 hx => ?_⟩
    obtain ⟨F3, g3, S3, a3⟩ := yl x H3 hx
    refine hg _ (wipeR ρ vs) μ2 _ st F3 al2 _ H3 x S3 ((g2.trans g3).slots L1) a3 _ fun ρ4 μ4 F4 al4 σ4 H4 q4 g4 S4 L4 hl ho => ?_
    refine ⟨wipe_same (hl.trans (wipe_length _ _)) ho, ?_⟩
    refine ht ρ4 μ4 _ q4 F4 al4 σ4 H4 S4 L4 _ fun b μ5 F5 al5 H5 q5 g5 S5 => ?_
    have g35 := (g3.trans g4).trans g5
    cases b with
    | true =>
      rw [if_pos rfl] at q5
      refine iteT ?_
      refine hk ρ4 μ5 _ q5 F5 al5 σ4 H5 S5 (g5.slots L4) _ fun v z μ6 F6 al6 H6 q6 g6 S6 a6 => ?_
      refine hv ρ4 μ6 _ q6 F6 al6 σ4 H6 S6 ((g5.trans g6).slots L4) _ fun v' u μ7 F7 al7 H7 q7 g7 S7 a7 => ?_
      have g37 := (g35.trans g6).trans g7
      obtain ⟨k1, k2, k3⟩ := stays g37 f2 n2 d2
      obtain ⟨kk, rfl, few, q7⟩ := q7
      have r3 := carry g37
      refine ⟨kvs, kk, kD_ab a6, k3, by rw [pair_len r3]; exact few, rfl, lt, putA acc kk u, μ7, F7, al7, putK kvs kk v', q7, (g2.trans g37).free hD _, S7.free k1 k2 _, k1, k2, upd_same, kp_put r3 kk a7⟩
    | false =>
      rw [if_neg Bool.false_ne_true] at q5
      obtain ⟨k1, k2, k3⟩ := stays g35 f2 n2 d2
      exact iteF ⟨rfl, lt, acc, μ5, F5, al5, kvs, q5, g2.trans g35, S5, k1, k2, k3, carry g35⟩
  · have e : i = ys.length := by omega
    subst e
    obtain ⟨o, hn⟩ := last acc μ2 pp
    have same : upd H2 D (.dK kvs) = H2 := by
      funext b
      by_cases z : b = D
      · rw [z, upd_same, d2]
      · rw [upd_ne z]
    obtain ⟨S3, g3⟩ := S2.adopt (ho := .dK kvs) (o := .dct acc) g2 hD f2 n2 r2
    rw [same] at S3 g3
    refine .inl ⟨j.stop F2 al2 μ2 H2 g2 S2 o, k (.ref D) (.c μ2.length) _ F2 _ H2 hn (g1.trans g3) S3 ⟨D, ?_, rfl⟩⟩
    rw [← S2.len, List.getElem?_append_right (Nat.le_refl _), Nat.sub_self]
    rfl
theorem d_dc {scope : Scope} {own : List (Str × Nat)} (hc : X.calm = true) (hN : X.N.Nodup) (hi : DIt X tg iter di) (ok : BlkOk X.N X.env.scope scope own)
    (hg : Blk X scope fun Y => DGt Y tg (own.map (·.2)) dg) (ht : Blk X scope fun Y => DTs Y ifs dt) (hk : Blk X scope fun Y => DE Y elt dk) (he : Blk X scope fun Y => DE Y ve dv) (hs : ∀ x, foldedSetIterable iter X.env x = pure x := by intro _; rfl) :
    DE X (.DictComp elt ve [⟨tg, iter, ifs, 0⟩] scope pos) (dDc di dg dt dk dv (own.map (·.2))) := by
  obtain ⟨_, p1, s1⟩ := hi.ex
  exact ⟨_, pe_dc hc hN p1 ok (fun s H C cl fp => (hg s H C cl fp).pg) (fun s H C cl fp => (ht s H C cl fp).ex) (fun s H C cl fp => (hk s H C cl fp).pe) (fun s H C cl fp => (he s H C cl fp).pe) hs, sim_dc s1 sim_tDG sim_tDT sim_tD sim_tD⟩
theorem strs_dp {F : Hp} : ∀ ys : List Str, DpAll K F (ys.map V.str) (ys.map .str)
  | [] => .nil
  | y :: ys => .cons (.str y) (strs_dp ys)
/-! ### of dicts: len, sorted, dict(pairs) -/
def rdLenD : List A → Mu → DK → Prop := fun xs μ P => ∃ n ks, xs = [.c n] ∧ μ[n]? = some (.dct ks) ∧ P (.d (.int ks.length)) μ
theorem s_lenD : SimC K (fun xs H Q => ∃ a kvs, xs = [V.ref a] ∧ H a = some (.dK kvs) ∧ Q (.int kvs.length) H) rdLenD := fun xs μ P h F al H vs S a Q k => by
  obtain ⟨n, ks, rfl, en, h⟩ := h
  obtain ⟨v, rfl, a1⟩ := one_of a
  obtain ⟨b, kvs, rfl, _, hb, r⟩ := dct_at S a1 en
  exact ⟨b, kvs, rfl, hb, by rw [pair_len r]; exact k.now h S (.int _)⟩
def rdSortD : List A → Mu → DK → Prop := fun xs μ P => ∃ n ks, ∃ ss : List Str, xs = [.c n] ∧ μ[n]? = some (.dct ks) ∧ ks.map (·.1) = ss.map Sum.inr ∧ ss.length < 64 ∧ ∀ ys : List Str, ys.Perm ss → sortedS ys = true → P (.d (.list (ys.map .str))) μ
theorem s_sortD : SimC K (fun xs H Q => ∃ (a : Addr) (kvs : List (Key × V)) (ks : List Str), xs = [.ref a] ∧ Rd H a (.dK kvs) ∧ kvs.map (·.1) = ks.map Sum.inr ∧ ks.length < 64 ∧ ∀ ys p, ys.Perm ks → sortedS ys = true → H p = none → Q (.ref p) (upd H p (.lst (ys.map V.str)))) rdSortD := fun xs μ P h F al H vs S a Q k => by
  obtain ⟨n, ks, ss, rfl, en, e, few, h⟩ := h
  obtain ⟨v, rfl, a1⟩ := one_of a
  obtain ⟨b, kvs, rfl, _, hb, r⟩ := dct_at S a1 en
  refine ⟨b, kvs, ss, rfl, .inl hb, ?_, few, fun ys p pm so np => ?_⟩
  · rw [← e]
    clear e en hb
    induction r with
    | nil => rfl
    | cons hp _ ih => rw [List.map_cons, List.map_cons, ih, hp.1]
  · obtain ⟨S2, g2⟩ := S.lay (o := .lst (ys.map V.str)) np
    refine k _ _ μ _ _ _ (h ys pm so) g2 S2 (.lst (.inl (.inl upd_same)) ?_)
    exact strs_dp ys
def pairD (p : Key × PyData) : PyData := .tuple [kP p.1, p.2]
def rdDictP : List A → Mu → DK → Prop := fun xs μ P => ∃ x, ∃ ps : List (Key × PyData), xs = [x] ∧ LstOf x μ ((ps.map pairD).map A.d) ∧ P (.c μ.length) (μ ++ [.dct (mergeA [] (ps.map fun p => (p.1, A.d p.2)))])
theorem pairs_dp {F : Hp} : ∀ {vs : List V} {ps : List (Key × PyData)}, DpAll K F vs (ps.map pairD) → ∃ (as : List Addr) (kvs : List (Key × V)), vs = as.map V.ref ∧ Paired (fun p kv => SqT K F p [kV kv.1, kv.2]) as kvs ∧ ∀ al, KPr K F al kvs (ps.map fun p => (p.1, A.d p.2))
  | [], [], _ => ⟨[], [], rfl, .nil, fun _ => .nil⟩
  | v :: vs, p :: ps, .cons a b => by
    obtain ⟨as, kvs, rfl, h1, h2⟩ := pairs_dp b
    obtain ⟨c, us, rfl, sq, dd⟩ := dp_tup (show Dp K F v (.tuple [kP p.1, p.2]) from a)
    cases dd with
    | @cons u1 _ _ _ d1 dd =>
      cases dd with
      | @cons u2 _ _ _ d2 dd =>
        cases dd
        obtain rfl : u1 = kV p.1 := by
          obtain ⟨k, d⟩ := p
          cases k with
          | inl i => exact dp_int d1
          | inr s => exact dp_str d1
        exact ⟨c :: as, (p.1, u2) :: kvs, rfl, .cons sq h1, fun al => .cons ⟨rfl, d2⟩ (h2 al)⟩
theorem s_dictP : SimC K (fun xs H Q => ∃ (a : Addr) (ps : List Addr) (kvs : List (Key × V)), xs = [.ref a] ∧ SqL K H a (ps.map V.ref) ∧ Paired (fun p kv => SqT K H p [kV kv.1, kv.2]) ps kvs ∧ ∀ p, H p = none → Q (.ref p) (upd H p (.dK (mergeK [] kvs)))) rdDictP := fun xs μ P h F al H vs S a Q k => by
  obtain ⟨x, ps, rfl, hl, h⟩ := h
  obtain ⟨v, rfl, a1⟩ := one_of a
  obtain ⟨b, us, rfl, sq, r⟩ := lstOf_ab S a1 hl
  obtain ⟨as, kvs, rfl, h1, h2⟩ := pairs_dp (DpAll.of r)
  refine ⟨b, as, kvs, rfl, sq, Paired.impl (fun _ _ z => S.seqT z) h1, fun p np => ?_⟩
  obtain ⟨S2, g2⟩ := S.cellNew (ho := .dK (mergeK [] kvs)) (o := .dct (mergeA [] (ps.map fun (p : Key × PyData) => (p.1, A.d p.2)))) np (show KPr K F al _ (mergeA [] _) from kp_merge (h2 al) .nil)
  refine k _ _ _ _ _ _ h g2 S2 ⟨p, ?_, rfl⟩
  rw [← S.len, List.getElem?_append_right (Nat.le_refl _), Nat.sub_self]
  rfl
end
end Dl

set_option Elab.async false
set_option linter.all false
set_option maxRecDepth 100000
set_option maxHeartbeats 4000000
namespace Dl
open PySem PySem.Spec PyProof.Rows L2
/-! ### x in t, of data of any depth -/
def rInT (K : PySem.W.Frag) (neg : Bool) : R2 := fun x y H Q => ∃ d ds, Dp K H x d ∧ (Dp K H y (.tuple ds) ∨ Dp K H y (.list ds)) ∧ SeqAt.shaped d = true ∧ SeqAt.shaped (.tuple ds) = true ∧ Q (.bl (neg ^^ ds.any fun z => PyData.eqv z d)) H
section
variable {X : Cx}
theorem room_in {A : Around} {d : PyData} {ds : List PyData} (sd : SeqAt.shaped d = true) (hu : A.units + 65 < cLine) : A.units + 1 + min (PyData.depthAll ds) d.depth < cLine := room_in_shaped sd hu
theorem op_inT (hu : X.A.units + 65 < cLine) : OpR X (compareOp .In) (rInT X.K false) := by
  intro pins s σ H x y v u Q I rx ry h
  obtain ⟨d, ds, hd, he, sd, se, q⟩ := h
  obtain ⟨as, r1⟩ := Dp.reads I d x v hd.lib rx
  rw [Bool.false_xor] at q
  rcases he with he | he
  · obtain ⟨bs, r2⟩ := Dp.reads I (.tuple ds) y u he.lib ry
    exact SeqAt.in_tuple_reads r2 r1 (SeqAt.canLay_of_shaped se) (SeqAt.canLay_of_shaped sd) (room_in sd hu) ⟨.bl _, H, I, rfl, q⟩
  · obtain ⟨bs, r2⟩ := Dp.reads I (.list ds) y u he.lib ry
    exact SeqAt.in_list_reads r2 r1 (SeqAt.canLay_of_shaped (d := .list ds) se) (SeqAt.canLay_of_shaped sd) (room_in sd hu) ⟨.bl _, H, I, rfl, q⟩
theorem op_notInT (hu : X.A.units + 65 < cLine) : OpR X (compareOp .NotIn) (rInT X.K true) := by
  intro pins s σ H x y v u Q I rx ry h
  obtain ⟨d, ds, hd, he, sd, se, q⟩ := h
  obtain ⟨as, r1⟩ := Dp.reads I d x v hd.lib rx
  rw [Bool.true_xor] at q
  rcases he with he | he
  · obtain ⟨bs, r2⟩ := Dp.reads I (.tuple ds) y u he.lib ry
    exact SeqAt.notIn_tuple_reads r2 r1 (SeqAt.canLay_of_shaped se) (SeqAt.canLay_of_shaped sd) (room_in sd hu) ⟨.bl _, H, I, rfl, q⟩
  · obtain ⟨bs, r2⟩ := Dp.reads I (.list ds) y u he.lib ry
    exact SeqAt.notIn_list_reads r2 r1 (SeqAt.canLay_of_shaped (d := .list ds) se) (SeqAt.canLay_of_shaped sd) (room_in sd hu) ⟨.bl _, H, I, rfl, q⟩
end
def SeqD (y : A) (μ : Mu) (ds : List PyData) : Prop := DatOf y μ (.tuple ds) ∨ DatOf y μ (.list ds)
def rdInT (neg : Bool) : A → A → Mu → DK → Prop := fun x y μ P => ∃ d ds, DatOf x μ d ∧ SeqD y μ ds ∧ SeqAt.shaped d = true ∧ SeqAt.shaped (.tuple ds) = true ∧ P (.d (.bool (neg ^^ ds.any fun z => PyData.eqv z d))) μ
theorem s_inT {K : PySem.W.Frag} {neg : Bool} : SimR2 K (rInT K neg) (rdInT neg) := fun x y μ P h F al H v w S a b Q k => by
  obtain ⟨d, ds, h1, h2, h3, h4, h⟩ := h
  exact ⟨d, ds, datOf_ab S a h1, h2.imp (datOf_ab S b) (datOf_ab S b), h3, h4, k.now h S (.bl _)⟩
/-! ### pairs of numbers: <= -/
def rdLeT : A → A → Mu → DK → Prop := fun x y μ P => ∃ i j k l, x = .d (.tuple [.int i, .int j]) ∧ y = .d (.tuple [.int k, .int l]) ∧ P (.d (.bool (decide (i < k ∨ (i = k ∧ j ≤ l))))) μ
theorem lex2 (i j k l : Int) : Ob.lexAt (fun n => decide (([i, j] : List Int).getD n 0 = ([k, l] : List Int).getD n 0)) (fun n => decide (([i, j] : List Int).getD n 0 ≤ ([k, l] : List Int).getD n 0)) (decide (([i, j] : List Int).length ≤ ([k, l] : List Int).length)) 0 (min ([i, j] : List Int).length ([k, l] : List Int).length) = decide (i < k ∨ (i = k ∧ j ≤ l)) := by
  have e0 : min ([i, j] : List Int).length ([k, l] : List Int).length = 2 := rfl
  rw [e0]
  simp only [Ob.lexAt]
  by_cases a : i = k
  · by_cases b : j = l
    · subst a b; simp
    · subst a; simp [b]
  · simp only [List.getD_cons_zero, decide_eq_false a, Bool.false_eq_true, if_false]
    have : (i ≤ k) ↔ (i < k ∨ (i = k ∧ j ≤ l)) := by
      constructor
      · intro h; left; omega
      · rintro (h | h)
        · omega
        · exact absurd h.1 a
    simp [this]
theorem s_leT {K : PySem.W.Frag} : SimR2 K (rLeT K) rdLeT := fun x y μ P h F al H v w S a b Q kk => by
  obtain ⟨i, j, k, l, rfl, rfl, h⟩ := h
  obtain ⟨p, vs, rfl, q, r⟩ := dp_tup a
  obtain ⟨p', ws, rfl, q', r'⟩ := dp_tup b
  have e1 : vs = ([i, j] : List Int).map V.int := ints_of (ns := [i, j]) r
  have e2 : ws = ([k, l] : List Int).map V.int := ints_of (ns := [k, l]) r'
  subst e1 e2
  exact ⟨p, p', [i, j], [k, l], rfl, rfl, S.seqT q, S.seqT q', by rw [lex2]; exact kk.now h S (.bl _)⟩
section
variable {X : Cx} {a b : Expr} {da db : DT} {pos : Pos}
theorem dInT (hu : X.A.units + 65 < cLine) (ha : DE X a da) (hb : DE X b db) (hm : behindInMarks .In b = false := by rfl) : DE X (.Compare a [.In] [b] pos) (dOp (rdInT false) da db) := d_cmp (op_inT hu) s_inT ha hb hm
theorem dNotInT (hu : X.A.units + 65 < cLine) (ha : DE X a da) (hb : DE X b db) (hm : behindInMarks .NotIn b = false := by rfl) : DE X (.Compare a [.NotIn] [b] pos) (dOp (rdInT true) da db) := d_cmp (op_notInT hu) s_inT ha hb hm
theorem tInT (hu : X.A.units + 65 < cLine) (ha : DE X a da) (hb : DE X b db) (hm : behindInMarks .In b = false := by rfl) : DTest X (.Compare a [.In] [b] pos) (dB (dOp (rdInT false) da db)) := dt_cmp (op_inT hu) s_inT ha hb hm
theorem tNotInT (hu : X.A.units + 65 < cLine) (ha : DE X a da) (hb : DE X b db) (hm : behindInMarks .NotIn b = false := by rfl) : DTest X (.Compare a [.NotIn] [b] pos) (dB (dOp (rdInT true) da db)) := dt_cmp (op_notInT hu) s_inT ha hb hm
theorem dLeT (hu : X.A.units + 64 < cLine) (ha : DE X a da) (hb : DE X b db) (hm : behindInMarks .LtE b = false := by rfl) : DE X (.Compare a [.LtE] [b] pos) (dOp rdLeT da db) := d_cmp (op_leT (by omega)) s_leT ha hb hm
theorem tLeT (hu : X.A.units + 64 < cLine) (ha : DE X a da) (hb : DE X b db) (hm : behindInMarks .LtE b = false := by rfl) : DTest X (.Compare a [.LtE] [b] pos) (dB (dOp rdLeT da db)) := dt_cmp (op_leT (by omega)) s_leT ha hb hm
theorem sim_din {K : PySem.W.Frag} {ty td : TE} {dk dd : DT} (s1 : SimE K ty dk) (s2 : SimE K td dd) : SimE K (tDIn ty td) (dDIn false dk dd) := fun ρ μ P h F al σ H S L Q kk => by
  refine s1 ρ μ _ h F al σ H S L _ fun u y μ1 F1 al1 H1 q1 g1 S1 a1 => ?_
  refine s2 ρ μ1 _ q1 F1 al1 σ H1 S1 (g1.slots L) _ fun u2 x μ2 F2 al2 H2 q2 g2 S2 a2 => ?_
  obtain ⟨n, ks, k, rfl, en, rfl, q⟩ := q2
  obtain ⟨a, kvs, rfl, ea, hb, r⟩ := dct_at S2 a2 en
  refine ⟨a, _, rfl, .inl ⟨kvs, k, .inl hb, kD_ab (g2.ab a1), rfl⟩, (kk.fwd (g1.trans g2)).now q S2 ?_⟩
  rw [some_eq r, Bool.false_xor]
  exact .bl _
theorem sim_dnotin {K : PySem.W.Frag} {ty td : TE} {dk dd : DT} (s1 : SimE K ty dk) (s2 : SimE K td dd) : SimE K (tDNotIn ty td) (dDIn true dk dd) := fun ρ μ P h F al σ H S L Q kk => by
  refine s1 ρ μ _ h F al σ H S L _ fun u y μ1 F1 al1 H1 q1 g1 S1 a1 => ?_
  refine s2 ρ μ1 _ q1 F1 al1 σ H1 S1 (g1.slots L) _ fun u2 x μ2 F2 al2 H2 q2 g2 S2 a2 => ?_
  obtain ⟨n, ks, k, rfl, en, rfl, q⟩ := q2
  obtain ⟨a, kvs, rfl, ea, hb, r⟩ := dct_at S2 a2 en
  refine ⟨a, _, rfl, .inl ⟨kvs, k, .inl hb, kD_ab (g2.ab a1), rfl⟩, (kk.fwd (g1.trans g2)).now q S2 ?_⟩
  rw [some_eq r, Bool.true_xor]
  exact .bl _
theorem t_din {i o : Expr} {dk dd : DT} (hu : X.A.units + 64 < cLine) (hi : DE X i dk) (ho : DE X o dd) (hm : behindInMarks .In o = false := by rfl) : DTest X (.Compare i [.In] [o] pos) (dB (dDIn false dk dd)) := by
  obtain ⟨_, p1, s1⟩ := hi.ex
  obtain ⟨_, p2, s2⟩ := ho.ex
  exact ⟨_, pt_cmp (pc_din (by omega) p1 p2) hm, sim_b (sim_din s1 s2)⟩
theorem t_dnotin {i o : Expr} {dk dd : DT} (hu : X.A.units + 64 < cLine) (hi : DE X i dk) (ho : DE X o dd) (hm : behindInMarks .NotIn o = false := by rfl) : DTest X (.Compare i [.NotIn] [o] pos) (dB (dDIn true dk dd)) := by
  obtain ⟨_, p1, s1⟩ := hi.ex
  obtain ⟨_, p2, s2⟩ := ho.ex
  exact ⟨_, pt_cmp (pc_dnotin (by omega) p1 p2) hm, sim_b (sim_dnotin s1 s2)⟩
end
/-! ### repr, isinstance: of a cell too -/
section
variable {K : PySem.W.Frag}
def rdRepU : List A → Mu → DK → Prop := fun xs μ P => ∃ x, ∃ d : PyData, xs = [x] ∧ DatOf x μ d ∧ d.showable = true ∧ d.hasDict = false ∧ d.depth ≤ 60 ∧ d.shown.length ≤ sizeLine ∧ P (.d (.str d.shown)) μ
theorem s_repU : SimC K (rRep K) rdRepU := fun xs μ P h F al H vs S a Q k => by
  obtain ⟨x, d, rfl, hd, h1, h2, h3, h4, h⟩ := h
  obtain ⟨v, rfl, a1⟩ := one_of a
  exact ⟨v, d, rfl, datOf_ab S a1 hd, h1, h2, h3, h4, k.now h S (.str _)⟩
def rdIsiC (K : PySem.W.Frag) : List A → Mu → DK → Prop := fun xs μ P => ∃ x t T b, xs = [x, .v (.ty T)] ∧ (tyN x = some t ∨ ∃ n ys, x = .c n ∧ μ[n]? = some (.lst ys) ∧ t = "list") ∧ PySem.W.kitOne K (.type t) (.type T) = some b ∧ P (.d (.bool b)) μ
theorem s_isiC : SimC K (rIsi K) (rdIsiC K) := fun xs μ P h F al H vs S a Q k => by
  obtain ⟨x, t, T, b, rfl, ht, hk, h⟩ := h
  rcases ht with ht | ⟨n, ys, rfl, en, rfl⟩
  · exact s_isi _ μ P ⟨x, t, T, b, rfl, ht, hk, h⟩ F al H vs S a Q k
  · obtain ⟨v, w, rfl, a1, a2⟩ := two_of a
    obtain ⟨p, ep, rfl⟩ := a1
    obtain ⟨q, us, e1, e2, e3⟩ := cell_lst S en
    rw [ep] at e1
    obtain rfl := Option.some.inj e1
    obtain rfl : w = .ty T := a2
    exact ⟨_, _, _, _, b, rfl, .ty T, .base (.lst e2), hk, k.now h S (.bl _)⟩
end
end Dl

set_option Elab.async false
set_option linter.all false
set_option maxRecDepth 100000
set_option maxHeartbeats 4000000
namespace Dl
open PySem PySem.Spec PyProof.Rows L2
/-! ### enumerate of a tuple -/
def oEn (it : Addr) : Obj := { cls := .type "enumerate", data := .fields #[.none, .bool false, .ref it, rawInt 0, .none, .none] }
theorem meets_enT {v : Value} {o : Obj} {T : Heap → Prop} (B : Begins v o T) :
    Meets (Builtin.«enumerate.__new__» ⟨[.type "enumerate", v], []⟩) (fun _ R z => T z.heap ∧ R (.ok (.ret (.ref (z.heap.push o).objs.size))) { z with heap := (z.heap.push o).push (oEn z.heap.objs.size) }) :=
  .of_wp fun prog w A R z h => by
    obtain ⟨hp, ge, dr, tk, os⟩ := z
    obtain ⟨h1, h⟩ := h
    have su := sub_enumerate
    have go : ∀ {A' : Around} {E : Value → Shared → Prop} {Q : Value → Shared → Prop}, Q (.ref hp.objs.size) ⟨hp.push o, ge, dr, tk, os⟩ → wpAny (model prog w) A' (pyIter v) Q E ⟨hp, ge, dr, tk, os⟩ := fun q => B.iter prog w _ _ ⟨hp, ge, dr, tk, os⟩ _ h1 q
    wp_walk using go
    refine wpAny_stack_any fun st => wpAny_pure ?_
    split
    · rename_i c _ _ _ _ _
      cases (c == Value.type "enumerate") <;> (wp_walk using go; exact ⟨_, rfl, h⟩)
    · wp_walk using go; exact ⟨_, rfl, h⟩
theorem call_enT {prog : Program} {w : World} {A : Around} {E : Value → Shared → Prop} {z : Shared} {v : Value} {o : Obj} {T : Heap → Prop} {Q : Value → Shared → Prop} (B : Begins v o T) (h1 : T z.heap)
    (h : ∀ h', IsEnum h' (z.heap.objs.size + 1) z.heap.objs.size 0 .none → h'.get? z.heap.objs.size = some o → (∀ b o, z.heap.get? b = some o → h'.get? b = some o) → Q (.ref (z.heap.objs.size + 1)) { z with heap := h' }) : wpAny (model prog w) A (call (.type "enumerate") [v]) Q E z := by
  refine callType_new F.called_enumerate (by decide) (F.typeCall_enumerate_1 _) (F.newCall_enumerate_1 _) (fun obj => F.args_object_init_2 obj _) F.entry_enumerate_new (meets_enT B) ⟨h1, ?_⟩
  have sz : (z.heap.push o).objs.size = z.heap.objs.size + 1 := Heap.size_push ..
  show _ ∧ _
  rw [sz]
  have en : IsEnum ((z.heap.push o).push (oEn z.heap.objs.size)) (z.heap.objs.size + 1) z.heap.objs.size 0 .none := by
    have e := Heap.get?_push_size (z.heap.push o) (o := oEn z.heap.objs.size) rfl
    rw [sz] at e
    exact e
  exact ⟨⟨_, en, rfl⟩, h _ en (Heap.get?_push_of_some _ (Heap.get?_push_size _ B.free)) fun b u e => Heap.get?_push_of_some _ (Heap.get?_push_of_some _ e)⟩
/-- the tuple at a, each item in a new pair -/
def ItE (K : PySem.W.Frag) (a : Addr) (vs : List V) : It :=
  ⟨fun i H => SqT K H a vs ∧ i < vs.length, fun i H v H' => ∃ T x, v = .ref T ∧ H T = none ∧ H' = upd H T (.tup [.int (i : Nat), x]) ∧ vs[i]? = some x, fun i H => SqT K H a vs ∧ vs.length ≤ i⟩
theorem turn_enT {P : Program} {w : World} {K : PySem.W.Frag} {elts : List Expr} {kk : Nat} {tpos : Pos} (a e it : Addr) (vs : List V) :
    Turn P w K (.Tuple elts kk tpos) (ItE K a vs) [e, it] e (fun i h => (∃ old, IsEnum h e it ((i : Nat) : Int) old) ∧ h.IsTupleIter it a i ∧ e ≠ it ∧ a ≠ it ∧ a ≠ e ∧ i ≤ vs.length) where
  mem := by simp
  obj := fun i h st b hb => by
    obtain ⟨⟨old, he⟩, ⟨o, ho, hc, hd⟩, _⟩ := st
    have z : b = e ∨ b = it := by simpa using hb
    rcases z with z | z
    · subst z; exact ⟨_, he, fun v q => nomatch q⟩
    · subst z; exact ⟨o, ho, fun v q => by rw [hd] at q; cases q⟩
  keep := fun i h h' st k => by
    obtain ⟨⟨old, he⟩, hi, more⟩ := st
    exact ⟨⟨old, k e (by simp) _ he⟩, hi.at fun o q => k it (by simp) o q, more⟩
  item := by
    intro X hP hw hK calm i pins s σ H E I ff st go
    subst hP hw hK
    obtain ⟨⟨old, he⟩, hit, ne1, ne2, ne3, le⟩ := st
    obtain ⟨sq, lt⟩ := go
    obtain ⟨its, rv, pt, _⟩ := I.tuple sq
    have len := rv.length
    have D := Draws.tuple (prog := X.prog) (w := X.w) (A := X.A.in1) (show X.A.in1.handled = none from I.ok.hd calm) it a ne2 its.toArray
    have le1 : e < s.heap.objs.size := Heap.lt_size he
    have le2 : it < s.heap.objs.size := by obtain ⟨_, q, _⟩ := hit; exact Heap.lt_size q
    refine wpAny_pyNext_enum_itemD D he ⟨hit, pt⟩ (by rw [List.size_toArray]; omega) ne1 (by simp only [List.mem_cons, List.not_mem_nil, or_false, not_or]; exact ⟨ne1, Ne.symm ne3⟩) fun x h' tk hx eo st' hT _ keep => ?_
    have ex : its[i]? = some x := by simpa using hx
    obtain ⟨y, ey, ry⟩ : ∃ y, vs[i]? = some y ∧ RelV y x := by
      obtain ⟨u, eu, ru⟩ := rv.get (List.getElem?_eq_getElem lt)
      rw [eu] at ex
      obtain rfl := Option.some.inj ex
      exact ⟨_, List.getElem?_eq_getElem lt, ru⟩
    refine ⟨_, rfl, wpAny_letOwnedTupleGo_enum (s := { s with heap := h', toks := tk + 1 }) eo fun h2 he2 same => ?_⟩
    have hT2 : h2.get? s.heap.objs.size = some { cls := .type "tuple", data := .seq #[.int i tk, x] } := (same.2 _ (Nat.ne_of_gt le1)).trans hT
    have nw : ObjOk X.prog X.w (upd H s.heap.objs.size (.tup [.int (i : Nat), y])) h2 s.heap.objs.size (.tup [.int (i : Nat), y]) := ⟨by show 2 ≤ sizeLine; decide, [.int i tk, x], .cons ⟨_, rfl⟩ (.cons ry .nil), ⟨_, hT2, rfl, _, rfl⟩⟩
    have I1 : Inv X pins σ (upd H s.heap.objs.size (.tup [.int (i : Nat), y])) { s with heap := h2, toks := tk + 1 } :=
      I.turnedNew (ch := [e, it]) (fun b ob hb q => (same.2 b (fun z => hb (by simp [z]))).trans (keep b ob (fun z => hb (by simp [z])) (fun z => hb (by simp [z])) q)) ff (Nat.le_refl _) nw
    refine ⟨.ref s.heap.objs.size, _, I1, rfl, ⟨_, y, rfl, I.hok.fresh (Nat.le_refl _), rfl, ey⟩, ⟨⟨x, ?_⟩, st'.1.at fun o q => (same.2 it (Ne.symm ne1)).trans q, ne1, ne2, ne3, lt⟩, fun b hb => ?_⟩
    · rw [show ((i + 1 : Nat) : Int) = (i : Int) + 1 by omega]
      exact he2
    · have lb : b < s.heap.objs.size := by
        have z : b = e ∨ b = it := by simpa using hb
        rcases z with z | z <;> subst z <;> assumption
      rw [upd_ne (Nat.ne_of_lt lb)]
      exact (ff b hb).1
  done := by
    intro X hP hw hK calm i pins s σ H E I ff st go
    subst hP hw hK
    obtain ⟨⟨old, he⟩, hit, ne1, ne2, ne3, le⟩ := st
    obtain ⟨sq, ge⟩ := go
    obtain ⟨its, rv, pt, _⟩ := I.tuple sq
    have len := rv.length
    have D := Draws.tuple (prog := X.prog) (w := X.w) (A := X.A.in1) (show X.A.in1.handled = none from I.ok.hd calm) it a ne2 its.toArray
    obtain ⟨f0, f1, f2, f3, f4, f5⟩ := ff it (by simp)
    have ei : i = its.toArray.size := by rw [List.size_toArray]; omega
    exact wpAny_pyNext_enum_endD D he ⟨by rw [← ei]; exact hit, pt⟩ fun h' eb => ⟨rfl, I.turned (t' := s.toks) (fun b o hb q => eb b o hb q) f0 f1 f3 f4 f5⟩
  self := fun A i s Q E st h => let ⟨⟨_, he⟩, _⟩ := st; wpAny_pyIter_enum he h
def iEnT (K : PySem.W.Frag) (ta : TA) : TI := fun σ H R => ta σ H fun vv H1 => ∃ a xs, vv = [.ref a] ∧ SqT K H1 a xs ∧ R (ItE K a xs) H1
theorem pi_enT {X : Cx} {e : Expr} {ta : TA} {p pos tpos : Pos} {elts : List Expr} {kk : Nat} (gl : Gl X "enumerate") (mx : X.mg "enumerate" = none) (pa : PA X [e] ta) (se : starEach [e] X.env = [(false, eval e X.env)] := by rfl) :
    PI X (.Tuple elts kk tpos) (.Call (.Name "enumerate" p) [e] [] pos) (iEnT X.K ta) := by
  constructor
  intro pins s σ H R I h
  refine Call_ (ld_blt I gl mx boot_enumerate (PyProof.Rows.callWith_type1 (thn (pa.run pos pins s σ H _ I h) fun us z ⟨vv, H1, I1, r1, q1⟩ => ?_) se rfl))
  obtain ⟨a, xs, rfl, sq, q⟩ := q1
  cases r1 with
  | cons r rr =>
    cases rr
    cases r
    obtain ⟨its, rv, pt, _⟩ := I1.tuple sq
    have la : a < z.heap.objs.size := by obtain ⟨o, ho, _⟩ := pt; exact Heap.lt_size ho
    refine call_enT (begins_tuple a its.toArray) pt fun h' he hit kk => wpAny_pyIter_enum he ?_
    have I2 : Inv X pins σ H1 { z with heap := h' } := I1.kept (t' := z.toks) kk
    refine ⟨z.heap.objs.size + 1, [z.heap.objs.size + 1, z.heap.objs.size], _, _, H1, rfl, I2, turn_enT a (z.heap.objs.size + 1) z.heap.objs.size xs, ⟨⟨.none, he⟩, ⟨_, hit, rfl, rfl⟩, Nat.succ_ne_self _, Nat.ne_of_lt la, Nat.ne_of_lt (Nat.lt_succ_of_lt la), Nat.zero_le _⟩, fun b hb => ?_, q⟩
    have ge : z.heap.objs.size ≤ b := by
      have y : b = z.heap.objs.size + 1 ∨ b = z.heap.objs.size := by simpa using hb
      rcases y with y | y
      · rw [y]; exact Nat.le_add_right _ _
      · rw [y]; exact Nat.le_refl _
    exact I1.fpOk ge (I1.hok.fresh ge)
section
variable {K : PySem.W.Frag} {X : Cx} {e : Expr} {da : DAT} {p pos tpos : Pos}
theorem jw_enT {F : Hp} {al : List Addr} {H : Hp} {a : Addr} {vs : List V} {ds : List PyData} (h : SqT K F a vs) (r : DpAll K F vs ds) : JW K F al H (ItE K a vs) (enumY (ds.map .d)) always where
  go F2 al2 μ2 H2 i y g S _ hy := by
    obtain ⟨x, e, rfl⟩ := enumY_get hy
    rw [List.getElem?_map] at e
    cases e' : ds[i]? with
    | none => rw [e'] at e; cases e
    | some d =>
      rw [e'] at e
      obtain rfl := Option.some.inj e
      obtain ⟨v, e1, av⟩ := DpAll.get r e'
      refine ⟨⟨S.seqT (sqT_mono g.f h), (List.getElem?_eq_some_iff.mp e1).1⟩, fun x H3 hx => ?_⟩
      obtain ⟨T, x', rfl, hT, rfl, hx⟩ := hx
      rw [e1] at hx
      obtain rfl := Option.some.inj hx
      exact pairNew S hT (a := .d (.int (i : Nat))) (b := .d d) (.int _) (Dp.mono g.f av)
  stop F2 al2 μ2 H2 g S _ := ⟨S.seqT (sqT_mono g.f h), by rw [DpAll.len r]; unfold enumY; rw [List.length_mapIdx, List.length_map]; exact Nat.le_refl _⟩
abbrev dEnT (da : DAT) : DI := fun ρ μ P => da ρ μ fun zs μ1 => ∃ ds, zs = [.d (.tuple ds)] ∧ P (enumY (ds.map .d)) always μ1
theorem di_enT {elts : List Expr} {kk : Nat} (ha : DA X [e] da) (hm : X.mg "enumerate" = none) (hg : Gl X "enumerate" := by rfl) (hs : starEach [e] X.env = [(false, eval e X.env)] := by rfl) :
    DIt X (.Tuple elts kk tpos) (.Call (.Name "enumerate" p) [e] [] pos) (dEnT da) := by
  obtain ⟨_, p1, s⟩ := ha.ex
  refine ⟨_, pi_enT hg hm p1 hs, fun ρ μ P h F al σ H S L R k => s ρ μ _ h F al σ H S L _ fun vs xs μ1 F1 al1 H1 q g S1 a => ?_⟩
  obtain ⟨ds, rfl, q⟩ := q
  obtain ⟨v, rfl, av⟩ := one_of a
  obtain ⟨p, us, rfl, e1, e2⟩ := dp_tup av
  exact ⟨p, us, rfl, S1.seqT e1, k _ _ _ _ _ _ _ q g S1 (jw_enT e1 e2)⟩
end
end Dl

set_option Elab.async false
set_option linter.all false
set_option maxRecDepth 100000
set_option maxHeartbeats 4000000
namespace Dl
open PySem PySem.Spec PyProof.Rows L2
section
variable {X : Cx} {W : WX} {pos : Pos}
/-- x, y = a, b by a pair (a name is used within a comprehension) -/
abbrev dsParT (da : DAT) (dg : DG) : DS := fun D ρ μ => da ρ μ fun xs μ1 => ∃ x y, xs = [x, y] ∧ dg (.two x y) ρ μ1 D.nx
theorem ds_parT {tg a b : Expr} {vs : List Nat} {da : DAT} {dg : DG} {k2 : Nat} {pt2 : Pos} (ha : DA X [a, b] da) (hg : DGt X tg vs dg) (hs : swapsWithSole [tg] (.Tuple [a, b] k2 pt2) pos.line X.env = pure false := by rfl) (hw : swappedStores [tg] (.Tuple [a, b] k2 pt2) X.env = pure none := by rfl)
    (h1 : (assignEach [tg] X.env).map (·.2) = [assign tg X.env] := by rfl) : DSt X W (.Assign [tg] (.Tuple [a, b] k2 pt2) pos) (dsParT da dg) := by
  obtain ⟨_, p, s⟩ := ha.ex
  obtain ⟨_, p2, s2⟩ := hg.ex
  refine ⟨_, ps_asg (pe_tup p) p2 hs hw h1, fun ρ μ D h F al σ H S L E k => s ρ μ _ h F al σ H S L _ fun vs xs μ1 F1 al1 H1 q g S1 a => ?_⟩
  obtain ⟨x, y, rfl, q⟩ := q
  obtain ⟨v, w, rfl, a1, a2⟩ := two_of a
  refine ⟨by show 2 ≤ sizeLine; decide, fun pp hp => ?_⟩
  obtain ⟨S2, g2⟩ := S1.lay (o := .tup [v, w]) hp
  exact s2 (.two x y) ρ μ1 _ q _ _ σ _ (.ref pp) S2 ((g.trans g2).slots L) ⟨pp, v, w, rfl, (.inl (.inl upd_same)), g2.ab a1, g2.ab a2⟩ _ fun ρ2 μ2 F2 al2 σ2 H2 q2 g3 S3 L3 _ _ => k.nx _ _ _ _ _ _ q2 ((g.trans g2).trans g3) S3 L3
end
end Dl

set_option Elab.async false
set_option linter.all false
set_option maxRecDepth 100000
set_option maxHeartbeats 4000000
namespace Dl
open PySem PySem.Spec PyProof.Rows L2
theorem paired_at {α β : Type} {R : α → β → Prop} : ∀ {l : List α} {m : List β} {i : Nat} {y : β}, Paired R l m → m[i]? = some y → ∃ x, l[i]? = some x ∧ R x y
  | _, _, _, _, .nil, h => by simp at h
  | _, _, 0, _, .cons a _, h => ⟨_, rfl, by obtain rfl := Option.some.inj h; exact a⟩
  | _, _, i + 1, _, .cons _ b, h => by
    obtain ⟨x, e, r⟩ := paired_at (i := i) b (by simpa using h)
    exact ⟨x, by simpa using e, r⟩
/-! ### a dict that is walked: locked meanwhile -/
section
variable {K : PySem.W.Frag} {F : Hp} {al : List Addr} {μ : Mu} {H : Hp}
theorem fdct_at (S : Sto K F al μ H) {v : V} {n : Nat} {od : Obj} {vs : List (Key × V)} {ks : List (Key × A)} (h : Ab K F al v (.c n)) (e : μ[n]? = some (.fdct od vs ks)) : ∃ a, v = .ref a ∧ al[n]? = some a ∧ H a = some (.frz od (.dK vs)) ∧ KPr K F al vs ks := by
  obtain ⟨a, ea, rfl⟩ := h
  obtain ⟨ho, h1, h2⟩ := S.cell n a _ ea e
  have h3 := (h2 (fun z => nomatch z)).2
  cases ho with
  | frz o u =>
    cases u with
    | dK kvs =>
      obtain ⟨⟨rfl, rfl⟩, r⟩ := h3
      exact ⟨a, rfl, ea, h1, r⟩
    | _ => exact h3.elim
  | _ => exact h3.elim
theorem jw_keys {a : Addr} {n : Nat} {od : Obj} {vs : List (Key × V)} {ks : List (Key × A)} (ea : al[n]? = some a) (hl : vs.length = ks.length) (kk : ∀ (i : Nat) p q, vs[i]? = some p → ks[i]? = some q → p.1 = q.1) :
    JW K F al H (Itk a od vs) (ks.map fun p => .one (kD p.1)) (fun μ => μ[n]? = some (.fdct od vs ks)) where
  go F2 al2 μ2 H2 i y g S hok hy := by
    obtain ⟨t, rfl⟩ := g.px
    have ea2 : (al ++ t)[n]? = some a := by rw [List.getElem?_append_left (List.getElem?_eq_some_iff.mp ea).1]; exact ea
    obtain ⟨b, e1, e2, e3, r⟩ := fdct_at S (v := .ref a) ⟨a, ea2, rfl⟩ hok
    cases e1
    rw [List.getElem?_map] at hy
    cases e : ks[i]? with
    | none => rw [e] at hy; cases hy
    | some q =>
      rw [e] at hy
      obtain rfl := Option.some.inj hy
      have lt := (List.getElem?_eq_some_iff.mp e).1
      refine ⟨⟨e3, by omega⟩, fun x H3 hx => ?_⟩
      obtain ⟨rfl, k, v, hkv, rfl⟩ := hx
      have := kk i _ q hkv e
      obtain rfl : k = q.1 := this
      refine ⟨F2, Grow.refl, S, ?_⟩
      show Ab K F2 (al ++ t) (kV q.1) (kD q.1)
      cases q.1 with
      | inl i => exact .int i
      | inr s => exact .str s
  stop F2 al2 μ2 H2 g S hok := by
    obtain ⟨t, rfl⟩ := g.px
    have ea2 : (al ++ t)[n]? = some a := by rw [List.getElem?_append_left (List.getElem?_eq_some_iff.mp ea).1]; exact ea
    obtain ⟨b, e1, e2, e3, r⟩ := fdct_at S (v := .ref a) ⟨a, ea2, rfl⟩ hok
    cases e1
    exact ⟨e3, by rw [List.length_map]; omega⟩
theorem jw_items {a : Addr} {n : Nat} {od : Obj} {vs : List (Key × V)} {ks : List (Key × A)} (ea : al[n]? = some a) :
    JW K F al H (Iti a od vs) (ks.map fun p => .two (kD p.1) p.2) (fun μ => μ[n]? = some (.fdct od vs ks)) where
  go F2 al2 μ2 H2 i y g S hok hy := by
    obtain ⟨t, rfl⟩ := g.px
    have ea2 : (al ++ t)[n]? = some a := by rw [List.getElem?_append_left (List.getElem?_eq_some_iff.mp ea).1]; exact ea
    obtain ⟨b, e1, e2, e3, r⟩ := fdct_at S (v := .ref a) ⟨a, ea2, rfl⟩ hok
    cases e1
    rw [List.getElem?_map] at hy
    cases e : ks[i]? with
    | none => rw [e] at hy; cases hy
    | some q =>
      rw [e] at hy
      obtain rfl := Option.some.inj hy
      have lt := (List.getElem?_eq_some_iff.mp e).1
      refine ⟨⟨e3, by rw [pair_len r]; exact lt⟩, fun x H3 hx => ?_⟩
      obtain ⟨T, k, v, hkv, rfl, hT, rfl⟩ := hx
      obtain ⟨p, e4, r2⟩ := paired_at r e
      rw [hkv] at e4
      obtain rfl := Option.some.inj e4
      obtain ⟨S2, g2⟩ := S.lay (o := .tup [kV k, v]) hT
      refine ⟨_, g2, S2, T, kV k, v, rfl, .inl (.inl upd_same), ?_, g2.ab r2.2⟩
      have : k = q.1 := r2.1
      rw [this]
      cases q.1 with
      | inl i => exact .int i
      | inr s => exact .str s
  stop F2 al2 μ2 H2 g S hok := by
    obtain ⟨t, rfl⟩ := g.px
    have ea2 : (al ++ t)[n]? = some a := by rw [List.getElem?_append_left (List.getElem?_eq_some_iff.mp ea).1]; exact ea
    obtain ⟨b, e1, e2, e3, r⟩ := fdct_at S (v := .ref a) ⟨a, ea2, rfl⟩ hok
    cases e1
    exact ⟨e3, by rw [List.length_map, pair_len r]; exact Nat.le_refl _⟩
end
section
variable {X : Cx} {W : WX} {e tg o i : Expr} {de dd dk d : DT} {ds : DS} {st : Stmt} {pos apos cpos : Pos}
abbrev dItK (de : DT) : DI := fun ρ μ P => de ρ μ fun x μ1 => ∃ n od vs ks, x = .c n ∧ μ1[n]? = some (.fdct od vs ks) ∧ P (ks.map fun p => .one (kD p.1)) (fun μ => μ[n]? = some (.fdct od vs ks)) μ1
theorem di_keys (h : DE X e de) : DIt X tg e (dItK de) := by
  obtain ⟨_, p, s⟩ := h.ex
  refine ⟨_, pi_keys p, fun ρ μ P h F al σ H S L R k => s ρ μ _ h F al σ H S L _ fun v x μ1 F1 al1 H1 q g S1 a => ?_⟩
  obtain ⟨n, od, vs, ks, rfl, hc, q⟩ := q
  obtain ⟨b, rfl, ea, hb, r⟩ := fdct_at S1 a hc
  refine ⟨b, od, rfl, .inl ⟨vs, hb, k _ _ _ _ _ _ _ q g S1 (jw_keys ea (pair_len r) fun i p q hp hq => ?_)⟩⟩
  obtain ⟨p', e4, r2⟩ := paired_at r hq
  rw [hp] at e4
  obtain rfl := Option.some.inj e4
  exact r2.1
abbrev dItI (de : DT) : DI := fun ρ μ P => de ρ μ fun x μ1 => ∃ n od vs ks, x = .c n ∧ μ1[n]? = some (.fdct od vs ks) ∧ P (ks.map fun p => .two (kD p.1) p.2) (fun μ => μ[n]? = some (.fdct od vs ks)) μ1
theorem di_items {elts : List Expr} {kk : Nat} {tpos : Pos} (h : DE X e de) (hbase : attributeBase e "items" X.env (eval e X.env) = eval e X.env := by rfl) (hline : (apos.endLine == cpos.line) = true := by rfl) : DIt X (.Tuple elts kk tpos) (.Call (.Attribute e "items" apos) [] [] cpos) (dItI de) := by
  obtain ⟨_, p, s⟩ := h.ex
  refine ⟨_, pi_items p hbase hline, fun ρ μ P h F al σ H S L R k => s ρ μ _ h F al σ H S L _ fun v x μ1 F1 al1 H1 q g S1 a => ?_⟩
  obtain ⟨n, od, vs, ks, rfl, hc, q⟩ := q
  obtain ⟨b, rfl, ea, hb, r⟩ := fdct_at S1 a hc
  exact ⟨b, od, vs, rfl, hb, k _ _ _ _ _ _ _ q g S1 (jw_items ea)⟩
abbrev dDGetF (dd dk : DT) : DT := fun ρ μ P => dd ρ μ fun x μ1 => dk ρ μ1 fun y μ2 => ∃ n od vs ks k v, x = .c n ∧ μ2[n]? = some (.fdct od vs ks) ∧ y = kD k ∧ valA ks k = some v ∧ P v μ2
theorem d_dgetF (hu : X.A.units + 64 < cLine) (ho : DE X o dd) (hi : DE X i dk) (hs : NoSl i := by exact fun _ _ => rfl) : DE X (.Subscript o i pos) (dDGetF dd dk) := by
  obtain ⟨_, p1, s1⟩ := ho.ex
  obtain ⟨_, p2, s2⟩ := hi.ex
  refine ⟨_, pe_dget (by omega) p1 p2 hs, fun ρ μ P h F al σ H S L Q kk => ?_⟩
  refine s1 ρ μ _ h F al σ H S L _ fun u x μ1 F1 al1 H1 q1 g1 S1 a1 => ?_
  refine s2 ρ μ1 _ q1 F1 al1 σ H1 S1 (g1.slots L) _ fun u2 y μ2 F2 al2 H2 q2 g2 S2 a2 => ?_
  obtain ⟨n, od, vs, ks, k, x', rfl, en, rfl, ev, q⟩ := q2
  obtain ⟨a, rfl, ea, hb, r⟩ := fdct_at S2 (g2.ab a1) en
  rcases kp_val r k with ⟨_, z⟩ | ⟨v, x, e1, e2, ab⟩
  · rw [ev] at z
    cases z
  · rw [ev] at e2
    obtain rfl := Option.some.inj e2
    exact ⟨a, v, rfl, .inl ⟨vs, k, .inr ⟨od, hb⟩, kD_ab a2, e1.symm⟩, (kk.fwd (g1.trans g2)).now q S2 ab⟩
/-- an expression that walks the dict in the i-th slot -/
def dLock (i : Nat) (d : DT) : DT := fun ρ μ P => ∃ n ks, ρ[i]? = some (some (.c n)) ∧ μ[n]? = some (.dct ks) ∧ ∀ od vs, d ρ (μ.set n (.fdct od vs ks)) fun x μ' => μ'[n]? = some (.fdct od vs ks) ∧ P x (μ'.set n (.dct ks))
theorem d_lock (i : Nat) (h : DE X e d) : DE X e (dLock i d) := by
  obtain ⟨_, p, s⟩ := h.ex
  refine ⟨_, pe_lock p, fun ρ μ P h F al σ H S L Q k => ?_⟩
  obtain ⟨n, ks, e1, e2, q⟩ := h
  obtain ⟨v, _, a, ea, rfl⟩ := L.at_ i _ e1
  obtain ⟨a', kvs, e3, ea', hb, r⟩ := dct_at S (v := .ref a) ⟨a, ea, rfl⟩ e2
  cases e3
  refine ⟨a, .dK kvs, hb, trivial, fun od => ?_⟩
  obtain ⟨S1, g1⟩ := S.put ea e2 (fun z => nomatch z) (ho := .frz od (.dK kvs)) (o' := .fdct od kvs ks) ⟨⟨rfl, rfl⟩, r⟩
  refine s ρ _ _ (q od kvs) F al σ _ S1 (g1.slots L) _ fun v x μ' F' al' H' q' g S' ab => ?_
  obtain ⟨e4, q'⟩ := q'
  obtain ⟨t, rfl⟩ := g.px
  have ea2 : (al ++ t)[n]? = some a := by rw [List.getElem?_append_left (List.getElem?_eq_some_iff.mp ea).1]; exact ea
  obtain ⟨b, e5, _, hb', r'⟩ := fdct_at S' (v := .ref a) ⟨a, ea2, rfl⟩ e4
  cases e5
  obtain ⟨S3, g3⟩ := S'.put ea2 e4 (fun z => nomatch z) (ho := .dK kvs) (o' := .dct ks) r'
  exact ⟨hb', k v x _ _ _ _ q' ((g1.trans g).trans g3) S3 ab⟩
end
end Dl

set_option Elab.async false
set_option linter.all false
set_option maxRecDepth 100000
set_option maxHeartbeats 4000000
namespace Dl
open PySem PySem.Spec PyProof.Rows L2
section
variable {K : PySem.W.Frag} {F F' : Hp} {al al' : List Addr} {μ μ' : Mu} {H H' : Hp}
/-- behind the walk: the dict as it was -/
theorem unlock {a : Addr} {n : Nat} {od : Obj} {kvs : List (Key × V)} {ks : List (Key × A)} (ea : al[n]? = some a) (g : Grow F al H F' al' H') (S : Sto K F' al' μ' H') (e : μ'[n]? = some (.fdct od kvs ks)) :
    H' a = some (.frz od (.dK kvs)) ∧ Sto K F' al' (μ'.set n (.dct ks)) (upd H' a (.dK kvs)) ∧ Grow F' al' H' F' al' (upd H' a (.dK kvs)) := by
  obtain ⟨t, rfl⟩ := g.px
  have ea2 : (al ++ t)[n]? = some a := by rw [List.getElem?_append_left (List.getElem?_eq_some_iff.mp ea).1]; exact ea
  obtain ⟨b, e5, _, hb', r'⟩ := fdct_at S (v := .ref a) ⟨a, ea2, rfl⟩ e
  cases e5
  obtain ⟨S3, g3⟩ := S.put ea2 e (fun z => nomatch z) (ho := .dK kvs) (o' := .dct ks) r'
  exact ⟨hb', S3, g3⟩
end
section
variable {X : Cx} {W : WX} {st : Stmt} {d : DS} {a b : Expr} {da db : DT} {pos : Pos}
/-- a statement that walks the dict in the i-th slot -/
def dsLock (i : Nat) (d : DS) : DS := fun D ρ μ => ∃ n ks, ρ[i]? = some (some (.c n)) ∧ μ[n]? = some (.dct ks) ∧ ∀ od vs, d { nx := fun ρ' μ' => μ'[n]? = some (.fdct od vs ks) ∧ D.nx ρ' (μ'.set n (.dct ks)), rt := fun x μ' => μ'[n]? = some (.fdct od vs ks) ∧ D.rt x (μ'.set n (.dct ks)), bk := fun ρ' μ' => μ'[n]? = some (.fdct od vs ks) ∧ D.bk ρ' (μ'.set n (.dct ks)), ct := fun ρ' μ' => μ'[n]? = some (.fdct od vs ks) ∧ D.ct ρ' (μ'.set n (.dct ks)) } ρ (μ.set n (.fdct od vs ks))
theorem ds_lock (i : Nat) (h : DSt X W st d) : DSt X W st (dsLock i d) := by
  obtain ⟨_, p, s⟩ := h.ex
  refine ⟨_, ps_lock p, fun ρ μ D h F al σ H S L E k => ?_⟩
  obtain ⟨n, ks, e1, e2, q⟩ := h
  obtain ⟨v, _, a, ea, rfl⟩ := L.at_ i _ e1
  obtain ⟨a', kvs, e3, ea', hb, r⟩ := dct_at S (v := .ref a) ⟨a, ea, rfl⟩ e2
  cases e3
  refine ⟨a, .dK kvs, hb, trivial, fun od => ?_⟩
  obtain ⟨S1, g1⟩ := S.put ea e2 (fun z => nomatch z) (ho := .frz od (.dK kvs)) (o' := .fdct od kvs ks) ⟨⟨rfl, rfl⟩, r⟩
  refine s ρ _ _ (q od kvs) F al σ _ S1 (g1.slots L) _ ⟨?_, ?_, ?_, ?_, fun _ _ _ _ _ _ _ _ _ z => z.elim⟩
  · rintro ρ' μ' F' al' σ' H' ⟨e4, q'⟩ g S' L'
    obtain ⟨u1, u2, u3⟩ := unlock ea g S' e4
    exact ⟨u1, k.nx _ _ _ _ _ _ q' ((g1.trans g).trans u3) u2 (u3.slots L')⟩
  · rintro v x μ' F' al' H' ⟨e4, q'⟩ g S' ab
    obtain ⟨u1, u2, u3⟩ := unlock ea g S' e4
    exact ⟨u1, k.rt _ _ _ _ _ _ q' ((g1.trans g).trans u3) u2 ab⟩
  · rintro ρ' μ' F' al' σ' H' ⟨e4, q'⟩ g S' L'
    obtain ⟨u1, u2, u3⟩ := unlock ea g S' e4
    exact ⟨u1, k.bk _ _ _ _ _ _ q' ((g1.trans g).trans u3) u2 (u3.slots L')⟩
  · rintro ρ' μ' F' al' σ' H' ⟨e4, q'⟩ g S' L'
    obtain ⟨u1, u2, u3⟩ := unlock ea g S' e4
    exact ⟨u1, k.ct _ _ _ _ _ _ q' ((g1.trans g).trans u3) u2 (u3.slots L')⟩
/-- {} -/
abbrev dDisp0 : DT := fun _ μ P => P (.c μ.length) (μ ++ [.dct []])
theorem d_disp0 : DE X (.Dict [] [] pos) dDisp0 := by
  refine ⟨_, pe_dnewK, fun ρ μ P h F al σ H S L Q kk D hD => ?_⟩
  obtain ⟨fD, nD⟩ := free_both S hD
  have g0 : Grow F al H F al (upd H D (.dK [])) := Grow.refl.free hD _
  have S0 := S.free fD nD (.dK [])
  obtain ⟨S3, g3⟩ := S0.adopt (ho := .dK []) (o := .dct []) g0 hD fD nD .nil
  have same : upd (upd H D (.dK [])) D (.dK []) = upd H D (.dK []) := by
    funext b
    by_cases z : b = D
    · rw [z, upd_same, upd_same]
    · rw [upd_ne z]
  rw [same] at S3 g3
  refine kk (.ref D) (.c μ.length) _ F _ _ h g3 S3 ⟨D, ?_, rfl⟩
  rw [← S.len, List.getElem?_append_right (Nat.le_refl _), Nat.sub_self]
  rfl
/-! ### pairs of numbers: < -/
def rdLtT : A → A → Mu → DK → Prop := fun x y μ P => ∃ i j k l, x = .d (.tuple [.int i, .int j]) ∧ y = .d (.tuple [.int k, .int l]) ∧ P (.d (.bool (decide (i < k ∨ (i = k ∧ j < l))))) μ
theorem lexLt2 (i j k l : Int) : HT.lexLt [i, j] [k, l] = decide (i < k ∨ (i = k ∧ j < l)) := by
  rw [HT.lexLt_cons, HT.lexLt_cons, HT.lexLt_nil_nil]
  by_cases a : i = k
  · subst a
    by_cases b : j = l
    · subst b
      simp
    · rw [if_pos rfl, if_neg b]
      simp
  · rw [if_neg a]
    simp [a]
theorem s_ltT {K : PySem.W.Frag} : SimR2 K (rLtT K) rdLtT := fun x y μ P h F al H v w S a b Q kk => by
  obtain ⟨i, j, k, l, rfl, rfl, h⟩ := h
  obtain ⟨p, vs, rfl, q, r⟩ := dp_tup a
  obtain ⟨p', ws, rfl, q', r'⟩ := dp_tup b
  have e1 : vs = ([i, j] : List Int).map V.int := ints_of (ns := [i, j]) r
  have e2 : ws = ([k, l] : List Int).map V.int := ints_of (ns := [k, l]) r'
  subst e1 e2
  exact ⟨p, p', [i, j], [k, l], rfl, rfl, S.seqT q, S.seqT q', by rw [lexLt2]; exact kk.now h S (.bl _)⟩
theorem dLtT (hu : X.A.units + 64 < cLine) (ha : DE X a da) (hb : DE X b db) (hm : behindInMarks .Lt b = false := by rfl) : DE X (.Compare a [.Lt] [b] pos) (dOp rdLtT da db) := d_cmp (op_ltT (by omega)) s_ltT ha hb hm
theorem tLtT (hu : X.A.units + 64 < cLine) (ha : DE X a da) (hb : DE X b db) (hm : behindInMarks .Lt b = false := by rfl) : DTest X (.Compare a [.Lt] [b] pos) (dB (dOp rdLtT da db)) := dt_cmp (op_ltT (by omega)) s_ltT ha hb hm
end
end Dl

set_option Elab.async false
set_option linter.all false
set_option maxRecDepth 100000
set_option maxHeartbeats 4000000
namespace Dl
open PySem PySem.Spec PyProof.Rows L2
/-! ### methods of tuples -/
section
variable {X : Cx} {o e : Expr} {es : List Expr} {to : TE} {t : TA} {name : Str} {apos cpos : Pos} {id : String} {r : V → List V → Hp → VK → Prop}
theorem sqN_is {pins : List (Addr × Obj)} {σ : L2.St} {H : Hp} {s : Shared} {a : Addr} {vs : List V} (I : Inv X pins σ H s) (h : SqN X.K H a vs) : ∃ ob, s.heap.get? a = some ob ∧ ob.dict = none := by
  rcases h with ⟨ob, e, d⟩ | ⟨ob, its, n, e, _, d, _⟩
  · exact ⟨ob, (I.hok a _ e).1, d⟩
  · exact ⟨ob, I.kIn a ob e, d⟩
def tBMN (K : PySem.W.Frag) (r : V → List V → Hp → VK → Prop) (to : TE) (t : TA) : TE := fun σ H Q => to σ H fun x H1 => (∃ a vs, x = .ref a ∧ SqN K H1 a vs) ∧ t σ H1 fun xs H2 => r x xs H2 Q
theorem pe_bmN (slot : Slot "tuple" name id) (hty : typeOf (.builtin id) = pure (.type "method_descriptor")) (hm : MtR X id r) (ho : PE X o to) (ha : PA X (e :: es) t)
    (base : attributeBase o name X.env (eval o X.env) = eval o X.env := by rfl)
    (few : ((backTo cpos (starEach (e :: es) X.env)).all (fun x => !x.1) && (backToKw cpos (keywordEach [] X.env)).all (fun x => x.1.isSome) && decide ((e :: es).length + ([] : List Keyword).length + (if ([] : List Keyword).isEmpty then 0 else 1) < 30)) = true := by rfl)
    (line : (apos.endLine == cpos.line) = true := by rfl) (st : starEach (e :: es) X.env = (false, eval e X.env) :: starEach es X.env := by rfl) (plain : (backTo cpos (starEach es X.env)).any (·.1) = false := by rfl) :
    PE X (.Call (.Attribute o name apos) (e :: es) [] cpos) (tBMN X.K r to t) := by
  constructor
  intro pins s σ H Q I h
  refine wpAny_Call_method_late base few line rfl (thn (ho.run pins s σ H _ I h) ?_)
  rintro v s1 ⟨x, H1, J, rx, ⟨a, vs, rfl, sq⟩, q⟩
  obtain ⟨its, _, tp, _⟩ := J.tuple sq.t
  have nd := sqN_is J sq
  cases rx
  refine ⟨"tuple", id, PySem.F.plainAttrs_tuple, slot, hty, tp.typeIs, ?_, ?_⟩
  · intro b eb
    cases eb
    exact nd
  have args := ha.run cpos pins s1 σ H1 _ J q
  rw [st] at args ⊢
  refine Calls.callWith_builtin ?_ (Calls.evalArgs_plain ?_)
  · show (false || (backTo cpos (starEach es X.env)).any (·.1)) = false
    rw [plain] <;> rfl
  · refine thn args ?_
    rintro us s2 ⟨ws, H2, J2, r2, q2⟩
    exact hm pins s2 σ H2 (.ref a) ws (.ref a) us Q J2 rfl r2 q2
end
/-- t.index(x), texts -/
def rTIndexS (K : PySem.W.Frag) : V → List V → Hp → VK → Prop := fun x xs H Q => ∃ (a : Addr) (ys : List Str) (k : Str), x = .ref a ∧ xs = [.str k] ∧ SqT K H a (ys.map V.str) ∧ k ∈ ys ∧ Q (.int (ys.idxOf k : Nat)) H
theorem mt_tindexS {X : Cx} : MtR X "tuple.index" (rTIndexS X.K) := by
  intro pins s σ H x xs v us Q I rx rxs h
  obtain ⟨a, ys, k, rfl, rfl, sq, mem, q⟩ := h
  cases rx
  obtain ⟨u, rfl, ru⟩ := vals1 rxs
  obtain ⟨t, rfl⟩ := ru
  obtain ⟨its, rv, tp, _⟩ := I.tuple sq
  exact PySem.SeqAt.tuple_index_strs tp rv.strs mem ⟨.int _, H, I.tok _, ⟨_, rfl⟩, q⟩
/-- xs.index(x), texts -/
def rLIndexS (K : PySem.W.Frag) : V → List V → Hp → VK → Prop := fun x xs H Q => ∃ (a : Addr) (ys : List Str) (k : Str), x = .ref a ∧ xs = [.str k] ∧ SqL K H a (ys.map V.str) ∧ k ∈ ys ∧ Q (.int (ys.idxOf k : Nat)) H
/-! ### over data -/
section
variable {K : PySem.W.Frag}
theorem strs_v {F : Hp} : ∀ {vs : List V} {ys : List Str}, DpAll K F vs (ys.map PyData.str) → vs = ys.map V.str
  | _, [], .nil => rfl
  | _, y :: ys, .cons a b => by rw [dp_str a, strs_v b]; rfl
def rdTIndexS : A → List A → Mu → DK → Prop := fun x xs μ P => ∃ (ys : List Str) (k : Str), x = .d (.tuple (ys.map .str)) ∧ xs = [.d (.str k)] ∧ k ∈ ys ∧ P (.d (.int (ys.idxOf k : Nat))) μ
theorem s_tindexS : ∀ x xs μ P, rdTIndexS x xs μ P → ∀ F al H v vs, Sto K F al μ H → Ab K F al v x → Paired (Ab K F al) vs xs → ∀ Q, Ko K F al H P Q → rTIndexS K v vs H Q := fun x xs μ P h F al H v vs S a as Q k => by
  obtain ⟨ys, n, rfl, rfl, hm, h⟩ := h
  obtain ⟨p, ws, rfl, q, r⟩ := dp_tup a
  have := strs_v r
  subst this
  obtain ⟨w, rfl, aw⟩ := one_of as
  exact ⟨p, ys, n, rfl, by rw [dp_str aw], S.seqT q, hm, k.now h S (.int _)⟩
variable {X : Cx} {o e : Expr} {es : List Expr} {apos cpos : Pos} {do_ : DT} {da : DAT} {name : Str} {id : String} {r : V → List V → Hp → VK → Prop} {rd : A → List A → Mu → DK → Prop}
abbrev dBmN (rd : A → List A → Mu → DK → Prop) (do_ : DT) (da : DAT) : DT := fun ρ μ P => do_ ρ μ fun x μ1 => (∃ ds, x = .d (.tuple ds)) ∧ da ρ μ1 fun xs μ2 => rd x xs μ2 P
theorem d_bmN (slot : Slot "tuple" name id) (hty : typeOf (.builtin id) = pure (.type "method_descriptor")) (hm : MtR X id r)
    (hs : ∀ x xs μ P, rd x xs μ P → ∀ F al H v vs, Sto X.K F al μ H → Ab X.K F al v x → Paired (Ab X.K F al) vs xs → ∀ Q, Ko X.K F al H P Q → r v vs H Q) (ho : DE X o do_) (ha : DA X (e :: es) da)
    (base : attributeBase o name X.env (eval o X.env) = eval o X.env := by rfl)
    (few : ((backTo cpos (starEach (e :: es) X.env)).all (fun x => !x.1) && (backToKw cpos (keywordEach [] X.env)).all (fun x => x.1.isSome) && decide ((e :: es).length + ([] : List Keyword).length + (if ([] : List Keyword).isEmpty then 0 else 1) < 30)) = true := by rfl)
    (line : (apos.endLine == cpos.line) = true := by rfl) (st : starEach (e :: es) X.env = (false, eval e X.env) :: starEach es X.env := by rfl) (plain : (backTo cpos (starEach es X.env)).any (·.1) = false := by rfl) :
    DE X (.Call (.Attribute o name apos) (e :: es) [] cpos) (dBmN rd do_ da) := by
  obtain ⟨_, p1, s1⟩ := ho.ex
  obtain ⟨_, p2, s2⟩ := ha.ex
  refine ⟨_, pe_bmN slot hty hm p1 p2 base few line st plain, fun ρ μ P h F al σ H S L Q k => s1 ρ μ _ h F al σ H S L _ fun v x μ1 F1 al1 H1 q g S1 a1 => ?_⟩
  obtain ⟨⟨ds, rfl⟩, q⟩ := q
  obtain ⟨p, vs, rfl, sq, _⟩ := dp_tupN a1
  refine ⟨⟨p, vs, rfl, sq.mono S1.sub⟩, s2 ρ μ1 _ q F1 al1 σ H1 S1 (g.slots L) _ fun ws xs μ2 F2 al2 H2 q2 g2 S2 a2 => ?_⟩
  exact hs _ xs μ2 P q2 F2 al2 H2 _ ws S2 (g2.ab a1) a2 Q (k.fwd (g.trans g2))
theorem d_tindex (hi : DE X o do_) {da' : DT} (ha : DE X e da') (base : attributeBase o "index" X.env (eval o X.env) = eval o X.env := by rfl)
    (few : ((backTo cpos (starEach [e] X.env)).all (fun x => !x.1) && (backToKw cpos (keywordEach [] X.env)).all (fun x => x.1.isSome) && decide (([e] : List Expr).length + ([] : List Keyword).length + (if ([] : List Keyword).isEmpty then 0 else 1) < 30)) = true := by rfl)
    (line : (apos.endLine == cpos.line) = true := by rfl) (st : starEach [e] X.env = (false, eval e X.env) :: starEach [] X.env := by rfl) : DE X (.Call (.Attribute o "index" apos) [e] [] cpos) (dBmN rdTIndexS do_ (daCons da' daNil)) :=
  d_bmN PySem.F.slot_tuple_index PySem.F.type_tuple_index mt_tindexS s_tindexS hi (da_cons ha da_nil st) base few line st
end
end Dl

set_option Elab.async false
set_option linter.all false
set_option maxRecDepth 100000
set_option maxHeartbeats 4000000
namespace Dl
open PySem PySem.Spec PyProof.Rows L2
/-! ### max, min of two pairs of numbers -/
def ltP (p q : Int × Int) : Bool := decide (p.1 < q.1 ∨ (p.1 = q.1 ∧ p.2 < q.2))
def pArr (p : Int × Int) (t u : Tok) : Array Value := #[.int p.1 t, .int p.2 u]
section
variable {prog : Program} {w : World} {A : Around} {E : Value → Shared → Prop} {s : Shared}
theorem rc_lt {a b : Addr} {p q : Int × Int} {t u t' u' : Tok} (ha : s.heap.IsTuple a (pArr p t u)) (hb : s.heap.IsTuple b (pArr q t' u')) (hu : A.units < cLine) {Q : Value → Shared → Prop} (h : Q (.bool (ltP p q)) s) :
    wpAny (model prog w) A (richCompare .Lt (.ref a) (.ref b)) Q E s := by
  have e : ltP p q = HT.lexLt [p.1, p.2] [q.1, q.2] := (lexLt2 _ _ _ _).symm
  rw [e] at h
  exact HT.lt_tupInts (items := pArr p t u) (items2 := pArr q t' u') ha hb (.cons _ _ (.cons _ _ .nil)) (.cons _ _ (.cons _ _ .nil)) hu h
theorem rc_gt {a b : Addr} {p q : Int × Int} {t u t' u' : Tok} (ha : s.heap.IsTuple a (pArr p t u)) (hb : s.heap.IsTuple b (pArr q t' u')) (hu : A.units < cLine) {Q : Value → Shared → Prop} (h : Q (.bool (ltP q p)) s) :
    wpAny (model prog w) A (richCompare .Gt (.ref a) (.ref b)) Q E s := by
  have z := Ob.RcOp.tuples_gt (A := A) (s := s) (l := a) (b := b) (items := pArr p t u) (items2 := pArr q t' u') (e := fun j => if j = 0 then p.1 == q.1 else p.2 == q.2) (r := fun j => if j = 0 then decide (q.1 < p.1) else decide (q.2 < p.2)) ha hb hu
    (fun j h1 h2 => by
      match j, h1, h2 with
      | 0, _, _ => exact SeqAt.EqAt.int_int _ _ _ _
      | 1, _, _ => exact SeqAt.EqAt.int_int _ _ _ _)
    (fun j h1 h2 _ => by
      match j, h1, h2 with
      | 0, _, _ => exact Ob.RcOp.gt_int _ _ _ _
      | 1, _, _ => exact Ob.RcOp.gt_int _ _ _ _)
  refine z prog w E Q ?_
  have e : Ob.lexAt (fun j => if j = 0 then p.1 == q.1 else p.2 == q.2) (fun j => if j = 0 then decide (q.1 < p.1) else decide (q.2 < p.2)) (decide ((pArr p t u).size > (pArr q t' u').size)) 0 (min (pArr p t u).size (pArr q t' u').size) = ltP q p := by
    show Ob.lexAt _ _ (decide (2 > 2)) 0 2 = _
    rw [Ob.lexAt_succ, Ob.lexAt_succ, Ob.lexAt_zero]
    unfold ltP
    by_cases h1 : p.1 = q.1
    · by_cases h2 : p.2 = q.2
      · simp [h1, h2]
      · simp [h1, h2]
    · have h3 : ¬ q.1 = p.1 := fun z => h1 z.symm
      simp [h1, h3]
  rw [e]
  exact h
def two (a b : Value) : Array Value := #[a, b]
theorem cmp_two_lt {a b : Addr} {p q : Int × Int} {t u t' u' : Tok} (ha : s.heap.IsTuple a (pArr p t u)) (hb : s.heap.IsTuple b (pArr q t' u')) (hu : A.units < cLine) :
    CmpIn prog w A .Lt s.heap (fun i v => (two (.ref a) (.ref b))[i]? = some v) (fun i j => ltP (if i = 0 then p else q) (if j = 0 then p else q)) := fun i j vi vj s' Q E hk hi hj h => by
  have ka : s'.heap.IsTuple a (pArr p t u) := let ⟨o, e, r⟩ := ha; ⟨o, hk _ _ e, r⟩
  have kb : s'.heap.IsTuple b (pArr q t' u') := let ⟨o, e, r⟩ := hb; ⟨o, hk _ _ e, r⟩
  match i, j, hi, hj with
  | 0, 0, hi, hj => cases Option.some.inj hi; cases Option.some.inj hj; exact rc_lt ka ka hu h
  | 0, 1, hi, hj => cases Option.some.inj hi; cases Option.some.inj hj; exact rc_lt ka kb hu h
  | 1, 0, hi, hj => cases Option.some.inj hi; cases Option.some.inj hj; exact rc_lt kb ka hu h
  | 1, 1, hi, hj => cases Option.some.inj hi; cases Option.some.inj hj; exact rc_lt kb kb hu h
theorem cmp_two_gt {a b : Addr} {p q : Int × Int} {t u t' u' : Tok} (ha : s.heap.IsTuple a (pArr p t u)) (hb : s.heap.IsTuple b (pArr q t' u')) (hu : A.units < cLine) :
    CmpIn prog w A .Gt s.heap (fun i v => (two (.ref a) (.ref b))[i]? = some v) (fun i j => ltP (if j = 0 then p else q) (if i = 0 then p else q)) := fun i j vi vj s' Q E hk hi hj h => by
  have ka : s'.heap.IsTuple a (pArr p t u) := let ⟨o, e, r⟩ := ha; ⟨o, hk _ _ e, r⟩
  have kb : s'.heap.IsTuple b (pArr q t' u') := let ⟨o, e, r⟩ := hb; ⟨o, hk _ _ e, r⟩
  match i, j, hi, hj with
  | 0, 0, hi, hj => cases Option.some.inj hi; cases Option.some.inj hj; exact rc_gt ka ka hu h
  | 0, 1, hi, hj => cases Option.some.inj hi; cases Option.some.inj hj; exact rc_gt ka kb hu h
  | 1, 0, hi, hj => cases Option.some.inj hi; cases Option.some.inj hj; exact rc_gt kb ka hu h
  | 1, 1, hi, hj => cases Option.some.inj hi; cases Option.some.inj hj; exact rc_gt kb kb hu h
theorem push_kept {o : Obj} : ∀ b u, s.heap.get? b = some u → (s.heap.push o).get? b = some u := fun b u e => Heap.get?_push_of_some _ e
/-- max(a, b) of two pairs: b where a < b, else a -/
theorem max_two_P {a b : Addr} {p q : Int × Int} {t u t' u' : Tok} (hh : A.handled = none) (ha : s.heap.IsTuple a (pArr p t u)) (hb : s.heap.IsTuple b (pArr q t' u')) (hu : A.units + 1 < cLine) {Q : Value → Shared → Prop}
    (h : ∀ h' tk, (∀ c o, s.heap.get? c = some o → h'.get? c = some o) → Q (.ref (if ltP p q then b else a)) { s with heap := h', toks := tk }) :
    wpAny (model prog w) A (call (.builtin "max") [.ref a, .ref b]) Q E s := by
  refine call_function_tree PySem.F.kind_max PySem.F.plain_max PySem.F.entry_max (PySem.F.args_max2 _ _) ?_
  show wpAny _ A.in1 (Builtin.Builtins.bindParams "max" ["key", "default"] 0 ⟨[], []⟩ >>= _) _ _ s
  refine wpAny_bind (wpAny_of_eq (show Builtin.Builtins.bindParams "max" ["key", "default"] 0 ⟨[], []⟩ = pure [none, none] from rfl) ?_)
  show wpAny _ A.in1 (newTuple [.ref a, .ref b] >>= _) _ _ s
  refine wpAny_bind (wpAny_newObj_type ?_)
  have ka : (s.heap.push { cls := .type "tuple", data := .seq #[Value.ref a, .ref b] }).IsTuple a (pArr p t u) := let ⟨o, e, r⟩ := ha; ⟨o, push_kept _ _ e, r⟩
  have kb : (s.heap.push { cls := .type "tuple", data := .seq #[Value.ref a, .ref b] }).IsTuple b (pArr q t' u') := let ⟨o, e, r⟩ := hb; ⟨o, push_kept _ _ e, r⟩
  have hT : (s.heap.push { cls := .type "tuple", data := .seq #[Value.ref a, .ref b] }).IsTuple s.heap.objs.size (two (.ref a) (.ref b)) := ⟨_, Heap.get?_push_size _ rfl, rfl, 0, rfl⟩
  refine wpAny_bind (PySem.W.iter_tupleW (A := A.in1) (s := { s with heap := s.heap.push { cls := .type "tuple", data := .seq #[Value.ref a, .ref b] } }) hh hT fun s₂ e W st hfp hw hk => ?_)
  refine wpAny_bind (wpAny_newObj_type ?_)
  have hSf := fun hm => Nat.lt_irrefl _ (hfp s₂.heap.objs.size hm)
  refine wpAny_pure ⟨plainId_quiet PySem.F.plain_max_loop _, codeAny_max_loop_firstH W _ hw _ (cmp_two_gt (A := A.in1) (s := { s with heap := s.heap.push { cls := .type "tuple", data := .seq #[Value.ref a, .ref b] } }) ka kb hu) s₂.heap.objs.size hSf (fresh_in hk) _ (Nat.zero_lt_succ 1) (fun b o e => Heap.get?_push_of_some _ (hk b o e)) (W.frame 0 s₂ _ s₂.toks st (Nat.le_refl _) fun b _ o e => Heap.get?_push_of_some _ e) (Heap.get?_push_size _ rfl) fun v s' hP hm => ?_⟩
  obtain ⟨h', tk, rfl, hk'⟩ := PySem.W.moved_old e rfl (Moved.drop_new (tk := s₂.toks) hm (Nat.le_refl _))
  have hv : v = .ref (if ltP p q then b else a) := by
    have hP' : (two (.ref a) (.ref b))[argBest (fun i j => ltP (if j = 0 then p else q) (if i = 0 then p else q)) 1]? = some v := hP
    by_cases hc : ltP p q = true
    · rw [if_pos hc]
      have e : argBest (fun i j => ltP (if j = 0 then p else q) (if i = 0 then p else q)) 1 = 1 := by simp [argBest, hc]
      rw [e] at hP'
      exact (Option.some.inj hP').symm
    · rw [if_neg hc]
      have e : argBest (fun i j => ltP (if j = 0 then p else q) (if i = 0 then p else q)) 1 = 0 := by simp [argBest, hc]
      rw [e] at hP'
      exact (Option.some.inj hP').symm
  rw [hv]
  exact h h' tk fun c o ec => hk' c o (push_kept _ _ ec)
/-- min(a, b) of two pairs: b where b < a, else a -/
theorem min_two_P {a b : Addr} {p q : Int × Int} {t u t' u' : Tok} (hh : A.handled = none) (ha : s.heap.IsTuple a (pArr p t u)) (hb : s.heap.IsTuple b (pArr q t' u')) (hu : A.units + 1 < cLine) {Q : Value → Shared → Prop}
    (h : ∀ h' tk, (∀ c o, s.heap.get? c = some o → h'.get? c = some o) → Q (.ref (if ltP q p then b else a)) { s with heap := h', toks := tk }) :
    wpAny (model prog w) A (call (.builtin "min") [.ref a, .ref b]) Q E s := by
  refine call_function_tree PySem.F.kind_min PySem.F.plain_min PySem.F.entry_min (PySem.F.args_min2 _ _) ?_
  show wpAny _ A.in1 (Builtin.Builtins.bindParams "min" ["key", "default"] 0 ⟨[], []⟩ >>= _) _ _ s
  refine wpAny_bind (wpAny_of_eq (show Builtin.Builtins.bindParams "min" ["key", "default"] 0 ⟨[], []⟩ = pure [none, none] from rfl) ?_)
  show wpAny _ A.in1 (newTuple [.ref a, .ref b] >>= _) _ _ s
  refine wpAny_bind (wpAny_newObj_type ?_)
  have ka : (s.heap.push { cls := .type "tuple", data := .seq #[Value.ref a, .ref b] }).IsTuple a (pArr p t u) := let ⟨o, e, r⟩ := ha; ⟨o, push_kept _ _ e, r⟩
  have kb : (s.heap.push { cls := .type "tuple", data := .seq #[Value.ref a, .ref b] }).IsTuple b (pArr q t' u') := let ⟨o, e, r⟩ := hb; ⟨o, push_kept _ _ e, r⟩
  have hT : (s.heap.push { cls := .type "tuple", data := .seq #[Value.ref a, .ref b] }).IsTuple s.heap.objs.size (two (.ref a) (.ref b)) := ⟨_, Heap.get?_push_size _ rfl, rfl, 0, rfl⟩
  refine wpAny_bind (PySem.W.iter_tupleW (A := A.in1) (s := { s with heap := s.heap.push { cls := .type "tuple", data := .seq #[Value.ref a, .ref b] } }) hh hT fun s₂ e W st hfp hw hk => ?_)
  refine wpAny_bind (wpAny_newObj_type ?_)
  have hSf := fun hm => Nat.lt_irrefl _ (hfp s₂.heap.objs.size hm)
  refine wpAny_pure ⟨plainId_quiet PySem.F.plain_min_loop _, codeAny_min_loop_firstH W _ hw _ (cmp_two_lt (A := A.in1) (s := { s with heap := s.heap.push { cls := .type "tuple", data := .seq #[Value.ref a, .ref b] } }) ka kb hu) s₂.heap.objs.size hSf (fresh_in hk) _ (Nat.zero_lt_succ 1) (fun b o e => Heap.get?_push_of_some _ (hk b o e)) (W.frame 0 s₂ _ s₂.toks st (Nat.le_refl _) fun b _ o e => Heap.get?_push_of_some _ e) (Heap.get?_push_size _ rfl) fun v s' hP hm => ?_⟩
  obtain ⟨h', tk, rfl, hk'⟩ := PySem.W.moved_old e rfl (Moved.drop_new (tk := s₂.toks) hm (Nat.le_refl _))
  have hv : v = .ref (if ltP q p then b else a) := by
    have hP' : (two (.ref a) (.ref b))[argBest (fun i j => ltP (if i = 0 then p else q) (if j = 0 then p else q)) 1]? = some v := hP
    by_cases hc : ltP q p = true
    · rw [if_pos hc]
      have e : argBest (fun i j => ltP (if i = 0 then p else q) (if j = 0 then p else q)) 1 = 1 := by simp [argBest, hc]
      rw [e] at hP'
      exact (Option.some.inj hP').symm
    · rw [if_neg hc]
      have e : argBest (fun i j => ltP (if i = 0 then p else q) (if j = 0 then p else q)) 1 = 0 := by simp [argBest, hc]
      rw [e] at hP'
      exact (Option.some.inj hP').symm
  rw [hv]
  exact h h' tk fun c o ec => hk' c o (push_kept _ _ ec)
end
/-! ### by values, over data -/
def rMaxP (K : PySem.W.Frag) : List V → Hp → VK → Prop := fun xs H Q => ∃ (a b : Addr) (p q : Int × Int), xs = [.ref a, .ref b] ∧ SqT K H a ([p.1, p.2].map V.int) ∧ SqT K H b ([q.1, q.2].map V.int) ∧ Q (.ref (if ltP p q then b else a)) H
def rMinP (K : PySem.W.Frag) : List V → Hp → VK → Prop := fun xs H Q => ∃ (a b : Addr) (p q : Int × Int), xs = [.ref a, .ref b] ∧ SqT K H a ([p.1, p.2].map V.int) ∧ SqT K H b ([q.1, q.2].map V.int) ∧ Q (.ref (if ltP q p then b else a)) H
section
variable {X : Cx}
theorem pArr_of {its : List Value} {i j : Int} (r : IntsAre its [i, j]) : ∃ t u, its.toArray = pArr (i, j) t u := by
  cases r with
  | cons _ t r =>
    cases r with
    | cons _ u r =>
      cases r
      exact ⟨t, u, rfl⟩
theorem call_maxP (hc : X.calm = true) (hu : X.A.units + 64 < cLine) : CallR X (.builtin "max") (rMaxP X.K) := by
  intro pins s σ H xs us Q I r h
  obtain ⟨a, b, p, q, rfl, ha, hb, k⟩ := h
  obtain ⟨u, w', rfl, ra, rb⟩ := vals2 r
  cases ra
  cases rb
  obtain ⟨its, r1, p1, _⟩ := I.tuple ha
  obtain ⟨its2, r2, p2, _⟩ := I.tuple hb
  obtain ⟨t, u, e1⟩ := pArr_of (intsAre_of r1)
  obtain ⟨t', u', e2⟩ := pArr_of (intsAre_of r2)
  rw [e1] at p1
  rw [e2] at p2
  exact max_two_P (I.ok.hd hc) p1 p2 (by omega) fun h' tk kk => ⟨.ref _, H, I.kept kk, rfl, k⟩
theorem call_minP (hc : X.calm = true) (hu : X.A.units + 64 < cLine) : CallR X (.builtin "min") (rMinP X.K) := by
  intro pins s σ H xs us Q I r h
  obtain ⟨a, b, p, q, rfl, ha, hb, k⟩ := h
  obtain ⟨u, w', rfl, ra, rb⟩ := vals2 r
  cases ra
  cases rb
  obtain ⟨its, r1, p1, _⟩ := I.tuple ha
  obtain ⟨its2, r2, p2, _⟩ := I.tuple hb
  obtain ⟨t, u, e1⟩ := pArr_of (intsAre_of r1)
  obtain ⟨t', u', e2⟩ := pArr_of (intsAre_of r2)
  rw [e1] at p1
  rw [e2] at p2
  exact min_two_P (I.ok.hd hc) p1 p2 (by omega) fun h' tk kk => ⟨.ref _, H, I.kept kk, rfl, k⟩
end
section
variable {K : PySem.W.Frag}
abbrev dPair (p : Int × Int) : PyData := .tuple [.int p.1, .int p.2]
def rdMaxP : List A → Mu → DK → Prop := fun xs μ P => ∃ (p q : Int × Int), xs = [.d (dPair p), .d (dPair q)] ∧ P (.d (dPair (if ltP p q then q else p))) μ
def rdMinP : List A → Mu → DK → Prop := fun xs μ P => ∃ (p q : Int × Int), xs = [.d (dPair p), .d (dPair q)] ∧ P (.d (dPair (if ltP q p then q else p))) μ
theorem s_maxP : SimC K (rMaxP K) rdMaxP := fun xs μ P h F al H vs S a Q k => by
  obtain ⟨p, q, rfl, h⟩ := h
  cases a with
  | cons a1 a2 =>
    cases a2 with
    | cons a2 a3 =>
      cases a3
      obtain ⟨b, vs, rfl, q1, r⟩ := dp_tup a1
      obtain ⟨b', ws, rfl, q2, r'⟩ := dp_tup a2
      have e1 : vs = ([p.1, p.2] : List Int).map V.int := ints_of (ns := [p.1, p.2]) r
      have e2 : ws = ([q.1, q.2] : List Int).map V.int := ints_of (ns := [q.1, q.2]) r'
      subst e1 e2
      refine ⟨b, b', p, q, rfl, S.seqT q1, S.seqT q2, ?_⟩
      by_cases hc : ltP p q = true
      · rw [if_pos hc] at h ⊢; exact k.now h S a2
      · rw [if_neg hc] at h ⊢; exact k.now h S a1
theorem s_minP : SimC K (rMinP K) rdMinP := fun xs μ P h F al H vs S a Q k => by
  obtain ⟨p, q, rfl, h⟩ := h
  cases a with
  | cons a1 a2 =>
    cases a2 with
    | cons a2 a3 =>
      cases a3
      obtain ⟨b, vs, rfl, q1, r⟩ := dp_tup a1
      obtain ⟨b', ws, rfl, q2, r'⟩ := dp_tup a2
      have e1 : vs = ([p.1, p.2] : List Int).map V.int := ints_of (ns := [p.1, p.2]) r
      have e2 : ws = ([q.1, q.2] : List Int).map V.int := ints_of (ns := [q.1, q.2]) r'
      subst e1 e2
      refine ⟨b, b', p, q, rfl, S.seqT q1, S.seqT q2, ?_⟩
      by_cases hc : ltP q p = true
      · rw [if_pos hc] at h ⊢; exact k.now h S a2
      · rw [if_neg hc] at h ⊢; exact k.now h S a1
end
end Dl

set_option Elab.async false
set_option linter.all false
set_option maxRecDepth 100000
set_option maxHeartbeats 4000000
namespace Dl
open PySem PySem.Spec PyProof.Rows L2
/-! ### << >> & | of numbers from 0 up -/
section
variable {X : Cx} {a b : Expr} {da db : DT} {pos : Pos} {K : PySem.W.Frag}
def rdN (C : Nat → Nat → Prop) (g : Nat → Nat → Nat) : A → A → Mu → DK → Prop := fun x y μ P => ∃ n m : Nat, x = .d (.int n) ∧ y = .d (.int m) ∧ C n m ∧ P (.d (.int ((g n m : Nat) : Int))) μ
def CShN (n m : Nat) : Prop := m ≤ 1000 ∧ n < 2 ^ 60
def rdShl := rdN CShN fun n m => n * 2 ^ m
def rdShr := rdN (fun _ _ => True) fun n m => n / 2 ^ m
def rdBand := rdN (fun _ _ => True) fun n m => n &&& m
def rdBor := rdN (fun _ _ => True) fun n m => n ||| m
theorem s_shl : SimR2 K (rI CPow fun i j => .int (i * 2 ^ j.toNat)) rdShl := fun x y μ P h F al H v w S a b Q k => by
  obtain ⟨n, m, rfl, rfl, ⟨c1, c2⟩, h⟩ := h
  rw [dp_int a, dp_int b]
  refine ⟨_, _, rfl, rfl, ⟨Int.natCast_nonneg _, by omega, ?_⟩, ?_⟩
  · rw [Int.natAbs_natCast]
    exact Nat.lt_trans c2 (by decide)
  · show Q (.int ((n : Int) * 2 ^ (m : Int).toNat)) H
    rw [Int.toNat_natCast]
    have e : ((n : Int) * 2 ^ m) = ((n * 2 ^ m : Nat) : Int) := by
      rw [Int.natCast_mul, Int.natCast_pow]
      rfl
    rw [e]
    exact k.now h S (.int _)
theorem s_shr : SimR2 K (rI (fun _ j => 0 ≤ j) fun i j => .int (i / 2 ^ j.toNat)) rdShr := fun x y μ P h F al H v w S a b Q k => by
  obtain ⟨n, m, rfl, rfl, _, h⟩ := h
  rw [dp_int a, dp_int b]
  refine ⟨_, _, rfl, rfl, Int.natCast_nonneg _, ?_⟩
  show Q (.int ((n : Int) / 2 ^ (m : Int).toNat)) H
  rw [Int.toNat_natCast]
  have e : ((n : Int) / 2 ^ m) = ((n / 2 ^ m : Nat) : Int) := by
    rw [Int.natCast_ediv, Int.natCast_pow]
    rfl
  rw [e]
  exact k.now h S (.int _)
theorem band_nat (n m : Nat) : Builtin.bitAnd (n : Int) (m : Int) = ((n &&& m : Nat) : Int) := by
  rw [bitAnd_pp (Int.natCast_nonneg _) (Int.natCast_nonneg _), Int.toNat_natCast, Int.toNat_natCast]
theorem bnot_neg (n : Nat) : ¬ 0 ≤ Builtin.bitNot (n : Int) := by
  unfold Builtin.bitNot
  omega
theorem bor_nat (n m : Nat) : Builtin.bitOr (n : Int) (m : Int) = ((n ||| m : Nat) : Int) := by
  unfold Builtin.bitOr
  rw [bitAnd_nn (bnot_neg n) (bnot_neg m), bitNot_bitNot, bitNot_bitNot, bitNot_bitNot, Int.toNat_natCast, Int.toNat_natCast]
theorem s_band : SimR2 K (rI0 fun i j => .int (Builtin.bitAnd i j)) rdBand := fun x y μ P h F al H v w S a b Q k => by
  obtain ⟨n, m, rfl, rfl, _, h⟩ := h
  rw [dp_int a, dp_int b]
  refine ⟨_, _, rfl, rfl, ?_⟩
  show Q (.int (Builtin.bitAnd (n : Int) (m : Int))) H
  rw [band_nat]
  exact k.now h S (.int _)
theorem s_bor : SimR2 K (rI0 fun i j => .int (Builtin.bitOr i j)) rdBor := fun x y μ P h F al H v w S a b Q k => by
  obtain ⟨n, m, rfl, rfl, _, h⟩ := h
  rw [dp_int a, dp_int b]
  refine ⟨_, _, rfl, rfl, ?_⟩
  show Q (.int (Builtin.bitOr (n : Int) (m : Int))) H
  rw [bor_nat]
  exact k.now h S (.int _)
theorem d_shl (ha : DE X a da) (hb : DE X b db) : DE X (.BinOp a .LShift b pos) (dOp rdShl da db) := d_op op_shl s_shl ha hb
theorem d_shr (ha : DE X a da) (hb : DE X b db) : DE X (.BinOp a .RShift b pos) (dOp rdShr da db) := d_op op_shr s_shr ha hb
theorem d_band (ha : DE X a da) (hb : DE X b db) : DE X (.BinOp a .BitAnd b pos) (dOp rdBand da db) := d_op op_and s_band ha hb
theorem d_bor (ha : DE X a da) (hb : DE X b db) : DE X (.BinOp a .BitOr b pos) (dOp rdBor da db) := d_op op_or s_bor ha hb
end
end Dl

set_option Elab.async false
set_option linter.all false
set_option maxRecDepth 100000
set_option maxHeartbeats 4000000
namespace Dl
open PySem PySem.Spec PyProof.Rows L2
/-! ### name = {..: .. for ..} on one line -/
section
variable {X : Cx}
theorem ps_setDc {i : Nat} {y : Str} {py : Pos} {kx vx tg iter : Expr} {ifs : List Expr} {scope : Scope} {own : List (Str × Nat)} {pos spos : Pos} {wi : TI} {g : TG} {tt : TT} {tk tv : TE} (hc : X.calm = true) (hN : X.N.Nodup) (hy : X.N[i]? = some y) (hyl : X.env.scope.names.lookup y = some .local)
    (hsw : swapsWith (.DictComp kx vx [⟨tg, iter, ifs, 0⟩] scope pos) (some (.Name y py)) spos.line X.env = pure true) (hi : PI X tg iter wi) (ok : BlkOk X.N X.env.scope scope own)
    (hg : ∀ (s : Shared) (H : Hp) (C : Addr) (cl : List (Str × Addr)) (fp : List Addr), PG (X.blk s H scope (compEnvC scope cl C X.env) fp) tg g) (ht : ∀ (s : Shared) (H : Hp) (C : Addr) (cl : List (Str × Addr)) (fp : List Addr), PTs (X.blk s H scope (compEnvC scope cl C X.env) fp) ifs tt)
    (hk : ∀ (s : Shared) (H : Hp) (C : Addr) (cl : List (Str × Addr)) (fp : List Addr), PE (X.blk s H scope (compEnvC scope cl C X.env) fp) kx tk)
    (he : ∀ (s : Shared) (H : Hp) (C : Addr) (cl : List (Str × Addr)) (fp : List Addr), PE (X.blk s H scope (compEnvC scope cl C X.env) fp) vx tv) (hs : ∀ x, foldedSetIterable iter X.env x = pure x := by intro _; rfl) :
    PS X (.Assign [.Name y py] (.DictComp kx vx [⟨tg, iter, ifs, 0⟩] scope pos) spos) (tAsg (tDc wi g tt tk tv (own.map (·.2))) (gName i)) := by
  refine ⟨fun pins s σ H D I h => ?_⟩
  rw [exec_Assign_Name_used _ _ _ _ hsw]
  refine wpAny_bind (wpAny_standAt (wpAny_bind ?_))
  show wpAny _ X.A (do let _ ← comprehension (.DictComp kx vx [⟨tg, iter, ifs, 0⟩] scope pos) scope X.env (firstIterPos [⟨tg, iter, ifs, 0⟩] pos) newDict false (eval iter X.env) (some (assign (.Name y py) X.env))) _ _ s
  have h : tDc wi g tt tk tv (own.map (·.2)) σ H (fun x H1 => gName i x σ H1 D.nx) := h
  refine wpAny_bind (thn (dc_core (Qf := fun _ s' => SP X pins D .next s') hc hN I hi ok hg ht hk he hs h fun L C s' m H' I' q hn f => ?_) fun _ s' hq => wpAny_pure (wpAny_pure hq))
  show wpAny _ _ (assign (.Name y py) X.env (.ref L)) _ _ _
  refine wpAny_assign_Name (store_ok2 (v := V.ref L) I' hN hy (.inl hyl) rfl (fun s2 I2 ⟨a, sb, ha⟩ => ?_) (.inr hyl))
  obtain ⟨f0, f1, f2, f3, f4, f5⟩ := f
  have haC : C ≠ a := by
    rcases ha with z | z
    · rw [z]; exact f1
    · exact fun e => f4 y a z e.symm
  exact ⟨m, hn.sameBut sb haC, fun h3 sb3 => ⟨_, H', I2.turned (t' := s2.toks) (fun b o hb e => (sb3.2 b hb).trans e) f0 f1 f3 f4 f5, q⟩⟩
theorem swd_true {kx vx : Expr} {gs : List Comprehension} {scope : Scope} {pos py : Pos} {y : Str} {l : Nat} {env : Env} (hk : env.scope.kind = .function) (hy : env.scope.names.lookup y = some .local) (hl : (py.line == pos.line) = true)
    (ha : (scope.names.any fun (n, k) => n == y && (k == .local || k == .cell)) = false) : swapsWith (.DictComp kx vx gs scope pos) (some (.Name y py)) l env = pure true := by
  have ky : env.kindOf y = some .local := hy
  have hb : env.blockKind = .function := by unfold Env.blockKind; rw [hk]; rfl
  unfold swapsWith
  simp only [hb, ky, ha, Expr.pos, hl]
  rfl
theorem ds_setDc {W : WX} {tg iter kx vx : Expr} {ifs : List Expr} {di : DI} {dg : DG} {dt : DTT} {dk dv : DT} {pos spos py : Pos} {scope : Scope} {own : List (Str × Nat)} {i : Nat} {y : Str} (hc : X.calm = true) (hN : X.N.Nodup) (hi : DIt X tg iter di) (ok : BlkOk X.N X.env.scope scope own)
    (hg : Blk X scope fun Y => DGt Y tg (own.map (·.2)) dg) (ht : Blk X scope fun Y => DTs Y ifs dt) (hk : Blk X scope fun Y => DE Y kx dk) (he : Blk X scope fun Y => DE Y vx dv)
    (hsw : swapsWith (.DictComp kx vx [⟨tg, iter, ifs, 0⟩] scope pos) (some (.Name y py)) spos.line X.env = pure true) (hy : X.N[i]? = some y := by rfl) (hyl : X.env.scope.names.lookup y = some .local := by rfl) (hs : ∀ x, foldedSetIterable iter X.env x = pure x := by intro _; rfl) :
    DSt X W (.Assign [.Name y py] (.DictComp kx vx [⟨tg, iter, ifs, 0⟩] scope pos) spos) (dsSet i (dDc di dg dt dk dv (own.map (·.2)))) := by
  obtain ⟨_, p1, s1⟩ := hi.ex
  refine ⟨_, ps_setDc (tk := tD X.K dk) (tv := tD X.K dv) (tt := tDT X.K dt) (g := tDG X.K (own.map (·.2)) dg) hc hN hy hyl hsw p1 ok (fun s H C cl fp => (hg s H C cl fp).pg) (fun s H C cl fp => (ht s H C cl fp).ex) (fun s H C cl fp => (hk s H C cl fp).pe) (fun s H C cl fp => (he s H C cl fp).pe) hs, fun ρ μ D h F al σ H S L E k => ?_⟩
  exact sim_dc s1 sim_tDG sim_tDT sim_tD sim_tD ρ μ _ h F al σ H S L _ fun v x μ1 F1 al1 H1 q g S1 a => k.nx _ _ _ _ _ _ q g S1 ((g.slots L).set a)
end
end Dl

set_option Elab.async false
set_option linter.all false
set_option maxRecDepth 100000
set_option maxHeartbeats 4000000
namespace Dl
open PySem PySem.Spec PyProof.Rows L2
/-! ### dict == dict, values numbers -/
def eqI (ks ls : List (Key × Int)) : Bool := (ks.length == ls.length) && ks.all fun p => decide (((ls.find? fun q => decide (q.1 = p.1)).map (·.2)) = some p.2)
def vI (l : List (Key × Int)) : List (Key × V) := l.map fun p => (p.1, V.int p.2)
def aI (l : List (Key × Int)) : List (Key × A) := l.map fun p => (p.1, A.d (.int p.2))
def rEqDI : R2 := fun x y H Q => ∃ a b ks ls, x = .ref a ∧ y = .ref b ∧ H a = some (.dK (vI ks)) ∧ H b = some (.dK (vI ls)) ∧ Q (.bl (eqI ks ls)) H
theorem vI_val (k : Key) : ∀ ls : List (Key × Int), valV (vI ls) k = ((ls.find? fun q => decide (q.1 = k)).map (·.2)).map V.int
  | [] => rfl
  | p :: ls => by
    have ih := vI_val k ls
    unfold vI at ih ⊢
    rw [List.map_cons, List.find?_cons]
    by_cases e : p.1 = k
    · rw [valV_pos (show ((p.1, V.int p.2) : Key × V).1 = k from e), decide_eq_true e]
      rfl
    · rw [valV_neg (show ¬ ((p.1, V.int p.2) : Key × V).1 = k from e), decide_eq_false e]
      exact ih
theorem hits_int {A : Around} {s : Shared} {ls : List (Key × Int)} {vb : List (Key × Value)} (rb : KV (vI ls) vb) : ∀ {ks : List (Key × Int)} {va : List (Key × Value)}, KV (vI ks) va →
    PySem.W.KeqHits A s vb va (ks.all fun p => decide (((ls.find? fun q => decide (q.1 = p.1)).map (·.2)) = some p.2))
  | [], va, ra => by
    cases ra
    exact .nil
  | p :: ks, va, ra => by
    cases ra with
    | @cons _ q _ qs h t =>
      obtain ⟨h1, h2⟩ := h
      obtain ⟨k, v⟩ := q
      have h1' : p.1 = k := h1
      obtain ⟨tk, rfl⟩ : ∃ tk, v = Value.int p.2 tk := h2
      have ih := hits_int (A := A) (s := s) rb t
      have rr := rb.val p.1
      rw [vI_val] at rr
      rw [List.all_cons]
      subst h1'
      cases e : (ls.find? fun q => decide (q.1 = p.1)).map (·.2) with
      | none =>
        rw [e] at rr
        have z := RelO.none_of rr
        rw [decide_eq_false (fun z => nomatch z), Bool.false_and]
        exact .miss z
      | some j =>
        rw [e] at rr
        obtain ⟨y, hy, ry⟩ := RelO.some_of rr
        obtain ⟨tj, rfl⟩ : ∃ tj, y = Value.int j tj := ry
        have e2 : decide (some j = some p.2) = (p.2 == j) := by
          by_cases z : p.2 = j
          · subst z
            simp
          · have : ¬ j = p.2 := fun w => z w.symm
            simp [z, this]
        rw [e2]
        exact .hit hy (SeqAt.EqAt.int_int _ _ _ _) ih
theorem op_eq_dI {X : Cx} (hu : X.A.units < cLine) : OpR X (compareOp .Eq) rEqDI := by
  intro pins s σ H x y v u Q I rx ry h
  obtain ⟨a, b, ks, ls, rfl, rfl, ea, eb, q⟩ := h
  obtain rfl : v = Value.ref a := rx
  obtain rfl : u = Value.ref b := ry
  obtain ⟨_, ya, va, ra, da⟩ := (show ObjOk X.prog X.w H s.heap a (.dK (vI ks)) from I.hok a _ ea)
  obtain ⟨_, yb, vb, rb, db⟩ := (show ObjOk X.prog X.w H s.heap b (.dK (vI ls)) from I.hok b _ eb)
  have l1 : ks.length = va.length := by rw [← ra.length]; unfold vI; rw [List.length_map]
  have l2 : ls.length = vb.length := by rw [← rb.length]; unfold vI; rw [List.length_map]
  exact PySem.W.keq_eq (knd := mixKind X.prog X.w) ya yb da db hu (fun _ => hits_int rb ra) (fin_bl I q (by unfold eqI; rw [l1, l2]))
/-! over data -/
def rdEqDI : A → A → Mu → DK → Prop := fun x y μ P => ∃ i j ks ls, x = .c i ∧ y = .c j ∧ μ[i]? = some (.dct (aI ks)) ∧ μ[j]? = some (.dct (aI ls)) ∧ P (.d (.bool (eqI ks ls))) μ
theorem aI_vI {K : PySem.W.Frag} {F : Hp} {al : List Addr} : ∀ {kvs : List (Key × V)} {ks : List (Key × Int)}, Paired (fun (p : Key × V) (q : Key × A) => p.1 = q.1 ∧ Ab K F al p.2 q.2) kvs (aI ks) → kvs = vI ks
  | _, [], h => by
    cases h
    rfl
  | _, k :: ks, h => by
    cases h with
    | @cons p _ ps _ h t =>
      obtain ⟨h1, h2⟩ := h
      have e := aI_vI t
      subst e
      obtain ⟨p1, p2⟩ := p
      have e1 : p1 = k.1 := h1
      have e2 : p2 = V.int k.2 := dp_int h2
      subst e1 e2
      rfl
theorem s_eqDI {K : PySem.W.Frag} : SimR2 K rEqDI rdEqDI := fun x y μ P h F al H v w S a b Q k => by
  obtain ⟨i, j, ks, ls, rfl, rfl, ei, ej, h⟩ := h
  obtain ⟨p, kvs, rfl, _, hp, r⟩ := dct_at S a ei
  obtain ⟨q, lvs, rfl, _, hq, r'⟩ := dct_at S b ej
  obtain rfl := aI_vI r
  obtain rfl := aI_vI r'
  exact ⟨p, q, ks, ls, rfl, rfl, hp, hq, k.now h S (.bl _)⟩
section
variable {X : Cx} {a b : Expr} {da db : DT} {pos : Pos}
theorem tEqDI (hu : X.A.units + 64 < cLine) (ha : DE X a da) (hb : DE X b db) (hm : behindInMarks .Eq b = false := by rfl) : DTest X (.Compare a [.Eq] [b] pos) (dB (dOp rdEqDI da db)) := dt_cmp (op_eq_dI (by omega)) s_eqDI ha hb hm
end
end Dl

set_option Elab.async false
set_option linter.all false
set_option maxRecDepth 100000
set_option maxHeartbeats 4000000
namespace Dl
open PySem PySem.Spec PyProof.Rows L2
section
variable {K : Type} [DecidableEq K] {knd : KeyKind prog w K} {prog : Program} {w : World} {A : Around} {E : Value → Shared → Prop} {s : Shared}
theorem dict_none {a : Addr} {ka : List (K × Value)} {Q : Value → Shared → Prop} (da : s.heap.DictOf knd a ka) (hu : A.units < cLine) (h : Q (.bool false) s) :
    wpAny (model prog w) A (compareOp .Eq (.ref a) .none) Q E s := by
  refine SeqAt.rc_eq_decline_or (k := false) da.typeIs rfl (by decide) PySem.F.sub_NoneType_dict PySem.F.slot_dict_eq PySem.F.slot_NoneType_eq_refl (fun Q' hq => wpAny_call_entry PySem.F.slot_dict_eq da.typeIs PySem.F.entry_dict_eq ?_ (PySem.F.args_dict_eq_2 _ _))
    (fun _ hq => call_gives PySem.F.slot_NoneType_eq_refl rfl PySem.F.entry_NoneType_eq (PySem.F.args_NoneType_eq_2 _ _) (SeqAt.NoneType___eq___none_ref_0 a) hq)
    (fun _ hq => wpAny_of_eq (rfl : isSame (.ref a) .none = pure false) hq) (.inr hu) h
  show wpAny _ _ (Builtin.Dict.dictSlotArgs "__eq__" ⟨[.ref a, .none], []⟩ >>= _) _ _ s
  refine wpAny_bind ?_
  unfold Builtin.Dict.dictSlotArgs
  refine wpAny_bind (wpAny_notOrdered_dict da.typeIs ?_)
  show wpAny _ _ (pure (Value.ref a, Value.none)) _ _ s
  refine wpAny_pure ?_
  refine wpAny_bind (wpAny_isInstance (s := s) (T := "NoneType") rfl PySem.F.sub_NoneType_dict ?_)
  simp only [Bool.not_false, if_true]
  exact wpAny_bind (wpAny_rule (wpAny_pure ⟨_, rfl, hq⟩))
end
section
variable {X : Cx}
/-- d == None -/
def rEqDN : R2 := fun x y H Q => ∃ a ks, x = .ref a ∧ y = .non ∧ H a = some (.dK ks) ∧ Q (.bl false) H
theorem op_eq_dN (hu : X.A.units < cLine) : OpR X (compareOp .Eq) rEqDN := by
  intro pins s σ H x y v u Q I rx ry h
  obtain ⟨a, ks, rfl, rfl, ea, q⟩ := h
  obtain rfl : v = Value.ref a := rx
  cases ry
  obtain ⟨_, ya, va, ra, da⟩ := (show ObjOk X.prog X.w H s.heap a (.dK ks) from I.hok a _ ea)
  exact dict_none da hu (fin_bl I q rfl)
def rdEqDN : A → A → Mu → DK → Prop := fun x y μ P => ∃ i ks, x = .c i ∧ y = .d .none ∧ μ[i]? = some (.dct ks) ∧ P (.d (.bool false)) μ
theorem s_eqDN {K : PySem.W.Frag} : SimR2 K rEqDN rdEqDN := fun x y μ P h F al H v w S a b Q k => by
  obtain ⟨i, ks, rfl, rfl, ei, h⟩ := h
  obtain ⟨p, kvs, rfl, _, hp, r⟩ := dct_at S a ei
  exact ⟨p, kvs, rfl, dp_non b, hp, k.now h S (.bl _)⟩
end
end Dl
namespace Dl
open PySem PySem.Spec PyProof.Rows L2
section
variable {X : Cx} {a b : Expr} {da db : DT} {pos : Pos}
/-- d == d', d == None -/
def rdEqDX : A → A → Mu → DK → Prop := fun x y μ P => rdEqDI x y μ P ∨ rdEqDN x y μ P
theorem s_eqDX {K : PySem.W.Frag} : SimR2 K (fun x y H Q => rEqDI x y H Q ∨ rEqDN x y H Q) rdEqDX := fun x y μ P h F al H v w S a b Q k => by
  rcases h with h | h
  · exact .inl (s_eqDI x y μ P h F al H v w S a b Q k)
  · exact .inr (s_eqDN x y μ P h F al H v w S a b Q k)
theorem tEqDX (hu : X.A.units + 64 < cLine) (ha : DE X a da) (hb : DE X b db) (hm : behindInMarks .Eq b = false := by rfl) : DTest X (.Compare a [.Eq] [b] pos) (dB (dOp rdEqDX da db)) := dt_cmp ((op_eq_dI (by omega)).or (op_eq_dN (by omega))) s_eqDX ha hb hm
/-! ### (*t, ..) -/
abbrev daStar (de : DT) (da : DAT) : DAT := fun ρ μ P => de ρ μ fun x μ1 => ∃ ds : List PyData, x = .d (.tuple ds) ∧ da ρ μ1 fun xs μ2 => P (ds.map A.d ++ xs) μ2
theorem paired_app {α β : Type} {R : α → β → Prop} {l l' : List α} {m m' : List β} (h : Paired R l m) (h' : Paired R l' m') : Paired R (l ++ l') (m ++ m') := by
  induction h with
  | nil => exact h'
  | cons a _ ih => exact .cons a ih
theorem da_star {e : Expr} {es : List Expr} {p : Pos} {de : DT} {da : DAT} (he : DE X e de) (hr : DA X es da) (hs : starEach (.Starred e p :: es) X.env = (true, eval e X.env) :: starEach es X.env := by rfl) : DA X (.Starred e p :: es) (daStar de da) := by
  obtain ⟨_, p1, s1⟩ := he.ex
  obtain ⟨_, p2, s2⟩ := hr.ex
  refine ⟨_, StX.pa_star p1 p2 hs, fun ρ μ P h F al σ H S L Q k => s1 ρ μ _ h F al σ H S L _ fun v x μ1 F1 al1 H1 q g S1 a => ?_⟩
  obtain ⟨ds, rfl, q⟩ := q
  obtain ⟨p, vs, rfl, sq, r⟩ := dp_tup a
  refine ⟨p, vs, rfl, .inl (S1.seqT sq), ?_⟩
  exact s2 ρ μ1 _ q F1 al1 σ H1 S1 (g.slots L) _ fun ws xs μ2 F2 al2 H2 q2 g2 S2 as => k _ _ μ2 _ _ _ q2 (g.trans g2) S2 (paired_app (DpAll.to (DpAll.mono g2.f r)) as)
end
end Dl

set_option Elab.async false
set_option linter.all false
set_option maxRecDepth 100000
set_option maxHeartbeats 4000000
namespace Dl
open PySem PySem.Spec PyProof.Rows L2
/-! ### xs.pop() -/
section
variable {K : PySem.W.Frag}
def rdPop : A → List A → Mu → DK → Prop := fun x xs μ P => ∃ (n : Nat) (ys : List A) (y : A), x = .c n ∧ xs = [] ∧ μ[n]? = some (.lst ys) ∧ ys.getLast? = some y ∧ P y (μ.set n (.lst ys.dropLast))
theorem s_pop : SimM K "list" rPop rdPop := fun x xs μ P h F al H v vs S a as Q k => by
  obtain ⟨n, ys, y, rfl, rfl, e, hy, h⟩ := h
  obtain ⟨p, ep, rfl⟩ := a
  obtain ⟨q, ws, e1, e2, e3⟩ := cell_lst S e
  rw [ep] at e1
  obtain rfl := Option.some.inj e1
  cases as
  rw [List.getLast?_eq_getElem?] at hy
  obtain ⟨u, eu, au⟩ := pair_get e3 hy
  have pd : Paired (Ab K F al) ws.dropLast ys.dropLast := by
    rw [List.dropLast_eq_take, List.dropLast_eq_take, pair_len e3]
    exact Paired.takeP _ e3
  obtain ⟨S2, g2⟩ := cell_put S ep e pd
  exact ⟨p, ws, u, rfl, rfl, e2, by rw [pair_len e3]; exact eu, k _ _ _ _ _ _ h g2 S2 (g2.ab au)⟩
end
end Dl
namespace Dl
open PySem PySem.Spec PyProof.Rows L2
/-! ### int(number), int(truth value) -/
def rdInt1 : List A → Mu → DK → Prop := fun xs μ P => (∃ i : Int, xs = [.d (.int i)] ∧ P (.d (.int i)) μ) ∨ ∃ b : Bool, xs = [.d (.bool b)] ∧ P (.d (.int (if b then 1 else 0))) μ
theorem s_int1B {K : PySem.W.Frag} : SimC K (fun xs H Q => (∃ i, xs = [.int i] ∧ Q (.int i) H) ∨ ∃ b, xs = [.bl b] ∧ Q (.int (if b then 1 else 0)) H) rdInt1 := fun xs μ P h F al H vs S a Q k => by
  rcases h with ⟨i, rfl, h⟩ | ⟨b, rfl, h⟩
  · obtain ⟨v, rfl, av⟩ := one_of a
    exact .inl ⟨i, by rw [dp_int av], k.now h S (.int _)⟩
  · obtain ⟨v, rfl, av⟩ := one_of a
    exact .inr ⟨b, by rw [dp_bl av], k.now h S (.int _)⟩
end Dl

set_option Elab.async false
set_option linter.all false
set_option maxRecDepth 100000
set_option maxHeartbeats 4000000
/-! zip of a tuple and a list, in either sequence: one walk for all four -/
namespace Dl
open PySem PySem.Spec PyProof.Rows L2
section
variable {prog : Program} {w : World} {A : Around} {E : Value → Shared → Prop} {s : Shared}
def SrI (t : Bool) (h : Heap) (i l : Addr) (k : Nat) : Prop := if t = true then h.IsTupleIter i l k else h.IsListIter i l k
def SrO (t : Bool) (h : Heap) (l : Addr) (xs : Array Value) : Prop := if t = true then h.IsTuple l xs else h.IsList l xs
theorem SrI.ext {t : Bool} {h h' : Heap} {i l b : Addr} {k : Nat} (q : SrI t h i l k) (e : Heap.ExtBut b h h') (n : i ≠ b) : SrI t h' i l k := by
  cases t
  · exact Heap.IsListIter.extBut q e n
  · exact Heap.IsTupleIter.extBut q e n
theorem SrO.ext {t : Bool} {h h' : Heap} {l b : Addr} {xs : Array Value} (q : SrO t h l xs) (e : Heap.ExtBut b h h') (n : l ≠ b) : SrO t h' l xs := by
  cases t
  · exact Heap.IsList.extBut q e n
  · exact Heap.IsTuple.extBut q e n
theorem SrI.to {t : Bool} {h h' : Heap} {i l : Addr} {k : Nat} (q : SrI t h i l k) (e : ∀ o, h.get? i = some o → h'.get? i = some o) : SrI t h' i l k := by
  cases t
  · exact Heap.IsListIter.at q e
  · exact Heap.IsTupleIter.at q e
theorem SrI.has {t : Bool} {h : Heap} {i l : Addr} {k : Nat} (q : SrI t h i l k) : ∃ o, h.get? i = some o ∧ ∀ v, o.data ≠ .cell v := by
  cases t
  · obtain ⟨o, e, _, d⟩ := (q : h.IsListIter i l k)
    exact ⟨o, e, fun v z => by rw [d] at z; cases z⟩
  · obtain ⟨o, e, _, d⟩ := (q : h.IsTupleIter i l k)
    exact ⟨o, e, fun v z => by rw [d] at z; cases z⟩
theorem sr_next {t : Bool} {it l : Addr} {k : Nat} {xs : Array Value} {x : Value} {Q : Value → Shared → Prop} (q : SrI t s.heap it l k) (o : SrO t s.heap l xs) (e : xs[k]? = some x)
    (g : ∀ h', SrI t h' it l (k + 1) → Heap.SameBut it s.heap h' → Q x { s with heap := h' }) : wpAny (model prog w) A (Builtin.SmallTypes.nextOf (.ref it)) Q E s := by
  cases t
  · exact wpAny_nextOf_list_item q o e g
  · exact RZ.nextOf_tuple_item q o e g
theorem sr_end {t : Bool} {it l : Addr} {k : Nat} {xs : Array Value} {Q : Value → Shared → Prop} (hh : A.handled = none) (q : SrI t s.heap it l k) (o : SrO t s.heap l xs) (e : xs[k]? = none)
    (g : ∀ h' x, Heap.ExtBut it s.heap h' → (∃ o, h'.get? x = some o ∧ o.cls = .type "StopIteration") → E (.ref x) { s with heap := h' }) : wpAny (model prog w) A (Builtin.SmallTypes.nextOf (.ref it)) Q E s := by
  cases t
  · exact wpAny_nextOf_list_end hh q o e g
  · exact RZ.nextOf_tuple_end hh q o e g
/-- what a zip stands on -/
structure ZpOn (t u : Bool) (h : Heap) (zz ti tO j1 j2 m1 m2 : Addr) (n : Nat) (f : Value) (xs ys : Array Value) (a b : Value) : Prop where
  z : IsZip h zz ti tO f
  p : IsPair h ti (.ref j1) (.ref j2)
  o : IsPair h tO a b
  s1 : SrI t h j1 m1 n
  s2 : SrI u h j2 m2 n
  c1 : SrO t h m1 xs
  c2 : SrO u h m2 ys
variable {t u : Bool} {zz ti tO j1 j2 m1 m2 : Addr} {n : Nat} {xs ys : Array Value} {x y a b : Value}
theorem zp_item {Q : Value → Shared → Prop} (D : ZipApart zz ti tO j1 j2 m1 m2) (Z : ZpOn t u s.heap zz ti tO j1 j2 m1 m2 n .none xs ys a b) (ex : xs[n]? = some x) (ey : ys[n]? = some y)
    (g : ∀ h', IsZip h' zz ti tO (rawInt s.heap.objs.size) → IsPair h' tO x y → SrI t h' j1 m1 (n + 1) → SrI u h' j2 m2 (n + 1) → IsPair h' s.heap.objs.size x y → h'.objs.size = s.heap.objs.size + 1 →
      (∀ c o, c ≠ zz → c ≠ tO → c ≠ j1 → c ≠ j2 → s.heap.get? c = some o → h'.get? c = some o) → Q (.ref s.heap.objs.size) { s with heap := h' }) :
    wpAny (model prog w) A (Builtin.«zip.__next__» ⟨[.ref zz], []⟩) (fun fin s' => ∃ v, fin = .done (.ret v) ∧ Q v s') E s := by
  obtain ⟨z0, p0, o0, q1, q2, c1, c2⟩ := Z
  show wpAny _ _ (field (.ref zz) 2 >>= _) _ _ _
  refine wpAny_bind (wpAny_field z0 rfl (x := .bool false) rfl ?_)
  show wpAny _ _ (field (.ref zz) 3 >>= _) _ _ _
  refine wpAny_bind (wpAny_field z0 rfl (x := .ref ti) rfl ?_)
  refine wpAny_bind (wpAny_seqItems p0 rfl ?_)
  show wpAny _ _ (Builtin.SmallTypes.ownedTupleIsFree (.ref zz) >>= _) _ _ _
  refine wpAny_bind ?_
  unfold Builtin.SmallTypes.ownedTupleIsFree
  refine wpAny_bind (wpAny_field z0 rfl (x := .none) rfl (wpAny_pure ?_))
  simp only [if_true]
  refine wpAny_bind (wpAny_rule ?_)
  refine wpAny_bind (wpAny_field z0 rfl (x := .ref tO) rfl ?_)
  refine wpAny_bind (wpAny_setField_rec z0 (by simp) fun g1 z1 e1 => ?_)
  replace z1 : IsZip g1 zz ti tO .ellipsis := z1
  refine wpAny_bind ?_
  simp only [List.zipIdx_cons, List.zipIdx_nil, List.forIn_cons, List.forIn_nil]
  refine wpAny_bind (wpAny_bind (wpAny_onRaise ?_))
  show wpAny _ _ (Builtin.SmallTypes.nextOf (.ref j1) >>= _) _ _ _
  refine wpAny_bind (sr_next (q1.ext e1.extBut D.i1z) (c1.ext e1.extBut D.l1z) ex fun g2 r1 e2 => wpAny_pure ?_)
  have o2 : IsPair g2 tO a b := e2.extBut _ _ D.TOi1 (e1.extBut _ _ D.TOz o0)
  refine wpAny_bind (wpAny_seqItems o2 rfl ?_)
  refine wpAny_bind (wpAny_updateSeq_pair o2 fun g3 o3 e3 => ?_)
  replace o3 : IsPair g3 tO x b := o3
  refine wpAny_bind (wpAny_letGo (wpAny_pure ?_))
  refine wpAny_bind (wpAny_bind (wpAny_onRaise ?_))
  show wpAny _ _ (Builtin.SmallTypes.nextOf (.ref j2) >>= _) _ _ _
  refine wpAny_bind (sr_next (((q2.ext e1.extBut D.i2z).ext e2.extBut D.i12.symm).ext e3.extBut D.TOi2.symm) (((c2.ext e1.extBut D.l2z).ext e2.extBut D.l2i1).ext e3.extBut D.l2TO) ey fun g4 r2 e4 => wpAny_pure ?_)
  have o4 : IsPair g4 tO x b := e4.extBut _ _ D.TOi2 o3
  refine wpAny_bind (wpAny_seqItems o4 rfl ?_)
  refine wpAny_bind (wpAny_updateSeq_pair o4 fun g5 o5 e5 => ?_)
  replace o5 : IsPair g5 tO x y := o5
  refine wpAny_bind (wpAny_letGo (wpAny_pure (wpAny_pure ?_)))
  refine wpAny_bind (wpAny_seqItems o5 rfl ?_)
  refine wpAny_bind (wpAny_newTuple ?_)
  have sz : g5.objs.size = s.heap.objs.size := by rw [e5.1, e4.1, e3.1, e2.1, e1.1]
  have z5 : IsZip g5 zz ti tO .ellipsis := e5.extBut _ _ D.TOz.symm (e4.extBut _ _ D.i2z.symm (e3.extBut _ _ D.TOz.symm (e2.extBut _ _ D.i1z.symm z1)))
  have kp : ∀ c o, c ≠ zz → c ≠ tO → c ≠ j1 → c ≠ j2 → s.heap.get? c = some o → g5.get? c = some o := fun c o d1 d2 d3 d4 e => e5.extBut _ _ d2 (e4.extBut _ _ d4 (e3.extBut _ _ d2 (e2.extBut _ _ d3 (e1.extBut _ _ d1 e))))
  have r15 : SrI t g5 j1 m1 (n + 1) := ((r1.ext e3.extBut D.TOi1.symm).ext e4.extBut D.i12).ext e5.extBut D.TOi1.symm
  have r25 : SrI u g5 j2 m2 (n + 1) := r2.ext e5.extBut D.TOi2.symm
  have lz : zz < g5.objs.size := Heap.lt_size z5
  show wpAny _ _ (Builtin.SmallTypes.ownedTupleHandOut (.ref zz) (.ref g5.objs.size) >>= _) _ _ _
  refine wpAny_bind ?_
  unfold Builtin.SmallTypes.ownedTupleHandOut
  have z6 : IsZip (g5.push { cls := .type "tuple", data := .seq #[x, y] }) zz ti tO .ellipsis := Heap.get?_push_of_some _ z5
  refine wpAny_bind (wpAny_setField_rec z6 (by simp) fun g7 z7 e7 => ?_)
  replace z7 : IsZip g7 zz ti tO (rawInt g5.objs.size) := z7
  refine wpAny_setField_rec z7 (by simp) fun g8 z8 e8 => ?_
  replace z8 : IsZip g8 zz ti tO (rawInt g5.objs.size) := z8
  have up : ∀ c o, c ≠ zz → g5.get? c = some o → g8.get? c = some o := fun c o d1 e => e8.extBut _ _ d1 (e7.extBut _ _ d1 (Heap.get?_push_of_some _ e))
  have t8 : IsPair g8 g5.objs.size x y := e8.extBut _ _ (Nat.ne_of_gt lz) (e7.extBut _ _ (Nat.ne_of_gt lz) (Heap.get?_push_size _ rfl))
  have n8 : g8.objs.size = g5.objs.size + 1 := by rw [e8.1, e7.1, Heap.size_push]
  rw [sz] at z8 t8 n8
  refine wpAny_pure ⟨_, rfl, ?_⟩
  show Q (.ref g5.objs.size) _
  rw [sz]
  exact g g8 z8 (up _ _ D.TOz o5) (r15.to fun o e => up _ o D.i1z e) (r25.to fun o e => up _ o D.i2z e) t8 n8 fun c o d1 d2 d3 d4 e => up c o d1 (kp c o d1 d2 d3 d4 e)
theorem zp_stop {Q : Fin → Shared → Prop} (hh : A.handled = none) (D : ZipApart zz ti tO j1 j2 m1 m2) (Z : ZpOn t u s.heap zz ti tO j1 j2 m1 m2 n .none xs ys a b) (en : xs[n]? = none ∨ ys[n]? = none)
    (g : ∀ h' e, (∀ c o, c ≠ zz → c ≠ tO → c ≠ j1 → c ≠ j2 → s.heap.get? c = some o → h'.get? c = some o) → (∃ o, h'.get? e = some o ∧ o.cls = .type "StopIteration") → E (.ref e) { s with heap := h' }) :
    wpAny (model prog w) A (Builtin.«zip.__next__» ⟨[.ref zz], []⟩) Q E s := by
  obtain ⟨z0, p0, o0, q1, q2, c1, c2⟩ := Z
  show wpAny _ _ (field (.ref zz) 2 >>= _) _ _ _
  refine wpAny_bind (wpAny_field z0 rfl (x := .bool false) rfl ?_)
  show wpAny _ _ (field (.ref zz) 3 >>= _) _ _ _
  refine wpAny_bind (wpAny_field z0 rfl (x := .ref ti) rfl ?_)
  refine wpAny_bind (wpAny_seqItems p0 rfl ?_)
  show wpAny _ _ (Builtin.SmallTypes.ownedTupleIsFree (.ref zz) >>= _) _ _ _
  refine wpAny_bind ?_
  unfold Builtin.SmallTypes.ownedTupleIsFree
  refine wpAny_bind (wpAny_field z0 rfl (x := .none) rfl (wpAny_pure ?_))
  simp only [if_true]
  refine wpAny_bind (wpAny_rule ?_)
  refine wpAny_bind (wpAny_field z0 rfl (x := .ref tO) rfl ?_)
  refine wpAny_bind (wpAny_setField_rec z0 (by simp) fun g1 z1 e1 => ?_)
  replace z1 : IsZip g1 zz ti tO .ellipsis := z1
  refine wpAny_bind ?_
  simp only [List.zipIdx_cons, List.zipIdx_nil, List.forIn_cons, List.forIn_nil]
  refine wpAny_bind (wpAny_bind (wpAny_onRaise ?_))
  show wpAny _ _ (Builtin.SmallTypes.nextOf (.ref j1) >>= _) _ _ _
  cases ex : xs[n]? with
  | none =>
    refine wpAny_bind (sr_end hh (q1.ext e1.extBut D.i1z) (c1.ext e1.extBut D.l1z) ex fun g2 e e2 he => ?_)
    obtain ⟨oe, k1, k2⟩ := he
    have z2 : IsZip g2 zz ti tO .ellipsis := e2 _ _ D.i1z.symm z1
    have ez : e ≠ zz := fun q => by
      subst q
      rw [z2] at k1
      cases k1
      simp at k2
    refine wpAny_setField_rec z2 (by simp) fun g3 _ e3 => g g3 e (fun c o d1 _ d3 _ q => e3.extBut _ _ d1 (e2 _ _ d3 (e1.extBut _ _ d1 q))) ⟨oe, e3.extBut _ _ ez k1, k2⟩
  | some x =>
    have ey : ys[n]? = none := by
      rcases en with q | q
      · rw [ex] at q
        cases q
      · exact q
    refine wpAny_bind (sr_next (q1.ext e1.extBut D.i1z) (c1.ext e1.extBut D.l1z) ex fun g2 r1 e2 => wpAny_pure ?_)
    have o2 : IsPair g2 tO a b := e2.extBut _ _ D.TOi1 (e1.extBut _ _ D.TOz o0)
    refine wpAny_bind (wpAny_seqItems o2 rfl ?_)
    refine wpAny_bind (wpAny_updateSeq_pair o2 fun g3 o3 e3 => ?_)
    refine wpAny_bind (wpAny_letGo (wpAny_pure ?_))
    refine wpAny_bind (wpAny_bind (wpAny_onRaise ?_))
    show wpAny _ _ (Builtin.SmallTypes.nextOf (.ref j2) >>= _) _ _ _
    refine wpAny_bind (sr_end hh (((q2.ext e1.extBut D.i2z).ext e2.extBut D.i12.symm).ext e3.extBut D.TOi2.symm) (((c2.ext e1.extBut D.l2z).ext e2.extBut D.l2i1).ext e3.extBut D.l2TO) ey fun g4 e e4 he => ?_)
    obtain ⟨oe, k1, k2⟩ := he
    have z4 : IsZip g4 zz ti tO .ellipsis := e4 _ _ D.i2z.symm (e3.extBut _ _ D.TOz.symm (e2.extBut _ _ D.i1z.symm z1))
    have ez : e ≠ zz := fun q => by
      subst q
      rw [z4] at k1
      cases k1
      simp at k2
    refine wpAny_setField_rec z4 (by simp) fun g5 _ e5 => g g5 e (fun c o d1 d2 d3 d4 q => e5.extBut _ _ d1 (e4 _ _ d4 (e3.extBut _ _ d2 (e2.extBut _ _ d3 (e1.extBut _ _ d1 q))))) ⟨oe, e5.extBut _ _ ez k1, k2⟩
theorem zp_pyItem {Q : Option Value → Shared → Prop} (D : ZipApart zz ti tO j1 j2 m1 m2) (Z : ZpOn t u s.heap zz ti tO j1 j2 m1 m2 n .none xs ys a b) (ex : xs[n]? = some x) (ey : ys[n]? = some y)
    (g : ∀ h', IsZip h' zz ti tO (rawInt s.heap.objs.size) → IsPair h' tO x y → SrI t h' j1 m1 (n + 1) → SrI u h' j2 m2 (n + 1) → IsPair h' s.heap.objs.size x y → h'.objs.size = s.heap.objs.size + 1 →
      (∀ c o, c ≠ zz → c ≠ tO → c ≠ j1 → c ≠ j2 → s.heap.get? c = some o → h'.get? c = some o) → Q (some (.ref s.heap.objs.size)) { s with heap := h' }) :
    wpAny (model prog w) A (pyNext (.ref zz)) Q E s := by
  have ty : s.TypeIs (.ref zz) "zip" := ⟨_, Z.z, rfl⟩
  unfold pyNext
  refine wpAny_bind (wpAny_attempt (wpAny_callSpecial?_slot (name := Str.ofString "__next__") ty F.slot_zip_next (wpAny_call_entry F.slot_zip_next ty F.entry_zip_next ?_ (F.args_zip_next_1 _))))
  exact zp_item D Z ex ey fun h' b1 b2 b3 b4 b5 b6 b7 => wpAny_pure (g h' b1 b2 b3 b4 b5 b6 b7)
theorem zp_pyStop {Q : Option Value → Shared → Prop} (hh : A.handled = none) (D : ZipApart zz ti tO j1 j2 m1 m2) (Z : ZpOn t u s.heap zz ti tO j1 j2 m1 m2 n .none xs ys a b) (en : xs[n]? = none ∨ ys[n]? = none)
    (g : ∀ h', (∀ c o, c ≠ zz → c ≠ tO → c ≠ j1 → c ≠ j2 → s.heap.get? c = some o → h'.get? c = some o) → Q none { s with heap := h' }) : wpAny (model prog w) A (pyNext (.ref zz)) Q E s := by
  have ty : s.TypeIs (.ref zz) "zip" := ⟨_, Z.z, rfl⟩
  unfold pyNext
  refine wpAny_bind (wpAny_attempt (wpAny_callSpecial?_slot (name := Str.ofString "__next__") ty F.slot_zip_next (wpAny_call_entry F.slot_zip_next ty F.entry_zip_next ?_ (F.args_zip_next_1 _))))
  refine zp_stop hh D Z en fun h' e kp he => ?_
  obtain ⟨o, k1, k2⟩ := he
  refine wpAny_bind (wpAny_isInstance (T := "StopIteration") (b := true) ⟨o, k1, k2⟩ isSubtype_stop ?_)
  exact wpAny_pure (g _ kp)
end

/-- a sequence of either kind, as the layer's heap has it -/
def SqB (K : PySem.W.Frag) (t : Bool) (H : Hp) (a : Addr) (xs : List V) : Prop := if t = true then SqT K H a xs else SqL K H a xs
theorem sqB_at {X : Cx} {pins : List (Addr × Obj)} {σ : L2.St} {H : Hp} {s : Shared} {t : Bool} {a : Addr} {xs : List V} (I : Inv X pins σ H s) (q : SqB X.K t H a xs) : ∃ its : List Value, Vals xs its ∧ SrO t s.heap a its.toArray := by
  cases t
  · obtain ⟨its, r, p, _⟩ := I.list q
    exact ⟨its, r, p.isList⟩
  · obtain ⟨its, r, p, _⟩ := I.tuple q
    exact ⟨its, r, p⟩
theorem sqB_one {X : Cx} {pins : List (Addr × Obj)} {σ : L2.St} {H : Hp} {s : Shared} {t : Bool} {a : Addr} {xs ys : List V} (I : Inv X pins σ H s) (q : SqB X.K t H a xs) (q' : SqB X.K t H a ys) : xs = ys := by
  cases t
  · exact I.list_inj q q'
  · exact I.tuple_inj q q'
def ItzB (K : PySem.W.Frag) (t u : Bool) (a b : Addr) : It :=
  ⟨fun i H => ∃ (vs ws : List V) (p q : V), SqB K t H a vs ∧ SqB K u H b ws ∧ vs[i]? = some p ∧ ws[i]? = some q,
    fun i H r H' => ∃ T p q, r = .ref T ∧ H T = none ∧ H' = upd H T (.tup [p, q]) ∧ (∀ vs, SqB K t H a vs → vs[i]? = some p) ∧ ∀ ws, SqB K u H b ws → ws[i]? = some q,
    fun i H => ∃ vs ws : List V, SqB K t H a vs ∧ SqB K u H b ws ∧ (vs.length ≤ i ∨ ws.length ≤ i)⟩
theorem turn_zipB {P : Program} {w : World} {K : PySem.W.Frag} {t u : Bool} {elts : List Expr} {kk : Nat} {tpos : Pos} {a b zz ti tO j1 j2 : Addr} (D : ZipApart zz ti tO j1 j2 a b) :
    Turn P w K (.Tuple elts kk tpos) (ItzB K t u a b) [zz, ti, tO, j1, j2] zz (fun i h => IsZip h zz ti tO .none ∧ IsPair h ti (.ref j1) (.ref j2) ∧ (∃ x y, IsPair h tO x y) ∧ SrI t h j1 a i ∧ SrI u h j2 b i) where
  mem := by simp
  obj := fun i h st c hc => by
    obtain ⟨z0, p0, ⟨x, y, o0⟩, q1, q2⟩ := st
    simp only [List.mem_cons, List.not_mem_nil, or_false] at hc
    rcases hc with rfl | rfl | rfl | rfl | rfl
    · exact ⟨_, z0, fun v q => nomatch q⟩
    · exact ⟨_, p0, fun v q => nomatch q⟩
    · exact ⟨_, o0, fun v q => nomatch q⟩
    · exact q1.has
    · exact q2.has
  keep := fun i h h' st k => by
    obtain ⟨z0, p0, ⟨x, y, o0⟩, q1, q2⟩ := st
    exact ⟨k zz (by simp) _ z0, k ti (by simp) _ p0, ⟨x, y, k tO (by simp) _ o0⟩, q1.to fun o => k j1 (by simp) o, q2.to fun o => k j2 (by simp) o⟩
  item := by
    intro X hP hw hK hc i pins s σ H E I hf st hg
    subst hP hw hK
    obtain ⟨z0, p0, ⟨x0, y0, o0⟩, q1, q2⟩ := st
    obtain ⟨vs, ws, p, q, b1, b2, e1, e2⟩ := hg
    obtain ⟨its, r1, c1⟩ := sqB_at I b1
    obtain ⟨its2, r2, c2⟩ := sqB_at I b2
    obtain ⟨x, hx, rx⟩ := r1.get e1
    obtain ⟨y, hy, ry⟩ := r2.get e2
    have lz : zz < s.heap.objs.size := Heap.lt_size z0
    refine zp_pyItem D ⟨z0, p0, o0, q1, q2, c1, c2⟩ (x := x) (y := y) (by simpa using hx) (by simpa using hy) fun h' z1 o1 n1 n2 tp sz kp => ?_
    refine ⟨_, rfl, wpAny_letOwnedTupleGo_zip (s := { s with heap := h' }) z1 fun h2 z2 sb => ?_⟩
    have tp2 : h2.get? s.heap.objs.size = some { cls := .type "tuple", data := .seq #[x, y] } := (sb.2 _ (Nat.ne_of_gt lz)).trans tp
    have new : ObjOk X.prog X.w (upd H s.heap.objs.size (.tup [p, q])) h2 s.heap.objs.size (.tup [p, q]) :=
      ⟨by show 2 ≤ sizeLine; decide, [x, y], .cons rx (.cons ry .nil), ⟨_, tp2, rfl, _, rfl⟩⟩
    have I1 : Inv X pins σ (upd H s.heap.objs.size (.tup [p, q])) { s with heap := h2 } :=
      I.turnedNew (t' := s.toks) (ch := [zz, ti, tO, j1, j2]) (fun c o hb e => (sb.2 c (fun z => hb (by simp [z]))).trans (kp c o (fun z => hb (by simp [z])) (fun z => hb (by simp [z])) (fun z => hb (by simp [z])) (fun z => hb (by simp [z])) e)) hf (Nat.le_refl _) new
    refine ⟨.ref s.heap.objs.size, _, I1, rfl, ⟨_, p, q, rfl, I.hok.fresh (Nat.le_refl _), rfl, fun l hl => by rw [sqB_one I hl b1]; exact e1, fun l hl => by rw [sqB_one I hl b2]; exact e2⟩, ⟨z2, ?_, ⟨x, y, ?_⟩, ?_, ?_⟩, fun c hm => ?_⟩
    · exact (sb.2 _ D.TIz).trans (kp _ _ D.TIz D.TITO D.TIi1 D.TIi2 p0)
    · exact (sb.2 _ D.TOz).trans o1
    · exact n1.to fun o e => (sb.2 _ D.i1z).trans e
    · exact n2.to fun o e => (sb.2 _ D.i2z).trans e
    · have lt : c < s.heap.objs.size := by
        simp only [List.mem_cons, List.not_mem_nil, or_false] at hm
        rcases hm with rfl | rfl | rfl | rfl | rfl
        · exact lz
        · exact Heap.lt_size p0
        · exact Heap.lt_size o0
        · exact Heap.lt_size q1.has.choose_spec.1
        · exact Heap.lt_size q2.has.choose_spec.1
      rw [upd_ne (Nat.ne_of_lt lt)]
      exact (hf c hm).1
  done := by
    intro X hP hw hK hc i pins s σ H E I hf st hg
    subst hP hw hK
    obtain ⟨z0, p0, ⟨x0, y0, o0⟩, q1, q2⟩ := st
    obtain ⟨vs, ws, b1, b2, en⟩ := hg
    obtain ⟨its, r1, c1⟩ := sqB_at I b1
    obtain ⟨its2, r2, c2⟩ := sqB_at I b2
    have l1 := r1.length
    have l2 := r2.length
    have he : its.toArray[i]? = none ∨ its2.toArray[i]? = none := by
      rcases en with q | q
      · exact .inl (by simp; omega)
      · exact .inr (by simp; omega)
    exact zp_pyStop (I.ok.hd hc) D ⟨z0, p0, o0, q1, q2, c1, c2⟩ he fun h' kp => ⟨rfl, I.turnedL (t' := s.toks) (ch := [zz, ti, tO, j1, j2]) (fun c o hb e =>
      kp c o (fun z => hb (by simp [z])) (fun z => hb (by simp [z])) (fun z => hb (by simp [z])) (fun z => hb (by simp [z])) e) hf⟩
  self := fun A i s Q E st h => wpAny_pyIter_zip st.1 h

/-- a zip is made -/
def itNm (t : Bool) : String := if t = true then "tuple_iterator" else "list_iterator"
def zpO1 (t : Bool) (m : Addr) : Obj := { cls := .type (itNm t), data := .fields #[.ref m, .int 0 0] }
def zpP (x y : Value) : Obj := { cls := .type "tuple", data := .seq #[x, y] }
def zpZ (x y : Addr) : Obj := { cls := .type "zip", data := .fields #[.none, .bool false, .bool false, .ref x, .ref y] }
def zpHp (t u : Bool) (h : Heap) (m1 m2 : Addr) : Heap :=
  ((((h.push (zpO1 t m1)).push (zpO1 u m2)).push (zpP (.ref h.objs.size) (.ref (h.push (zpO1 t m1)).objs.size))).push (zpP .none .none)).push (zpZ ((h.push (zpO1 t m1)).push (zpO1 u m2)).objs.size (((h.push (zpO1 t m1)).push (zpO1 u m2)).push (zpP (.ref h.objs.size) (.ref (h.push (zpO1 t m1)).objs.size))).objs.size)
def zpAt (t u : Bool) (h : Heap) (m1 m2 : Addr) : Addr := ((((h.push (zpO1 t m1)).push (zpO1 u m2)).push (zpP (.ref h.objs.size) (.ref (h.push (zpO1 t m1)).objs.size))).push (zpP .none .none)).objs.size
theorem meets_zpB (t u : Bool) (m1 m2 : Addr) (xs ys : Array Value) :
    Meets (Builtin.«zip.__new__» ⟨[.type "zip", .ref m1, .ref m2], []⟩) (fun _ R s => SrO t s.heap m1 xs ∧ SrO u s.heap m2 ys ∧ R (.ok (.ret (.ref (zpAt t u s.heap m1 m2)))) { s with heap := zpHp t u s.heap m1 m2 }) :=
  .of_wp fun prog w A R s h => by
    obtain ⟨hp, g, d, tk, os⟩ := s
    obtain ⟨c1, c2, h⟩ := h
    have hsub := sub_zip
    cases t <;> cases u
    · have w1 : Heap.IsList (Shared.heap ⟨hp, g, d, tk, os⟩) m1 xs := c1
      have w2 : Heap.IsList (Shared.heap ⟨hp.push { cls := .type "list_iterator", data := .fields #[.ref m1, .int 0 0] }, g, d, tk, os⟩) m2 ys := Heap.IsList.push c2 _
      wp_walk using wpAny_pyIter_list w1, wpAny_pyIter_list w2
      exact ⟨_, rfl, h⟩
    · have w1 : Heap.IsList (Shared.heap ⟨hp, g, d, tk, os⟩) m1 xs := c1
      have w2 : Heap.IsTuple (Shared.heap ⟨hp.push { cls := .type "list_iterator", data := .fields #[.ref m1, .int 0 0] }, g, d, tk, os⟩) m2 ys := Heap.IsTuple.push c2 _
      wp_walk using wpAny_pyIter_list w1, wpAny_pyIter_tuple w2
      exact ⟨_, rfl, h⟩
    · have w1 : Heap.IsTuple (Shared.heap ⟨hp, g, d, tk, os⟩) m1 xs := c1
      have w2 : Heap.IsList (Shared.heap ⟨hp.push { cls := .type "tuple_iterator", data := .fields #[.ref m1, .int 0 0] }, g, d, tk, os⟩) m2 ys := Heap.IsList.push c2 _
      wp_walk using wpAny_pyIter_tuple w1, wpAny_pyIter_list w2
      exact ⟨_, rfl, h⟩
    · have w1 : Heap.IsTuple (Shared.heap ⟨hp, g, d, tk, os⟩) m1 xs := c1
      have w2 : Heap.IsTuple (Shared.heap ⟨hp.push { cls := .type "tuple_iterator", data := .fields #[.ref m1, .int 0 0] }, g, d, tk, os⟩) m2 ys := Heap.IsTuple.push c2 _
      wp_walk using wpAny_pyIter_tuple w1, wpAny_pyIter_tuple w2
      exact ⟨_, rfl, h⟩
theorem sr_zero {t : Bool} {h : Heap} {i m : Addr} (e : h.get? i = some (zpO1 t m)) : SrI t h i m 0 := by
  cases t
  · exact ⟨_, e, rfl, rfl⟩
  · exact ⟨_, e, rfl, rfl⟩
theorem call_zpB {prog : Program} {w : World} {A : Around} {E : Value → Shared → Prop} {s : Shared} {t u : Bool} {m1 m2 : Addr} {xs ys : Array Value} {Q : Value → Shared → Prop} (c1 : SrO t s.heap m1 xs) (c2 : SrO u s.heap m2 ys)
    (g : ∀ h', IsZip h' (s.heap.objs.size + 4) (s.heap.objs.size + 2) (s.heap.objs.size + 3) .none → IsPair h' (s.heap.objs.size + 2) (.ref s.heap.objs.size) (.ref (s.heap.objs.size + 1)) →
      IsPair h' (s.heap.objs.size + 3) .none .none → SrI t h' s.heap.objs.size m1 0 → SrI u h' (s.heap.objs.size + 1) m2 0 →
      (∀ c o, s.heap.get? c = some o → h'.get? c = some o) → Q (.ref (s.heap.objs.size + 4)) { s with heap := h' }) :
    wpAny (model prog w) A (call (.type "zip") [.ref m1, .ref m2]) Q E s := by
  refine callType_new F.called_zip (by decide) (F.typeCall_zip_2 _ _) (F.newCall_zip_2 _ _) (fun obj => F.args_object_init_3 obj _ _) F.entry_zip_new (meets_zpB t u m1 m2 xs ys) ⟨c1, c2, ?_⟩
  have n1 : ∀ (h : Heap) (o : Obj), (h.push o).objs.size = h.objs.size + 1 := fun h o => Heap.size_push ..
  have ea : zpAt t u s.heap m1 m2 = s.heap.objs.size + 4 := by
    unfold zpAt
    rw [n1, n1, n1, n1]
  have k1 : ∀ {h : Heap} {o : Obj} {c : Addr} {x : Obj}, h.get? c = some x → (h.push o).get? c = some x := fun e => Heap.get?_push_of_some _ e
  rw [ea]
  refine ⟨⟨zpZ (s.heap.objs.size + 2) (s.heap.objs.size + 3), ?_, rfl⟩, g _ ?_ ?_ ?_ (sr_zero ?_) (sr_zero ?_) fun c o e => k1 (k1 (k1 (k1 (k1 e))))⟩
  · show (zpHp t u s.heap m1 m2).get? (s.heap.objs.size + 4) = _
    rw [← ea]
    have e := Heap.get?_push_size ((((s.heap.push (zpO1 t m1)).push (zpO1 u m2)).push (zpP (.ref s.heap.objs.size) (.ref (s.heap.push (zpO1 t m1)).objs.size))).push (zpP .none .none)) (o := zpZ ((s.heap.push (zpO1 t m1)).push (zpO1 u m2)).objs.size (((s.heap.push (zpO1 t m1)).push (zpO1 u m2)).push (zpP (.ref s.heap.objs.size) (.ref (s.heap.push (zpO1 t m1)).objs.size))).objs.size) rfl
    refine Eq.trans e ?_
    simp only [n1]
  · have e := Heap.get?_push_size ((((s.heap.push (zpO1 t m1)).push (zpO1 u m2)).push (zpP (.ref s.heap.objs.size) (.ref (s.heap.push (zpO1 t m1)).objs.size))).push (zpP .none .none)) (o := zpZ ((s.heap.push (zpO1 t m1)).push (zpO1 u m2)).objs.size (((s.heap.push (zpO1 t m1)).push (zpO1 u m2)).push (zpP (.ref s.heap.objs.size) (.ref (s.heap.push (zpO1 t m1)).objs.size))).objs.size) rfl
    show (zpHp t u s.heap m1 m2).get? (s.heap.objs.size + 4) = _
    rw [← ea]
    refine Eq.trans e ?_
    simp only [n1]
    rfl
  · have e := Heap.get?_push_size ((s.heap.push (zpO1 t m1)).push (zpO1 u m2)) (o := zpP (.ref s.heap.objs.size) (.ref (s.heap.push (zpO1 t m1)).objs.size)) rfl
    refine k1 (k1 ?_)
    simp only [n1] at e ⊢
    exact e
  · have e := Heap.get?_push_size (((s.heap.push (zpO1 t m1)).push (zpO1 u m2)).push (zpP (.ref s.heap.objs.size) (.ref (s.heap.push (zpO1 t m1)).objs.size))) (o := zpP .none .none) rfl
    refine k1 ?_
    simp only [n1] at e ⊢
    exact e
  · exact k1 (k1 (k1 (k1 (Heap.get?_push_size _ rfl))))
  · have e := Heap.get?_push_size (s.heap.push (zpO1 t m1)) (o := zpO1 u m2) rfl
    refine k1 (k1 (k1 ?_))
    simp only [n1] at e ⊢
    exact e
def iZipB (K : PySem.W.Frag) (ta : TA) : TI := fun σ H R => ta σ H fun vs H1 => ∃ t u a b xs ys, vs = [.ref a, .ref b] ∧ SqB K t H1 a xs ∧ SqB K u H1 b ys ∧ R (ItzB K t u a b) H1
theorem pi_zipB {X : Cx} {e e2 : Expr} {ta : TA} {p pos tpos : Pos} {elts : List Expr} {kk : Nat} (gl : Gl X "zip") (mx : X.mg "zip" = none) (pa : PA X [e, e2] ta)
    (hs : starEach [e, e2] X.env = (false, eval e X.env) :: starEach [e2] X.env := by rfl) (hpl : (backTo pos (starEach [e2] X.env)).any (·.1) = false := by rfl) :
    PI X (.Tuple elts kk tpos) (.Call (.Name "zip" p) [e, e2] [] pos) (iZipB X.K ta) := by
  refine ⟨fun pins s σ H R I h => ?_⟩
  refine Call_ (ld_blt I gl mx PyProof.Rows.boot_zip (PyProof.Rows.callWith_type1 (thn (pa.run pos pins s σ H _ I h) fun us s1 ⟨vs, H1, I1, r1, q1⟩ => ?_) hs hpl))
  obtain ⟨t, u, a, b, xs, ys, ex, b1, b2, q1⟩ := q1
  subst ex
  cases r1 with
  | cons r rr =>
    cases rr with
    | cons r' rr =>
      cases rr
      cases r
      cases r'
      have new5 : ∀ c, c ∈ [s1.heap.objs.size + 4, s1.heap.objs.size + 2, s1.heap.objs.size + 3, s1.heap.objs.size, s1.heap.objs.size + 1] → FpOk X pins H1 c := fun c hm => by
        have le : s1.heap.objs.size ≤ c := by
          simp only [List.mem_cons, List.not_mem_nil, or_false] at hm
          omega
        exact I1.fpOk le (I1.hok.fresh le)
      obtain ⟨its, rv, c1⟩ := sqB_at I1 b1
      obtain ⟨its2, rv2, c2⟩ := sqB_at I1 b2
      have la : a < s1.heap.objs.size := by
        cases t
        · obtain ⟨o, eo, _⟩ := (c1 : s1.heap.IsList _ _)
          exact Heap.lt_size eo
        · obtain ⟨o, eo, _⟩ := (c1 : s1.heap.IsTuple _ _)
          exact Heap.lt_size eo
      have lb : b < s1.heap.objs.size := by
        cases u
        · obtain ⟨o, eo, _⟩ := (c2 : s1.heap.IsList _ _)
          exact Heap.lt_size eo
        · obtain ⟨o, eo, _⟩ := (c2 : s1.heap.IsTuple _ _)
          exact Heap.lt_size eo
      refine call_zpB c1 c2 fun h' z0 p0 o0 n1 n2 kp => wpAny_pyIter_zip z0 ?_
      have I2 : Inv X pins σ H1 { s1 with heap := h' } := I1.kept (t' := s1.toks) kp
      exact ⟨s1.heap.objs.size + 4, [s1.heap.objs.size + 4, s1.heap.objs.size + 2, s1.heap.objs.size + 3, s1.heap.objs.size, s1.heap.objs.size + 1], _, _, H1, rfl, I2, turn_zipB (PySem.W.ktu_apart s1.heap.objs.size a b la lb), ⟨z0, p0, ⟨_, _, o0⟩, n1, n2⟩, new5, q1⟩

/-! at the layer: any two of list, tuple, cell -/
inductive Zs (μ : Mu) : A → List A → (Mu → Prop) → Prop
  | l (ds : List PyData) : Zs μ (.d (.list ds)) (ds.map .d) always
  | t (ds : List PyData) : Zs μ (.d (.tuple ds)) (ds.map .d) always
  | c {n : Nat} {xs : List A} : μ[n]? = some (.lst xs) → Zs μ (.c n) xs (fun μ => μ[n]? = some (.lst xs))
def zipA (xs ys : List A) : List Y := List.zipWith .two xs ys
theorem zipA_get {xs ys : List A} {i : Nat} {y : Y} (h : (zipA xs ys)[i]? = some y) : ∃ p q, xs[i]? = some p ∧ ys[i]? = some q ∧ y = .two p q := by
  unfold zipA at h
  rw [List.getElem?_zipWith] at h
  cases e1 : xs[i]? with
  | none => rw [e1] at h; cases h
  | some p =>
    cases e2 : ys[i]? with
    | none => rw [e1, e2] at h; cases h
    | some q =>
      rw [e1, e2] at h
      exact ⟨p, q, rfl, rfl, (Option.some.inj h).symm⟩
section
variable {K : PySem.W.Frag} {F : Hp} {al : List Addr} {H : Hp}
def SrcJ (K : PySem.W.Frag) (F : Hp) (al : List Addr) (H : Hp) (t : Bool) (a : Addr) (xs : List A) (ok : Mu → Prop) : Prop := ∀ F2 al2 μ2 H2, Grow F al H F2 al2 H2 → Sto K F2 al2 μ2 H2 → ok μ2 → ∃ vs, SqB K t H2 a vs ∧ Paired (Ab K F2 al2) vs xs
theorem zs_src {μ : Mu} {x : A} {xs : List A} {ok : Mu → Prop} {v : V} (S : Sto K F al μ H) (z : Zs μ x xs ok) (r : Ab K F al v x) : ∃ t a, v = .ref a ∧ ok μ ∧ SrcJ K F al H t a xs ok := by
  cases z with
  | l ds =>
    obtain ⟨a, vs, rfl, q, r⟩ := dp_lst r
    exact ⟨false, a, rfl, trivial, fun F2 al2 μ2 H2 g S2 _ => ⟨vs, S2.seq (g.f.seq q), DpAll.to (r.mono g.f)⟩⟩
  | t ds =>
    obtain ⟨a, vs, rfl, q, r⟩ := dp_tup r
    exact ⟨true, a, rfl, trivial, fun F2 al2 μ2 H2 g S2 _ => ⟨vs, S2.seqT (sqT_mono g.f q), DpAll.to (r.mono g.f)⟩⟩
  | @c n xs e =>
    obtain ⟨a, ea, rfl⟩ := r
    refine ⟨false, a, rfl, e, fun F2 al2 μ2 H2 g S2 e2 => ?_⟩
    obtain ⟨a', vs, q1, q2, q3⟩ := cell_lst S2 e2
    have : al2[n]? = some a := by
      obtain ⟨tl, rfl⟩ := g.px
      rw [List.getElem?_append_left (List.getElem?_eq_some_iff.mp ea).1]
      exact ea
    rw [q1] at this
    obtain rfl := Option.some.inj this
    exact ⟨vs, .inl (.inl q2), q3⟩
theorem jw_zipB {t u : Bool} {a b : Addr} {xs ys : List A} {ok ok' : Mu → Prop} (j : SrcJ K F al H t a xs ok) (j' : SrcJ K F al H u b ys ok') : JW K F al H (ItzB K t u a b) (zipA xs ys) (fun μ => ok μ ∧ ok' μ) where
  go F2 al2 μ2 H2 i y g S h hy := by
    obtain ⟨p, q, e1, e2, rfl⟩ := zipA_get hy
    obtain ⟨vs, b1, r1⟩ := j F2 al2 μ2 H2 g S h.1
    obtain ⟨ws, b2, r2⟩ := j' F2 al2 μ2 H2 g S h.2
    obtain ⟨v, f1, a1⟩ := pair_get r1 e1
    obtain ⟨w, f2, a2⟩ := pair_get r2 e2
    refine ⟨⟨vs, ws, v, w, b1, b2, f1, f2⟩, fun x H3 hx => ?_⟩
    obtain ⟨T, p', q', rfl, hT, rfl, hx, hy⟩ := hx
    have := hx vs b1
    rw [f1] at this
    obtain rfl := Option.some.inj this
    have := hy ws b2
    rw [f2] at this
    obtain rfl := Option.some.inj this
    exact pairNew S hT a1 a2
  stop F2 al2 μ2 H2 g S h := by
    obtain ⟨vs, b1, r1⟩ := j F2 al2 μ2 H2 g S h.1
    obtain ⟨ws, b2, r2⟩ := j' F2 al2 μ2 H2 g S h.2
    refine ⟨vs, ws, b1, b2, ?_⟩
    unfold zipA
    rw [List.length_zipWith, pair_len r1, pair_len r2]
    omega
end
abbrev dZipB (da : DAT) : DI := fun ρ μ P => da ρ μ fun zs μ1 => ∃ x y xs ys ok ok', zs = [x, y] ∧ Zs μ1 x xs ok ∧ Zs μ1 y ys ok' ∧ P (zipA xs ys) (fun μ => ok μ ∧ ok' μ) μ1
theorem di_zipB {X : Cx} {e e2 : Expr} {da : DAT} {p pos tpos : Pos} {elts : List Expr} {kk : Nat} (ha : DA X [e, e2] da) (hm : X.mg "zip" = none) (hg : Gl X "zip" := by rfl)
    (hs : starEach [e, e2] X.env = (false, eval e X.env) :: starEach [e2] X.env := by rfl) (hpl : (backTo pos (starEach [e2] X.env)).any (·.1) = false := by rfl) :
    DIt X (.Tuple elts kk tpos) (.Call (.Name "zip" p) [e, e2] [] pos) (dZipB da) := by
  obtain ⟨_, p1, s⟩ := ha.ex
  refine ⟨_, pi_zipB hg hm p1 hs hpl, fun ρ μ P h F al σ H S L R k => s ρ μ _ h F al σ H S L _ fun vs zs μ1 F1 al1 H1 q g S1 r => ?_⟩
  obtain ⟨x, y, xs, ys, ok, ok', rfl, z1, z2, q⟩ := q
  obtain ⟨v, w, rfl, av, aw⟩ := two_of r
  obtain ⟨t, a, rfl, o1, j1⟩ := zs_src S1 z1 av
  obtain ⟨u, b, rfl, o2, j2⟩ := zs_src S1 z2 aw
  obtain ⟨us, b1, _⟩ := j1 F1 al1 μ1 H1 Grow.refl S1 o1
  obtain ⟨us', b2, _⟩ := j2 F1 al1 μ1 H1 Grow.refl S1 o2
  exact ⟨t, u, a, b, us, us', rfl, b1, b2, k _ _ _ _ _ _ _ q g S1 (jw_zipB j1 j2)⟩
end Dl

set_option Elab.async false
set_option linter.all false
set_option maxRecDepth 100000
set_option maxHeartbeats 4000000
/-! max and min of a list or tuple of alike data, with and without default -/
namespace Dl
open PySem PySem.Spec PyProof.Rows L2
open PySem.W (AlikeAll maxD minD dataLt alike)
def bestD (mx : Bool) (x : PyData) (ds : List PyData) : PyData := if mx = true then maxD x ds else minD x ds
theorem fold_mem {f : PyData → PyData → Bool} : ∀ (ds : List PyData) (x : PyData), ds.foldl (fun a y => if f a y = true then y else a) x ∈ x :: ds
  | [], x => List.mem_cons_self ..
  | d :: ds, x => by
    rw [List.foldl_cons]
    have h := fold_mem (f := f) ds (if f x d = true then d else x)
    rcases List.mem_cons.mp h with e | e
    · rw [e]
      split
      · exact List.mem_cons_of_mem _ (List.mem_cons_self ..)
      · exact List.mem_cons_self ..
    · exact List.mem_cons_of_mem _ (List.mem_cons_of_mem _ e)
theorem best_mem (mx : Bool) (x : PyData) (ds : List PyData) : bestD mx x ds ∈ x :: ds := by
  unfold bestD
  split
  · exact fold_mem (f := fun a y => dataLt a y) ds x
  · exact fold_mem (f := fun a y => dataLt y a) ds x
theorem vals_back : ∀ {vs : List V} {us : List Value} {i : Nat} {u : Value}, Vals vs us → us[i]? = some u → ∃ v, vs[i]? = some v ∧ RelV v u
  | _, _, _, _, .nil, e => by simp at e
  | _, _, 0, _, .cons a _, e => by
    obtain rfl := Option.some.inj e
    exact ⟨_, rfl, a⟩
  | _, _, i + 1, _, .cons _ b, e => vals_back (i := i) b e
theorem best_at {X : Cx} {pins : List (Addr × Obj)} {σ : L2.St} {H : Hp} {s : Shared} (I : Inv X pins σ H s) {vs : List V} {us : List Value} {all : List PyData} (r : Vals vs us) (hd : Dl.DpAll X.K H vs all) (al : AlikeAll all)
    {h' : Heap} {i : Nat} {u : Value} {b : PyData} {bs : List Addr} (eu : us[i]? = some u) (rd : Reads h' u b bs) (mb : b ∈ all) (kp : ∀ b o, s.heap.get? b = some o → h'.get? b = some o) : ∃ v, vs[i]? = some v ∧ RelV v u ∧ all[i]? = some b := by
  obtain ⟨v, ev, rv⟩ := vals_back r eu
  have lt : i < all.length := by
    rw [← hd.len]
    exact (List.getElem?_eq_some_iff.mp ev).1
  obtain ⟨d, ed⟩ : ∃ d, all[i]? = some d := ⟨all[i], List.getElem?_eq_getElem lt⟩
  obtain ⟨v', ev', hv⟩ := DpAll.get hd ed
  rw [ev] at ev'
  obtain rfl := Option.some.inj ev'
  obtain ⟨as, r0⟩ := L2.Dp.reads I d v u hv.lib rv
  have r1 := PySem.W.reads_keeps kp r0
  refine ⟨v, ev, rv, ?_⟩
  rw [ed, PySem.W.alike_unique d b u as bs (al.1 d (List.mem_of_getElem? ed) b mb) r1 rd]
section
variable {X : Cx}
/-- the best of what is there -/
def rBest (K : PySem.W.Frag) (mx : Bool) : List V → Hp → VK → Prop := fun xs H Q => ∃ (t : Bool) (a : Addr) (vs : List V) (x : PyData) (ds : List PyData), xs = [.ref a] ∧ SqB K t H a vs ∧ Dl.DpAll K H vs (x :: ds) ∧ AlikeAll (x :: ds) ∧ PyData.depthAll (x :: ds) ≤ 60 ∧
  ∀ (i : Nat) v, vs[i]? = some v → (x :: ds)[i]? = some (bestD mx x ds) → Q v H
theorem dpall_reads {pins : List (Addr × Obj)} {σ : L2.St} {H : Hp} {s : Shared} (I : Inv X pins σ H s) {vs : List V} {us : List Value} {ds : List PyData} (r : Vals vs us) (hd : Dl.DpAll X.K H vs ds) : ∃ as, ReadsAll s.heap us ds as :=
  L2.Dp.readsAll I ds vs us ((Dp.lib_aux _).2 ds vs (Nat.le_refl _) hd) r
theorem call_best {mx : Bool} (hc : X.calm = true) (hu : X.A.units + 64 < cLine) : CallR X (.builtin (if mx = true then "max" else "min")) (rBest X.K mx) := by
  intro pins s σ H xs us Q I r h
  obtain ⟨t, a, vs, x, ds, rfl, hq, hd, al, dp, q⟩ := h
  obtain ⟨u, rfl, ru⟩ := vals1 r
  obtain rfl : u = .ref a := ru
  obtain ⟨its, rv, c⟩ := sqB_at I hq
  obtain ⟨as, ra⟩ := dpall_reads I rv hd
  have ra' : ReadsAll s.heap its.toArray.toList (x :: ds) as := by simpa using ra
  have fin : ∀ (i : Nat) (v : Value) (h' : Heap) (tk : Nat) (bs : List Addr), its.toArray[i]? = some v → Reads h' v (bestD mx x ds) bs → (∀ b o, s.heap.get? b = some o → h'.get? b = some o) → EP X pins σ Q v { s with heap := h', toks := tk } := by
    intro i v h' tk bs ev rd kp
    obtain ⟨w, ew, rw', ed⟩ := best_at I rv hd al (by simpa using ev) rd (best_mem mx x ds) kp
    exact ⟨w, H, I.kept kp, rw', q i w ew ed⟩
  have hh := I.ok.hd hc
  have hu' : X.A.units + 1 + PyData.depthAll (x :: ds) < cLine := by omega
  cases mx
  · cases t
    · exact PySem.W.min_list_data hh c ra' al hu' fun i v h' tk bs ev rd kp => fin i v h' tk bs ev rd kp
    · exact PySem.W.min_tuple_data hh c ra' al hu' fun i v h' tk bs ev rd kp => fin i v h' tk bs ev rd kp
  · cases t
    · exact PySem.W.max_list_data hh c ra' al hu' fun i v h' tk bs ev rd kp => fin i v h' tk bs ev rd kp
    · exact PySem.W.max_tuple_data hh c ra' al hu' fun i v h' tk bs ev rd kp => fin i v h' tk bs ev rd kp
def rBestD (K : PySem.W.Frag) (mx : Bool) : List V → List V → Hp → VK → Prop := fun xs zs H Q => ∃ (t : Bool) (a : Addr) (vs : List V) (all : List PyData) (z : V), xs = [.ref a] ∧ zs = [z] ∧ SqB K t H a vs ∧ Dl.DpAll K H vs all ∧ AlikeAll all ∧ PyData.depthAll all ≤ 60 ∧ (all = [] → Q z H) ∧
  ∀ x ds (i : Nat) v, all = x :: ds → vs[i]? = some v → all[i]? = some (bestD mx x ds) → Q v H
theorem call_bestD {mx : Bool} (hc : X.calm = true) (hu : X.A.units + 64 < cLine) : CallRK X (.builtin (if mx = true then "max" else "min")) ["default"] (rBestD X.K mx) := by
  intro pins s σ H xs zs us ws Q I r rz h
  obtain ⟨t, a, vs, all, z, rfl, rfl, hq, hd, al, dp, q0, q⟩ := h
  obtain ⟨u, rfl, ru⟩ := vals1 r
  obtain rfl : u = .ref a := ru
  obtain ⟨d, rfl, rd0⟩ := vals1 rz
  obtain ⟨its, rv, c⟩ := sqB_at I hq
  obtain ⟨as, ra⟩ := dpall_reads I rv hd
  have ra' : ReadsAll s.heap its.toArray.toList all as := by simpa using ra
  have fin0 : all = [] → ∀ (h' : Heap) (tk : Nat), (∀ b o, s.heap.get? b = some o → h'.get? b = some o) → EP X pins σ Q d { s with heap := h', toks := tk } := fun e h' tk kp => ⟨z, H, I.kept kp, rd0, q0 e⟩
  have fin : ∀ (x : PyData) (ds : List PyData) (i : Nat) (v : Value) (h' : Heap) (tk : Nat) (bs : List Addr), all = x :: ds → its.toArray[i]? = some v → Reads h' v (bestD mx x ds) bs → (∀ b o, s.heap.get? b = some o → h'.get? b = some o) → EP X pins σ Q v { s with heap := h', toks := tk } := by
    intro x ds i v h' tk bs e ev rd kp
    obtain ⟨w, ew, rw', ed⟩ := best_at I rv hd al (by simpa using ev) rd (by rw [e]; exact best_mem mx x ds) kp
    exact ⟨w, H, I.kept kp, rw', q x ds i w e ew ed⟩
  have hh := I.ok.hd hc
  have hu' : X.A.units + 1 + PyData.depthAll all < cLine := by omega
  cases mx
  · cases t
    · exact PySem.W.min_list_default hh c ra' al hu' fin0 fun x ds i v h' tk bs e ev rd kp => fin x ds i v h' tk bs e ev rd kp
    · exact PySem.W.min_tuple_default hh c ra' al hu' fin0 fun x ds i v h' tk bs e ev rd kp => fin x ds i v h' tk bs e ev rd kp
  · cases t
    · exact PySem.W.max_list_default hh c ra' al hu' fin0 fun x ds i v h' tk bs e ev rd kp => fin x ds i v h' tk bs e ev rd kp
    · exact PySem.W.max_tuple_default hh c ra' al hu' fin0 fun x ds i v h' tk bs e ev rd kp => fin x ds i v h' tk bs e ev rd kp
end
/-- a list, a tuple or a cell of data -/
def SeqA (y : A) (μ : Mu) (ds : List PyData) : Prop := SeqOf y μ (ds.map A.d)
def rdBest (mx : Bool) : List A → Mu → DK → Prop := fun xs μ P => ∃ y x ds, xs = [y] ∧ SeqA y μ (x :: ds) ∧ AlikeAll (x :: ds) ∧ PyData.depthAll (x :: ds) ≤ 60 ∧ P (.d (bestD mx x ds)) μ
section
variable {K : PySem.W.Frag}
theorem seqA_b {F : Hp} {al : List Addr} {μ : Mu} {H : Hp} {v : V} {y : A} {ds : List PyData} (S : Sto K F al μ H) (a : Ab K F al v y) (h : SeqA y μ ds) : ∃ t p vs, v = .ref p ∧ SqB K t H p vs ∧ DpAll K F vs ds := by
  obtain ⟨p, vs, rfl, hq, r⟩ := seqOf_ab S a h
  rcases hq with hq | hq
  · exact ⟨false, p, vs, rfl, hq, DpAll.of r⟩
  · exact ⟨true, p, vs, rfl, hq, DpAll.of r⟩
theorem s_best {mx : Bool} : SimC K (rBest K mx) (rdBest mx) := fun xs μ P h F al H vs S a Q k => by
  obtain ⟨y, x, ds, rfl, hs, al', dp, h⟩ := h
  obtain ⟨v, rfl, av⟩ := one_of a
  obtain ⟨t, p, ws, rfl, hq, r⟩ := seqA_b S av hs
  refine ⟨t, p, ws, x, ds, rfl, hq, DpAll.mono S.sub r, al', dp, fun i w ew ed => ?_⟩
  obtain ⟨w', ew', hw⟩ := DpAll.get r ed
  rw [ew] at ew'
  obtain rfl := Option.some.inj ew'
  exact k.now h S hw
def rdBestD (mx : Bool) : List A → List A → Mu → DK → Prop := fun xs zs μ P => ∃ y all z, xs = [y] ∧ zs = [z] ∧ SeqA y μ all ∧ AlikeAll all ∧ PyData.depthAll all ≤ 60 ∧ match all with | [] => P z μ | x :: ds => P (.d (bestD mx x ds)) μ
end
abbrev dCallKw (rd : List A → List A → Mu → DK → Prop) (da dk : DAT) : DT := fun ρ μ P => da ρ μ fun xs μ1 => dk ρ μ1 fun zs μ2 => rd xs zs μ2 P
theorem d_bestD {X : Cx} {mx : Bool} {x : Str} {p pos : Pos} {e : Expr} {es : List Expr} {kws : List Keyword} {da dk : DAT} (hc : X.calm = true) (hu : X.A.units + 64 < cLine) (ha : DA X (e :: es) da) (hk : DKw X kws dk) (hm : X.mg x = none) (hv : bootBuiltins x = some (.builtin (if mx = true then "max" else "min"))) (hg : Gl X x := by rfl) (hn : x ≠ "__name__" := by decide) (hdb : (x == ("__debug__" : Str)) = false := by decide)
    (he : backTo pos (starEach (e :: es) X.env) = (false, eval e X.env) :: backTo pos (starEach es X.env) := by rfl) (hpl : (backTo pos (starEach (e :: es) X.env)).any (·.1) = false := by rfl)
    (hall : (backToKw pos (keywordEach kws X.env)).all (·.1.isSome) = true := by rfl) (hnone : (backToKw pos (keywordEach kws X.env)).any (·.1.isNone) = false := by rfl) (hks : (backToKw pos (keywordEach kws X.env)).filterMap (·.1) = (["default"] : List Str) := by rfl) :
    DE X (.Call (.Name x p) (e :: es) kws pos) (dCallKw (rdBestD mx) da dk) := by
  obtain ⟨_, p1, s1⟩ := ha.ex
  obtain ⟨_, p2, s2⟩ := hk.ex
  refine ⟨_, pe_callBK (call_bestD (mx := mx) hc hu) hg hm hv p1 p2 hn hdb he hpl hall hnone hks, fun ρ μ P h F al σ H S L Q k => ?_⟩
  refine s1 ρ μ _ h F al σ H S L _ fun vs xs μ1 F1 al1 H1 h1 g1 S1 a1 => ?_
  refine s2 ρ μ1 _ h1 F1 al1 σ H1 S1 (g1.slots L) _ fun ws zs μ2 F2 al2 H2 h2 g2 S2 a2 => ?_
  obtain ⟨y, all, z, rfl, rfl, hs, al', dp, h⟩ := h2
  obtain ⟨v, rfl, av⟩ := one_of (g2.abs a1)
  obtain ⟨w, rfl, aw⟩ := one_of a2
  obtain ⟨t, q, us, rfl, hq, r⟩ := seqA_b S2 av hs
  have kk := k.fwd (g1.trans g2)
  refine ⟨t, q, us, all, w, rfl, rfl, hq, DpAll.mono S2.sub r, al', dp, fun e => ?_, fun x ds i u e eu ed => ?_⟩
  · subst e
    exact kk.now h S2 aw
  · subst e
    obtain ⟨u', eu', hw⟩ := DpAll.get r ed
    rw [eu] at eu'
    obtain rfl := Option.some.inj eu'
    exact kk.now h S2 hw
end Dl

set_option Elab.async false
set_option linter.all false
set_option maxRecDepth 100000
set_option maxHeartbeats 4000000
/-! a callee that is handed data alone and leaves cells within cells; ~ and & of numbers; list.count -/
namespace Dl
open PySem PySem.Spec PyProof.Rows L2
def upN (m : Nat) : A → A
  | .c j => .c (m + j)
  | x => x
def upO (m : Nat) : O → O
  | .lst xs => .lst (xs.map (upN m))
  | .dct ks => .dct (ks.map fun p => (p.1, upN m p.2))
  | .fdct o vs ks => .fdct o vs (ks.map fun p => (p.1, upN m p.2))
  | .dead => .dead
def FRN (R : DR) : DR := fun xs μ P Ex => ∃ ds : List PyData, xs = ds.map A.d ∧ R xs [] (fun y ν => P (upN μ.length y) (μ ++ ν.map (upO μ.length))) fun C o ν => Ex C o (μ ++ ν.map (upO μ.length))
section
variable {K : PySem.W.Frag} {F F' : Hp} {al al' : List Addr} {H H' : Hp} {μ ν' : Mu}
theorem upN_ab (e : al.length = μ.length) {v : V} {y : A} (h : Ab K F' al' v y) : Ab K F' (al ++ al') v (upN μ.length y) := by
  cases y with
  | c j =>
    obtain ⟨a, ea, rfl⟩ := h
    refine ⟨a, ?_, rfl⟩
    rw [← e, List.getElem?_append_right (Nat.le_add_right _ _), Nat.add_sub_cancel_left]
    exact ea
  | _ => exact h
theorem upO_ab (e : al.length = μ.length) {ho : HO} {o : O} (h : AbO K F' al' ho o) : AbO K F' (al ++ al') ho (upO μ.length o) := by
  cases o with
  | dead => cases ho <;> trivial
  | lst xs =>
    cases ho with
    | lst vs => exact (show Paired (Ab K F' (al ++ al')) vs (xs.map (upN μ.length)) from by
        have := Paired.map2 (f := id) (g := upN μ.length) (R' := Ab K F' (al ++ al')) (fun a b r => upN_ab e r) (show Paired (Ab K F' al') vs xs from h)
        rwa [List.map_id] at this)
    | _ => exact h.elim
  | dct ks =>
    cases ho with
    | dK kvs => exact (show Paired (fun (p : Key × V) (q : Key × A) => p.1 = q.1 ∧ Ab K F' (al ++ al') p.2 q.2) kvs (ks.map fun p => (p.1, upN μ.length p.2)) from by
        have := Paired.map2 (f := id) (g := fun (p : Key × A) => (p.1, upN μ.length p.2)) (R' := fun (p : Key × V) (q : Key × A) => p.1 = q.1 ∧ Ab K F' (al ++ al') p.2 q.2) (fun a b r => ⟨r.1, upN_ab e r.2⟩) (show Paired (fun (p : Key × V) (q : Key × A) => p.1 = q.1 ∧ Ab K F' al' p.2 q.2) kvs ks from h)
        rwa [List.map_id] at this)
    | _ => exact h.elim
  | fdct oo us ks =>
    cases ho with
    | frz o u =>
      cases u with
      | dK kvs => exact ⟨h.1, (show Paired (fun (p : Key × V) (q : Key × A) => p.1 = q.1 ∧ Ab K F' (al ++ al') p.2 q.2) kvs (ks.map fun p => (p.1, upN μ.length p.2)) from by
          have := Paired.map2 (f := id) (g := fun (p : Key × A) => (p.1, upN μ.length p.2)) (R' := fun (p : Key × V) (q : Key × A) => p.1 = q.1 ∧ Ab K F' (al ++ al') p.2 q.2) (fun a b r => ⟨r.1, upN_ab e r.2⟩) (show Paired (fun (p : Key × V) (q : Key × A) => p.1 = q.1 ∧ Ab K F' al' p.2 q.2) kvs ks from h.2)
          rwa [List.map_id] at this)⟩
      | _ => exact h.elim
    | _ => exact h.elim
theorem bare_sto (S : Sto K F al μ H) : Sto K F [] [] H := ⟨S.sub, List.nodup_nil, rfl, fun i a o e => by simp at e⟩
theorem new_back (S : Sto K F al μ H) (g : Grow F [] H F' al' H') (S' : Sto K F' al' ν' H') : Grow F al H F' (al ++ al') H' ∧ Sto K F' (al ++ al') (μ ++ ν'.map (upO μ.length)) H' := by
  have fresh : ∀ {a}, a ∈ al' → H a = none := fun {a} h => (g.nw a h).resolve_left (fun z => by cases z)
  refine ⟨⟨g.f, ⟨_, rfl⟩, fun b o e _ => g.fr b o e (fun z => by cases z), fun a h => ?_, fun b o e => ?_⟩, ⟨S'.sub, ?_, ?_, fun i a o e1 e2 => ?_⟩⟩
  · rcases List.mem_append.mp h with h | h
    · exact .inl h
    · exact .inr (fresh h)
  · rcases g.fz b o e with h | h | h
    · exact .inl h
    · exact .inr (.inl h)
    · cases h
  · rw [List.nodup_append]
    refine ⟨S.nd, S'.nd, fun a ha b hb e => ?_⟩
    subst e
    obtain ⟨u, hu⟩ := S.has ha
    rw [fresh hb] at hu
    cases hu
  · rw [List.length_append, List.length_append, List.length_map, S.len, S'.len]
  · rcases Nat.lt_or_ge i al.length with lt | ge
    · rw [List.getElem?_append_left lt] at e1
      rw [List.getElem?_append_left (by rw [← S.len]; exact lt)] at e2
      obtain ⟨ho, h1, h2⟩ := S.cell i a o e1 e2
      refine ⟨ho, g.fr a ho h1 (fun z => by cases z), fun nd => ⟨?_, (h2 nd).2.mono g.f ⟨_, rfl⟩⟩⟩
      cases q : F' a with
      | none => rfl
      | some u =>
        rcases g.fz a u q with z | z | z
        · rw [(h2 nd).1] at z
          cases z
        · rw [h1] at z
          cases z
        · cases z
    · rw [List.getElem?_append_right ge] at e1
      rw [List.getElem?_append_right (by rw [← S.len]; exact ge), ← S.len, List.getElem?_map] at e2
      obtain ⟨o', e3, rfl⟩ := Option.map_eq_some_iff.mp e2
      obtain ⟨ho, h1, h2⟩ := S'.cell _ a o' e1 e3
      refine ⟨ho, h1, fun nd => ?_⟩
      have nd' : o' ≠ .dead := fun z => nd (by rw [z]; rfl)
      have := upO_ab (al := al) (μ := μ) S.len (h2 nd').2
      rw [← S.len] at this
      exact ⟨(h2 nd').1, this⟩
theorem frn_imp {R : DR} : ∀ vs H Q E, SpD K (FRN R) vs H Q E → SpD K R vs H Q E := by
  rintro vs H Q E ⟨xs, μ, P, Ex, F, al, S, a, ⟨ds, rfl, r⟩, k, kx⟩
  refine ⟨_, [], _, _, F, [], bare_sto S, DpAll.to (DpAll.of a), r, fun v y ν' F' al' H' h g S' ab => ?_, fun C o ν' F' al' H' d h g S' x => ?_⟩
  · obtain ⟨g2, S2⟩ := new_back S g S'
    exact k v _ _ F' _ H' h g2 S2 (upN_ab S.len ab)
  · obtain ⟨g2, S2⟩ := new_back S g S'
    exact kx C o _ F' _ H' d h g2 S2 x
end
theorem FRN.add {R R' : DR} {das : List PyData} (h : ∀ xs μ Pk Ex, R xs μ Pk Ex → R' (xs ++ das.map A.d) μ Pk Ex) {xs : List A} {μ : Mu} {P : DK} {Ex : DX} (q : FRN R xs μ P Ex) : FRN R' (xs ++ das.map A.d) μ P Ex := by
  obtain ⟨ds, rfl, r⟩ := q
  exact ⟨ds ++ das, by rw [List.map_append], h _ _ _ _ r⟩
theorem FRN.perm {R R' : DR} {π : List Nat} {n : Nat} (h : ∀ xs μ Pk Ex, xs.length = n → R xs μ Pk Ex → R' (Dl.perm (.d .none) π xs) μ Pk Ex) {xs : List A} {μ : Mu} {P : DK} {Ex : DX} (hl : xs.length = n) (q : FRN R xs μ P Ex) : FRN R' (Dl.perm (.d .none) π xs) μ P Ex := by
  obtain ⟨ds, rfl, r⟩ := q
  exact ⟨Dl.perm .none π ds, perm_map (f := A.d) rfl π ds, h _ _ _ _ hl r⟩
section
variable {X : Cx} {W : WX} {k : Nat} {R : DR} {x : Str} {p pos spos : Pos} {e : Expr} {es : List Expr} {da : DAT} {ks : List Str} {kws : List Keyword}
theorem d_calN (C : CalG X.prog X.w X.K X.mg X.base x k R) (g : Calm0 X.A) (hr : Room k X.A) (ha : DA X (e :: es) da) (gl : Gl X x := by rfl)
    (db : (x == ("__debug__" : Str)) = false := by decide) (se : starEach (e :: es) X.env = (false, eval e X.env) :: starEach es X.env := by rfl) (sp0 : (backTo pos (starEach es X.env)).any (·.1) = false := by rfl) : DE X (.Call (.Name x p) (e :: es) [] pos) (dFn (FRN R) da) := by
  obtain ⟨f, fd, ps, ds, dvs, das, R', mx, kp, b, dv, dd, F, im⟩ := C.ex
  obtain ⟨_, p2, s2⟩ := ha.ex
  refine ⟨_, pe_callG F g hr gl mx kp b dv passNo p2 db se sp0, fun ρ μ P h Fh al σ H S L Q kk => ?_⟩
  refine s2 ρ μ _ h Fh al σ H S L _ fun vs xs μ1 F1 al1 H1 q g1 S1 a => ?_
  exact frn_imp _ _ _ _ ⟨xs ++ das.map A.d, μ1, P, noX, F1, al1, S1, Paired.app a (DpAll.to (dd F1)), FRN.add im q, kk.fwd g1, fun C o μ' F' al' H' d h => h.elim⟩
theorem d_calNK (C : CalK X.prog X.w X.K X.mg X.base x k ks R) (g : Calm0 X.A) (hr : Room k X.A) (ha : DKw X kws da) (gl : Gl X x := by rfl) (hl : kws.length = ks.length := by rfl)
    (all : (backToKw pos (keywordEach kws X.env)).all (·.1.isSome) = true := by rfl) (nam : (backToKw pos (keywordEach kws X.env)).filterMap (·.1) = ks := by rfl)
    (db : (x == ("__debug__" : Str)) = false := by decide) (sp0 : ((backTo pos (starEach [] X.env)).any (·.1) || (backToKw pos (keywordEach kws X.env)).any (·.1.isNone)) = false := by rfl) : DE X (.Call (.Name x p) [] kws pos) (dFnK ks.length (FRN R) da) := by
  obtain ⟨f, fd, ps, π, R', mx, kp, b, F, im⟩ := C.ex
  obtain ⟨_, p2, s2⟩ := ha.ex
  refine ⟨_, pe_callGK F g hr gl mx kp b passNo p2 hl all nam db sp0, fun ρ μ P h Fh al σ H S L Q kk => ?_⟩
  refine s2 ρ μ _ h Fh al σ H S L _ fun vs xs μ1 F1 al1 H1 q g1 S1 a => ?_
  exact ⟨by rw [pair_len a]; exact q.1, frn_imp _ _ _ _ ⟨_, μ1, P, noX, F1, al1, S1, perm_ab π a, FRN.perm im q.1 q.2, kk.fwd g1, fun C o μ' F' al' H' d h => h.elim⟩⟩
/-! ~ and & -/
variable {a b : Expr} {db : DT}
abbrev dInv (da : DT) : DT := fun ρ μ P => da ρ μ fun x μ1 => ∃ i, x = .d (.int i) ∧ P (.d (.int (Builtin.bitNot i))) μ1
theorem d_inv {da : DT} (ha : DE X a da) : DE X (.UnaryOp .Invert a pos) (dInv da) := by
  obtain ⟨_, p, s⟩ := ha.ex
  refine ⟨_, pe_un un_inv p, fun ρ μ P h F al σ H S L Q k => s ρ μ _ h F al σ H S L _ fun v x μ1 F1 al1 H1 q g S1 a => ?_⟩
  obtain ⟨i, rfl, q⟩ := q
  exact ⟨i, dp_int a, (k.fwd g).now q S1 (.int _)⟩
def rdBandI : A → A → Mu → DK → Prop := rdI0 fun i j => .int (Builtin.bitAnd i j)
theorem d_bandI {da db : DT} (ha : DE X a da) (hb : DE X b db) : DE X (.BinOp a .BitAnd b pos) (dOp rdBandI da db) := d_op op_and (sim_I0 fun _ _ _ => .int _) ha hb
theorem band_not (n m : Nat) : Builtin.bitAnd (n : Int) (Builtin.bitNot (m : Int)) = ((n - (n &&& m) : Nat) : Int) := by
  unfold Builtin.bitAnd
  rw [decide_eq_true (Int.natCast_nonneg n), decide_eq_false (bnot_neg m)]
  show (n : Int) - (((n : Int).toNat &&& (Builtin.bitNot (Builtin.bitNot (m : Int))).toNat : Nat) : Int) = _
  rw [bitNot_bitNot, Int.toNat_natCast, Int.toNat_natCast]
  have : n &&& m ≤ n := Nat.and_le_left
  omega
theorem and_xor_add : ∀ (k n m : Nat), n ≤ k → (n &&& m) + (n ^^^ (n &&& m)) = n
  | 0, n, m, h => by
    obtain rfl : n = 0 := by omega
    simp
  | k + 1, n, m, h => by
    by_cases z : n = 0
    · subst z
      simp
    · have ih := and_xor_add k (n / 2) (m / 2) (by omega)
      have e1 : (n &&& m) / 2 = n / 2 &&& m / 2 := Nat.and_div_two
      have e2 : (n ^^^ (n &&& m)) / 2 = n / 2 ^^^ (n &&& m) / 2 := Nat.xor_div_two
      have t1 : (n &&& m) % 2 = if n % 2 = 1 ∧ m % 2 = 1 then 1 else 0 := by
        have := Nat.and_mod_two_pow (a := n) (b := m) (n := 1)
        simp only [Nat.pow_one] at this
        rw [this]
        rcases Nat.mod_two_eq_zero_or_one n with a | a <;> rcases Nat.mod_two_eq_zero_or_one m with b | b <;> rw [a, b] <;> simp
      have t2 : (n ^^^ (n &&& m)) % 2 = if n % 2 = 1 ∧ m % 2 = 0 then 1 else 0 := by
        have := Nat.xor_mod_two_pow (a := n) (b := n &&& m) (n := 1)
        simp only [Nat.pow_one] at this
        rw [this, t1]
        rcases Nat.mod_two_eq_zero_or_one n with a | a <;> rcases Nat.mod_two_eq_zero_or_one m with b | b <;> rw [a, b] <;> simp
      rw [← e1] at ih
      rw [← e2] at ih
      split at t1 <;> split at t2 <;> omega
theorem sub_bit (n m s : Nat) : (n - (n &&& m)).testBit s = (n.testBit s && !m.testBit s) := by
  have e : n - (n &&& m) = n ^^^ (n &&& m) := by
    have := and_xor_add n n m (Nat.le_refl _)
    omega
  rw [e, Nat.testBit_xor, Nat.testBit_and]
  cases n.testBit s <;> cases m.testBit s <;> rfl
/-! xs.count(k) of numbers -/
def rdLcount : A → List A → Mu → DK → Prop := fun x xs μ P => ∃ (ns : List Int) (k : Int), LstOf x μ ((ns.map PyData.int).map A.d) ∧ xs = [.d (.int k)] ∧ P (.d (.int (ns.count k : Nat))) μ
theorem s_lcount {K : PySem.W.Frag} : SimM K "list" (rCntI K) rdLcount := fun x xs μ P h F al H v vs S a as Q k => by
  obtain ⟨ns, j, h1, rfl, h⟩ := h
  obtain ⟨p, ws, rfl, q, r⟩ := lstOf_ab S a h1
  obtain ⟨u, rfl, au⟩ := one_of as
  rw [ints_of (DpAll.of r)] at q
  exact ⟨p, ns, j, rfl, by rw [dp_int au], q, k.now h S (.int _)⟩
end
end Dl

set_option Elab.async false
set_option linter.all false
set_option maxRecDepth 100000
set_option maxHeartbeats 4000000
/-! a def whose answer may leave its cells as they are -/
namespace Dl
open PySem PySem.Spec PyProof.Rows L2
theorem cal_ofR {P : Program} {w : World} {K : PySem.W.Frag} {mg : Str → Option Value} {base : Heap} {x : Str} {st : Stmt} {ps N : List Str} {k : Nat} {R : DR} {f : Addr} {fd : FuncData} (F : FunV K x x st f fd) (sc : FnScope N ps (defScope st))
    (ln : ∀ xs μ Pk Ex, R xs μ Pk Ex → xs.length = ps.length)
    (bd : ∀ (cd : Value) (A : Around) (ou : List Env) (s : Shared) (H : Hp) (E : XK) (W : WX), Calm0 (A.deeper (envOfC x (defScope st) s.heap.objs.size f cd)) → Room k (A.deeper (envOfC x (defScope st) s.heap.objs.size f cd)) →
      Takes (cxOf (L2.CX P w) P w K mg base N x (defScope st) f cd A ou s H E) W →
      PassesOwn (model P w) (A.deeper (envOfC x (defScope st) s.heap.objs.size f cd)) (envOfC x (defScope st) s.heap.objs.size f cd) (cxOf (L2.CX P w) P w K mg base N x (defScope st) f cd A ou s H E).xe →
      ∃ d, DSs (cxOf (L2.CX P w) P w K mg base N x (defScope st) f cd A ou s H E) W (defBody st) d ∧ ∀ xs μ Pk Ex, Old μ.length μ → R xs μ Pk Ex →
        d { nx := fun _ μ' => RetD μ.length Pk (.d .none) μ', rt := fun y μ' => RetD μ.length Pk y μ' ∨ Pk y μ', ex := OutD μ.length Ex } (startR N xs) μ) : FnG P w K mg base (L2.CX P w) (k + 1) f fd ps (SpD K R) := by
  refine fg_body F sc (fun vs H Q E h => ?_) (fun cd A ou s H vs Q E g hr h => ?_)
  · obtain ⟨xs, μ, Pk, Ex, Fh, al, S, a, r, _⟩ := h
    rw [pair_len a]
    exact ln _ _ _ _ r
  · obtain ⟨xs, μ, Pk, Ex, Fh, al, S, a, r, kk, kx⟩ := h
    obtain ⟨d, hd, q⟩ := bd cd A ou s H E (fun cls d _ H' => E cls d H') g hr (takes_of rfl rfl rfl rfl) (passes_of rfl)
    obtain ⟨t, pt, sm⟩ := hd.ex
    refine ⟨t, pt, sm _ μ _ (q xs μ Pk Ex S.old r) Fh al _ H S (slots_start a) _ ⟨fun ρ' μ' F' al' σ' H' h g S' _ => ?_, fun v y μ' F' al' H' h g S' a => h.elim (fun h => kk.ret S v y μ' F' al' H' h g S' a) (fun h => kk v y μ' F' al' H' h g S' a), fun _ _ _ _ _ _ z => z.elim, fun _ _ _ _ _ _ z => z.elim, fun C o ρ' μ' F' al' σ' H' dd h g S' _ xo => ?_⟩⟩
    · exact kk.ret S .non (.d .none) μ' F' al' H' h g S' .non
    · obtain ⟨μ'', rm, h⟩ := h
      obtain ⟨F'', al'', g2, S2, sf, _⟩ := grow_ret S g S' rm
      exact kx C o μ'' F'' al'' H' dd h g2 S2 (xo.mono sf)
/-- what stands in cells, handed back as data -/
theorem ret_rfy {m : Nat} {P : DK} {x : A} {d : PyData} {μ μ1 : Mu} (h : Rfy m none μ x d) (r : RfyM m none μ μ1) (q : P (.d d) μ1) : RetD m P x μ := ⟨none, .d d, μ1, .inl ⟨d, h, rfl⟩, r, q⟩
theorem ret_rfy0 {P : DK} {x : A} {d : PyData} {μ : Mu} (h : Rfy 0 none μ x d) (q : P (.d d) []) : RetD 0 P x μ :=
  ret_rfy h ⟨fun j e => (by cases e), rfl, fun i o hi => absurd hi (Nat.not_lt_zero _), fun j o e => (by cases e)⟩ q
theorem rfyL_map {α : Type} {m : Nat} {kp : Option Nat} {μ : Mu} {f : α → A} {g : α → PyData} : ∀ {xs : List α}, (∀ x ∈ xs, Rfy m kp μ (f x) (g x)) → RfyL m kp μ (xs.map f) (xs.map g)
  | [], _ => .nil
  | x :: xs, h => .cons (h x (List.mem_cons_self ..)) (rfyL_map fun y hy => h y (List.mem_cons_of_mem _ hy))
end Dl

set_option Elab.async false
set_option linter.all false
set_option maxRecDepth 100000
set_option maxHeartbeats 4000000
namespace Rp
open PySem PySem.Spec PyProof.Rows L2 Dl
theorem _root_.L2.Room.units65 {k : Nat} {A : Around} (r : Room k A) : A.units + 65 < cLine := by have := r.un; omega
theorem iteD {c : Prop} [Decidable c] {p q : Prop} (h1 : c → p) (h2 : ¬ c → q) : if decide c = true then p else q := by
  by_cases h : c
  · rw [decide_eq_true h, if_pos rfl]
    exact h1 h
  · rw [decide_eq_false h, if_neg Bool.false_ne_true]
    exact h2 h
theorem iteE {c : Prop} [Decidable c] {p q : Prop} (h1 : c → p) (h2 : ¬ c → q) : if (false ^^ decide c) = true then p else q := by
  rw [Bool.false_xor]
  exact iteD h1 h2
theorem iteN {c : Prop} [Decidable c] {p q : Prop} (h1 : ¬ c → p) (h2 : c → q) : if (true ^^ decide c) = true then p else q := by
  rw [Bool.true_xor, ← decide_not]
  exact iteD h1 fun h => h2 (Decidable.not_not.mp h)
/-! ### what the values are -/
abbrev Road := Str × Str × Str
abbrev Mom := Int × Int
def rdD (r : Road) : PyData := .tuple [.str r.1, .str r.2.1, .str r.2.2]
def webD (ps : List Str) (rs : List Road) : PyData := .tuple [.tuple (ps.map .str), .tuple (rs.map rdD)]
def roundD (r : List Str) : PyData := .tuple (r.map .str)
def weekD (wk : List (List Str)) : PyData := .tuple (wk.map roundD)
def momD (m : Mom) : PyData := .tuple [.int m.1, .int m.2]
abbrev rnm (rs : List Road) : List Str := rs.map fun r => r.1
def letters : Str := "abcdefghijklmnopqrstuvwxyz"
def signs : Str := "abcdefghijklmnopqrstuvwxyz0123456789"
/-! ### what is right -/
structure NameOk (s : Str) : Prop where
  one : 1 ≤ s.length
  most : s.length ≤ 8
  first : ∃ c, s.cps.toList[0]? = some c ∧ c ∈ letters.cps.toList
  all : ∀ c ∈ s.cps.toList, c ∈ signs.cps.toList
structure PlacesOk (ps : List Str) : Prop where
  one : 1 ≤ ps.length
  most : ps.length ≤ 10
  nm : ∀ p ∈ ps, NameOk p
  nd : ps.Nodup
structure RoadsOk (ps : List Str) (rs : List Road) : Prop where
  most : rs.length ≤ 14
  nm : ∀ r ∈ rs, NameOk r.1
  a : ∀ r ∈ rs, r.2.1 ∈ ps
  b : ∀ r ∈ rs, r.2.2 ∈ ps
  ne : ∀ r ∈ rs, r.2.1 ≠ r.2.2
  nd : (rnm rs).Nodup
structure WebOk (ps : List Str) (rs : List Road) : Prop where
  p : PlacesOk ps
  r : RoadsOk ps rs
structure RoundOk (rs : List Road) (r : List Str) : Prop where
  nd : r.Nodup
  sub : ∀ n ∈ r, n ∈ rnm rs
structure WeekOk (rs : List Road) (wk : List (List Str)) : Prop where
  one : 1 ≤ wk.length
  most : wk.length ≤ 4
  rd : ∀ r ∈ wk, RoundOk rs r
def roundAt (wk : List (List Str)) (day : Int) : List Str := wk.getD ((day - 1) % wk.length).toNat []
structure MomS (wk : List (List Str)) (m : Mom) : Prop where
  d1 : 1 ≤ m.1
  w1 : 0 ≤ m.2
  w2 : m.2 ≤ (roundAt wk m.1).length
structure MomOk (wk : List (List Str)) (m : Mom) : Prop extends MomS wk m where
  d2 : m.1 ≤ 1000000
theorem MomOk.mk4 {wk : List (List Str)} {m : Mom} (d1 : 1 ≤ m.1) (d2 : m.1 ≤ 1000000) (w1 : 0 ≤ m.2) (w2 : m.2 ≤ (roundAt wk m.1).length) : MomOk wk m := ⟨⟨d1, w1, w2⟩, d2⟩
instance {wk : List (List Str)} {m : Mom} : Coe (MomOk wk m) (MomS wk m) := ⟨MomOk.toMomS⟩
/-! ### the promises of the program's defs -/
def R_is_whole : DR := fun xs μ Pk _ => ∃ i : Int, xs = [.d (.int i)] ∧ μ = [] ∧ Pk (.d (.bool true)) []
def R_is_count : DR := fun xs μ Pk _ => ∃ i a b : Int, xs = [.d (.int i), .d (.int a), .d (.int b)] ∧ μ = [] ∧ a ≤ i ∧ i ≤ b ∧ Pk (.d (.bool true)) []
def R_is_name : DR := fun xs μ Pk _ => ∃ s, xs = [.d (.str s)] ∧ μ = [] ∧ NameOk s ∧ Pk (.d (.bool true)) []
def R_are_places : DR := fun xs μ Pk _ => ∃ ps : List Str, xs = [.d (.tuple (ps.map .str))] ∧ μ = [] ∧ PlacesOk ps ∧ Pk (.d (.bool true)) []
def R_is_road_between : DR := fun xs μ Pk _ => ∃ (ps : List Str) (r : Road), xs = [.d (.tuple (ps.map .str)), .d (rdD r)] ∧ μ = [] ∧ ps.length ≤ 10 ∧ NameOk r.1 ∧ r.2.1 ∈ ps ∧ r.2.2 ∈ ps ∧ r.2.1 ≠ r.2.2 ∧ Pk (.d (.bool true)) []
def R_are_roads_between : DR := fun xs μ Pk _ => ∃ (ps : List Str) (rs : List Road), xs = [.d (.tuple (ps.map .str)), .d (.tuple (rs.map rdD))] ∧ μ = [] ∧ ps.length ≤ 10 ∧ RoadsOk ps rs ∧ Pk (.d (.bool true)) []
def R_is_web : DR := fun xs μ Pk _ => ∃ ps rs, xs = [.d (webD ps rs)] ∧ μ = [] ∧ WebOk ps rs ∧ Pk (.d (.bool true)) []
def R_need_web : DR := fun xs μ Pk _ => ∃ ps rs, xs = [.d (webD ps rs)] ∧ μ = [] ∧ WebOk ps rs ∧ Pk (.d .none) []
def R_need_place : DR := fun xs μ Pk _ => ∃ ps rs p, xs = [.d (webD ps rs), .d (.str p)] ∧ μ = [] ∧ p ∈ ps ∧ Pk (.d .none) []
def R_are_unlike_roads : DR := fun xs μ Pk _ => ∃ ps rs r, xs = [.d (webD ps rs), .d (roundD r)] ∧ μ = [] ∧ rs.length ≤ 14 ∧ RoundOk rs r ∧ Pk (.d (.bool true)) []
def R_is_week : DR := fun xs μ Pk _ => ∃ ps rs wk, xs = [.d (webD ps rs), .d (weekD wk)] ∧ μ = [] ∧ rs.length ≤ 14 ∧ WeekOk rs wk ∧ Pk (.d (.bool true)) []
def R_need_week : DR := fun xs μ Pk _ => ∃ ps rs wk, xs = [.d (webD ps rs), .d (weekD wk)] ∧ μ = [] ∧ rs.length ≤ 14 ∧ WeekOk rs wk ∧ Pk (.d .none) []
def R_round_of : DR := fun xs μ Pk _ => ∃ wk, ∃ day : Int, xs = [.d (weekD wk), .d (.int day)] ∧ μ = [] ∧ (1 ≤ wk.length ∧ wk.length ≤ 4) ∧ Pk (.d (roundD (roundAt wk day))) []
def R_is_moment : DR := fun xs μ Pk _ => ∃ wk m, xs = [.d (weekD wk), .d (momD m)] ∧ μ = [] ∧ (1 ≤ wk.length ∧ wk.length ≤ 4) ∧ MomOk wk m ∧ Pk (.d (.bool true)) []
def R_need_moment : DR := fun xs μ Pk _ => ∃ wk m, xs = [.d (weekD wk), .d (momD m)] ∧ μ = [] ∧ (1 ≤ wk.length ∧ wk.length ≤ 4) ∧ MomOk wk m ∧ Pk (.d .none) []
def R_need_start : DR := fun xs μ Pk _ => ∃ ps rs wk p m, xs = [.d (webD ps rs), .d (weekD wk), .d (.str p), .d (momD m)] ∧ μ = [] ∧ WebOk ps rs ∧ WeekOk rs wk ∧ p ∈ ps ∧ MomOk wk m ∧ Pk (.d .none) []
/-! ### calls in short -/
theorem pick0 {μ : Mu} : Pick [] μ [] := ⟨List.nodup_nil, rfl, fun j n h => by simp at h⟩
theorem putAll_nil (μ ν : Mu) : Dl.putAll μ [] ν = μ := by unfold Dl.putAll; rfl
/-- arguments without cells -/
theorem fr_d {R : DR} {μ : Mu} {P : DK} {Ex : DX} (ds : List PyData) (h : R (ds.map A.d) [] (fun y ν => (∀ o ∈ ν, dO o) ∧ P (upA [] μ.length y) (μ ++ ν)) fun C o ν => (∀ o ∈ ν, dO o) ∧ Ex C o (μ ++ ν)) : FR R (ds.map A.d) μ P Ex := by
  refine ⟨[], ds.map A.d, [], pick0, (map_up_d _ _ _).symm, fun z hz => by obtain ⟨d, _, rfl⟩ := List.mem_map.mp hz; trivial, ?_⟩
  simp only [putAll_nil, List.length_nil, List.drop_zero]
  exact h
/-- what a def that makes no cells hands back -/
theorem bk {μ : Mu} {P : DK} {d : PyData} (h : P (.d d) μ) : (∀ o ∈ ([] : Mu), dO o) ∧ P (upA [] μ.length (.d d)) (μ ++ []) := by
  refine ⟨fun o ho => (by cases ho), ?_⟩
  rw [List.append_nil]
  exact h
theorem noO : ∀ o ∈ ([] : Mu), dO o := fun o ho => (by cases ho)
theorem fin_b {Pk : DK} {c : Bool} (h : c = true) (q : Pk (.d (.bool true)) []) : RetD 0 Pk (.d (.bool c)) [] := by
  subst h
  exact ret_data0 rfl (fun i o e => by simp at e) q
theorem itP {c : Prop} [Decidable c] {p q : Prop} (h : c) (x : p) : if decide c = true then p else q := by
  rw [decide_eq_true h, if_pos rfl]
  exact x
theorem itQ {c : Prop} [Decidable c] {p q : Prop} (h : ¬ c) (x : q) : if decide c = true then p else q := by
  rw [decide_eq_false h, if_neg Bool.false_ne_true]
  exact x
theorem nP {c : Prop} [Decidable c] {p q : Prop} (h : c) (x : q) : if (!decide c) = true then p else q := by
  rw [decide_eq_true h]
  exact x
theorem fP {c : Prop} [Decidable c] {p q : Prop} (h : c) (x : p) : if (false ^^ decide c) = true then p else q := by
  rw [decide_eq_true h]
  exact iteT x
theorem tP {c : Prop} [Decidable c] {p q : Prop} (h : c) (x : q) : if (true ^^ decide c) = true then p else q := by
  rw [decide_eq_true h]
  exact x
theorem tQ {c : Prop} [Decidable c] {p q : Prop} (h : ¬ c) (x : p) : if (true ^^ decide c) = true then p else q := by
  rw [decide_eq_false h]
  exact iteT x
theorem fQ {c : Prop} [Decidable c] {p q : Prop} (h : ¬ c) (x : q) : if (false ^^ decide c) = true then p else q := by
  rw [decide_eq_false h]
  exact x
theorem bT {b : Bool} {p q : Prop} (h : b = true) (x : p) : if b = true then p else q := by
  rw [if_pos h]
  exact x
theorem bF {b : Bool} {p q : Prop} (h : b = false) (x : q) : if b = true then p else q := by
  rw [h, if_neg Bool.false_ne_true]
  exact x
/-! ### comprehensions in short -/
abbrev ones {α : Type} (xs : List α) (g : α → PyData) : List Y := xs.map fun x => Y.one (.d (g x))
theorem oneD_ones {α : Type} (xs : List α) (g : α → PyData) : oneD (xs.map g) = ones xs g := by
  unfold oneD
  rw [List.map_map]
  rfl
theorem ones_get {α : Type} {xs : List α} {g : α → PyData} {i : Nat} {y : Y} (h : (ones xs g)[i]? = some y) : ∃ x, xs[i]? = some x ∧ y = .one (.d (g x)) := by
  rw [List.getElem?_map] at h
  cases e : xs[i]? with
  | none => rw [e] at h; cases h
  | some x =>
    rw [e] at h
    exact ⟨x, rfl, (Option.some.inj h).symm⟩
section
variable {α : Type} {ys : List Y} {ok : Mu → Prop} {μ : Mu} {ρ : Rho} {dg : DG} {dt : DTT} {de dk dv : DT} {vs : List Nat} {P : DK}
theorem lc_map (xs : List α) (g h : α → PyData) (hy : ys = ones xs g) (hok : ok μ) (hz : xs.length ≤ sizeLine)
    (hs : ∀ x ∈ xs, ∀ Q : DK, Q (.d (h x)) μ → dg (.one (.d (g x))) (wipeR ρ vs) μ fun ρ3 μ3 => de ρ3 μ3 Q) (q : P (.d (.list (xs.map h))) μ) :
    ∃ Pv : Nat → List A → Mu → Prop, Pv 0 [] μ ∧
      (∀ (i : Nat) y acc μ2, ys[i]? = some y → Pv i acc μ2 → ok μ2 ∧ dg y (wipeR ρ vs) μ2 fun ρ3 μ3 => dtYes ρ3 μ3 fun b μ4 => if b = true then de ρ3 μ4 fun z μ5 => acc.length < sizeLine ∧ Pv (i + 1) (acc ++ [z]) μ5 else Pv (i + 1) acc μ4) ∧
        ∀ acc μ2, Pv ys.length acc μ2 → ok μ2 ∧ lcEnd P acc μ2 := by
  subst hy
  refine ⟨fun i acc μ2 => acc = ((xs.take i).map h).map A.d ∧ μ2 = μ, ⟨by rw [List.take_zero]; rfl, rfl⟩, ?_, ?_⟩
  · rintro i y acc μ2 hi ⟨rfl, rfl⟩
    obtain ⟨x, hx, rfl⟩ := ones_get hi
    refine ⟨hok, hs x (List.mem_of_getElem? hx) _ ?_⟩
    have lt := (List.getElem?_eq_some_iff.mp hx).1
    refine ⟨?_, ?_, rfl⟩
    · rw [List.length_map, List.length_map, List.length_take]
      omega
    · rw [List.take_add_one, hx, List.map_append, List.map_append]
      rfl
  · rintro acc μ2 ⟨rfl, rfl⟩
    refine ⟨hok, .inl ⟨_, rfl, ?_⟩⟩
    rw [List.length_map, List.take_length]
    exact q
theorem lc_filter (xs : List α) (g h : α → PyData) (c : α → Bool) (hy : ys = ones xs g) (hok : ok μ) (hz : xs.length ≤ sizeLine)
    (hs : ∀ x ∈ xs, ∀ (Q : DK) (N : Mu → Prop), (c x = true → Q (.d (h x)) μ) → (c x = false → N μ) → dg (.one (.d (g x))) (wipeR ρ vs) μ fun ρ3 μ3 => dt ρ3 μ3 fun b μ4 => if b = true then de ρ3 μ4 Q else N μ4) (q : P (.d (.list ((xs.filter c).map h))) μ) :
    ∃ Pv : Nat → List A → Mu → Prop, Pv 0 [] μ ∧
      (∀ (i : Nat) y acc μ2, ys[i]? = some y → Pv i acc μ2 → ok μ2 ∧ dg y (wipeR ρ vs) μ2 fun ρ3 μ3 => dt ρ3 μ3 fun b μ4 => if b = true then de ρ3 μ4 fun z μ5 => acc.length < sizeLine ∧ Pv (i + 1) (acc ++ [z]) μ5 else Pv (i + 1) acc μ4) ∧
        ∀ acc μ2, Pv ys.length acc μ2 → ok μ2 ∧ lcEnd P acc μ2 := by
  subst hy
  refine ⟨fun i acc μ2 => acc = (((xs.take i).filter c).map h).map A.d ∧ μ2 = μ, ⟨by rw [List.take_zero]; rfl, rfl⟩, ?_, ?_⟩
  · rintro i y acc μ2 hi ⟨rfl, rfl⟩
    obtain ⟨x, hx, rfl⟩ := ones_get hi
    refine ⟨hok, hs x (List.mem_of_getElem? hx) _ _ (fun e => ?_) (fun e => ?_)⟩
    · have lt := (List.getElem?_eq_some_iff.mp hx).1
      refine ⟨?_, ?_, rfl⟩
      · rw [List.length_map, List.length_map]
        have := List.length_filter_le c (xs.take i)
        rw [List.length_take] at this
        omega
      · rw [List.take_add_one, hx, List.filter_append, List.map_append, List.map_append]
        show _ = _ ++ List.map A.d (List.map h (List.filter c [x]))
        rw [List.filter_cons, if_pos e]
        rfl
    · refine ⟨?_, rfl⟩
      rw [List.take_add_one, hx, List.filter_append]
      show _ = List.map A.d (List.map h (_ ++ List.filter c [x]))
      rw [List.filter_cons, if_neg (by rw [e]; exact Bool.false_ne_true)]
      rw [List.filter_nil, List.append_nil]
  · rintro acc μ2 ⟨rfl, rfl⟩
    refine ⟨hok, .inl ⟨_, rfl, ?_⟩⟩
    rw [List.length_map, List.take_length]
    exact q
theorem sc_map (xs : List α) (g : α → PyData) (h : α → Key) (hy : ys = ones xs g) (hok : ok μ) (hz : xs.length + 1 < scanBound)
    (hs : ∀ x ∈ xs, ∀ Q : DK, Q (kD (h x)) μ → dg (.one (.d (g x))) (wipeR ρ vs) μ fun ρ3 μ3 => de ρ3 μ3 Q) (q : P (.d (.int (ddk (xs.map h)).length)) μ) :
    ∃ Pv : Nat → List Key → Mu → Prop, Pv 0 [] μ ∧
      (∀ (i : Nat) y acc μ2, ys[i]? = some y → Pv i acc μ2 → ok μ2 ∧ dg y (wipeR ρ vs) μ2 fun ρ3 μ3 => dtYes ρ3 μ3 fun b μ4 => if b = true then de ρ3 μ4 fun z μ5 => ∃ k, z = kD k ∧ acc.length + 1 < scanBound ∧ Pv (i + 1) (acc ++ [k]) μ5 else Pv (i + 1) acc μ4) ∧
        ∀ acc μ2, Pv ys.length acc μ2 → ok μ2 ∧ skEnd P acc μ2 := by
  subst hy
  refine ⟨fun i acc μ2 => acc = (xs.take i).map h ∧ μ2 = μ, ⟨by rw [List.take_zero]; rfl, rfl⟩, ?_, ?_⟩
  · rintro i y acc μ2 hi ⟨rfl, rfl⟩
    obtain ⟨x, hx, rfl⟩ := ones_get hi
    refine ⟨hok, hs x (List.mem_of_getElem? hx) _ ?_⟩
    have lt := (List.getElem?_eq_some_iff.mp hx).1
    refine ⟨h x, rfl, ?_, ?_, rfl⟩
    · rw [List.length_map, List.length_take]
      omega
    · rw [List.take_add_one, hx, List.map_append]
      rfl
  · rintro acc μ2 ⟨rfl, rfl⟩
    rw [show (ones xs g).length = xs.length from List.length_map .., List.take_length]
    exact ⟨hok, by rw [List.length_map]; omega, q⟩
theorem dc_map (xs : List α) (g : α → PyData) (kf : α → Key) (vf : α → A) (hy : ys = ones xs g) (hok : ok μ) (hz : xs.length ≤ sizeLine) (nd : (xs.map kf).Nodup)
    (hs : ∀ x ∈ xs, ∀ Q : A → A → Mu → Prop, Q (kD (kf x)) (vf x) μ → dg (.one (.d (g x))) (wipeR ρ vs) μ fun ρ3 μ3 => dk ρ3 μ3 fun z μ5 => dv ρ3 μ5 fun u μ6 => Q z u μ6) (q : P (.c μ.length) (μ ++ [.dct (xs.map fun x => (kf x, vf x))])) :
    ∃ Pv : Nat → List (Key × A) → Mu → Prop, Pv 0 [] μ ∧
      (∀ (i : Nat) y acc μ2, ys[i]? = some y → Pv i acc μ2 → ok μ2 ∧ dg y (wipeR ρ vs) μ2 fun ρ3 μ3 => dtYes ρ3 μ3 fun b μ4 => if b = true then dk ρ3 μ4 fun z μ5 => dv ρ3 μ5 fun u μ6 => ∃ k, z = kD k ∧ acc.length < sizeLine ∧ Pv (i + 1) (putA acc k u) μ6 else Pv (i + 1) acc μ4) ∧
        ∀ acc μ2, Pv ys.length acc μ2 → ok μ2 ∧ dcEnd P acc μ2 := by
  subst hy
  refine ⟨fun i acc μ2 => acc = (xs.take i).map (fun x => (kf x, vf x)) ∧ μ2 = μ, ⟨by rw [List.take_zero]; rfl, rfl⟩, ?_, ?_⟩
  · rintro i y acc μ2 hi ⟨rfl, rfl⟩
    obtain ⟨x, hx, rfl⟩ := ones_get hi
    refine ⟨hok, hs x (List.mem_of_getElem? hx) _ ?_⟩
    have lt := (List.getElem?_eq_some_iff.mp hx).1
    refine ⟨kf x, rfl, ?_, ?_, rfl⟩
    · rw [List.length_map, List.length_take]
      omega
    · rw [List.take_add_one, hx, List.map_append]
      unfold putA
      rw [if_neg ?_]
      · rfl
      · intro z
        obtain ⟨p, hp, e⟩ := List.any_eq_true.mp z
        obtain ⟨x', hx', rfl⟩ := List.mem_map.mp hp
        have e' : kf x' = kf x := of_decide_eq_true e
        obtain ⟨j, hj⟩ := List.mem_iff_getElem?.mp hx'
        rw [List.getElem?_take] at hj
        split at hj
        · rename_i lj
          have a1 : (xs.map kf)[j]? = some (kf x) := by rw [List.getElem?_map, hj]; exact congrArg some e'
          have a2 : (xs.map kf)[i]? = some (kf x) := by rw [List.getElem?_map, hx]; rfl
          have := nd_ix nd a1 a2
          omega
        · cases hj
  · rintro acc μ2 ⟨rfl, rfl⟩
    rw [List.length_map, List.take_length]
    exact ⟨hok, q⟩
end
theorem all_true {α : Type} (xs : List α) : ((xs.map fun _ => true).all id) = true := by
  induction xs with
  | nil => rfl
  | cons x xs ih => rw [List.map_cons, List.all_cons, ih]; rfl

theorem all_of {α : Type} {xs : List α} {c : α → Bool} {μ : Mu} {P : DK} (q : P (.d (.bool (xs.all c))) μ) : rdAll [.d (.list (xs.map fun x => PyData.bool (c x)))] μ P := by
  refine ⟨_, xs.map c, rfl, ?_, ?_⟩
  · show List.map A.d _ = List.map A.d _
    rw [List.map_map, List.map_map, List.map_map]
    rfl
  · rw [List.all_map]
    exact q
theorem any_of {α : Type} {xs : List α} {c : α → Bool} {μ : Mu} {P : DK} (q : P (.d (.bool (xs.any c))) μ) : rdAny [.d (.list (xs.map fun x => PyData.bool (c x)))] μ P := by
  refine ⟨_, xs.map c, rfl, ?_, ?_⟩
  · show List.map A.d _ = List.map A.d _
    rw [List.map_map, List.map_map, List.map_map]
    rfl
  · rw [List.any_map]
    exact q
theorem strs_flat (ps : List Str) : (ps.map PyData.str).all flatD = true := by
  rw [List.all_map]
  exact List.all_eq_true.mpr fun _ _ => rfl
theorem any_mem (ps : List Str) (s : Str) : (ps.map PyData.str).any (fun e => eqF e (.str s)) = decide (s ∈ ps) := by
  rw [List.any_map]
  by_cases h : s ∈ ps
  · rw [decide_eq_true h]
    exact List.any_eq_true.mpr ⟨s, h, decide_eq_true rfl⟩
  · rw [decide_eq_false h]
    refine Bool.eq_false_iff.mpr fun z => ?_
    obtain ⟨x, hx, e⟩ := List.any_eq_true.mp z
    have : x = s := of_decide_eq_true e
    exact h (this ▸ hx)
theorem in_strs {neg : Bool} {s : Str} {ps : List Str} {μ : Mu} {P : DK} (q : P (.d (.bool (neg ^^ decide (s ∈ ps)))) μ) : rdInU neg (.d (.str s)) (.d (.tuple (ps.map .str))) μ P := by
  refine ⟨_, .inr (.inl rfl), rfl, strs_flat ps, ?_⟩
  rw [any_mem]
  exact q
theorem in_lst {neg : Bool} {s : Str} {ps : List Str} {μ : Mu} {P : DK} (q : P (.d (.bool (neg ^^ decide (s ∈ ps)))) μ) : rdInU neg (.d (.str s)) (.d (.list (ps.map .str))) μ P := by
  refine ⟨_, .inl rfl, rfl, strs_flat ps, ?_⟩
  rw [any_mem]
  exact q
theorem tgt2 {i j : Nat} {a b : PyData} {ρ : Rho} {μ : Mu} {P : RM} (q : P ((ρ.set i (some (.d a))).set j (some (.d b))) μ) : dgTup 2 (dgCons (dgName i) (dgCons (dgName j) dgNil)) (.one (.d (.tuple [a, b]))) ρ μ P :=
  ⟨_, rfl, rfl, _, _, rfl, _, rfl, _, _, rfl, _, rfl, rfl, q⟩
theorem tgt3 {i j l : Nat} {a b c : PyData} {ρ : Rho} {μ : Mu} {P : RM} (q : P (((ρ.set i (some (.d a))).set j (some (.d b))).set l (some (.d c))) μ) : dgTup 3 (dgCons (dgName i) (dgCons (dgName j) (dgCons (dgName l) dgNil))) (.one (.d (.tuple [a, b, c]))) ρ μ P :=
  ⟨_, rfl, rfl, _, _, rfl, _, rfl, _, _, rfl, _, rfl, _, _, rfl, _, rfl, rfl, q⟩
theorem ix_tup {ds : List PyData} {j : Nat} {z : PyData} {μ : Mu} {P : DK} (e : ds[j]? = some z) (q : P (.d z) μ) : rdIx (.d (.tuple ds)) (.d (.int (j : Nat))) μ P :=
  ix_of (zs := ds.map A.d) (.inr ⟨_, rfl, rfl⟩) (by rw [List.getElem?_map, e]; rfl) q
theorem keys_nd {l : List Str} (h : l.Nodup) : (l.map (Sum.inr : Str → Key)).Nodup := List.Pairwise.map _ (fun _ _ ne e => ne (Sum.inr.inj e)) h
theorem decI {c : Prop} [Decidable c] (h : c) : (false ^^ decide c) = true := by rw [Bool.false_xor]; exact decide_eq_true h
theorem fin_n {Pk : DK} (q : Pk (.d .none) []) : RetD 0 Pk (.d .none) [] := ret_data0 rfl (fun i o e => by simp at e) q
theorem nT {b : Bool} {p q : Prop} (h : b = true) (x : q) : if (!b) = true then p else q := by
  subst h
  exact x
theorem nd_len {α : Type} [DecidableEq α] : ∀ (r l : List α), r.Nodup → (∀ x ∈ r, x ∈ l) → r.length ≤ l.length
  | [], _, _, _ => Nat.zero_le _
  | a :: r, l, nd, sub => by
    have ha := sub a (List.mem_cons_self ..)
    have h := nd_len r (l.erase a) (List.nodup_cons.mp nd).2 fun x hx => by
      have ne : x ≠ a := fun e => (List.nodup_cons.mp nd).1 (e ▸ hx)
      exact (List.mem_erase_of_ne ne).mpr (sub x (List.mem_cons_of_mem _ hx))
    rw [List.length_erase_of_mem ha] at h
    have : 0 < l.length := List.length_pos_of_mem ha
    rw [List.length_cons]
    omega
theorem nd_le {rs : List Road} {r : List Str} (ok : RoundOk rs r) : r.length ≤ rs.length := by
  have := nd_len r _ ok.nd ok.sub
  rw [List.length_map] at this
  exact this
theorem ix_tupI {ds : List PyData} {i : Int} {z : PyData} {μ : Mu} {P : DK} (h0 : 0 ≤ i) (e : ds[i.toNat]? = some z) (q : P (.d z) μ) : rdIx (.d (.tuple ds)) (.d (.int i)) μ P := by
  have := ix_tup (j := i.toNat) e q
  rwa [Int.toNat_of_nonneg h0] at this
theorem ix_lstI {ds : List PyData} {i : Int} {z : PyData} {μ : Mu} {P : DK} (h0 : 0 ≤ i) (e : ds[i.toNat]? = some z) (q : P (.d z) μ) : rdIx (.d (.list ds)) (.d (.int i)) μ P := by
  have := ix_of (zs := ds.map A.d) (y := .d (.list ds)) (j := i.toNat) (P := P) (μ := μ) (x := .d z) (.inl rfl) (by rw [List.getElem?_map, e]; rfl) q
  rwa [Int.toNat_of_nonneg h0] at this
theorem round_ix {wk : List (List Str)} {day : Int} (hw : 1 ≤ wk.length) : 0 ≤ (day - 1) % (wk.length : Int) ∧ (wk.map roundD)[((day - 1) % (wk.length : Int)).toNat]? = some (roundD (roundAt wk day)) := by
  have h0 : (0 : Int) < wk.length := by omega
  have a0 := Int.emod_nonneg (day - 1) (Int.ne_of_gt h0)
  have a1 := Int.emod_lt_of_pos (day - 1) h0
  refine ⟨a0, ?_⟩
  have lt : ((day - 1) % (wk.length : Int)).toNat < wk.length := by omega
  rw [List.getElem?_map]
  unfold roundAt
  rw [List.getD_eq_getElem?_getD, List.getElem?_eq_getElem lt]
  rfl
/-! ### the walks, walk by walk -/
abbrev Got := List (Str × Mom)
abbrev ks (st : Got) : List Str := st.map fun q => q.1
def endsOf (rs : List Road) (n : Str) : Str × Str := ((rs.find? fun r => decide (r.1 = n)).map fun r => r.2).getD ("", "")
/-- one walk: the index k of a day -/
def stepW (rs : List Road) (day : Int) (k : Nat) (n : Str) (st : Got) : Got :=
  if decide ((endsOf rs n).1 ∈ ks st) != decide ((endsOf rs n).2 ∈ ks st) then st ++ [((if (endsOf rs n).1 ∈ ks st then (endsOf rs n).2 else (endsOf rs n).1), (day, (k : Int) + 1))] else st
/-- the walks of the names from the index k on -/
def walkF (rs : List Road) (day : Int) : Nat → List Str → Got → Got
  | _, [], st => st
  | k, n :: ns, st => walkF rs day (k + 1) ns (stepW rs day k n st)
def S (rs : List Road) (wk : List (List Str)) (p : Str) (m : Mom) : Nat → Got
  | 0 => [(p, m)]
  | n + 1 => walkF rs (m.1 + n) (if n = 0 then m.2.toNat else 0) ((roundAt wk (m.1 + n)).drop (if n = 0 then m.2.toNat else 0)) (S rs wk p m n)
def Final (rs : List Road) (wk : List (List Str)) (p : Str) (m : Mom) (st : Got) : Prop := ∃ N, st = S rs wk p m N ∧ ∀ M, N ≤ M → S rs wk p m M = S rs wk p m N
theorem Final.one {rs : List Road} {wk : List (List Str)} {p : Str} {m : Mom} {st st' : Got} (h : Final rs wk p m st) (h' : Final rs wk p m st') : st = st' := by
  obtain ⟨N, rfl, a⟩ := h
  obtain ⟨N', rfl, b⟩ := h'
  rcases Nat.le_total N N' with c | c
  · exact (a _ c).symm
  · exact b _ c
theorem stepW_app (rs : List Road) (day : Int) (k : Nat) (n : Str) (st : Got) : ∃ t, stepW rs day k n st = st ++ t := by
  unfold stepW
  split
  · exact ⟨_, rfl⟩
  · exact ⟨[], (List.append_nil _).symm⟩
theorem walkF_app (rs : List Road) (day : Int) : ∀ (ns : List Str) (k : Nat) (st : Got), ∃ t, walkF rs day k ns st = st ++ t
  | [], _, st => ⟨[], (List.append_nil _).symm⟩
  | n :: ns, k, st => by
    obtain ⟨t, e⟩ := stepW_app rs day k n st
    obtain ⟨u, e2⟩ := walkF_app rs day ns (k + 1) (stepW rs day k n st)
    refine ⟨t ++ u, ?_⟩
    show walkF rs day (k + 1) ns _ = _
    rw [e2, e, List.append_assoc]
theorem walkF_take (rs : List Road) (day : Int) : ∀ (ns : List Str) (k j : Nat) (st : Got), walkF rs day k ns st = walkF rs day (k + (ns.take j).length) (ns.drop j) (walkF rs day k (ns.take j) st)
  | [], k, j, st => by rw [List.take_nil, List.drop_nil]; rfl
  | n :: ns, k, 0, st => by rw [List.take_zero, List.drop_zero]; rfl
  | n :: ns, k, j + 1, st => by
    rw [List.take_succ_cons, List.drop_succ_cons]
    show walkF rs day (k + 1) ns (stepW rs day k n st) = _
    rw [walkF_take rs day ns (k + 1) j]
    show _ = walkF rs day (k + ((ns.take j).length + 1)) (ns.drop j) (walkF rs day (k + 1) (ns.take j) (stepW rs day k n st))
    congr 1
    omega
theorem walkF_snoc (rs : List Road) (day : Int) (ns : List Str) (k : Nat) (n : Str) (st : Got) : walkF rs day k (ns ++ [n]) st = stepW rs day (k + ns.length) n (walkF rs day k ns st) := by
  rw [walkF_take rs day (ns ++ [n]) k ns.length st, List.take_left' rfl, List.drop_left' rfl]
  rfl
section
variable {rs : List Road} {wk : List (List Str)} {p : Str} {m : Mom}
theorem S_app (n : Nat) : ∃ t, S rs wk p m (n + 1) = S rs wk p m n ++ t := walkF_app ..
theorem S_le : ∀ (j n : Nat), ∃ t, S rs wk p m (n + j) = S rs wk p m n ++ t
  | 0, n => ⟨[], (List.append_nil _).symm⟩
  | j + 1, n => by
    obtain ⟨t, e⟩ := S_le j n
    obtain ⟨u, e2⟩ := S_app (rs := rs) (wk := wk) (p := p) (m := m) (n + j)
    exact ⟨t ++ u, by rw [← Nat.add_assoc, e2, e, List.append_assoc]⟩
theorem S_between {n i j : Nat} (h : S rs wk p m (n + (i + j)) = S rs wk p m n) : S rs wk p m (n + i) = S rs wk p m n := by
  obtain ⟨t, e⟩ := S_le (rs := rs) (wk := wk) (p := p) (m := m) i n
  obtain ⟨u, e2⟩ := S_le (rs := rs) (wk := wk) (p := p) (m := m) j (n + i)
  rw [← Nat.add_assoc, e2, e, List.append_assoc] at h
  have h2 : t ++ u = [] := List.append_cancel_left (h.trans (List.append_nil _).symm)
  rw [e, (List.append_eq_nil_iff.mp h2).1, List.append_nil]
/-- nothing is new by these names -/
def Quiet (rs : List Road) (st : Got) (ns : List Str) : Prop := ∀ n ∈ ns, ((endsOf rs n).1 ∈ ks st ↔ (endsOf rs n).2 ∈ ks st)
theorem stepW_quiet {day : Int} {k : Nat} {n : Str} {st : Got} (h : (endsOf rs n).1 ∈ ks st ↔ (endsOf rs n).2 ∈ ks st) : stepW rs day k n st = st := by
  unfold stepW
  rw [if_neg]
  intro z
  have e : decide ((endsOf rs n).1 ∈ ks st) = decide ((endsOf rs n).2 ∈ ks st) := by
    by_cases x : (endsOf rs n).1 ∈ ks st
    · rw [decide_eq_true x, decide_eq_true (h.mp x)]
    · rw [decide_eq_false x, decide_eq_false fun y => x (h.mpr y)]
  rw [e, bne_self_eq_false] at z
  cases z
theorem walkF_quiet {day : Int} {st : Got} : ∀ (ns : List Str) (k : Nat), Quiet rs st ns → walkF rs day k ns st = st
  | [], _, _ => rfl
  | n :: ns, k, h => by
    show walkF rs day (k + 1) ns _ = st
    rw [stepW_quiet (h n (List.mem_cons_self ..))]
    exact walkF_quiet ns (k + 1) fun x hx => h x (List.mem_cons_of_mem _ hx)
theorem quiet_walkF {day : Int} {st : Got} : ∀ (ns : List Str) (k : Nat), walkF rs day k ns st = st → Quiet rs st ns
  | [], _, _ => fun x hx => by cases hx
  | n :: ns, k, h => by
    have h' : walkF rs day (k + 1) ns (stepW rs day k n st) = st := h
    obtain ⟨t, e⟩ := stepW_app rs day k n st
    obtain ⟨u, e2⟩ := walkF_app rs day ns (k + 1) (stepW rs day k n st)
    rw [e2, e, List.append_assoc] at h'
    have h2 : t ++ u = [] := List.append_cancel_left (h'.trans (List.append_nil _).symm)
    have ht := (List.append_eq_nil_iff.mp h2).1
    have e3 : stepW rs day k n st = st := by rw [e, ht, List.append_nil]
    have q := quiet_walkF ns (k + 1) (by
      have h3 : walkF rs day (k + 1) ns (stepW rs day k n st) = st := h
      rw [e3] at h3
      exact h3)
    intro x hx
    rcases List.mem_cons.mp hx with rfl | hx
    · unfold stepW at e3
      split at e3
      · have := congrArg List.length e3
        rw [List.length_append] at this
        simp at this
      · rename_i c
        rw [bne_iff_ne, ne_eq, Decidable.not_not] at c
        exact decide_eq_decide.mp c
    · exact q x hx
theorem round_cover {a : Int} {i L : Nat} (hi : i < L) : ∃ j : Nat, j < L ∧ (a + (j : Int)) % (L : Int) = (i : Int) := by
  have h0 : (0 : Int) < L := by omega
  have a0 := Int.emod_nonneg ((i : Int) - a) (Int.ne_of_gt h0)
  have a1 := Int.emod_lt_of_pos ((i : Int) - a) h0
  refine ⟨(((i : Int) - a) % L).toNat, by omega, ?_⟩
  rw [Int.toNat_of_nonneg a0, Int.add_emod, Int.emod_emod_of_dvd _ (Int.dvd_refl _), ← Int.add_emod]
  rw [show a + ((i : Int) - a) = i by omega]
  exact Int.emod_eq_of_lt (by omega) (by omega)
theorem roundAt_mem (hL : 1 ≤ wk.length) (day : Int) : ∃ i, i < wk.length ∧ roundAt wk day = wk.getD i [] ∧ (day - 1) % (wk.length : Int) = (i : Int) := by
  have h0 : (0 : Int) < wk.length := by omega
  have a0 := Int.emod_nonneg (day - 1) (Int.ne_of_gt h0)
  have a1 := Int.emod_lt_of_pos (day - 1) h0
  exact ⟨((day - 1) % (wk.length : Int)).toNat, by omega, rfl, (Int.toNat_of_nonneg a0).symm⟩
theorem quiet_all (hL : 1 ≤ wk.length) {n : Nat} (h : S rs wk p m (n + (wk.length + 1)) = S rs wk p m n) : ∀ day, Quiet rs (S rs wk p m n) (roundAt wk day) := fun day => by
  obtain ⟨i, hi, e, _⟩ := roundAt_mem hL day
  obtain ⟨j, hj, ej⟩ := round_cover (a := m.1 + n) hi
  -- the day with this round among the still ones
  have q1 : S rs wk p m (n + (j + 1)) = S rs wk p m n := S_between (i := j + 1) (j := wk.length - j) (by rw [← h]; congr 1; omega)
  have q2 : S rs wk p m (n + (j + 2)) = S rs wk p m n := S_between (i := j + 2) (j := wk.length - j - 1) (by rw [← h]; congr 1; omega)
  have q3 : S rs wk p m (n + (j + 1) + 1) = S rs wk p m n := q2
  have q4 : walkF rs (m.1 + ((n + (j + 1) : Nat) : Int)) 0 (roundAt wk (m.1 + ((n + (j + 1) : Nat) : Int))) (S rs wk p m n) = S rs wk p m n := by
    have z : S rs wk p m (n + (j + 1) + 1) = walkF rs (m.1 + ((n + (j + 1) : Nat) : Int)) (if n + (j + 1) = 0 then m.2.toNat else 0) ((roundAt wk (m.1 + ((n + (j + 1) : Nat) : Int))).drop (if n + (j + 1) = 0 then m.2.toNat else 0)) (S rs wk p m (n + (j + 1))) := rfl
    rw [if_neg (by omega), List.drop_zero, q1] at z
    exact z.symm.trans q3
  have q5 := quiet_walkF _ _ q4
  have e2 : roundAt wk (m.1 + ((n + (j + 1) : Nat) : Int)) = wk.getD i [] := by
    unfold roundAt
    rw [show m.1 + ((n + (j + 1) : Nat) : Int) - 1 = m.1 + n + (j : Int) by omega, ej]
    rfl
  rw [e, ← e2]
  exact q5
theorem stable_quiet {n : Nat} (q : ∀ day, Quiet rs (S rs wk p m n) (roundAt wk day)) : ∀ j, S rs wk p m (n + j) = S rs wk p m n
  | 0 => rfl
  | j + 1 => by
    show walkF rs _ _ (List.drop _ _) (S rs wk p m (n + j)) = _
    rw [stable_quiet q j]
    exact walkF_quiet _ _ fun x hx => q _ x (List.mem_of_mem_drop hx)
theorem stable_of (hL : 1 ≤ wk.length) {n : Nat} (h : S rs wk p m (n + (wk.length + 1)) = S rs wk p m n) : ∀ M, n ≤ M → S rs wk p m M = S rs wk p m n := fun M hM => by
  have := stable_quiet (quiet_all hL h) (M - n)
  rwa [show n + (M - n) = M by omega] at this
/-- what the news can come to -/
inductive Reach (rs : List Road) (p : Str) : Str → Prop
  | refl : Reach rs p p
  | go {a b : Str} {r : Road} : Reach rs p a → r ∈ rs → ((r.2.1 = a ∧ r.2.2 = b) ∨ (r.2.2 = a ∧ r.2.1 = b)) → Reach rs p b
/-- the roads that are walked -/
def walked (rs : List Road) (wk : List (List Str)) : List Road := rs.filter fun r => wk.any fun n => decide (r.1 ∈ n)
theorem endsOf_mem {r : Road} (nd : (rnm rs).Nodup) (h : r ∈ rs) : endsOf rs r.1 = r.2 := by
  unfold endsOf
  have f : ∀ (l : List Road), (rnm l).Nodup → r ∈ l → l.find? (fun x => decide (x.1 = r.1)) = some r := fun l => by
    induction l with
    | nil => intro _ z; cases z
    | cons x l ih =>
      intro nd z
      have nd' := List.nodup_cons.mp nd
      rw [List.find?_cons]
      by_cases e : x.1 = r.1
      · rw [decide_eq_true e]
        rcases List.mem_cons.mp z with rfl | z
        · rfl
        · exact absurd (show x.1 ∈ rnm l by rw [e]; exact List.mem_map.mpr ⟨r, z, rfl⟩) nd'.1
      · rw [decide_eq_false e]
        rcases List.mem_cons.mp z with rfl | z
        · exact absurd rfl e
        · exact ih nd'.2 z
  rw [f rs nd h]
  rfl
theorem ks_app (st t : Got) : ks (st ++ t) = ks st ++ ks t := List.map_append ..
/-- what holds of each state -/
structure Inv0 (rs : List Road) (wk : List (List Str)) (p : Str) (st : Got) : Prop where
  nd : (ks st).Nodup
  re : ∀ q ∈ ks st, Reach (walked rs wk) p q
  hd : p ∈ ks st
theorem stepW_inv {day : Int} {k : Nat} {n : Str} {st : Got} (nd : (rnm rs).Nodup) (hn : ∃ r ∈ walked rs wk, r.1 = n) (h : Inv0 rs wk p st) : Inv0 rs wk p (stepW rs day k n st) := by
  obtain ⟨r, hr, rfl⟩ := hn
  have hr0 : r ∈ rs := (List.mem_filter.mp hr).1
  unfold stepW
  rw [endsOf_mem nd hr0]
  split
  · rename_i c
    rw [bne_iff_ne, ne_eq] at c
    by_cases a : r.2.1 ∈ ks st
    · have b : r.2.2 ∉ ks st := fun b => c (by rw [decide_eq_true a, decide_eq_true b])
      rw [if_pos a]
      refine ⟨?_, fun q hq => ?_, ?_⟩
      · rw [ks_app]
        exact List.nodup_append.mpr ⟨h.nd, List.nodup_cons.mpr ⟨(fun z => by cases z), List.nodup_nil⟩, fun x hx y hy e => b (by have e2 : x = r.2.2 := e.trans (List.mem_singleton.mp hy); exact e2 ▸ hx)⟩
      · rw [ks_app] at hq
        rcases List.mem_append.mp hq with z | z
        · exact h.re q z
        · rw [List.mem_singleton.mp z]
          exact .go (h.re _ a) hr (.inl ⟨rfl, rfl⟩)
      · rw [ks_app]
        exact List.mem_append.mpr (.inl h.hd)
    · have b : r.2.2 ∈ ks st := by
        by_cases b : r.2.2 ∈ ks st
        · exact b
        · exact absurd (by rw [decide_eq_false a, decide_eq_false b]) c
      rw [if_neg a]
      refine ⟨?_, fun q hq => ?_, ?_⟩
      · rw [ks_app]
        exact List.nodup_append.mpr ⟨h.nd, List.nodup_cons.mpr ⟨(fun z => by cases z), List.nodup_nil⟩, fun x hx y hy e => a (by have e2 : x = r.2.1 := e.trans (List.mem_singleton.mp hy); exact e2 ▸ hx)⟩
      · rw [ks_app] at hq
        rcases List.mem_append.mp hq with z | z
        · exact h.re q z
        · rw [List.mem_singleton.mp z]
          exact .go (h.re _ b) hr (.inr ⟨rfl, rfl⟩)
      · rw [ks_app]
        exact List.mem_append.mpr (.inl h.hd)
  · exact h
theorem walkF_inv {day : Int} (nd : (rnm rs).Nodup) : ∀ (ns : List Str) (k : Nat) (st : Got), (∀ n ∈ ns, ∃ r ∈ walked rs wk, r.1 = n) → Inv0 rs wk p st → Inv0 rs wk p (walkF rs day k ns st)
  | [], _, _, _, h => h
  | n :: ns, k, st, hn, h => walkF_inv nd ns (k + 1) _ (fun x hx => hn x (List.mem_cons_of_mem _ hx)) (stepW_inv nd (hn n (List.mem_cons_self ..)) h)
theorem round_walked (hw : WeekOk rs wk) (day : Int) : ∀ n ∈ roundAt wk day, ∃ r ∈ walked rs wk, r.1 = n := fun n hn => by
  obtain ⟨i, hi, e, _⟩ := roundAt_mem hw.one day
  rw [e, List.getD_eq_getElem?_getD, List.getElem?_eq_getElem hi] at hn
  have hm : wk[i] ∈ wk := List.getElem_mem hi
  obtain ⟨r, hr, rfl⟩ := List.mem_map.mp ((hw.rd _ hm).sub n hn)
  exact ⟨r, List.mem_filter.mpr ⟨hr, List.any_eq_true.mpr ⟨_, hm, decide_eq_true hn⟩⟩, rfl⟩
theorem S_inv (nd : (rnm rs).Nodup) (hw : WeekOk rs wk) : ∀ n, Inv0 rs wk p (S rs wk p m n)
  | 0 => ⟨List.nodup_cons.mpr ⟨(fun z => by cases z), List.nodup_nil⟩, fun q hq => by rw [List.mem_singleton.mp hq]; exact .refl, List.mem_singleton.mpr rfl⟩
  | n + 1 => walkF_inv nd _ _ _ (fun x hx => round_walked hw _ x (List.mem_of_mem_drop hx)) (S_inv nd hw n)
theorem reach_ps {ps : List Str} (ok : RoadsOk ps rs) (hp : p ∈ ps) {q : Str} (h : Reach (walked rs wk) p q) : q ∈ ps := by
  induction h with
  | refl => exact hp
  | go _ hr hc _ =>
    have hr0 := (List.mem_filter.mp hr).1
    rcases hc with ⟨_, rfl⟩ | ⟨_, rfl⟩
    · exact ok.b _ hr0
    · exact ok.a _ hr0
theorem S_len {ps : List Str} (ok : RoadsOk ps rs) (hw : WeekOk rs wk) (hp : p ∈ ps) (n : Nat) : (S rs wk p m n).length ≤ ps.length := by
  have i := S_inv (p := p) (m := m) ok.nd hw n
  have := nd_len _ ps i.nd fun q hq => reach_ps ok hp (i.re q hq)
  rwa [List.length_map] at this
/-- when all is quiet, all is reached -/
theorem quiet_full (nd : (rnm rs).Nodup) (hw : WeekOk rs wk) {st : Got} (i : Inv0 rs wk p st) (q : ∀ day, Quiet rs st (roundAt wk day)) {x : Str} (h : Reach (walked rs wk) p x) : x ∈ ks st := by
  induction h with
  | refl => exact i.hd
  | @go a b r _ hr hc ih =>
    have hr0 := (List.mem_filter.mp hr).1
    obtain ⟨n, hn, hd⟩ := List.any_eq_true.mp (List.mem_filter.mp hr).2
    obtain ⟨j, hj, e⟩ := List.mem_iff_getElem.mp hn
    have hL := hw.one
    have qq := q ((j : Int) + 1)
    have e2 : roundAt wk ((j : Int) + 1) = n := by
      unfold roundAt
      rw [show (j : Int) + 1 - 1 = j by omega, Int.emod_eq_of_lt (by omega) (by omega), Int.toNat_natCast, List.getD_eq_getElem?_getD, List.getElem?_eq_getElem hj]
      exact e
    rw [e2] at qq
    have := qq r.1 (of_decide_eq_true hd)
    rw [endsOf_mem nd hr0] at this
    rcases hc with ⟨rfl, rfl⟩ | ⟨rfl, rfl⟩
    · exact this.mp ih
    · exact this.mpr ih
/-- from some day on nothing is new -/
theorem stable_ex {ps : List Str} (ok : RoadsOk ps rs) (hw : WeekOk rs wk) (hp : p ∈ ps) : ∀ (c n : Nat), ps.length ≤ (S rs wk p m n).length + c → ∃ N, N ≤ n + c * (wk.length + 1) ∧ S rs wk p m (N + (wk.length + 1)) = S rs wk p m N
  | c, n, h => by
    by_cases e : S rs wk p m (n + (wk.length + 1)) = S rs wk p m n
    · exact ⟨n, Nat.le_add_right .., e⟩
    · obtain ⟨t, et⟩ := S_le (rs := rs) (wk := wk) (p := p) (m := m) (wk.length + 1) n
      have hl := S_len (m := m) ok hw hp (n + (wk.length + 1))
      have ht : 0 < t.length := by
        cases t with
        | nil => rw [List.append_nil] at et; exact absurd et e
        | cons x t => exact Nat.succ_pos _
      rw [et, List.length_append] at hl
      cases c with
      | zero => omega
      | succ c =>
        obtain ⟨N, h1, h2⟩ := stable_ex ok hw hp c (n + (wk.length + 1)) (by rw [et, List.length_append]; omega)
        exact ⟨N, by rw [Nat.succ_mul]; omega, h2⟩
theorem final_ex {ps : List Str} (ok : WebOk ps rs) (hw : WeekOk rs wk) (hp : p ∈ ps) : ∃ N, N ≤ 50 ∧ (∀ M, N ≤ M → S rs wk p m M = S rs wk p m N) ∧ ∀ q, q ∈ ks (S rs wk p m N) ↔ Reach (walked rs wk) p q := by
  obtain ⟨N, h1, h2⟩ := stable_ex (m := m) ok.r hw hp ps.length 0 (Nat.le_add_left ..)
  have a := ok.p.most
  have b := hw.most
  have : ps.length * (wk.length + 1) ≤ 10 * 5 := Nat.mul_le_mul a (by omega)
  exact ⟨N, by omega, stable_of hw.one h2, fun q => ⟨(S_inv ok.r.nd hw N).re q, quiet_full ok.r.nd hw (S_inv ok.r.nd hw N) (quiet_all hw.one h2)⟩⟩
/-- as many as can be reached: nothing more comes -/
theorem final_of_len {ps : List Str} (ok : WebOk ps rs) (hw : WeekOk rs wk) (hp : p ∈ ps) {n : Nat} {ss : List Str} (nd : ss.Nodup) (hs : ∀ q, q ∈ ss ↔ Reach (walked rs wk) p q) (h : ss.length ≤ (S rs wk p m n).length) : Final rs wk p m (S rs wk p m n) := by
  refine ⟨n, rfl, fun M hM => ?_⟩
  obtain ⟨t, et⟩ := S_le (rs := rs) (wk := wk) (p := p) (m := m) (M - n) n
  rw [show n + (M - n) = M by omega] at et
  have i := S_inv (p := p) (m := m) ok.r.nd hw M
  have := nd_len _ ss i.nd fun q hq => (hs q).mpr (i.re q hq)
  rw [List.length_map, et, List.length_append] at this
  have : t = [] := List.eq_nil_of_length_eq_zero (by omega)
  rw [et, this, List.append_nil]
end
/-- a def of data gives back one new cell -/
theorem keep0 {P : DK} {l : Mu} {j : Nat} {o : O} (e : l[j]? = some o) (ho : oldO 0 o) (h : P (.c 0) [o]) : RetD 0 P (.c j) l := by
  refine ⟨some j, .c 0, [o], .inr (.inr (.inl ⟨_, rfl, rfl, rfl⟩)), ⟨fun i z => ?_, rfl, fun i u lt => absurd lt (Nat.not_lt_zero _), fun i u z z2 => ?_⟩, h⟩
  · obtain rfl := Option.some.inj z
    exact ⟨Nat.zero_le _, (List.getElem?_eq_some_iff.mp e).1⟩
  · obtain rfl := Option.some.inj z
    obtain rfl : o = u := Option.some.inj z2
    exact ⟨_, e, rfyO_old ho⟩
theorem data0 {P : DK} {l : Mu} {d : PyData} (h : P (.d d) []) : RetD 0 P (.d d) l := by
  have := ret_data (m := 0) (μ1 := []) l rfl (fun i o e => by simp at e) h
  exact this
theorem frz0 {P : DK} {l : Mu} {j : Nat} {ds : List PyData} (e : l[j]? = some (.lst (ds.map A.d))) (h : P (.d (.list ds)) []) : RetD 0 P (.c j) l := by
  have := ret_frz (m := 0) (μ1 := []) (l := l) (j := j) rfl (fun i o e => by simp at e) e (.data ds) h
  rwa [Nat.zero_add] at this
/-- cells of a callee that are handed on: behind the own ones -/
theorem bkc {μ : Mu} {P : DK} {o : O} (ho : dO o) (h : P (.c μ.length) (μ ++ [o])) : (∀ u ∈ [o], dO u) ∧ P (upA [] μ.length (.c 0)) (μ ++ [o]) :=
  ⟨fun u hu => by rw [List.mem_singleton.mp hu]; exact ho, h⟩
theorem len2 {α : Type} {a b : α} : [a, b].length ≤ sizeLine := show 2 ≤ sizeLine from by decide
theorem len3 {α : Type} {a b c : α} : [a, b, c].length ≤ sizeLine := show 3 ≤ sizeLine from by decide
theorem one_o {o : O} (h : dO o) : ∀ u ∈ [o], dO u := fun u hu => by
  rw [List.mem_singleton.mp hu]
  exact h
theorem pick1 {μ : Mu} {n : Nat} {o : O} (h : μ[n]? = some o) (ho : dO o) : Pick [n] μ [o] where
  nd := List.nodup_cons.mpr ⟨(fun z => by cases z), List.nodup_nil⟩
  len := rfl
  at_ := fun j k e => by
    cases j with
    | zero =>
      obtain rfl : n = k := Option.some.inj e
      exact ⟨o, h, rfl, ho⟩
    | succ j => simp at e
theorem drop_get {α : Type} {xs : List α} {i : Nat} {x : α} (h : xs[i]? = some x) : xs.drop i = x :: xs.drop (i + 1) := by
  obtain ⟨lt, rfl⟩ := List.getElem?_eq_some_iff.mp h
  exact List.drop_eq_getElem_cons lt
theorem take_get {α : Type} {xs : List α} {i : Nat} {x : α} (h : xs[i]? = some x) : xs.take (i + 1) = xs.take i ++ [x] := by
  rw [List.take_add_one, h]
  rfl
theorem len1 {α : Type} {a : α} : [a].length ≤ sizeLine := show 1 ≤ sizeLine from by decide
theorem get_end {μ : Mu} {o : O} : (μ ++ [o])[μ.length]? = some o := by rw [List.getElem?_append_right (Nat.le_refl _), Nat.sub_self]; rfl
theorem get_ne {μ : Mu} {n k : Nat} {o u : O} (h : μ[n]? = some o) (ne : k ≠ n) : (μ.set k u)[n]? = some o := by rw [List.getElem?_set_ne ne]; exact h
theorem lc_mapL {α : Type} {ys : List Y} {ok : Mu → Prop} {μ : Mu} {ρ : Rho} {dg : DG} {de : DT} {vs : List Nat} {P : DK} (xs : List α) (g h : α → PyData) (hy : ys = ones xs g) (hok : ok μ) (hz : xs.length ≤ sizeLine)
    (hs : ∀ x ∈ xs, ∀ Q : DK, Q (.d (h x)) μ → dg (.one (.d (g x))) (wipeR ρ vs) μ fun ρ3 μ3 => de ρ3 μ3 Q) (q : lcEnd P ((xs.map h).map A.d) μ) :
    ∃ Pv : Nat → List A → Mu → Prop, Pv 0 [] μ ∧
      (∀ (i : Nat) y acc μ2, ys[i]? = some y → Pv i acc μ2 → ok μ2 ∧ dg y (wipeR ρ vs) μ2 fun ρ3 μ3 => dtYes ρ3 μ3 fun b μ4 => if b = true then de ρ3 μ4 fun z μ5 => acc.length < sizeLine ∧ Pv (i + 1) (acc ++ [z]) μ5 else Pv (i + 1) acc μ4) ∧
        ∀ acc μ2, Pv ys.length acc μ2 → ok μ2 ∧ lcEnd P acc μ2 := by
  subst hy
  refine ⟨fun i acc μ2 => acc = ((xs.take i).map h).map A.d ∧ μ2 = μ, ⟨by rw [List.take_zero]; rfl, rfl⟩, ?_, ?_⟩
  · rintro i y acc μ2 hi ⟨rfl, rfl⟩
    obtain ⟨x, hx, rfl⟩ := ones_get hi
    refine ⟨hok, hs x (List.mem_of_getElem? hx) _ ?_⟩
    have lt := (List.getElem?_eq_some_iff.mp hx).1
    refine ⟨?_, ?_, rfl⟩
    · rw [List.length_map, List.length_map, List.length_take]
      omega
    · rw [List.take_add_one, hx, List.map_append, List.map_append]
      rfl
  · rintro acc μ2 ⟨rfl, rfl⟩
    refine ⟨hok, ?_⟩
    rw [List.length_map, List.take_length]
    exact q
/-! ### promises -/
def endD (e : Str × Str) : PyData := .tuple [.str e.1, .str e.2]
def endsA (rs : List Road) : List (Key × A) := rs.map fun r => (.inr r.1, .d (endD r.2))
def stA (st : Got) : List (Key × A) := st.map fun q => (.inr q.1, .d (momD q.2))
def atR (p : Str) (r : Road) : List (Str × Str) := (if r.2.1 = p then [(r.1, r.2.2)] else []) ++ if r.2.2 = p then [(r.1, r.2.1)] else []
def roadsAt (rs : List Road) (p : Str) : List (Str × Str) := rs.flatMap (atR p)
def stepA (st : List (Str × Int)) : List (Key × A) := st.map fun q => (.inr q.1, .d (.int q.2))
def R_ends_of : DR := fun xs μ Pk _ => ∃ ps rs, xs = [.d (webD ps rs)] ∧ μ = [] ∧ (rs.length ≤ 14 ∧ (rnm rs).Nodup) ∧ Pk (.c 0) [.dct (endsA rs)]
def R_roads_at : DR := fun xs μ Pk _ => ∃ ps rs p, xs = [.d (webD ps rs), .d (.str p)] ∧ μ = [] ∧ rs.length ≤ 14 ∧ Pk (.d (.list ((roadsAt rs p).map endD))) []
def R_steps_from : DR := fun xs μ Pk _ => ∃ ps rs p, xs = [.d (webD ps rs), .d (.str p)] ∧ μ = [] ∧ rs.length ≤ 14 ∧ (ps.length ≤ 10 ∧ p ∈ ps ∧ (∀ r ∈ rs, r.2.1 ∈ ps) ∧ ∀ r ∈ rs, r.2.2 ∈ ps) ∧
  ∀ st : List (Str × Int), (st.map (·.1)).Nodup → (∀ q, q ∈ st.map (·.1) ↔ Reach rs p q) → Pk (.c 0) [.dct (stepA st)]
def R_walked_web : DR := fun xs μ Pk _ => ∃ ps rs wk, xs = [.d (webD ps rs), .d (weekD wk)] ∧ μ = [] ∧ rs.length ≤ 14 ∧ wk.length ≤ 4 ∧ Pk (.d (webD ps (walked rs wk))) []
def R_reached : DR := fun xs μ Pk _ => ∃ ps rs wk p, xs = [.d (webD ps rs), .d (weekD wk), .d (.str p)] ∧ μ = [] ∧ WebOk ps rs ∧ wk.length ≤ 4 ∧ p ∈ ps ∧
  ∀ ss : List Str, ss.Nodup → (∀ q, q ∈ ss ↔ Reach (walked rs wk) p q) → Pk (.d (.list (ss.map .str))) []
def R_spread : DR := fun xs μ Pk _ => ∃ ps rs wk p m, xs = [.d (webD ps rs), .d (weekD wk), .d (.str p), .d (momD m), .d (.tuple [])] ∧ μ = [] ∧ WebOk ps rs ∧ WeekOk rs wk ∧ p ∈ ps ∧ MomS wk m ∧
  ∀ N, N ≤ 50 → Final rs wk p m (S rs wk p m N) → Pk (.c 0) [.dct (stA (S rs wk p m N))]
def RC_spread : DR := fun xs μ Pk Ex => xs.length = 4 ∧ R_spread (xs ++ [.d (.tuple [])]) μ Pk Ex
def gotD (st : Got) (q : Str) : PyData := match st.find? fun x => decide (x.1 = q) with
  | some x => momD x.2
  | none => .none
def dA (l : List (Str × PyData)) : List (Key × A) := l.map fun q => (.inr q.1, .d q.2)
def lookD (l : List (Str × PyData)) (q : Str) : PyData := ((l.find? fun x => decide (x.1 = q)).map fun x => x.2).getD .none
def R_listed : DR := fun xs μ Pk _ => ∃ ps rs l, xs = [.d (webD ps rs), .c 0] ∧ μ = [.dct (dA l)] ∧ ps.length ≤ 10 ∧ Pk (.c 1) [.dct (dA l), .lst ((ps.map (lookD l)).map A.d)]
def R_arrivals : DR := fun xs μ Pk _ => ∃ ps rs wk p m, xs = [.d (webD ps rs), .d (weekD wk), .d (.str p), .d (momD m)] ∧ μ = [] ∧ WebOk ps rs ∧ WeekOk rs wk ∧ p ∈ ps ∧ MomOk wk m ∧
  ∀ N, N ≤ 50 → Final rs wk p m (S rs wk p m N) → (Pk (.d (.list (ps.map (gotD (S rs wk p m N))))) [] ∨ Pk (.c 0) [.lst ((ps.map (gotD (S rs wk p m N))).map A.d)])
theorem atR_len (p : Str) (r : Road) : (atR p r).length ≤ 2 := by
  unfold atR
  rw [List.length_append]
  split <;> split <;> simp
theorem roadsAt_len (p : Str) : ∀ rs : List Road, (roadsAt rs p).length ≤ 2 * rs.length
  | [] => Nat.le_refl _
  | r :: rs => by
    have := atR_len p r
    have := roadsAt_len p rs
    unfold roadsAt at this ⊢
    rw [List.flatMap_cons, List.length_append, List.length_cons]
    omega
theorem valA_st (st : Got) (q : Str) : (valA (stA st) (.inr q)).getD (.d .none) = .d (gotD st q) := by
  unfold valA stA gotD
  induction st with
  | nil => rfl
  | cons x st ih =>
    rw [List.map_cons, List.find?_cons, List.find?_cons]
    by_cases e : x.1 = q
    · rw [decide_eq_true e, decide_eq_true (show (Sum.inr x.1 : Key) = Sum.inr q from congrArg _ e)]
      rfl
    · rw [decide_eq_false e, decide_eq_false (show ¬ (Sum.inr x.1 : Key) = Sum.inr q from fun z => e (Sum.inr.inj z))]
      exact ih
theorem valA_d (l : List (Str × PyData)) (q : Str) : (valA (dA l) (.inr q)).getD (.d .none) = .d (lookD l q) := by
  unfold valA dA lookD
  induction l with
  | nil => rfl
  | cons x st ih =>
    rw [List.map_cons, List.find?_cons, List.find?_cons]
    by_cases e : x.1 = q
    · rw [decide_eq_true e, decide_eq_true (show (Sum.inr x.1 : Key) = Sum.inr q from congrArg _ e)]
      rfl
    · rw [decide_eq_false e, decide_eq_false (show ¬ (Sum.inr x.1 : Key) = Sum.inr q from fun z => e (Sum.inr.inj z))]
      exact ih
theorem dO_dA (l : List (Str × PyData)) : dO (.dct (dA l)) := fun x hx => by
  obtain ⟨r, _, rfl⟩ := List.mem_map.mp hx
  exact ⟨_, rfl⟩
theorem valA_in (st : Got) (q : Str) : (valA (stA st) (.inr q)).isSome = decide (q ∈ ks st) := by
  unfold valA stA
  induction st with
  | nil => rfl
  | cons x st ih =>
    rw [List.map_cons, List.find?_cons]
    by_cases e : x.1 = q
    · rw [decide_eq_true (show (Sum.inr x.1 : Key) = Sum.inr q from congrArg _ e), decide_eq_true (show q ∈ ks (x :: st) from List.mem_cons.mpr (.inl e.symm))]
      rfl
    · rw [decide_eq_false (show ¬ (Sum.inr x.1 : Key) = Sum.inr q from fun z => e (Sum.inr.inj z))]
      refine ih.trans (decide_eq_decide.mpr ⟨List.mem_cons_of_mem _, fun h => ?_⟩)
      rcases List.mem_cons.mp h with z | z
      · exact absurd z.symm e
      · exact z
theorem valA_endF : ∀ (rs : List Road) (n : Str), n ∈ rnm rs → valA (endsA rs) (.inr n) = some (.d (endD (endsOf rs n)))
  | [], _, h => by cases h
  | r :: rs, n, h => by
    unfold valA endsA endsOf
    rw [List.map_cons, List.find?_cons, List.find?_cons]
    by_cases e : r.1 = n
    · rw [decide_eq_true e, decide_eq_true (show (Sum.inr r.1 : Key) = Sum.inr n from congrArg _ e)]
      rfl
    · rw [decide_eq_false e, decide_eq_false (show ¬ (Sum.inr r.1 : Key) = Sum.inr n from fun z => e (Sum.inr.inj z))]
      rcases List.mem_cons.mp h with z | z
      · exact absurd z.symm e
      · exact valA_endF rs n z
theorem dO_st (st : Got) : dO (.dct (stA st)) := fun x hx => by
  obtain ⟨r, _, rfl⟩ := List.mem_map.mp hx
  exact ⟨_, rfl⟩
theorem dO_step (st : List (Str × Int)) : dO (.dct (stepA st)) := fun x hx => by
  obtain ⟨r, _, rfl⟩ := List.mem_map.mp hx
  exact ⟨_, rfl⟩
theorem dO_ends (rs : List Road) : dO (.dct (endsA rs)) := fun x hx => by
  obtain ⟨r, _, rfl⟩ := List.mem_map.mp hx
  exact ⟨_, rfl⟩
theorem any_bools {wk : List (List Str)} {n : Str} : (wk.any fun r => (false ^^ decide (n ∈ r))) = wk.any fun r => decide (n ∈ r) := by
  congr 1
  funext r
  exact Bool.false_xor _
abbrev kk (st : List (Str × Int)) : List Str := st.map fun q => q.1
def nbs (rs : List Road) (a : Str) : List Str := (roadsAt rs a).map fun q => q.2
theorem mem_nbs {rs : List Road} {a b : Str} : b ∈ nbs rs a ↔ ∃ r ∈ rs, (r.2.1 = a ∧ r.2.2 = b) ∨ (r.2.2 = a ∧ r.2.1 = b) := by
  unfold nbs roadsAt
  constructor
  · intro h
    obtain ⟨q, hq, rfl⟩ := List.mem_map.mp h
    obtain ⟨r, hr, hq⟩ := List.mem_flatMap.mp hq
    refine ⟨r, hr, ?_⟩
    unfold atR at hq
    rcases List.mem_append.mp hq with z | z
    · split at z
      · rename_i e
        rw [List.mem_singleton.mp z]
        exact .inl ⟨e, rfl⟩
      · cases z
    · split at z
      · rename_i e
        rw [List.mem_singleton.mp z]
        exact .inr ⟨e, rfl⟩
      · cases z
  · rintro ⟨r, hr, ⟨e, rfl⟩ | ⟨e, rfl⟩⟩
    · refine List.mem_map.mpr ⟨(r.1, r.2.2), List.mem_flatMap.mpr ⟨r, hr, ?_⟩, rfl⟩
      unfold atR
      rw [if_pos e]
      exact List.mem_append.mpr (.inl (List.mem_singleton.mpr rfl))
    · refine List.mem_map.mpr ⟨(r.1, r.2.1), List.mem_flatMap.mpr ⟨r, hr, ?_⟩, rfl⟩
      unfold atR
      rw [if_pos e]
      exact List.mem_append.mpr (.inr (List.mem_singleton.mpr rfl))
structure Bfs (rs : List Road) (p : Str) (st : List (Str × Int)) (rest bey : List Str) : Prop where
  nd : (kk st).Nodup
  re : ∀ q ∈ kk st, Reach rs p q
  hd : p ∈ kk st
  cl : ∀ a ∈ kk st, a ∈ rest ∨ a ∈ bey ∨ ∀ b ∈ nbs rs a, b ∈ kk st
  sub : ∀ a ∈ rest, a ∈ kk st
  sub2 : ∀ a ∈ bey, a ∈ kk st
section
variable {rs : List Road} {p h b : Str} {st : List (Str × Int)} {rest bey : List Str} {v : Int}
theorem Bfs.start : Bfs rs p [(p, 0)] [p] [] where
  nd := List.nodup_cons.mpr ⟨(fun z => by cases z), List.nodup_nil⟩
  re := fun q hq => by rw [List.mem_singleton.mp hq]; exact .refl
  hd := List.mem_singleton.mpr rfl
  cl := fun a ha => .inl ha
  sub := fun a ha => ha
  sub2 := fun a ha => by cases ha
theorem kk_app (st t : List (Str × Int)) : kk (st ++ t) = kk st ++ kk t := List.map_append ..
theorem Bfs.put (i : Bfs rs p st (h :: rest) bey) (hb : b ∈ nbs rs h) (hn : b ∉ kk st) : Bfs rs p (st ++ [(b, v)]) (h :: rest) (bey ++ [b]) where
  nd := by
    rw [kk_app]
    refine List.nodup_append.mpr ⟨i.nd, List.nodup_cons.mpr ⟨(fun z => by cases z), List.nodup_nil⟩, fun x hx y hy e => hn ?_⟩
    have e2 : x = b := e.trans (List.mem_singleton.mp hy)
    exact e2 ▸ hx
  re := fun q hq => by
    rw [kk_app] at hq
    rcases List.mem_append.mp hq with z | z
    · exact i.re q z
    · rw [List.mem_singleton.mp z]
      obtain ⟨r, hr, c⟩ := mem_nbs.mp hb
      exact .go (i.re h (i.sub h (List.mem_cons_self ..))) hr c
  hd := by rw [kk_app]; exact List.mem_append.mpr (.inl i.hd)
  cl := fun a ha => by
    rw [kk_app] at ha ⊢
    rcases List.mem_append.mp ha with z | z
    · rcases i.cl a z with x | x | x
      · exact .inl x
      · exact .inr (.inl (List.mem_append.mpr (.inl x)))
      · exact .inr (.inr fun y hy => List.mem_append.mpr (.inl (x y hy)))
    · exact .inr (.inl (List.mem_append.mpr (.inr z)))
  sub := fun a ha => by rw [kk_app]; exact List.mem_append.mpr (.inl (i.sub a ha))
  sub2 := fun a ha => by
    rw [kk_app]
    rcases List.mem_append.mp ha with z | z
    · exact List.mem_append.mpr (.inl (i.sub2 a z))
    · exact List.mem_append.mpr (.inr z)
theorem Bfs.next (i : Bfs rs p st (h :: rest) bey) (all : ∀ b ∈ nbs rs h, b ∈ kk st) : Bfs rs p st rest bey where
  nd := i.nd
  re := i.re
  hd := i.hd
  cl := fun a ha => by
    rcases i.cl a ha with x | x | x
    · rcases List.mem_cons.mp x with rfl | x
      · exact .inr (.inr all)
      · exact .inl x
    · exact .inr (.inl x)
    · exact .inr (.inr x)
  sub := fun a ha => i.sub a (List.mem_cons_of_mem _ ha)
  sub2 := i.sub2
theorem Bfs.turn (i : Bfs rs p st [] bey) : Bfs rs p st bey [] where
  nd := i.nd
  re := i.re
  hd := i.hd
  cl := fun a ha => by
    rcases i.cl a ha with x | x | x
    · cases x
    · exact .inl x
    · exact .inr (.inr x)
  sub := i.sub2
  sub2 := fun a ha => by cases ha
theorem Bfs.done (i : Bfs rs p st [] []) {q : Str} : q ∈ kk st ↔ Reach rs p q := by
  refine ⟨i.re q, fun h => ?_⟩
  induction h with
  | refl => exact i.hd
  | @go a b r _ hr hc ih =>
    rcases i.cl a ih with x | x | x
    · cases x
    · cases x
    · exact x b (mem_nbs.mpr ⟨r, hr, hc⟩)
theorem Bfs.len {ps : List Str} (i : Bfs rs p st rest bey) (hp : p ∈ ps) (ha : ∀ r ∈ rs, r.2.1 ∈ ps) (hb : ∀ r ∈ rs, r.2.2 ∈ ps) : st.length ≤ ps.length := by
  have := nd_len _ ps i.nd fun q hq => by
    have r := i.re q hq
    clear hq
    induction r with
    | refl => exact hp
    | go _ hr hc _ =>
      rcases hc with ⟨_, rfl⟩ | ⟨_, rfl⟩
      · exact hb _ hr
      · exact ha _ hr
  rwa [List.length_map] at this
theorem step_in (st : List (Str × Int)) (q : Str) : (valA (stepA st) (.inr q)).isSome = decide (q ∈ kk st) := by
  unfold valA stepA
  induction st with
  | nil => rfl
  | cons x st ih =>
    rw [List.map_cons, List.find?_cons]
    by_cases e : x.1 = q
    · rw [decide_eq_true (show (Sum.inr x.1 : Key) = Sum.inr q from congrArg _ e), decide_eq_true (show q ∈ kk (x :: st) from List.mem_cons.mpr (.inl e.symm))]
      rfl
    · rw [decide_eq_false (show ¬ (Sum.inr x.1 : Key) = Sum.inr q from fun z => e (Sum.inr.inj z))]
      refine ih.trans (decide_eq_decide.mpr ⟨List.mem_cons_of_mem _, fun h => ?_⟩)
      rcases List.mem_cons.mp h with z | z
      · exact absurd z.symm e
      · exact z
theorem step_at : ∀ (st : List (Str × Int)) (q : Str), q ∈ kk st → ∃ v : Int, valA (stepA st) (.inr q) = some (.d (.int v))
  | [], _, h => by cases h
  | x :: st, q, h => by
    unfold valA stepA
    rw [List.map_cons, List.find?_cons]
    by_cases e : x.1 = q
    · rw [decide_eq_true (show (Sum.inr x.1 : Key) = Sum.inr q from congrArg _ e)]
      exact ⟨x.2, rfl⟩
    · rw [decide_eq_false (show ¬ (Sum.inr x.1 : Key) = Sum.inr q from fun z => e (Sum.inr.inj z))]
      rcases List.mem_cons.mp h with z | z
      · exact absurd z.symm e
      · exact step_at st q z
theorem putA_new {α : Type} {f : α → Key × A} {l : List α} {k : Key} {v : A} (h : ∀ x ∈ l, (f x).1 ≠ k) : putA (l.map f) k v = l.map f ++ [(k, v)] := by
  unfold putA
  rw [if_neg]
  intro z
  obtain ⟨y, hy, e⟩ := List.any_eq_true.mp z
  obtain ⟨x, hx, rfl⟩ := List.mem_map.mp hy
  exact h x hx (of_decide_eq_true e)
theorem step_put (hn : b ∉ kk st) : putA (stepA st) (.inr b) (.d (.int v)) = stepA (st ++ [(b, v)]) := by
  unfold stepA
  rw [putA_new, List.map_append]
  · rfl
  · intro x hx e
    exact hn (Sum.inr.inj e ▸ List.mem_map.mpr ⟨x, hx, rfl⟩)
theorem st_put {st : Got} {x : Mom} (hn : b ∉ ks st) : putA (stA st) (.inr b) (.d (momD x)) = stA (st ++ [(b, x)]) := by
  unfold stA
  rw [putA_new, List.map_append]
  · rfl
  · intro x hx e
    exact hn (Sum.inr.inj e ▸ List.mem_map.mpr ⟨x, hx, rfl⟩)
theorem Inv0.len {ps : List Str} {rs : List Road} {wk : List (List Str)} {p : Str} {st : Got} (i : Inv0 rs wk p st) (ok : RoadsOk ps rs) (hp : p ∈ ps) : st.length ≤ ps.length := by
  have := nd_len _ ps i.nd fun q hq => reach_ps ok hp (i.re q hq)
  rwa [List.length_map] at this
theorem round_len {rs : List Road} {wk : List (List Str)} (hw : WeekOk rs wk) (day : Int) : (roundAt wk day).length ≤ rs.length := by
  obtain ⟨i, hi, e, _⟩ := roundAt_mem hw.one day
  rw [e, List.getD_eq_getElem?_getD, List.getElem?_eq_getElem hi]
  exact nd_le (hw.rd _ (List.getElem_mem hi))
theorem round_sub {rs : List Road} {wk : List (List Str)} (hw : WeekOk rs wk) (day : Int) : ∀ n ∈ roundAt wk day, n ∈ rnm rs := fun n hn => by
  obtain ⟨r, hr, rfl⟩ := round_walked hw day n hn
  exact List.mem_map.mpr ⟨r, (List.mem_filter.mp hr).1, rfl⟩
/-- where the walks of a day begin -/
def beg (m : Mom) (n : Nat) : Nat := if n = 0 then m.2.toNat else 0
theorem S_next {rs : List Road} {wk : List (List Str)} {p : Str} {m : Mom} (n : Nat) : S rs wk p m (n + 1) = walkF rs (m.1 + n) (beg m n) ((roundAt wk (m.1 + n)).drop (beg m n)) (S rs wk p m n) := rfl
theorem beg_le {wk : List (List Str)} {m : Mom} (hm : MomS wk m) (n : Nat) : beg m n ≤ (roundAt wk (m.1 + n)).length := by
  unfold beg
  split
  · rename_i e
    subst e
    have := hm.w2
    have := hm.w1
    rw [show m.1 + ((0 : Nat) : Int) = m.1 by omega]
    omega
  · exact Nat.zero_le _
/-- the state within a day -/
def mid (rs : List Road) (wk : List (List Str)) (p : Str) (m : Mom) (n i : Nat) : Got := walkF rs (m.1 + n) (beg m n) (((roundAt wk (m.1 + n)).drop (beg m n)).take i) (S rs wk p m n)
theorem mid_zero {rs : List Road} {wk : List (List Str)} {p : Str} {m : Mom} {n : Nat} : mid rs wk p m n 0 = S rs wk p m n := rfl
theorem mid_succ {rs : List Road} {wk : List (List Str)} {p : Str} {m : Mom} {n i : Nat} {x : Str} (h : (roundAt wk (m.1 + n))[beg m n + i]? = some x) : mid rs wk p m n (i + 1) = stepW rs (m.1 + n) (beg m n + i) x (mid rs wk p m n i) := by
  have h2 : ((roundAt wk (m.1 + n)).drop (beg m n))[i]? = some x := by rw [List.getElem?_drop]; exact h
  have lt := (List.getElem?_eq_some_iff.mp h2).1
  unfold mid
  rw [take_get h2, walkF_snoc, List.length_take, Nat.min_eq_left (Nat.le_of_lt lt)]
theorem mid_end {rs : List Road} {wk : List (List Str)} {p : Str} {m : Mom} {n i : Nat} (h : (roundAt wk (m.1 + n)).length - beg m n ≤ i) : mid rs wk p m n i = S rs wk p m (n + 1) := by
  unfold mid
  rw [List.take_of_length_le (by rw [List.length_drop]; exact h)]
  rfl
theorem mid_inv {rs : List Road} {wk : List (List Str)} {p : Str} {m : Mom} (nd : (rnm rs).Nodup) (hw : WeekOk rs wk) (n i : Nat) : Inv0 rs wk p (mid rs wk p m n i) :=
  walkF_inv nd _ _ _ (fun x hx => round_walked hw _ x (List.mem_of_mem_drop (List.mem_of_mem_take hx))) (S_inv nd hw n)
theorem stepW_ff {rs : List Road} {day : Int} {k : Nat} {n : Str} {st : Got} (a : (endsOf rs n).1 ∉ ks st) (b : (endsOf rs n).2 ∉ ks st) : stepW rs day k n st = st := stepW_quiet ⟨fun x => absurd x a, fun x => absurd x b⟩
theorem stepW_tt {rs : List Road} {day : Int} {k : Nat} {n : Str} {st : Got} (a : (endsOf rs n).1 ∈ ks st) (b : (endsOf rs n).2 ∈ ks st) : stepW rs day k n st = st := stepW_quiet ⟨fun _ => b, fun _ => a⟩
theorem stepW_tf {rs : List Road} {day : Int} {k : Nat} {n : Str} {st : Got} (a : (endsOf rs n).1 ∈ ks st) (b : (endsOf rs n).2 ∉ ks st) : stepW rs day k n st = st ++ [((endsOf rs n).2, (day, (k : Int) + 1))] := by
  unfold stepW
  rw [decide_eq_true a, decide_eq_false b, if_pos (show (true != false) = true from rfl), if_pos a]
theorem stepW_ft {rs : List Road} {day : Int} {k : Nat} {n : Str} {st : Got} (a : (endsOf rs n).1 ∉ ks st) (b : (endsOf rs n).2 ∈ ks st) : stepW rs day k n st = st ++ [((endsOf rs n).1, (day, (k : Int) + 1))] := by
  unfold stepW
  rw [decide_eq_false a, decide_eq_true b, if_pos (show (false != true) = true from rfl), if_neg a]
end
theorem signs_small : ∀ c ∈ signs.cps.toList, c < 1114112 := by decide +kernel
theorem name_str {s : Str} (h : NameOk s) : PyData.strOk s = true := by
  unfold PyData.strOk
  rw [← Array.all_toList]
  exact List.all_eq_true.mpr fun c hc => decide_eq_true (signs_small c (h.all c hc))
theorem shp2 {i : Int} {s : Str} (h : NameOk s) : SeqAt.shaped (.tuple [.int i, .str s]) = true := by
  unfold SeqAt.shaped
  refine Bool.and_eq_true_iff.mpr ⟨?_, decide_eq_true ?_⟩
  · have := name_str h
    simp [PyData.canLay0, PyData.canLayAll0, this]
  · simp [PyData.depth, PyData.depthAll]
theorem wideI {i j : Int} {a b : Nat} (ha : i.natAbs < 2 ^ a) (hb : j.natAbs < 2 ^ b) (h0 : 0 < a := by decide) (h1 : 0 < b := by decide) (h : a + b ≤ 1000000 := by decide) : CMulA i j := .inr (wide_mul ha hb h0 h1 h)
theorem mod_bd {x M : Int} {k : Nat} (h0 : 0 < M) (h1 : M < 2 ^ k) : (x % M).natAbs < 2 ^ k := by
  have a := Int.emod_nonneg x (show M ≠ 0 by omega)
  have b := Int.emod_lt_of_pos x h0
  have e : ((2 ^ k : Nat) : Int) = (2 : Int) ^ k := by rw [Int.natCast_pow]; rfl
  omega
theorem smallR {i j : Int} (h1 : 0 ≤ j) (h2 : j < 10 ^ 18) : CMulA i j := .inl (.inr ⟨by omega, by omega⟩)
theorem smallL {i j : Int} (h1 : 0 ≤ i) (h2 : i < 10 ^ 18) : CMulA i j := .inl (.inl ⟨by omega, by omega⟩)
theorem divS {i j : Int} (h1 : 0 < j) (h2 : j < 10 ^ 18) : CDivW i j := wide_div (b := 64) h1 (by omega) (by decide) (by decide)
theorem cut_nat {α : Type} (l : List α) (k : Nat) : cut l none (some (k : Int)) = l.take k := by
  unfold cut
  rw [HT.sIx_none, show HT.sIx l.length l.length (some (k : Int)) = min k l.length from HT.sIx_nat _ _ k, List.drop_zero, Nat.sub_zero, List.take_eq_take_iff]
  omega
theorem perm_mapD {α β : Type} {f : α → β} {l : List α} : ∀ {m : List β}, m.Perm (l.map f) → ∃ l' : List α, l'.Perm l ∧ m = l'.map f := fun {m} h => by
  induction h' : m.length generalizing m l with
  | zero =>
    have e : m = [] := List.length_eq_zero_iff.mp h'
    subst e
    have := h.length_eq
    rw [List.length_map] at this
    have e : l = [] := List.length_eq_zero_iff.mp this.symm
    subst e
    exact ⟨[], .refl _, rfl⟩
  | succ n ih =>
    cases m with
    | nil => cases h'
    | cons x m =>
      have hx : x ∈ l.map f := h.mem_iff.mp (List.mem_cons_self ..)
      obtain ⟨a, ha, rfl⟩ := List.mem_map.mp hx
      obtain ⟨l1, l2, rfl⟩ := List.append_of_mem ha
      have h2 : (l1 ++ a :: l2).Perm (a :: (l1 ++ l2)) := List.perm_middle
      have h3 : (f a :: m).Perm (f a :: (l1 ++ l2).map f) := h.trans (h2.map f)
      obtain ⟨l', hl, rfl⟩ := ih (List.Perm.cons_inv h3) (by simpa using h')
      exact ⟨a :: l', (List.Perm.cons a hl).trans h2.symm, rfl⟩
theorem erase_map {α β : Type} (f : α → β) : ∀ (l : List α) (j : Nat), (l.map f).eraseIdx j = (l.eraseIdx j).map f
  | [], _ => rfl
  | x :: l, 0 => rfl
  | x :: l, j + 1 => congrArg (f x :: ·) (erase_map f l j)
theorem len_tup {ds : List PyData} {μ : Mu} {P : DK} (h : P (.d (.int ds.length)) μ) : rdLenU [.d (.tuple ds)] μ P := h
theorem len_lst {ds : List PyData} {μ : Mu} {P : DK} (h : P (.d (.int ds.length)) μ) : rdLenU [.d (.list ds)] μ P := h
theorem add_int {i j : Int} {μ : Mu} {P : DK} (h : P (.d (.int (i + j))) μ) : rdAdd (.d (.int i)) (.d (.int j)) μ P := h
/-! ### the feed -/
def fcell (a b c : Int) : O := .lst [.d (.int a), .d (.int b), .d (.int c)]
def FD (k : Int) (o : O) : Prop := ∃ a b c : Int, o = fcell a b c ∧ 0 ≤ a ∧ 0 ≤ b ∧ b < 10 ^ 40 ∧ 0 ≤ c ∧ c ≤ k
theorem FD.mono {k l : Int} {o : O} (h : FD k o) (x : k ≤ l) : FD l o := by
  obtain ⟨a, b, c, e, h1, h2, h3, h4, h5⟩ := h
  exact ⟨a, b, c, e, h1, h2, h3, h4, by omega⟩
theorem FD.pos {k : Int} {o : O} (h : FD k o) : 0 ≤ k := by
  obtain ⟨a, b, c, e, h1, h2, h3, h4, h5⟩ := h
  omega
theorem dO_lst (ds : List PyData) : dO (.lst (ds.map A.d)) := fun x hx => by
  obtain ⟨d, _, rfl⟩ := List.mem_map.mp hx
  exact ⟨_, rfl⟩
theorem FD.dO {k : Int} {o : O} (h : FD k o) : dO o := by
  obtain ⟨a, b, c, rfl, _⟩ := h
  exact dO_lst [.int a, .int b, .int c]
theorem FD.old {k : Int} {o : O} {m : Nat} (h : FD k o) : oldO m o := by
  obtain ⟨a, b, c, rfl, _⟩ := h
  exact oldO_map [.int a, .int b, .int c]
/-- a callee that is handed the feed and data, and gives back data -/
theorem fr_feed {R : DR} {μ : Mu} {P : DK} {Ex : DX} {n : Nat} {o : O} (ds : List PyData) (h : μ[n]? = some o) (ho : dO o)
    (r : R (.c 0 :: ds.map A.d) [o] (fun y ν => (∀ o ∈ ν, dO o) ∧ P (upA [n] μ.length y) (Dl.putAll μ [n] ν ++ ν.drop 1)) fun C u ν => (∀ o ∈ ν, dO o) ∧ Ex C u (Dl.putAll μ [n] ν ++ ν.drop 1)) : FR R (.c n :: ds.map A.d) μ P Ex := by
  refine ⟨[n], .c 0 :: ds.map A.d, [o], pick1 h ho, ?_, fun z hz => ?_, r⟩
  · rw [List.map_cons, map_up_d]
    rfl
  · rcases List.mem_cons.mp hz with rfl | hz
    · exact Nat.zero_lt_one
    · obtain ⟨d, _, rfl⟩ := List.mem_map.mp hz
      trivial
theorem bkf {μ : Mu} {P : DK} {n k : Nat} {d : PyData} {o : O} (ho : dO o) (h : P (.d d) (μ.set n o)) : (∀ u ∈ [o], dO u) ∧ P (upA [n] k (.d d)) (Dl.putAll μ [n] [o] ++ [o].drop 1) := by
  refine ⟨one_o ho, ?_⟩
  show P (.d d) (Dl.putAll (μ.set n o) [] [] ++ [])
  rw [List.append_nil]
  unfold Dl.putAll
  exact h
/-- what a def with the feed as its first cell ends with -/
theorem feedRet {P : DK} {o' : O} {l : Mu} {d : PyData} {k : Int} (hk : FD k o') (h : P (.d d) [o']) : RetD 1 P (.d d) (o' :: l) := by
  refine ret_data (m := 1) (μ1 := [o']) l rfl (fun i u e => ?_) h
  cases i with
  | zero =>
    obtain rfl := Option.some.inj e
    exact hk.old
  | succ i => simp at e
theorem feedFrz {P : DK} {o' : O} {l : Mu} {ds : List PyData} {k : Int} {j : Nat} (hk : FD k o') (e : l[j]? = some (.lst (ds.map A.d))) (h : P (.d (.list ds)) [o']) : RetD 1 P (.c (1 + j)) (o' :: l) := by
  refine ret_frz (m := 1) (μ1 := [o']) (l := l) (j := j) rfl (fun i u e => ?_) e (.data ds) h
  cases i with
  | zero =>
    obtain rfl := Option.some.inj e
    exact hk.old
  | succ i => simp at e
/-! ### promises -/
def R__law_draw : DR := fun xs μ Pk _ => ∃ o k, ∃ m : Int, xs = [.c 0, .d (.int m)] ∧ μ = [o] ∧ FD k o ∧ k < 10 ^ 18 ∧ (0 < m ∧ m < 10 ^ 6) ∧
  ∀ r o', 0 ≤ r → r < m → FD (k + 1) o' → Pk (.d (.int r)) [o']
theorem fr_draw {μ : Mu} {P : DK} {Ex : DX} {n : Nat} {o : O} {k m : Int} (h : μ[n]? = some o) (hk : FD k o) (k1 : k < 10 ^ 18) (hm : 0 < m ∧ m < 10 ^ 6) (q : ∀ r o', 0 ≤ r → r < m → FD (k + 1) o' → P (.d (.int r)) (μ.set n o')) : FR R__law_draw [.c n, .d (.int m)] μ P Ex :=
  fr_feed [.int m] h hk.dO ⟨o, k, m, rfl, rfl, hk, k1, hm, fun r o' h1 h2 hk' => bkf hk'.dO (q r o' h1 h2 hk')⟩
def R__law_one : DR := fun xs μ Pk _ => ∃ o k y ds, xs = [.c 0, .d y] ∧ μ = [o] ∧ (y = .list ds ∨ y = .tuple ds) ∧ (0 < ds.length ∧ ds.length < 10 ^ 6) ∧ FD k o ∧ k < 10 ^ 18 ∧
  ∀ x o', x ∈ ds → FD (k + 1) o' → Pk (.d x) [o']
theorem fr_one {μ : Mu} {P : DK} {Ex : DX} {n : Nat} {o : O} {k : Int} {y : PyData} (ds : List PyData) (h : μ[n]? = some o) (hy : y = .list ds ∨ y = .tuple ds) (hk : FD k o) (k1 : k < 10 ^ 18) (hm : 0 < ds.length ∧ ds.length < 10 ^ 6) (q : ∀ x o', x ∈ ds → FD (k + 1) o' → P (.d x) (μ.set n o')) : FR R__law_one [.c n, .d y] μ P Ex :=
  fr_feed [y] h hk.dO ⟨o, k, y, ds, rfl, rfl, hy, hm, hk, k1, fun r o' h1 hk' => bkf hk'.dO (q r o' h1 hk')⟩
def R__law_mixed : DR := fun xs μ Pk _ => ∃ o k y ds, xs = [.c 0, .d y] ∧ μ = [o] ∧ (y = .list ds ∨ y = .tuple ds) ∧ ds.length < 1000 ∧ FD k o ∧ k < 10 ^ 17 ∧
  ∀ (ds' : List PyData) (o' : O), ds'.Perm ds → FD (k + ds.length) o' → Pk (.d (.list ds')) [o']
theorem fr_mixed {α : Type} {μ : Mu} {P : DK} {Ex : DX} {n : Nat} {o : O} {k : Int} {y : PyData} (f : α → PyData) (zs : List α) (h : μ[n]? = some o) (hy : y = .list (zs.map f) ∨ y = .tuple (zs.map f)) (hk : FD k o) (k1 : k < 10 ^ 17) (hm : zs.length < 1000) (q : ∀ (zs' : List α) (o' : O), zs'.Perm zs → FD (k + zs.length) o' → P (.d (.list (zs'.map f))) (μ.set n o')) : FR R__law_mixed [.c n, .d y] μ P Ex :=
  fr_feed [y] h hk.dO ⟨o, k, y, zs.map f, rfl, rfl, hy, by rw [List.length_map]; exact hm, hk, k1, fun ds' o' h1 hk' => by
    obtain ⟨zs', hp, rfl⟩ := perm_mapD h1
    rw [List.length_map] at hk'
    exact bkf hk'.dO (q zs' o' hp hk')⟩
def R__law_feed : DR := fun xs μ Pk _ => ∃ (ns : List Int) (k : Int), xs = [.d (.list (ns.map PyData.int)), .d (.int k)] ∧ μ = [] ∧ 0 ≤ k ∧ k < 10 ^ 6 ∧ ∀ o', FD 0 o' → Pk (.c 0) [o']
def names14 : List Str := ["a", "b10", "b9", "zz", "c", "q1w2e3r4", "d", "x", "m0", "road", "k", "e5", "y", "i2"]
def R__law_names : DR := fun xs μ Pk _ => ∃ o k, ∃ m : Nat, xs = [.c 0, .d (.int m)] ∧ μ = [o] ∧ FD k o ∧ k < 10 ^ 17 ∧
  ∀ (ss : List Str) (o' : O), ss.Perm names14 → FD (k + 14) o' → Pk (.d (.list ((ss.take m).map .str))) [o']
theorem fr_names {μ : Mu} {P : DK} {Ex : DX} {n : Nat} {o : O} {k : Int} {m : Nat} (h : μ[n]? = some o) (hk : FD k o) (k1 : k < 10 ^ 17) (q : ∀ (ss : List Str) (o' : O), ss.Perm names14 → FD (k + 14) o' → P (.d (.list ((ss.take m).map .str))) (μ.set n o')) : FR R__law_names [.c n, .d (.int m)] μ P Ex :=
  fr_feed [.int m] h hk.dO ⟨o, k, m, rfl, rfl, hk, k1, fun r o' h1 hk' => bkf hk'.dO (q r o' h1 hk')⟩
def R__law_rota : DR := fun xs μ Pk _ => ∃ o k ps rs, xs = [.c 0, .d (webD ps rs)] ∧ μ = [o] ∧ rs.length ≤ 14 ∧ FD k o ∧ k < 10 ^ 17 ∧
  ∀ (ss : List Str) (o' : O), ss.Perm (rnm rs) → FD (k + 14) o' → Pk (.d (roundD ss)) [o']
def R__law_week : DR := fun xs μ Pk _ => ∃ o k ps rs, xs = [.c 0, .d (webD ps rs)] ∧ μ = [o] ∧ rs.length ≤ 14 ∧ (rnm rs).Nodup ∧ FD k o ∧ k < 10 ^ 16 ∧
  ∀ wk o', WeekOk rs wk → FD (k + 100) o' → Pk (.d (weekD wk)) [o']
def R__law_moment : DR := fun xs μ Pk _ => ∃ o k wk, xs = [.c 0, .d (weekD wk)] ∧ μ = [o] ∧ (1 ≤ wk.length ∧ wk.length ≤ 4) ∧ (∀ d, (roundAt wk d).length ≤ 14) ∧ FD k o ∧ k < 10 ^ 16 ∧
  ∀ m o', MomOk wk m → FD (k + 3) o' → Pk (.d (momD m)) [o']
def R__law_round : DR := R_round_of
def signAt (i : Nat) : Str := ⟨#[signs.cps.toList.getD i 0]⟩
def R__law_name : DR := fun xs μ Pk _ => ∃ o k, ∃ at_ : Nat, xs = [.c 0, .d (.int at_)] ∧ μ = [o] ∧ at_ < 36 ∧ FD k o ∧ k < 10 ^ 16 ∧
  ∀ s o', NameOk s → s.cps.toList.getLast? = signs.cps.toList[at_]? → FD (k + 10) o' → Pk (.d (.str s)) [o']
def R__law_web : DR := fun xs μ Pk _ => ∃ o k, ∃ way : Str, xs = [.c 0, .d (.str way)] ∧ μ = [o] ∧ FD k o ∧ k < 10 ^ 16 ∧
  ∀ ps rs o', WebOk ps rs → FD (k + 200) o' → Pk (.d (webD ps rs)) [o']
def R__law_great_web : DR := fun xs μ Pk _ => ∃ o k, xs = [.c 0] ∧ μ = [o] ∧ FD k o ∧ k < 10 ^ 15 ∧
  ∀ ps rs o', WebOk ps rs → FD (k + 1000) o' → Pk (.d (webD ps rs)) [o']
def R__law_some_webL : DR := fun xs μ Pk _ => ∃ o k, ∃ ws : List Str, xs = [.c 0, .d (.list (ws.map .str))] ∧ μ = [o] ∧ (0 < ws.length ∧ ws.length < 1000) ∧ FD k o ∧ k < 10 ^ 14 ∧
  ∀ ps rs o', WebOk ps rs → FD (k + 2000) o' → Pk (.d (webD ps rs)) [o']
def R__law_arrivals : DR := fun xs μ Pk _ => ∃ ps rs wk p m, xs = [.d (webD ps rs), .d (weekD wk), .d (.str p), .d (momD m)] ∧ μ = [] ∧ WebOk ps rs ∧ WeekOk rs wk ∧ p ∈ ps ∧ MomS wk m ∧
  ∀ N, N ≤ 60 → Final rs wk p m (S rs wk p m N) → Pk (.c 0) [.dct (stA (S rs wk p m N))]
theorem fr_rota {μ : Mu} {P : DK} {Ex : DX} {n : Nat} {o : O} {k : Int} {ps : List Str} {rs : List Road} (h : μ[n]? = some o) (hk : FD k o) (k1 : k < 10 ^ 17) (lz : rs.length ≤ 14) (q : ∀ (ss : List Str) (o' : O), ss.Perm (rnm rs) → FD (k + 14) o' → P (.d (roundD ss)) (μ.set n o')) : FR R__law_rota [.c n, .d (webD ps rs)] μ P Ex :=
  fr_feed [_] h hk.dO ⟨o, k, ps, rs, rfl, rfl, lz, hk, k1, fun r o' h1 hk' => bkf hk'.dO (q r o' h1 hk')⟩
theorem fr_week {μ : Mu} {P : DK} {Ex : DX} {n : Nat} {o : O} {k : Int} {ps : List Str} {rs : List Road} (h : μ[n]? = some o) (hk : FD k o) (k1 : k < 10 ^ 16) (lz : rs.length ≤ 14) (nd : (rnm rs).Nodup) (q : ∀ wk o', WeekOk rs wk → FD (k + 100) o' → P (.d (weekD wk)) (μ.set n o')) : FR R__law_week [.c n, .d (webD ps rs)] μ P Ex :=
  fr_feed [_] h hk.dO ⟨o, k, ps, rs, rfl, rfl, lz, nd, hk, k1, fun r o' h1 hk' => bkf hk'.dO (q r o' h1 hk')⟩
theorem fr_moment {μ : Mu} {P : DK} {Ex : DX} {n : Nat} {o : O} {k : Int} {wk : List (List Str)} (h : μ[n]? = some o) (hk : FD k o) (k1 : k < 10 ^ 16) (hw : 1 ≤ wk.length ∧ wk.length ≤ 4) (h14 : ∀ d, (roundAt wk d).length ≤ 14) (q : ∀ m o', MomOk wk m → FD (k + 3) o' → P (.d (momD m)) (μ.set n o')) : FR R__law_moment [.c n, .d (weekD wk)] μ P Ex :=
  fr_feed [_] h hk.dO ⟨o, k, wk, rfl, rfl, hw, h14, hk, k1, fun r o' h1 hk' => bkf hk'.dO (q r o' h1 hk')⟩
theorem fr_name {μ : Mu} {P : DK} {Ex : DX} {n : Nat} {o : O} {k : Int} {a : Nat} (h : μ[n]? = some o) (hk : FD k o) (k1 : k < 10 ^ 16) (ha : a < 36) (q : ∀ s o', NameOk s → s.cps.toList.getLast? = signs.cps.toList[a]? → FD (k + 10) o' → P (.d (.str s)) (μ.set n o')) : FR R__law_name [.c n, .d (.int a)] μ P Ex :=
  fr_feed [_] h hk.dO ⟨o, k, a, rfl, rfl, ha, hk, k1, fun r o' h1 h2 hk' => bkf hk'.dO (q r o' h1 h2 hk')⟩
theorem fr_web {μ : Mu} {P : DK} {Ex : DX} {n : Nat} {o : O} {k : Int} {way : Str} (h : μ[n]? = some o) (hk : FD k o) (k1 : k < 10 ^ 16) (q : ∀ ps rs o', WebOk ps rs → FD (k + 200) o' → P (.d (webD ps rs)) (μ.set n o')) : FR R__law_web [.c n, .d (.str way)] μ P Ex :=
  fr_feed [_] h hk.dO ⟨o, k, way, rfl, rfl, hk, k1, fun ps rs o' h1 hk' => bkf hk'.dO (q ps rs o' h1 hk')⟩
theorem fr_great {μ : Mu} {P : DK} {Ex : DX} {n : Nat} {o : O} {k : Int} (h : μ[n]? = some o) (hk : FD k o) (k1 : k < 10 ^ 15) (q : ∀ ps rs o', WebOk ps rs → FD (k + 1000) o' → P (.d (webD ps rs)) (μ.set n o')) : FR R__law_great_web [.c n] μ P Ex :=
  fr_feed [] h hk.dO ⟨o, k, rfl, rfl, hk, k1, fun ps rs o' h1 hk' => bkf hk'.dO (q ps rs o' h1 hk')⟩
theorem fr_some {μ : Mu} {P : DK} {Ex : DX} {n : Nat} {o : O} {k : Int} {ws : List Str} (h : μ[n]? = some o) (hk : FD k o) (k1 : k < 10 ^ 14) (hw : 0 < ws.length ∧ ws.length < 1000) (q : ∀ ps rs o', WebOk ps rs → FD (k + 2000) o' → P (.d (webD ps rs)) (μ.set n o')) : FR R__law_some_webL [.c n, .d (.list (ws.map .str))] μ P Ex :=
  fr_feed [_] h hk.dO ⟨o, k, ws, rfl, rfl, hw, hk, k1, fun ps rs o' h1 hk' => bkf hk'.dO (q ps rs o' h1 hk')⟩
def le2 (x : Mom) (d k : Int) : Prop := x.1 < d ∨ (x.1 = d ∧ x.2 ≤ k)
instance (x : Mom) (d k : Int) : Decidable (le2 x d k) := by unfold le2; infer_instance
def valS (st : Got) (q : Str) : Mom := ((st.find? fun x => decide (x.1 = q)).map fun x => x.2).getD (0, 0)
theorem valS_at : ∀ (st : Got) (q : Str), q ∈ ks st → valA (stA st) (.inr q) = some (.d (momD (valS st q))) ∧ (q, valS st q) ∈ st
  | [], _, h => by cases h
  | x :: st, q, h => by
    unfold valA stA valS
    rw [List.map_cons, List.find?_cons, List.find?_cons]
    by_cases e : x.1 = q
    · rw [decide_eq_true e, decide_eq_true (show (Sum.inr x.1 : Key) = Sum.inr q from congrArg _ e)]
      refine ⟨rfl, ?_⟩
      subst e
      exact List.mem_cons_self ..
    · rw [decide_eq_false e, decide_eq_false (show ¬ (Sum.inr x.1 : Key) = Sum.inr q from fun z => e (Sum.inr.inj z))]
      rcases List.mem_cons.mp h with z | z
      · exact absurd z.symm e
      · obtain ⟨h1, h2⟩ := valS_at st q z
        exact ⟨h1, List.mem_cons_of_mem _ h2⟩
def dir (day k : Int) (st : Got) (h t : Str) : Got :=
  if t ∈ ks st then st else if h ∈ ks st then (if le2 (valS st h) day k then st ++ [(t, (day, k + 1))] else st) else st
def dirs (day k : Int) (st : Got) (l : List (Str × Str)) : Got := l.foldl (fun st q => dir day k st q.1 q.2) st
theorem dirs_snoc (day k : Int) (st : Got) (l : List (Str × Str)) (q : Str × Str) : dirs day k st (l ++ [q]) = dir day k (dirs day k st l) q.1 q.2 := by
  unfold dirs
  rw [List.foldl_append]
  rfl
def Le (st : Got) (day k : Int) : Prop := ∀ x ∈ st, le2 x.2 day k
section
variable {rs : List Road} {wk : List (List Str)} {p : Str} {m : Mom} {day : Int} {st : Got} {x : Str}
theorem Le.step {k : Nat} (h : Le st day k) : Le (stepW rs day k x st) day ((k + 1 : Nat) : Int) := by
  have up : Le st day ((k + 1 : Nat) : Int) := fun y hy => by
    rcases h y hy with a | ⟨a, b⟩
    · exact .inl a
    · exact .inr ⟨a, by omega⟩
  unfold stepW
  split
  · intro y hy
    rcases List.mem_append.mp hy with z | z
    · exact up y z
    · rw [List.mem_singleton.mp z]
      exact .inr ⟨rfl, by show (k : Int) + 1 ≤ _; omega⟩
  · exact up
theorem Le.walk : ∀ (ns : List Str) (k : Nat) (st : Got), Le st day k → Le (walkF rs day k ns st) day ((k + ns.length : Nat) : Int)
  | [], _, _, h => h
  | n :: ns, k, st, h => by
    have := Le.walk ns (k + 1) _ (h.step (rs := rs) (x := n))
    rw [List.length_cons, show k + (ns.length + 1) = k + 1 + ns.length by omega]
    exact this
theorem Le.lt {k : Int} (h : Le st day k) : Le st (day + 1) 0 := fun y hy => by
  rcases h y hy with a | ⟨a, b⟩
  · exact .inl (by omega)
  · exact .inl (by omega)
theorem S_Le (hm : 0 ≤ m.2) : ∀ n, Le (S rs wk p m n) (m.1 + n) (beg m n)
  | 0 => fun y hy => by
    rw [List.mem_singleton.mp hy]
    refine .inr ⟨by show m.1 = m.1 + ((0 : Nat) : Int); omega, ?_⟩
    show m.2 ≤ ((beg m 0 : Nat) : Int)
    unfold beg
    rw [if_pos rfl]
    omega
  | n + 1 => by
    have h := (Le.walk (rs := rs) ((roundAt wk (m.1 + n)).drop (beg m n)) (beg m n) _ (S_Le hm n)).lt
    have e : m.1 + ((n + 1 : Nat) : Int) = m.1 + n + 1 := by omega
    rw [e]
    exact h
theorem mid_Le (hm : 0 ≤ m.2) (n i : Nat) : Le (mid rs wk p m n i) (m.1 + n) ((beg m n + i : Nat) : Int) := by
  have h := Le.walk (rs := rs) (((roundAt wk (m.1 + n)).drop (beg m n)).take i) (beg m n) _ (S_Le (rs := rs) (wk := wk) (p := p) hm n)
  intro y hy
  have l : (((roundAt wk (m.1 + n)).drop (beg m n)).take i).length ≤ i := by rw [List.length_take]; exact Nat.min_le_left ..
  rcases h y hy with a | ⟨a, b⟩
  · exact .inl a
  · exact .inr ⟨a, by omega⟩
/-- both directions, behind the moment: the walk -/
theorem dirs_walk {k : Nat} (h : Le st day k) : dirs day k st [endsOf rs x, ((endsOf rs x).2, (endsOf rs x).1)] = stepW rs day k x st := by
  show dir day k (dir day k st (endsOf rs x).1 (endsOf rs x).2) (endsOf rs x).2 (endsOf rs x).1 = _
  have le : ∀ q, q ∈ ks st → le2 (valS st q) day k := fun q hq => h _ (valS_at st q hq).2
  by_cases a : (endsOf rs x).1 ∈ ks st <;> by_cases b : (endsOf rs x).2 ∈ ks st
  · rw [stepW_tt a b]
    unfold dir
    rw [if_pos b, if_pos a]
  · rw [stepW_tf a b]
    unfold dir
    rw [if_neg b, if_pos a, if_pos (le _ a), if_pos]
    rw [ks_app]
    exact List.mem_append.mpr (.inl a)
  · rw [stepW_ft a b]
    unfold dir
    rw [if_pos b, if_neg a, if_pos b, if_pos (le _ b)]
  · rw [stepW_ff a b]
    unfold dir
    rw [if_neg b, if_neg a, if_neg a, if_neg b]
/-- .. ahead of it: nothing -/
theorem dirs_ahead {k : Int} (h : ∀ y ∈ st, ¬ le2 y.2 day k) : ∀ l, dirs day k st l = st
  | [] => rfl
  | q :: l => by
    have e : dir day k st q.1 q.2 = st := by
      unfold dir
      split
      · rfl
      · split
        · rename_i b
          rw [if_neg (h _ (valS_at st _ b).2)]
        · rfl
    show dirs day k (dir day k st q.1 q.2) l = st
    rw [e]
    exact dirs_ahead h l
/-- the state by the law's own walking: from the day's beginning on -/
def lawT (rs : List Road) (wk : List (List Str)) (p : Str) (m : Mom) (n i : Nat) : Got := mid rs wk p m n (i - beg m n)
theorem lawT_zero {n : Nat} : lawT rs wk p m n 0 = S rs wk p m n := by
  unfold lawT
  rw [Nat.zero_sub]
  rfl
theorem lawT_succ (hm : MomS wk m) {n i : Nat} (h : (roundAt wk (m.1 + n))[i]? = some x) : lawT rs wk p m n (i + 1) = dirs (m.1 + n) i (lawT rs wk p m n i) [endsOf rs x, ((endsOf rs x).2, (endsOf rs x).1)] := by
  unfold lawT
  rcases Nat.lt_or_ge i (beg m n) with lt | ge
  · rw [Nat.sub_eq_zero_of_le (Nat.le_of_lt lt), Nat.sub_eq_zero_of_le lt, dirs_ahead]
    intro y hy
    have n0 : n = 0 := by
      unfold beg at lt
      split at lt
      · assumption
      · omega
    subst n0
    have e : y = (p, m) := List.mem_singleton.mp hy
    subst e
    unfold beg at lt
    rw [if_pos rfl] at lt
    have := hm.w1
    rintro (a | ⟨a, b⟩)
    · have a' : m.1 < m.1 + ((0 : Nat) : Int) := a
      omega
    · have b' : m.2 ≤ (i : Int) := b
      omega
  · rw [show i + 1 - beg m n = (i - beg m n) + 1 by omega, mid_succ (x := x) (by rw [show beg m n + (i - beg m n) = i by omega]; exact h)]
    have l := mid_Le (rs := rs) (wk := wk) (p := p) hm.w1 n (i - beg m n)
    rw [show beg m n + (i - beg m n) = i by omega] at l ⊢
    exact (dirs_walk l).symm
theorem lawT_end {n i : Nat} (h : (roundAt wk (m.1 + n)).length ≤ i) : lawT rs wk p m n i = S rs wk p m (n + 1) := mid_end (by omega)
theorem lawT_inv (nd : (rnm rs).Nodup) (hw : WeekOk rs wk) (n i : Nat) : Inv0 rs wk p (lawT rs wk p m n i) := mid_inv nd hw n _
theorem lawT_app (n i : Nat) : ∃ t, lawT rs wk p m n i = S rs wk p m n ++ t := walkF_app ..
theorem dir_len (d k : Int) (st : Got) (h t : Str) : (dir d k st h t).length ≤ st.length + 1 := by
  unfold dir
  split
  · omega
  · split
    · split
      · rw [List.length_append]; exact Nat.le_refl _
      · omega
    · omega
theorem dirs_len (d k : Int) : ∀ (l : List (Str × Str)) (st : Got), (dirs d k st l).length ≤ st.length + l.length
  | [], st => Nat.le_refl _
  | q :: l, st => by
    have h1 := dir_len d k st q.1 q.2
    have h2 := dirs_len d k l (dir d k st q.1 q.2)
    show (dirs d k (dir d k st q.1 q.2) l).length ≤ _
    rw [List.length_cons]
    omega
theorem merge_nd : ∀ (l acc : List (Key × A)), ((acc ++ l).map (·.1)).Nodup → mergeA acc l = acc ++ l
  | [], acc, _ => (List.append_nil _).symm
  | q :: l, acc, nd => by
    have e : putA acc q.1 q.2 = acc ++ [q] := by
      unfold putA
      rw [if_neg]
      intro z
      obtain ⟨y, hy, e⟩ := List.any_eq_true.mp z
      have e' : y.1 = q.1 := of_decide_eq_true e
      rw [List.map_append, List.map_cons] at nd
      have := (List.nodup_append.mp nd).2.2 y.1 (List.mem_map.mpr ⟨y, hy, rfl⟩) q.1 (List.mem_cons_self ..)
      exact this e'
    show mergeA (putA acc q.1 q.2) l = _
    rw [e, merge_nd l (acc ++ [q]) (by rw [List.append_assoc]; exact nd), List.append_assoc]
    rfl
theorem dir_t {d k : Int} {h t : Str} (a : t ∈ ks st) : dir d k st h t = st := by
  unfold dir
  rw [if_pos a]
theorem dir_h {d k : Int} {h t : Str} (a : t ∉ ks st) (b : h ∉ ks st) : dir d k st h t = st := by
  unfold dir
  rw [if_neg a, if_neg b]
theorem dir_no {d k : Int} {h t : Str} (a : t ∉ ks st) (b : h ∈ ks st) (c : ¬ le2 (valS st h) d k) : dir d k st h t = st := by
  unfold dir
  rw [if_neg a, if_pos b, if_neg c]
theorem dir_put {d k : Int} {h t : Str} (a : t ∉ ks st) (b : h ∈ ks st) (c : le2 (valS st h) d k) : dir d k st h t = st ++ [(t, (d, k + 1))] := by
  unfold dir
  rw [if_neg a, if_pos b, if_pos c]
theorem merge_ends (nd : (rnm rs).Nodup) : mergeA [] ((rs.map fun r => ((Sum.inr r.1 : Key), endD r.2)).map fun q => (q.1, A.d q.2)) = endsA rs := by
  have e : ((rs.map fun r => ((Sum.inr r.1 : Key), endD r.2)).map fun q => (q.1, A.d q.2)) = endsA rs := by
    unfold endsA
    rw [List.map_map]
    rfl
  rw [e, merge_nd _ [] ?_, List.nil_append]
  rw [List.nil_append]
  unfold endsA
  rw [List.map_map]
  have := keys_nd nd
  rw [List.map_map] at this
  exact this
end
theorem join_chars : ∀ cs : List Nat, (Txt.join "" (cs.map fun c => (⟨#[c]⟩ : Str))).cps.toList = cs := fun cs => by
  show (Builtin.Str.glued (PySem.Str.ofString "") (cs.map fun c => (⟨#[c]⟩ : Str))).cps.toList = cs
  rw [StrLaws.glued_eq_join]
  induction cs with
  | nil => rfl
  | cons c cs ih =>
    cases cs with
    | nil => rfl
    | cons d cs =>
      have e : Str.join (PySem.Str.ofString "") ((c :: d :: cs).map fun c => (⟨#[c]⟩ : Str)) = (⟨#[c]⟩ : Str) ++ PySem.Str.ofString "" ++ Str.join (PySem.Str.ofString "") ((d :: cs).map fun c => (⟨#[c]⟩ : Str)) := rfl
      rw [e, W.KT.app_list, W.KT.app_list, ih]
      rfl
theorem sum_ones : ∀ cs : List Nat, ((cs.map fun c => (⟨#[c]⟩ : Str)).map (·.length)).sum = cs.length
  | [] => rfl
  | c :: cs => by
    rw [List.map_cons, List.map_cons, List.sum_cons, sum_ones cs, List.length_cons]
    show 1 + cs.length = _
    omega
theorem signs_len : signs.cps.toList.length = 36 := by decide +kernel
theorem letters_first : ∀ i : Nat, i < 26 → ∃ c, signs.cps.toList[i]? = some c ∧ c ∈ letters.cps.toList := by decide +kernel
theorem signs_nd : signs.cps.toList.Nodup := by decide +kernel
theorem name_ok {c d : Nat} {cs : List Nat} {s : Str} (e : s.cps.toList = c :: cs ++ [d]) (hc : c ∈ letters.cps.toList) (hs : ∀ x ∈ c :: cs ++ [d], x ∈ signs.cps.toList) (hl : cs.length ≤ 6) : NameOk s where
  one := by
    have : s.length = s.cps.toList.length := Array.length_toList.symm
    rw [this, e]
    simp
  most := by
    have : s.length = s.cps.toList.length := Array.length_toList.symm
    rw [this, e]
    simp
    omega
  first := ⟨c, by rw [e]; rfl, hc⟩
  all := fun x hx => hs x (e ▸ hx)
def TiesOk (nm : List Str) (ts : List (Str × Str)) : Prop := ∀ e ∈ ts, e.1 ∈ nm ∧ e.2 ∈ nm ∧ e.1 ≠ e.2
theorem TiesOk.nil {nm : List Str} : TiesOk nm [] := fun e h => by cases h
theorem TiesOk.snoc {nm : List Str} {ts : List (Str × Str)} {a b : Str} (h : TiesOk nm ts) (x : a ∈ nm ∧ b ∈ nm ∧ a ≠ b) : TiesOk nm (ts ++ [(a, b)]) := fun e he => by
  rcases List.mem_append.mp he with z | z
  · exact h e z
  · rw [List.mem_singleton.mp z]
    exact x
theorem TiesOk.perm {nm : List Str} {ts us : List (Str × Str)} (h : TiesOk nm ts) (p : us.Perm ts) : TiesOk nm us := fun e he => h e (p.mem_iff.mp he)
theorem names14_len : names14.length = 14 := rfl
instance (s : Str) : Decidable (∃ c, s.cps.toList[0]? = some c ∧ c ∈ letters.cps.toList) :=
  match h : s.cps.toList[0]? with
  | none => isFalse fun ⟨c, e, _⟩ => by cases e
  | some c => if m : c ∈ letters.cps.toList then isTrue ⟨c, rfl, m⟩ else isFalse fun ⟨d, e, k⟩ => m (Option.some.inj e ▸ k)
theorem names14_ok : ∀ s ∈ names14, NameOk s := by
  have a : ∀ s ∈ names14, 1 ≤ s.length ∧ s.length ≤ 8 := by decide +kernel
  have b : ∀ s ∈ names14, ∃ c, s.cps.toList[0]? = some c ∧ c ∈ letters.cps.toList := by decide +kernel
  have c : ∀ s ∈ names14, ∀ c ∈ s.cps.toList, c ∈ signs.cps.toList := by decide +kernel
  exact fun s h => ⟨(a s h).1, (a s h).2, b s h, c s h⟩
theorem names14_nd : names14.Nodup := by decide +kernel
theorem take_nd {ss : List Str} (hp : ss.Perm names14) (n : Nat) : (ss.take n).Nodup := (List.take_sublist n ss).nodup (hp.nodup_iff.mpr names14_nd)
theorem take_ok {ss : List Str} (hp : ss.Perm names14) (n : Nat) : ∀ s ∈ ss.take n, NameOk s := fun s h => names14_ok s (hp.mem_iff.mp (List.mem_of_mem_take h))
theorem take_len {ss : List Str} (hp : ss.Perm names14) {n : Nat} (h : n ≤ 14) : (ss.take n).length = n := by
  rw [List.length_take, hp.length_eq, names14_len]
  omega
/-- another one, round about -/
theorem other_ix {a d n : Int} (a0 : 0 ≤ a) (a1 : a < n) (d0 : 0 ≤ d) (d1 : d < n - 1) : 0 ≤ (a + 1 + d) % n ∧ (a + 1 + d) % n < n ∧ (a + 1 + d) % n ≠ a := by
  refine ⟨Int.emod_nonneg _ (by omega), Int.emod_lt_of_pos _ (by omega), ?_⟩
  by_cases h : a + 1 + d < n
  · rw [Int.emod_eq_of_lt (by omega) h]
    omega
  · have e : (a + 1 + d) % n = a + 1 + d - n := by
      have : (a + 1 + d - n) % n = (a + 1 + d) % n := Int.sub_emod_right _ _
      rw [← this]
      exact Int.emod_eq_of_lt (by omega) (by omega)
    rw [e]
    omega
theorem nd_get {nm : List Str} (nd : nm.Nodup) {i j : Nat} {a b : Str} (ha : nm[i]? = some a) (hb : nm[j]? = some b) (ne : i ≠ j) : a ≠ b := fun e => by
  subst e
  exact ne (nd_ix nd ha hb)
theorem strs_get {nm : List Str} {i : Int} (h0 : 0 ≤ i) (h1 : i < nm.length) : ∃ a, nm[i.toNat]? = some a ∧ (nm.map PyData.str)[i.toNat]? = some (.str a) := by
  have lt : i.toNat < nm.length := by omega
  exact ⟨nm[i.toNat], List.getElem?_eq_getElem lt, by rw [List.getElem?_map, List.getElem?_eq_getElem lt]; rfl⟩
/-- roads of names and ties -/
def mkR (rn : List Str) (us : List (Str × Str)) : List Road := List.zipWith (fun n e => (n, e.1, e.2)) rn us
theorem mkR_len {rn : List Str} {us : List (Str × Str)} (h : rn.length = us.length) : (mkR rn us).length = us.length := by
  unfold mkR
  rw [List.length_zipWith, h, Nat.min_self]
theorem mkR_nm : ∀ {rn : List Str} {us : List (Str × Str)}, rn.length = us.length → rnm (mkR rn us) = rn
  | [], [], _ => rfl
  | [], _ :: _, h => by simp at h
  | _ :: _, [], h => by simp at h
  | n :: rn, e :: us, h => by
    have := mkR_nm (rn := rn) (us := us) (by simpa using h)
    show n :: rnm (mkR rn us) = _
    rw [this]
theorem mkR_mem : ∀ {rn : List Str} {us : List (Str × Str)} {r : Road}, r ∈ mkR rn us → r.1 ∈ rn ∧ r.2 ∈ us
  | [], us, r, h => by unfold mkR at h; rw [List.zipWith_nil_left] at h; cases h
  | n :: rn, [], r, h => by cases h
  | n :: rn, e :: us, r, h => by
    rcases List.mem_cons.mp (show r ∈ (n, e.1, e.2) :: mkR rn us from h) with rfl | h
    · exact ⟨List.mem_cons_self .., List.mem_cons_self ..⟩
    · have := mkR_mem h
      exact ⟨List.mem_cons_of_mem _ this.1, List.mem_cons_of_mem _ this.2⟩
theorem web_of {nm ps rn : List Str} {us : List (Str × Str)} (hp : ps.Perm nm) (n1 : 1 ≤ nm.length) (n2 : nm.length ≤ 10) (nd : nm.Nodup) (nok : ∀ s ∈ nm, NameOk s)
    (rl : rn.length = us.length) (u14 : us.length ≤ 14) (rnd : rn.Nodup) (rok : ∀ s ∈ rn, NameOk s) (t : TiesOk nm us) : WebOk ps (mkR rn us) where
  p := ⟨by rw [hp.length_eq]; exact n1, by rw [hp.length_eq]; exact n2, fun s h => nok s (hp.mem_iff.mp h), hp.nodup_iff.mpr nd⟩
  r := {
    most := by rw [mkR_len rl]; exact u14
    nm := fun r h => rok _ (mkR_mem h).1
    a := fun r h => hp.mem_iff.mpr (t _ (mkR_mem h).2).1
    b := fun r h => hp.mem_iff.mpr (t _ (mkR_mem h).2).2.1
    ne := fun r h => (t _ (mkR_mem h).2).2.2
    nd := by rw [mkR_nm rl]; exact rnd }
/-- several ways to the same place -/
theorem viaI {X : Int → O → Prop} {G : Prop} (Q : Int → O → Prop) (k : (∀ b o, Q b o → X b o) → G) (h : ∀ b o, Q b o → X b o) : G := k h
theorem viaO {X : O → Prop} {G : Prop} (Q : O → Prop) (k : (∀ o, Q o → X o) → G) (h : ∀ o, Q o → X o) : G := k h
def roadF : Y → A
  | .two (.d n) (.d (.tuple l)) => .d (.tuple (n :: l))
  | _ => .d .none
theorem zip_road : ∀ (rn : List Str) (us : List (Str × Str)), (zipY (rn.map .str) (us.map endD)).map roadF = ((mkR rn us).map rdD).map A.d
  | [], us => by
    unfold zipY mkR
    rw [List.map_nil, List.zipWith_nil_left, List.zipWith_nil_left]
    rfl
  | n :: rn, [] => rfl
  | n :: rn, e :: us => by
    have := zip_road rn us
    unfold zipY mkR at this ⊢
    rw [List.map_cons, List.map_cons, List.zipWith_cons_cons, List.zipWith_cons_cons, List.map_cons, List.map_cons, List.map_cons, this]
    rfl
theorem zip_get {rn : List Str} {us : List (Str × Str)} {i : Nat} {y : Y} (h : (zipY (rn.map .str) (us.map endD))[i]? = some y) : ∃ n e, y = .two (.d (.str n)) (.d (endD e)) := by
  unfold zipY at h
  rw [List.getElem?_zipWith, List.getElem?_map, List.getElem?_map] at h
  cases a : rn[i]? with
  | none => rw [a] at h; cases h
  | some n =>
    cases b : us[i]? with
    | none => rw [a, b] at h; cases h
    | some e =>
      rw [a, b] at h
      exact ⟨n, e, (Option.some.inj h).symm⟩
theorem zip_len (rn : List Str) (us : List (Str × Str)) : (zipY (rn.map .str) (us.map endD)).length ≤ us.length := by
  unfold zipY
  rw [List.length_zipWith, List.length_map, List.length_map]
  exact Nat.min_le_right ..
/-- names that end with the signs in their sequence -/
def EndsAs (nm : List Str) : Prop := ∀ (i : Nat) s, nm[i]? = some s → NameOk s ∧ s.cps.toList.getLast? = signs.cps.toList[i]?
theorem EndsAs.nil : EndsAs [] := fun i s h => by simp at h
theorem EndsAs.snoc {nm : List Str} {s : Str} (h : EndsAs nm) (a : NameOk s) (b : s.cps.toList.getLast? = signs.cps.toList[nm.length]?) : EndsAs (nm ++ [s]) := fun i u hu => by
  rcases Nat.lt_trichotomy i nm.length with lt | rfl | gt
  · rw [List.getElem?_append_left lt] at hu
    exact h i u hu
  · rw [List.getElem?_append_right (Nat.le_refl _), Nat.sub_self] at hu
    obtain rfl := Option.some.inj hu
    exact ⟨a, b⟩
  · rw [List.getElem?_eq_none (by rw [List.length_append]; simp; omega)] at hu
    cases hu
theorem EndsAs.ok {nm : List Str} (h : EndsAs nm) : ∀ s ∈ nm, NameOk s := fun s hs => by
  obtain ⟨i, hi⟩ := List.mem_iff_getElem?.mp hs
  exact (h i s hi).1
theorem EndsAs.nodup {nm : List Str} (h : EndsAs nm) (l : nm.length ≤ 36) : nm.Nodup := by
  refine List.pairwise_iff_getElem.mpr fun i j hi hj ij e => ?_
  have a := (h i _ (List.getElem?_eq_getElem hi)).2
  have b := (h j _ (List.getElem?_eq_getElem hj)).2
  rw [e, b] at a
  have lj : j < signs.cps.toList.length := by rw [signs_len]; omega
  have li : i < signs.cps.toList.length := by omega
  rw [List.getElem?_eq_getElem lj] at a
  have := nd_ix signs_nd (List.getElem?_eq_getElem lj) a.symm
  omega
theorem mkR_snoc {rn : List Str} {us : List (Str × Str)} {n : Str} {e : Str × Str} (h : rn.length = us.length) : mkR (rn ++ [n]) (us ++ [e]) = mkR rn us ++ [(n, e.1, e.2)] := by
  unfold mkR
  rw [List.zipWith_append h]
  rfl
/-! ### the sizes of what is told -/
def Bd (st : Got) (D : Int) : Prop := ∀ x ∈ st, (0 ≤ x.2.1 ∧ x.2.1 ≤ D) ∧ 0 ≤ x.2.2 ∧ x.2.2 ≤ 20
theorem stepW_bd {rs : List Road} {day D : Int} {k : Nat} {n : Str} {st : Got} (h : Bd st D) (d0 : 0 ≤ day) (d1 : day ≤ D) (hk : k < 20) : Bd (stepW rs day k n st) D := by
  unfold stepW
  split
  · intro x hx
    rcases List.mem_append.mp hx with z | z
    · exact h x z
    · rw [List.mem_singleton.mp z]
      refine ⟨⟨d0, d1⟩, ?_, ?_⟩
      · show (0 : Int) ≤ (k : Int) + 1
        omega
      · show (k : Int) + 1 ≤ 20
        omega
  · exact h
theorem walkF_bd {rs : List Road} {day D : Int} (d0 : 0 ≤ day) (d1 : day ≤ D) : ∀ (ns : List Str) (k : Nat) (st : Got), Bd st D → k + ns.length ≤ 20 → Bd (walkF rs day k ns st) D
  | [], _, _, h, _ => h
  | n :: ns, k, st, h, hl => by
    rw [List.length_cons] at hl
    exact walkF_bd d0 d1 ns (k + 1) _ (stepW_bd h d0 d1 (by omega)) (by omega)
theorem S_bd {rs : List Road} {wk : List (List Str)} {p : Str} {m : Mom} (hw : WeekOk rs wk) (r14 : rs.length ≤ 14) (hm : MomS wk m) : ∀ n, Bd (S rs wk p m n) (m.1 + n)
  | 0 => fun x hx => by
    rw [List.mem_singleton.mp hx]
    have := hm.d1
    have := hm.w1
    have := hm.w2
    have := round_len hw m.1
    exact ⟨⟨by show 0 ≤ m.1; omega, by show m.1 ≤ m.1 + ((0 : Nat) : Int); omega⟩, by show 0 ≤ m.2; omega, by show m.2 ≤ 20; omega⟩
  | n + 1 => by
    have h := S_bd (p := p) hw r14 hm n
    have := hm.d1
    have hl := round_len hw (m.1 + n)
    have hb := beg_le hm n
    have h2 := walkF_bd (rs := rs) (day := m.1 + n) (D := m.1 + n) (by omega) (Int.le_refl _) ((roundAt wk (m.1 + n)).drop (beg m n)) (beg m n) _ h (by rw [List.length_drop]; omega)
    intro x hx
    obtain ⟨⟨a, b⟩, c, d⟩ := h2 x hx
    exact ⟨⟨a, by omega⟩, c, d⟩
/-- small enough to be shown -/
structure Sml (d : PyData) : Prop where
  sh : d.showable = true
  nd : d.hasDict = false
  dp : d.depth ≤ 2
  cl : d.canLay0 = true
  wt : d.weight ≤ 1000
  si : d.intsShort 13 = true
theorem int_small {i : Int} (h0 : 0 ≤ i) (h1 : i < 10 ^ 9) : i.natAbs.log2 < 30 := by
  by_cases z : i.natAbs = 0
  · rw [z]
    decide
  · exact (Nat.log2_lt z).mpr (by omega)
theorem sml_none : Sml .none := ⟨rfl, rfl, by simp [PyData.depth], rfl, by simp [PyData.weight], rfl⟩
theorem sml_mom {m : Mom} (a0 : 0 ≤ m.1) (a1 : m.1 < 10 ^ 9) (b0 : 0 ≤ m.2) (b1 : m.2 < 10 ^ 9) : Sml (momD m) := by
  have la := int_small a0 a1
  have lb := int_small b0 b1
  have na : (PyData.shown (.int m.1)).length ≤ 10 := by
    have := PySem.W.KT.len_num a0 (Int.lt_trans a1 (by decide))
    simpa only [PyData.shown] using this
  have nb : (PyData.shown (.int m.2)).length ≤ 10 := by
    have := PySem.W.KT.len_num b0 (Int.lt_trans b1 (by decide))
    simpa only [PyData.shown] using this
  unfold momD
  refine ⟨?_, ?_, ?_, ?_, ?_, ?_⟩
  · simp only [PyData.showable, PyData.showableAll, Bool.and_true, Bool.and_eq_true, decide_eq_true_eq]
    omega
  · simp only [PyData.hasDict, PyData.hasDictAll, Bool.or_self]
  · simp [PyData.depth, PyData.depthAll]
  · simp [PyData.canLay0, PyData.canLayAll0]
  · simp only [PyData.weight, PyData.weightAll]
    split <;> split <;> omega
  · simp only [PyData.intsShort, PyData.intsShortAll, Bool.and_true, Bool.and_eq_true, decide_eq_true_eq]
    omega
theorem sml_all : ∀ ds : List PyData, (∀ d ∈ ds, Sml d) → PyData.showableAll ds = true ∧ PyData.hasDictAll ds = false ∧ PyData.depthAll ds ≤ 2 ∧ PyData.canLayAll0 ds = true ∧ PyData.weightAll ds ≤ 1001 * ds.length ∧ PyData.intsShortAll 13 ds = true
  | [], _ => ⟨rfl, rfl, by simp [PyData.depthAll], rfl, by simp [PyData.weightAll], rfl⟩
  | d :: ds, h => by
    have s := h d (List.mem_cons_self ..)
    obtain ⟨a, b, c, e, f, g⟩ := sml_all ds fun x hx => h x (List.mem_cons_of_mem _ hx)
    refine ⟨?_, ?_, ?_, ?_, ?_, ?_⟩
    · simp only [PyData.showableAll, s.sh, a, Bool.and_self]
    · simp only [PyData.hasDictAll, s.nd, b, Bool.or_self]
    · have := s.dp
      simp only [PyData.depthAll]
      omega
    · simp only [PyData.canLayAll0, s.cl, e, Bool.and_self]
    · have := s.wt
      simp only [PyData.weightAll, List.length_cons]
      omega
    · simp only [PyData.intsShortAll, s.si, g, Bool.and_self]
theorem sml_shown {ds : List PyData} (h : ∀ d ∈ ds, Sml d) (hl : ds.length ≤ 10) : (PyData.list ds).showable = true ∧ (PyData.list ds).hasDict = false ∧ (PyData.list ds).depth ≤ 60 ∧ (PyData.list ds).shown.length ≤ sizeLine := by
  obtain ⟨a, b, c, e, f, g⟩ := sml_all ds h
  have dp : (PyData.list ds).depth ≤ 3 := by
    simp only [PyData.depth]
    omega
  refine ⟨by simpa only [PyData.showable] using a, by simpa only [PyData.hasDict] using b, by omega, ?_⟩
  refine Nat.le_trans (shown_le13 ?_ (by simpa only [PyData.intsShort] using g)) (by decide)
  unfold PyData.layable0
  simp only [Bool.and_eq_true, decide_eq_true_eq]
  refine ⟨⟨by simpa only [PyData.canLay0] using e, by omega⟩, ?_⟩
  simp only [PyData.weight]
  have : (2 : Nat) ^ 20 = 1048576 := by decide
  omega
theorem told_shown {ps : List Str} {rs : List Road} {wk : List (List Str)} {p : Str} {m : Mom} (ok : WebOk ps rs) (hw : WeekOk rs wk) (hm : MomOk wk m) {N : Nat} (hN : N ≤ 60) :
    (PyData.list (ps.map (gotD (S rs wk p m N)))).showable = true ∧ (PyData.list (ps.map (gotD (S rs wk p m N)))).hasDict = false ∧ (PyData.list (ps.map (gotD (S rs wk p m N)))).depth ≤ 60 ∧ (PyData.list (ps.map (gotD (S rs wk p m N)))).shown.length ≤ sizeLine := by
  refine sml_shown (fun d hd => ?_) (by rw [List.length_map]; exact ok.p.most)
  obtain ⟨q, _, rfl⟩ := List.mem_map.mp hd
  unfold gotD
  cases e : (S rs wk p m N).find? fun x => decide (x.1 = q) with
  | none => exact sml_none
  | some x =>
    obtain ⟨⟨a, b⟩, c, d⟩ := S_bd (p := p) hw ok.r.most hm.toMomS N x (List.mem_of_find?_eq_some e)
    have := hm.d2
    exact sml_mom a (by omega) c (by omega)
def R_law : DR := fun xs μ Pk _ => ∃ ns : List Int, xs = [.d (.list (ns.map .int))] ∧ μ = [] ∧ ns.length ≤ 63 ∧ Pk (.d (.bool true)) []
def RK_arrivals : DR := fun xs μ Pk Ex => ∃ a b c d, xs = [a, b, c, d] ∧ R_arrivals [d, c, b, a] μ Pk Ex
def R__law_big_web : DR := R__law_web
/-! ### so many days later -/
def shM (D : Int) (x : Mom) : Mom := (x.1 + D, x.2)
def sh (D : Int) (st : Got) : Got := st.map fun q => (q.1, shM D q.2)
theorem ks_sh (D : Int) (st : Got) : ks (sh D st) = ks st := by
  unfold ks sh
  rw [List.map_map]
  rfl
theorem stepW_sh (rs : List Road) (D day : Int) (k : Nat) (n : Str) (st : Got) : stepW rs (day + D) k n (sh D st) = sh D (stepW rs day k n st) := by
  unfold stepW
  rw [ks_sh]
  split
  · unfold sh
    rw [List.map_append]
    rfl
  · rfl
theorem walkF_sh (rs : List Road) (D day : Int) : ∀ (ns : List Str) (k : Nat) (st : Got), walkF rs (day + D) k ns (sh D st) = sh D (walkF rs day k ns st)
  | [], _, _ => rfl
  | n :: ns, k, st => by
    show walkF rs (day + D) (k + 1) ns (stepW rs (day + D) k n (sh D st)) = _
    rw [stepW_sh]
    exact walkF_sh rs D day ns (k + 1) _
theorem round_one (r : List Str) (d : Int) : roundAt [r] d = r := by
  unfold roundAt
  rw [show (([r] : List (List Str)).length : Int) = 1 from rfl, Int.emod_one]
  rfl
theorem S_sh (rs : List Road) (r : List Str) (p : Str) (m : Mom) (D : Int) : ∀ n, S rs [r] p (shM D m) n = sh D (S rs [r] p m n)
  | 0 => rfl
  | n + 1 => by
    show walkF rs ((m.1 + D) + n) (if n = 0 then m.2.toNat else 0) ((roundAt [r] ((m.1 + D) + n)).drop (if n = 0 then m.2.toNat else 0)) (S rs [r] p (shM D m) n) = sh D (walkF rs (m.1 + n) (if n = 0 then m.2.toNat else 0) ((roundAt [r] (m.1 + n)).drop (if n = 0 then m.2.toNat else 0)) (S rs [r] p m n))
    rw [round_one, round_one, S_sh rs r p m D n, show m.1 + D + (n : Int) = (m.1 + n) + D by omega]
    exact walkF_sh rs D (m.1 + n) _ _ _
theorem sh_inj {D : Int} : ∀ {a b : Got}, sh D a = sh D b → a = b
  | [], [], _ => rfl
  | [], _ :: _, h => by cases h
  | _ :: _, [], h => by cases h
  | x :: a, y :: b, h => by
    have h' : (x.1, shM D x.2) = (y.1, shM D y.2) ∧ sh D a = sh D b := by
      have := h
      unfold sh at this
      rw [List.map_cons, List.map_cons] at this
      exact List.cons_eq_cons.mp this
    rw [sh_inj h'.2]
    have e1 := (Prod.mk.inj h'.1).1
    have e2 := Prod.mk.inj (Prod.mk.inj h'.1).2
    have e3 : x.2.1 = y.2.1 := by have := e2.1; omega
    have e4 : x.2.2 = y.2.2 := e2.2
    have : x = y := Prod.ext e1 (Prod.ext e3 e4)
    rw [this]
theorem final_sh {rs : List Road} {r : List Str} {p : Str} {m : Mom} {D : Int} {N N' : Nat} (h : Final rs [r] p m (S rs [r] p m N)) (h' : Final rs [r] p (shM D m) (S rs [r] p (shM D m) N')) : S rs [r] p (shM D m) N' = sh D (S rs [r] p m N) := by
  obtain ⟨M, e, st⟩ := h'
  have f : Final rs [r] p m (S rs [r] p m N') := by
    refine ⟨M, ?_, fun L hL => ?_⟩
    · rw [S_sh, S_sh] at e
      exact sh_inj e
    · have := st L hL
      rw [S_sh, S_sh] at this
      exact sh_inj this
  rw [S_sh, f.one h]
theorem valS_nd : ∀ {st : Got} {x : Str × Mom}, (ks st).Nodup → x ∈ st → valS st x.1 = x.2
  | y :: st, x, nd, h => by
    have nd' := List.nodup_cons.mp nd
    unfold valS
    rw [List.find?_cons]
    by_cases e : y.1 = x.1
    · rw [decide_eq_true e]
      rcases List.mem_cons.mp h with rfl | h
      · rfl
      · exact absurd (show y.1 ∈ ks st by rw [e]; exact List.mem_map.mpr ⟨x, h, rfl⟩) nd'.1
    · rw [decide_eq_false e]
      rcases List.mem_cons.mp h with rfl | h
      · exact absurd rfl e
      · exact valS_nd nd'.2 h
theorem val_at {st : Got} {x : Str × Mom} (nd : (ks st).Nodup) (h : x ∈ st) : valA (stA st) (.inr x.1) = some (.d (momD x.2)) := by
  have := (valS_at st x.1 (List.mem_map.mpr ⟨x, h, rfl⟩)).1
  rwa [valS_nd nd h] at this
theorem val_sh {st : Got} {x : Str × Mom} {D : Int} (nd : (ks st).Nodup) (h : x ∈ st) : valA (stA (sh D st)) (.inr x.1) = some (.d (momD (shM D x.2))) :=
  val_at (x := (x.1, shM D x.2)) (by rw [ks_sh]; exact nd) (List.mem_map.mpr ⟨x, h, rfl⟩)
theorem ones_st (st : Got) : (stA st).map (fun p => Y.one (kD p.1)) = ones st (fun x => .str x.1) := by
  unfold stA
  rw [List.map_map]
  rfl
/-! ### promises -/
structure RotaOk (rs : List Road) (r : List Str) : Prop where
  ok : RoundOk rs r
  len : r.length = rs.length
theorem RotaOk.week {rs : List Road} {r : List Str} (h : RotaOk rs r) : WeekOk rs [r] := ⟨Nat.le_refl _, by show 1 ≤ 4; omega, fun x hx => by rw [List.mem_singleton.mp hx]; exact h.ok⟩
theorem rota_of {rs : List Road} {ss : List Str} (nd : (rnm rs).Nodup) (hp : ss.Perm (rnm rs)) : RotaOk rs ss := ⟨⟨hp.nodup_iff.mpr nd, fun n hn => hp.mem_iff.mp hn⟩, by rw [hp.length_eq, List.length_map]⟩
def R_is_rota : DR := fun xs μ Pk _ => ∃ ps rs r, xs = [.d (webD ps rs), .d (roundD r)] ∧ μ = [] ∧ rs.length ≤ 14 ∧ RotaOk rs r ∧ Pk (.d (.bool true)) []
def R_need_rota : DR := fun xs μ Pk _ => ∃ ps rs r, xs = [.d (webD ps rs), .d (roundD r)] ∧ μ = [] ∧ rs.length ≤ 14 ∧ RotaOk rs r ∧ Pk (.d .none) []
def lagL (D : Int) (st : Got) : List (Str × PyData) := st.map fun x => (x.1, .int D)
def belL (D : Int) (st : Got) : List (Str × PyData) := if D = 0 then [] else st.map fun x => (x.1, .tuple [momD x.2, momD (shM D x.2)])
def R_lags : DR := fun xs μ Pk _ => ∃ ps rs r p m D, xs = [.d (webD ps rs), .d (roundD r), .d (.str p), .d (momD m), .d (momD (shM D m))] ∧ μ = [] ∧ WebOk ps rs ∧ RotaOk rs r ∧ p ∈ ps ∧ MomOk [r] m ∧ MomOk [r] (shM D m) ∧ 0 ≤ D ∧
  ∀ N, N ≤ 50 → Final rs [r] p m (S rs [r] p m N) → (Pk (.d (.list (ps.map (lookD (lagL D (S rs [r] p m N)))))) [] ∨ Pk (.c 0) [.lst ((ps.map (lookD (lagL D (S rs [r] p m N)))).map A.d)])
def R_beliefs : DR := fun xs μ Pk _ => ∃ ps rs r p m D, xs = [.d (webD ps rs), .d (weekD [r]), .d (.str p), .d (momD m), .d (.str p), .d (momD (shM D m))] ∧ μ = [] ∧ WebOk ps rs ∧ RotaOk rs r ∧ p ∈ ps ∧ MomOk [r] m ∧ MomOk [r] (shM D m) ∧ 0 ≤ D ∧
  ∀ N, N ≤ 50 → Final rs [r] p m (S rs [r] p m N) → Pk (.d (.list (ps.map (lookD (belL D (S rs [r] p m N)))))) []
def R__law_some_web : DR := fun xs μ Pk _ => ∃ o k, ∃ way : Str, xs = [.c 0, .d (.str way)] ∧ μ = [o] ∧ FD k o ∧ k < 10 ^ 15 ∧
  ∀ ps rs o', WebOk ps rs → FD (k + 300) o' → Pk (.d (webD ps rs)) [o']
def R__law_any_web : DR := fun xs μ Pk _ => ∃ o k, xs = [.c 0] ∧ μ = [o] ∧ FD k o ∧ k < 10 ^ 14 ∧
  ∀ ps rs o', WebOk ps rs → FD (k + 400) o' → Pk (.d (webD ps rs)) [o']
def R__law_listed : DR := fun xs μ Pk _ => ∃ ps rs l, xs = [.d (webD ps rs), .c 0] ∧ μ = [.dct (dA l)] ∧ ps.length ≤ 10 ∧ Pk (.d (.list (ps.map (lookD l)))) [.dct (dA l)]
theorem bel_put {D : Int} {st : Got} {x : Str × Mom} {i : Nat} (D0 : D ≠ 0) (nd : (ks st).Nodup) (hx : st[i]? = some x) :
    putA (dA (belL D (st.take i))) (.inr x.1) (.d (.tuple [momD x.2, momD (shM D x.2)])) = dA (belL D (st.take (i + 1))) := by
  unfold dA belL
  rw [if_neg D0, if_neg D0, take_get hx, List.map_append, List.map_append, List.map_map, putA_new]
  · rfl
  · intro y hy e
    have e' : y.1 = x.1 := Sum.inr.inj e
    obtain ⟨j, hj⟩ := List.mem_iff_getElem?.mp hy
    rw [List.getElem?_take] at hj
    split at hj
    · rename_i lj
      have a1 : (ks st)[j]? = some x.1 := by rw [List.getElem?_map, hj]; exact congrArg some e'
      have a2 : (ks st)[i]? = some x.1 := by rw [List.getElem?_map, hx]; rfl
      have := nd_ix nd a1 a2
      omega
    · cases hj
theorem fr_big {μ : Mu} {P : DK} {Ex : DX} {n : Nat} {o : O} {k : Int} {way : Str} (h : μ[n]? = some o) (hk : FD k o) (k1 : k < 10 ^ 16) (q : ∀ ps rs o', WebOk ps rs → FD (k + 200) o' → P (.d (webD ps rs)) (μ.set n o')) : FR R__law_big_web [.c n, .d (.str way)] μ P Ex :=
  fr_feed [_] h hk.dO ⟨o, k, way, rfl, rfl, hk, k1, fun ps rs o' h1 hk' => bkf hk'.dO (q ps rs o' h1 hk')⟩
theorem fr_someW {μ : Mu} {P : DK} {Ex : DX} {n : Nat} {o : O} {k : Int} {way : Str} (h : μ[n]? = some o) (hk : FD k o) (k1 : k < 10 ^ 15) (q : ∀ ps rs o', WebOk ps rs → FD (k + 300) o' → P (.d (webD ps rs)) (μ.set n o')) : FR R__law_some_web [.c n, .d (.str way)] μ P Ex :=
  fr_feed [_] h hk.dO ⟨o, k, way, rfl, rfl, hk, k1, fun ps rs o' h1 hk' => bkf hk'.dO (q ps rs o' h1 hk')⟩
theorem fr_any {μ : Mu} {P : DK} {Ex : DX} {n : Nat} {o : O} {k : Int} (h : μ[n]? = some o) (hk : FD k o) (k1 : k < 10 ^ 14) (q : ∀ ps rs o', WebOk ps rs → FD (k + 400) o' → P (.d (webD ps rs)) (μ.set n o')) : FR R__law_any_web [.c n] μ P Ex :=
  fr_feed [] h hk.dO ⟨o, k, rfl, rfl, hk, k1, fun ps rs o' h1 hk' => bkf hk'.dO (q ps rs o' h1 hk')⟩
def gotL (st : Got) : List (Str × PyData) := st.map fun x => (x.1, momD x.2)
theorem stA_dA (st : Got) : stA st = dA (gotL st) := by
  unfold stA dA gotL
  rw [List.map_map]
  rfl
theorem lookD_map (f : Mom → PyData) : ∀ (st : Got) (q : Str), (q ∉ ks st ∧ lookD (st.map fun x => (x.1, f x.2)) q = .none) ∨ (q ∈ ks st ∧ lookD (st.map fun x => (x.1, f x.2)) q = f (valS st q))
  | [], q => .inl ⟨(fun h => by cases h), rfl⟩
  | x :: st, q => by
    unfold lookD valS
    rw [List.map_cons, List.find?_cons, List.find?_cons]
    by_cases e : x.1 = q
    · rw [decide_eq_true e]
      exact .inr ⟨List.mem_cons.mpr (.inl e.symm), rfl⟩
    · rw [decide_eq_false e]
      rcases lookD_map f st q with ⟨h1, h2⟩ | ⟨h1, h2⟩
      · exact .inl ⟨fun z => by
          rcases List.mem_cons.mp z with z | z
          · exact e z.symm
          · exact h1 z, h2⟩
      · exact .inr ⟨List.mem_cons_of_mem _ h1, h2⟩
theorem three_ways (st : Got) (D : Int) (q : Str) : (lookD (gotL st) q = .none ∧ lookD (lagL D st) q = .none ∧ lookD (belL D st) q = .none) ∨
    ∃ x, (q, x) ∈ st ∧ lookD (gotL st) q = momD x ∧ lookD (lagL D st) q = .int D ∧ lookD (belL D st) q = if D = 0 then .none else .tuple [momD x, momD (shM D x)] := by
  have a := lookD_map (fun x => momD x) st q
  have b := lookD_map (fun _ => .int D) st q
  have c := lookD_map (fun x => .tuple [momD x, momD (shM D x)]) st q
  by_cases h : q ∈ ks st
  · refine .inr ⟨valS st q, (valS_at st q h).2, (a.resolve_left fun z => z.1 h).2, (b.resolve_left fun z => z.1 h).2, ?_⟩
    unfold belL
    by_cases D0 : D = 0
    · rw [if_pos D0, if_pos D0]
      rfl
    · rw [if_neg D0, if_neg D0]
      exact (c.resolve_left fun z => z.1 h).2
  · refine .inl ⟨(a.resolve_right fun z => h z.1).2, (b.resolve_right fun z => h z.1).2, ?_⟩
    unfold belL
    by_cases D0 : D = 0
    · rw [if_pos D0]
      rfl
    · rw [if_neg D0]
      exact (c.resolve_right fun z => h z.1).2
theorem sml_int {i : Int} (a0 : 0 ≤ i) (a1 : i < 10 ^ 9) : Sml (.int i) := by
  have la := int_small a0 a1
  have na : (PyData.shown (.int i)).length ≤ 10 := by
    have := PySem.W.KT.len_num a0 (Int.lt_trans a1 (by decide))
    simpa only [PyData.shown] using this
  refine ⟨?_, ?_, ?_, ?_, ?_, ?_⟩
  · simp only [PyData.showable, decide_eq_true_eq]
    omega
  · simp only [PyData.hasDict]
  · simp [PyData.depth]
  · simp [PyData.canLay0]
  · simp only [PyData.weight]
    split <;> omega
  · simp only [PyData.intsShort, decide_eq_true_eq]
    omega
theorem sml_two {m n : Mom} (a0 : 0 ≤ m.1) (a1 : m.1 < 10 ^ 9) (b0 : 0 ≤ m.2) (b1 : m.2 < 10 ^ 9) (c0 : 0 ≤ n.1) (c1 : n.1 < 10 ^ 9) (d0 : 0 ≤ n.2) (d1 : n.2 < 10 ^ 9) : Sml (.tuple [momD m, momD n]) := by
  have s := sml_mom a0 a1 b0 b1
  have t := sml_mom c0 c1 d0 d1
  have dm : ∀ x : Mom, (momD x).depth ≤ 1 := fun x => by
    unfold momD
    simp [PyData.depth, PyData.depthAll]
  have wm : ∀ x : Mom, 0 ≤ x.1 → x.1 < 10 ^ 9 → 0 ≤ x.2 → x.2 < 10 ^ 9 → (momD x).weight ≤ 100 := fun x h1 h2 h3 h4 => by
    have la := int_small h1 h2
    have lb := int_small h3 h4
    unfold momD
    simp only [PyData.weight, PyData.weightAll]
    split <;> split <;> omega
  refine ⟨?_, ?_, ?_, ?_, ?_, ?_⟩
  · simp only [PyData.showable, PyData.showableAll, s.sh, t.sh, Bool.and_self]
  · simp only [PyData.hasDict, PyData.hasDictAll, s.nd, t.nd, Bool.or_self]
  · have := dm m
    have := dm n
    simp only [PyData.depth, PyData.depthAll]
    omega
  · simp only [PyData.canLay0, PyData.canLayAll0, s.cl, t.cl, Bool.and_self]
  · have := wm m a0 a1 b0 b1
    have := wm n c0 c1 d0 d1
    simp only [PyData.weight, PyData.weightAll]
    omega
  · simp only [PyData.intsShort, PyData.intsShortAll, s.si, t.si, Bool.and_self]
abbrev Shown (d : PyData) : Prop := d.showable = true ∧ d.hasDict = false ∧ d.depth ≤ 60 ∧ d.shown.length ≤ sizeLine
theorem lag_shown {ps : List Str} {rs : List Road} {wk : List (List Str)} {p : Str} {m : Mom} {D : Int} (ok : WebOk ps rs) (hw : WeekOk rs wk) (hm : MomOk wk m) {N : Nat} (hN : N ≤ 60) (d0 : 0 ≤ D) (d1 : D ≤ 1000000) :
    Shown (.list (ps.map (lookD (lagL D (S rs wk p m N))))) ∧ Shown (.list (ps.map (lookD (belL D (S rs wk p m N))))) := by
  have bd := S_bd (p := p) hw ok.r.most hm.toMomS N
  have := hm.d2
  refine ⟨sml_shown (fun d hd => ?_) (by rw [List.length_map]; exact ok.p.most), sml_shown (fun d hd => ?_) (by rw [List.length_map]; exact ok.p.most)⟩
  · obtain ⟨q, _, rfl⟩ := List.mem_map.mp hd
    rcases three_ways (S rs wk p m N) D q with ⟨_, e, _⟩ | ⟨x, hx, _, e, _⟩
    · rw [e]
      exact sml_none
    · rw [e]
      exact sml_int d0 (by omega)
  · obtain ⟨q, _, rfl⟩ := List.mem_map.mp hd
    rcases three_ways (S rs wk p m N) D q with ⟨_, _, e⟩ | ⟨x, hx, _, _, e⟩
    · rw [e]
      exact sml_none
    · rw [e]
      split
      · exact sml_none
      · obtain ⟨⟨a, b⟩, c, d⟩ := bd _ hx
        have a' : 0 ≤ x.1 := a
        have b' : x.1 ≤ m.1 + (N : Int) := b
        have c' : 0 ≤ x.2 := c
        have d' : x.2 ≤ 20 := d
        exact sml_two a' (by omega) c' (by omega) (by show 0 ≤ x.1 + D; omega) (by show x.1 + D < 10 ^ 9; omega) c' (by show x.2 < 10 ^ 9; omega)
def R__law_right : DR := fun xs μ Pk _ => ∃ o k, xs = [.c 0] ∧ μ = [o] ∧ FD k o ∧ k < 10 ^ 13 ∧ ∀ o', FD (k + 500) o' → Pk (.d (.bool true)) [o']
theorem fr_right {μ : Mu} {P : DK} {Ex : DX} {n : Nat} {o : O} {k : Int} (h : μ[n]? = some o) (hk : FD k o) (k1 : k < 10 ^ 13) (q : ∀ o', FD (k + 500) o' → P (.d (.bool true)) (μ.set n o')) : FR R__law_right [.c n] μ P Ex :=
  fr_feed [] h hk.dO ⟨o, k, rfl, rfl, hk, k1, fun o' hk' => bkf hk'.dO (q o' hk')⟩
def RK_lags : DR := fun xs μ Pk Ex => ∃ a b c d e, xs = [a, b, c, d, e] ∧ R_lags [e, d, c, b, a] μ Pk Ex
theorem fr_listedL {μ : Mu} {P : DK} {Ex : DX} {n : Nat} {ps : List Str} {rs : List Road} {st : Got} (h : μ[n]? = some (.dct (stA st))) (p10 : ps.length ≤ 10) (q : P (.d (.list (ps.map (lookD (gotL st))))) (μ.set n (.dct (stA st)))) : FR R__law_listed [.d (webD ps rs), .c n] μ P Ex := by
  rw [stA_dA] at h q
  refine ⟨[n], [.d (webD ps rs), .c 0], [.dct (dA (gotL st))], pick1 h (dO_dA _), rfl, ?_, ps, rs, gotL st, rfl, rfl, p10, bkf (dO_dA _) q⟩
  rintro z hz
  rcases List.mem_cons.mp hz with rfl | hz
  · trivial
  · rw [List.mem_singleton.mp hz]
    exact Nat.zero_lt_one
/-! ### the big web's names -/
def plT : List Str := ["zz", "", "a0"]
def plN (i : Nat) (t : Str) : Str := (("place" : Str) ++ (toString (0 + (i : Int)) : String)) ++ t
def rdN (i r : Nat) : Str := (("road" : Str) ++ (toString (0 + (i : Int)) : String)) ++ cutS "xyz" none (some (r : Int))
def okB (s : Str) : Bool := decide (1 ≤ s.length) && (decide (s.length ≤ 8) && ((match s.cps.toList[0]? with
  | some c => decide (c ∈ letters.cps.toList)
  | none => false) && s.cps.toList.all fun c => decide (c ∈ signs.cps.toList)))
theorem okB_ok {s : Str} (h : okB s = true) : NameOk s := by
  unfold okB at h
  simp only [Bool.and_eq_true, decide_eq_true_eq] at h
  obtain ⟨h1, h2, h3, h4⟩ := h
  refine ⟨h1, h2, ?_, fun c hc => of_decide_eq_true (List.all_eq_true.mp h4 c hc)⟩
  cases e : s.cps.toList[0]? with
  | none => rw [e] at h3; cases h3
  | some c =>
    rw [e] at h3
    exact ⟨c, rfl, of_decide_eq_true h3⟩
theorem plN_ok : ∀ i : Nat, i < 10 → ∀ t ∈ plT, okB (plN i t) = true := by decide +kernel
theorem plN_ne : ∀ i : Nat, i < 10 → ∀ j : Nat, j < 10 → ∀ t ∈ plT, ∀ u ∈ plT, plN i t = plN j u → i = j := by decide +kernel
theorem rdN_ok : ∀ i : Nat, i < 14 → ∀ r : Nat, r < 3 → okB (rdN i r) = true := by decide +kernel
theorem rdN_ne : ∀ i : Nat, i < 14 → ∀ j : Nat, j < 14 → ∀ r : Nat, r < 3 → ∀ u : Nat, u < 3 → rdN i r = rdN j u → i = j := by decide +kernel
def PlN (nm : List Str) : Prop := ∀ (i : Nat) s, nm[i]? = some s → ∃ t ∈ plT, s = plN i t
def RdN (rn : List Str) : Prop := ∀ (i : Nat) s, rn[i]? = some s → ∃ r, r < 3 ∧ s = rdN i r
theorem snoc_get {α : Type} {l : List α} {x u : α} {i : Nat} (h : (l ++ [x])[i]? = some u) : l[i]? = some u ∨ (i = l.length ∧ u = x) := by
  rcases Nat.lt_trichotomy i l.length with lt | rfl | gt
  · rw [List.getElem?_append_left lt] at h
    exact .inl h
  · rw [List.getElem?_append_right (Nat.le_refl _), Nat.sub_self] at h
    exact .inr ⟨rfl, (Option.some.inj h).symm⟩
  · rw [List.getElem?_eq_none (by rw [List.length_append]; simp; omega)] at h
    cases h
theorem PlN.snoc {nm : List Str} {t : Str} (h : PlN nm) (ht : t ∈ plT) : PlN (nm ++ [plN nm.length t]) := fun i s hs => by
  rcases snoc_get hs with e | ⟨rfl, rfl⟩
  · exact h i s e
  · exact ⟨t, ht, rfl⟩
theorem RdN.snoc {nm : List Str} {r : Nat} (h : RdN nm) (hr : r < 3) : RdN (nm ++ [rdN nm.length r]) := fun i s hs => by
  rcases snoc_get hs with e | ⟨rfl, rfl⟩
  · exact h i s e
  · exact ⟨r, hr, rfl⟩
theorem PlN.ok {nm : List Str} (h : PlN nm) (l : nm.length ≤ 10) : ∀ s ∈ nm, NameOk s := fun s hs => by
  obtain ⟨i, hi⟩ := List.mem_iff_getElem?.mp hs
  have lt := (List.getElem?_eq_some_iff.mp hi).1
  obtain ⟨t, ht, rfl⟩ := h i s hi
  exact okB_ok (plN_ok i (by omega) t ht)
theorem RdN.ok {nm : List Str} (h : RdN nm) (l : nm.length ≤ 14) : ∀ s ∈ nm, NameOk s := fun s hs => by
  obtain ⟨i, hi⟩ := List.mem_iff_getElem?.mp hs
  have lt := (List.getElem?_eq_some_iff.mp hi).1
  obtain ⟨t, ht, rfl⟩ := h i s hi
  exact okB_ok (rdN_ok i (by omega) t ht)
theorem PlN.nd {nm : List Str} (h : PlN nm) (l : nm.length ≤ 10) : nm.Nodup := by
  refine List.pairwise_iff_getElem.mpr fun i j hi hj ij e => ?_
  obtain ⟨t, ht, e1⟩ := h i _ (List.getElem?_eq_getElem hi)
  obtain ⟨u, hu, e2⟩ := h j _ (List.getElem?_eq_getElem hj)
  rw [e1, e2] at e
  have := plN_ne i (by omega) j (by omega) t ht u hu e
  omega
theorem RdN.nd {nm : List Str} (h : RdN nm) (l : nm.length ≤ 14) : nm.Nodup := by
  refine List.pairwise_iff_getElem.mpr fun i j hi hj ij e => ?_
  obtain ⟨t, ht, e1⟩ := h i _ (List.getElem?_eq_getElem hi)
  obtain ⟨u, hu, e2⟩ := h j _ (List.getElem?_eq_getElem hj)
  rw [e1, e2] at e
  have := rdN_ne i (by omega) j (by omega) t ht u hu e
  omega
theorem viaT {X : List (Str × Str) → O → Prop} {G : Prop} (Q : List (Str × Str) → O → Prop) (k : (∀ b o, Q b o → X b o) → G) (h : ∀ b o, Q b o → X b o) : G := k h
theorem i_len {i : Nat} (h : i < 14) : (PySem.Str.ofString (toString (0 + (i : Int)))).length ≤ 10 := PySem.W.KT.len_num (by omega) (by omega)
end Rp

set_option Elab.async false
set_option linter.all false
set_option maxRecDepth 100000
set_option maxHeartbeats 4000000
namespace Rp
open PySem PySem.Spec PyProof.Rows L2 Dl
def rdStrB (f : Str → Bool) : A → List A → Mu → DK → Prop := fun x xs μ P => ∃ a, x = .d (.str a) ∧ xs = [] ∧ P (.d (.bool (f a))) μ
theorem s_strB {K : PySem.W.Frag} (f : Str → Bool) : SimM K "str" (fun x xs H Q => ∃ a, x = .str a ∧ xs = [] ∧ True ∧ Q (.bl (f a)) H) (rdStrB f) := fun x xs μ P h F al H v vs S a as Q k => by
  obtain ⟨s, rfl, rfl, h⟩ := h
  cases as
  exact ⟨s, dp_str a, rfl, trivial, k.now h S (.bl _)⟩
theorem signs_asc : ∀ c ∈ signs.cps.toList, (decide (c < 128) = true ∧ Unicode.isAlnum c = true) ∧ (Unicode.isUpper c || Unicode.isTitle c) = false := by decide +kernel
theorem letters_low : ∀ c ∈ letters.cps.toList, Unicode.isLower c = true ∧ Unicode.isAlpha c = true := by decide +kernel
theorem all_arr {s : Str} {f : Nat → Bool} (h : ∀ c ∈ s.cps.toList, f c = true) : s.cps.all f = true := by
  rw [← Array.all_toList]
  exact List.all_eq_true.mpr h
theorem len_pos {s : Str} (h : NameOk s) : decide (s.length > 0) = true := decide_eq_true (by have := h.one; omega)
theorem name_ascii {s : Str} (h : NameOk s) : Txt.isascii s = true := all_arr fun c hc => (signs_asc c (h.all c hc)).1.1
theorem name_alnum {s : Str} (h : NameOk s) : Txt.isalnum s = true := by
  unfold Txt.isalnum
  rw [len_pos h, all_arr fun c hc => (signs_asc c (h.all c hc)).1.2]
  rfl
theorem name_lower {s : Str} (h : NameOk s) : Txt.islower s = true := by
  obtain ⟨c, hc, hl⟩ := h.first
  unfold Txt.islower
  rw [← Array.any_toList, ← Array.any_toList, Bool.and_eq_true, Bool.not_eq_true']
  refine ⟨List.any_eq_true.mpr ⟨c, List.mem_of_getElem? hc, (letters_low c hl).1⟩, Bool.eq_false_iff.mpr fun z => ?_⟩
  obtain ⟨d, hd, e⟩ := List.any_eq_true.mp z
  rw [(signs_asc d (h.all d hd)).2] at e
  cases e
theorem char_alpha {c : Nat} (h : c ∈ letters.cps.toList) : Txt.isalpha ⟨#[c]⟩ = true := by
  unfold Txt.isalpha
  have e : (⟨#[c]⟩ : Str).cps.all Unicode.isAlpha = true := all_arr fun d hd => by
    rw [show d = c from List.mem_singleton.mp hd]
    exact (letters_low c h).2
  rw [e]
  rfl
theorem gotD_lookD (st : Got) : gotD st = lookD (gotL st) := by
  funext q
  unfold gotD lookD gotL
  induction st with
  | nil => rfl
  | cons x st ih =>
    rw [List.map_cons, List.find?_cons, List.find?_cons]
    by_cases e : x.1 = q
    · rw [decide_eq_true e]
      rfl
    · rw [decide_eq_false e]
      exact ih
section
variable {rs : List Road} {wk : List (List Str)} {p : Str} {m : Mom}
theorem S_same {n : Nat} (h : (S rs wk p m (n + 1)).length = (S rs wk p m n).length) : S rs wk p m (n + 1) = S rs wk p m n := by
  obtain ⟨t, e⟩ := S_app (rs := rs) (wk := wk) (p := p) (m := m) n
  rw [e, List.length_append] at h
  have : t = [] := List.eq_nil_of_length_eq_zero (by omega)
  rw [e, this, List.append_nil]
/-- the loop's state: n days, the last j of them idle -/
structure Idle (rs : List Road) (wk : List (List Str)) (p : Str) (m : Mom) (n j : Nat) : Prop where
  le : j ≤ n
  most : j ≤ wk.length + 1
  same : S rs wk p m n = S rs wk p m (n - j)
  few : n + (wk.length + 1) ≤ (S rs wk p m n).length * (wk.length + 1) + j
theorem Idle.start : Idle rs wk p m 0 0 := ⟨Nat.le_refl _, Nat.zero_le _, rfl, by show 0 + (wk.length + 1) ≤ 1 * (wk.length + 1) + 0; omega⟩
theorem Idle.next {n j : Nat} (h : Idle rs wk p m n j) (lj : j ≤ wk.length) (e : S rs wk p m (n + 1) = S rs wk p m n) : Idle rs wk p m (n + 1) (j + 1) :=
  ⟨by have := h.le; omega, by omega, by rw [e, h.same]; congr 1; omega, by rw [e]; have := h.few; omega⟩
theorem Idle.new {n j : Nat} (h : Idle rs wk p m n j) (lj : j ≤ wk.length) (e : S rs wk p m (n + 1) ≠ S rs wk p m n) : Idle rs wk p m (n + 1) 0 := by
  refine ⟨Nat.zero_le _, Nat.zero_le _, rfl, ?_⟩
  have hl : (S rs wk p m n).length + 1 ≤ (S rs wk p m (n + 1)).length := by
    obtain ⟨t, et⟩ := S_app (rs := rs) (wk := wk) (p := p) (m := m) n
    by_cases z : (S rs wk p m (n + 1)).length = (S rs wk p m n).length
    · exact absurd (S_same z) e
    · rw [et, List.length_append] at z ⊢
      omega
  have := Nat.mul_le_mul_right (wk.length + 1) hl
  rw [Nat.succ_mul] at this
  have := h.few
  omega
theorem Idle.final {n : Nat} (hL : 1 ≤ wk.length) (h : Idle rs wk p m n (wk.length + 1)) : Final rs wk p m (S rs wk p m n) := by
  have e := h.same
  have le := h.le
  have st := stable_of (p := p) (m := m) (rs := rs) hL (n := n - (wk.length + 1)) (by rw [show n - (wk.length + 1) + (wk.length + 1) = n by omega]; exact e)
  exact ⟨n, rfl, fun M hM => by rw [st M (by omega), st n (by omega)]⟩
theorem full_final {ps : List Str} (ok : WebOk ps rs) (hw : WeekOk rs wk) (hp : p ∈ ps) {n : Nat} (h : ps.length ≤ (S rs wk p m n).length) : Final rs wk p m (S rs wk p m n) := by
  refine ⟨n, rfl, fun M hM => ?_⟩
  obtain ⟨t, et⟩ := S_le (rs := rs) (wk := wk) (p := p) (m := m) (M - n) n
  rw [show n + (M - n) = M by omega] at et
  have := S_len (m := m) ok.r hw hp M
  rw [et, List.length_append] at this
  have : t = [] := List.eq_nil_of_length_eq_zero (by omega)
  rw [et, this, List.append_nil]
theorem Idle.n50 {ps : List Str} (ok : WebOk ps rs) (hw : WeekOk rs wk) (hp : p ∈ ps) {n j : Nat} (h : Idle rs wk p m n j) : n ≤ 50 := by
  have a := h.few
  have b := h.most
  have c := S_len (m := m) ok.r hw hp n
  have d := ok.p.most
  have e := hw.most
  have : (S rs wk p m n).length * (wk.length + 1) ≤ 10 * 5 := Nat.mul_le_mul (by omega) (by omega)
  omega
end
theorem mid_len {rs : List Road} {wk : List (List Str)} {p : Str} {m : Mom} (n i : Nat) : ∃ t, mid rs wk p m n i = S rs wk p m n ++ t := walkF_app ..
/-- idle or not, within a day -/
def idl (rs : List Road) (wk : List (List Str)) (p : Str) (m : Mom) (n j i : Nat) : Int := if (mid rs wk p m n i).length = (S rs wk p m n).length then (j : Int) + 1 else 0
end Rp

set_option Elab.async false
set_option linter.all false
set_option maxRecDepth 100000
set_option maxHeartbeats 4000000
namespace Rp
open PySem PySem.Spec PyProof.Rows L2 Dl
/-! ### trees -/
abbrev Tie := Str × Str
def JoinT (e : Tie) (a b : Str) : Prop := (e.1 = a ∧ e.2 = b) ∨ (e.1 = b ∧ e.2 = a)
theorem JoinT.symm {e : Tie} {a b : Str} (h : JoinT e a b) : JoinT e b a := h.elim (fun x => .inr x) fun x => .inl x
/-- a tree seen from one of its places -/
structure Rt (ps : List Str) (ts : List Tie) (p : Str) (up : Str → Option Str) (dep : Str → Nat) : Prop where
  root : up p = none
  par : ∀ q ∈ ps, q ≠ p → ∃ a, up q = some a
  step : ∀ q a, up q = some a → a ∈ ps ∧ q ∈ ps ∧ dep q = dep a + 1 ∧ ∃ e ∈ ts, JoinT e q a
  edge : ∀ e ∈ ts, up e.1 = some e.2 ∨ up e.2 = some e.1
  at_ : ∀ e ∈ ts, e.1 ∈ ps ∧ e.2 ∈ ps
/-- no two ties between the same two -/
def NoPar (ts : List Tie) : Prop := ts.Pairwise fun e f => ¬ JoinT e f.1 f.2
inductive TB : List Str → List Tie → Prop
  | one (x : Str) : TB [x] []
  | add {nm : List Str} {ts : List Tie} {x a : Str} : TB nm ts → x ∉ nm → a ∈ nm → TB (nm ++ [x]) (ts ++ [(x, a)])
theorem TB.at_ {nm : List Str} {ts : List Tie} (h : TB nm ts) : ∀ e ∈ ts, e.1 ∈ nm ∧ e.2 ∈ nm := by
  induction h with
  | one x => intro e he; cases he
  | add _ _ ha ih =>
    intro e he
    rcases List.mem_append.mp he with z | z
    · exact ⟨List.mem_append.mpr (.inl (ih e z).1), List.mem_append.mpr (.inl (ih e z).2)⟩
    · rw [List.mem_singleton.mp z]
      exact ⟨List.mem_append.mpr (.inr (List.mem_singleton.mpr rfl)), List.mem_append.mpr (.inl ha)⟩
theorem TB.noPar {nm : List Str} {ts : List Tie} (h : TB nm ts) : NoPar ts := by
  induction h with
  | one x => exact .nil
  | @add nm ts x a h hx ha ih =>
    refine List.pairwise_append.mpr ⟨ih, List.pairwise_singleton _ _, fun e he f hf j => ?_⟩
    rw [List.mem_singleton.mp hf] at j
    have at_ := h.at_ e he
    rcases j with ⟨e1, _⟩ | ⟨_, e2⟩
    · exact hx ((show e.1 = x from e1) ▸ at_.1)
    · exact hx ((show e.2 = x from e2) ▸ at_.2)
theorem TB.rt {nm : List Str} {ts : List Tie} (h : TB nm ts) : ∀ p ∈ nm, ∃ up dep, Rt nm ts p up dep := by
  induction h with
  | one x =>
    intro p hp
    rw [List.mem_singleton.mp hp]
    exact ⟨fun _ => none, fun _ => 0, rfl, fun q hq ne => absurd (List.mem_singleton.mp hq) ne, (fun q a e => by cases e), (fun e he => by cases he), (fun e he => by cases he)⟩
  | @add nm ts x a h hx ha ih =>
    intro p hp
    rcases List.mem_append.mp hp with hp | hp
    · obtain ⟨up, dep, R⟩ := ih p hp
      have ux : up x = none := by
        cases e : up x with
        | none => rfl
        | some b => exact absurd (R.step x b e).2.1 hx
      refine ⟨fun q => if q = x then some a else up q, fun q => if q = x then dep a + 1 else dep q, ?_, fun q hq ne => ?_, fun q b e => ?_, fun e he => ?_, fun e he => ?_⟩
      · rw [if_neg (fun (e : p = x) => hx (e ▸ hp))]
        exact R.root
      · by_cases z : q = x
        · exact ⟨a, if_pos z⟩
        · rcases List.mem_append.mp hq with hq | hq
          · rw [if_neg z]
            exact R.par q hq ne
          · exact absurd (List.mem_singleton.mp hq) z
      · by_cases z : q = x
        · subst z
          have e' : (if q = q then some a else up q) = some b := e
          rw [if_pos rfl] at e'
          obtain rfl := Option.some.inj e'
          refine ⟨List.mem_append.mpr (.inl ha), List.mem_append.mpr (.inr (List.mem_singleton.mpr rfl)), ?_, (q, a), List.mem_append.mpr (.inr (List.mem_singleton.mpr rfl)), .inl ⟨rfl, rfl⟩⟩
          show (if q = q then _ else _) = (if a = q then _ else _) + 1
          rw [if_pos rfl, if_neg (fun (e : a = q) => hx (e ▸ ha))]
        · have e' : (if q = x then some a else up q) = some b := e
          rw [if_neg z] at e'
          obtain ⟨s1, s2, s3, f, hf, s4⟩ := R.step q b e'
          refine ⟨List.mem_append.mpr (.inl s1), List.mem_append.mpr (.inl s2), ?_, f, List.mem_append.mpr (.inl hf), s4⟩
          show (if q = x then _ else _) = (if b = x then _ else _) + 1
          rw [if_neg z, if_neg (fun (e : b = x) => hx (e ▸ s1))]
          exact s3
      · rcases List.mem_append.mp he with he | he
        · have t := h.at_ e he
          have n1 : e.1 ≠ x := fun z => hx (z ▸ t.1)
          have n2 : e.2 ≠ x := fun z => hx (z ▸ t.2)
          rcases R.edge e he with z | z
          · exact .inl (by rw [if_neg n1]; exact z)
          · exact .inr (by rw [if_neg n2]; exact z)
        · rw [List.mem_singleton.mp he]
          exact .inl (if_pos rfl)
      · rcases List.mem_append.mp he with he | he
        · have t := h.at_ e he
          exact ⟨List.mem_append.mpr (.inl t.1), List.mem_append.mpr (.inl t.2)⟩
        · rw [List.mem_singleton.mp he]
          exact ⟨List.mem_append.mpr (.inr (List.mem_singleton.mpr rfl)), List.mem_append.mpr (.inl ha)⟩
    · obtain rfl := List.mem_singleton.mp hp
      obtain ⟨up, dep, R⟩ := ih a ha
      have ux : up p = none := by
        cases e : up p with
        | none => rfl
        | some b => exact absurd (R.step p b e).2.1 hx
      have pa : a ≠ p := fun e => hx (e ▸ ha)
      refine ⟨fun q => if q = a then some p else up q, fun q => if q = p then 0 else dep q - dep a + 1, ?_, fun q hq ne => ?_, ?_, ?_, ?_⟩
      · rw [if_neg (Ne.symm pa)]
        exact ux
      · by_cases z : q = a
        · exact ⟨p, if_pos z⟩
        · rw [if_neg z]
          rcases List.mem_append.mp hq with hq | hq
          · exact R.par q hq z
          · exact absurd (List.mem_singleton.mp hq) ne
      · -- depths are those behind a
        have low : ∀ n q, dep q ≤ n → q ∈ nm → dep a ≤ dep q := by
          intro n
          induction n with
          | zero =>
            intro q hn hq
            by_cases z : q = a
            · rw [z]
              exact Nat.le_refl _
            · obtain ⟨b, e⟩ := R.par q hq z
              have := (R.step q b e).2.2.1
              omega
          | succ n ihn =>
            intro q hn hq
            by_cases z : q = a
            · rw [z]
              exact Nat.le_refl _
            · obtain ⟨b, e⟩ := R.par q hq z
              obtain ⟨s1, s2, s3, _⟩ := R.step q b e
              have := ihn b (by omega) s1
              omega
        intro q b e
        by_cases z : q = a
        · subst z
          have e' : (if q = q then some p else up q) = some b := e
          rw [if_pos rfl] at e'
          obtain rfl := Option.some.inj e'
          refine ⟨List.mem_append.mpr (.inr (List.mem_singleton.mpr rfl)), List.mem_append.mpr (.inl ha), ?_, (p, q), List.mem_append.mpr (.inr (List.mem_singleton.mpr rfl)), .inr ⟨rfl, rfl⟩⟩
          show (if q = p then _ else _) = (if p = p then _ else _) + 1
          rw [if_pos rfl, if_neg pa]
          omega
        · have e' : (if q = a then some p else up q) = some b := e
          rw [if_neg z] at e'
          obtain ⟨s1, s2, s3, f, hf, s4⟩ := R.step q b e'
          refine ⟨List.mem_append.mpr (.inl s1), List.mem_append.mpr (.inl s2), ?_, f, List.mem_append.mpr (.inl hf), s4⟩
          show (if q = p then _ else _) = (if b = p then _ else _) + 1
          rw [if_neg (fun (e : q = p) => hx (e ▸ s2)), if_neg (fun (e : b = p) => hx (e ▸ s1))]
          have := low _ b (Nat.le_refl _) s1
          omega
      · intro e he
        rcases List.mem_append.mp he with he | he
        · rcases R.edge e he with z | z
          · refine .inl ?_
            have : e.1 ≠ a := fun q => by rw [q, R.root] at z; cases z
            rw [if_neg this]
            exact z
          · refine .inr ?_
            have : e.2 ≠ a := fun q => by rw [q, R.root] at z; cases z
            rw [if_neg this]
            exact z
        · rw [List.mem_singleton.mp he]
          exact .inr (if_pos rfl)
      · intro e he
        rcases List.mem_append.mp he with he | he
        · have t := h.at_ e he
          exact ⟨List.mem_append.mpr (.inl t.1), List.mem_append.mpr (.inl t.2)⟩
        · rw [List.mem_singleton.mp he]
          exact ⟨List.mem_append.mpr (.inr (List.mem_singleton.mpr rfl)), List.mem_append.mpr (.inl ha)⟩
/-- the same ties, some turned about -/
inductive Flips : List Tie → List Tie → Prop
  | nil : Flips [] []
  | keep {e : Tie} {us ts : List Tie} : Flips us ts → Flips (e :: us) (e :: ts)
  | turn {e : Tie} {us ts : List Tie} : Flips us ts → Flips ((e.2, e.1) :: us) (e :: ts)
theorem Flips.snoc {us ts : List Tie} (h : Flips us ts) (e : Tie) : Flips (us ++ [e]) (ts ++ [e]) ∧ Flips (us ++ [(e.2, e.1)]) (ts ++ [e]) := by
  induction h with
  | nil => exact ⟨.keep .nil, .turn .nil⟩
  | keep _ ih => exact ⟨.keep ih.1, .keep ih.2⟩
  | turn _ ih => exact ⟨.turn ih.1, .turn ih.2⟩
theorem Flips.mem {us ts : List Tie} (h : Flips us ts) : (∀ e ∈ us, ∃ f ∈ ts, e = f ∨ e = (f.2, f.1)) ∧ ∀ f ∈ ts, ∃ e ∈ us, e = f ∨ e = (f.2, f.1) := by
  induction h with
  | nil => exact ⟨(fun e he => by cases he), fun e he => by cases he⟩
  | @keep e us ts _ ih =>
    refine ⟨fun x hx => ?_, fun x hx => ?_⟩
    · rcases List.mem_cons.mp hx with rfl | hx
      · exact ⟨x, List.mem_cons_self .., .inl rfl⟩
      · obtain ⟨f, hf, z⟩ := ih.1 x hx
        exact ⟨f, List.mem_cons_of_mem _ hf, z⟩
    · rcases List.mem_cons.mp hx with rfl | hx
      · exact ⟨x, List.mem_cons_self .., .inl rfl⟩
      · obtain ⟨f, hf, z⟩ := ih.2 x hx
        exact ⟨f, List.mem_cons_of_mem _ hf, z⟩
  | @turn e us ts _ ih =>
    refine ⟨fun x hx => ?_, fun x hx => ?_⟩
    · rcases List.mem_cons.mp hx with rfl | hx
      · exact ⟨e, List.mem_cons_self .., .inr rfl⟩
      · obtain ⟨f, hf, z⟩ := ih.1 x hx
        exact ⟨f, List.mem_cons_of_mem _ hf, z⟩
    · rcases List.mem_cons.mp hx with rfl | hx
      · exact ⟨_, List.mem_cons_self .., .inr rfl⟩
      · obtain ⟨f, hf, z⟩ := ih.2 x hx
        exact ⟨f, List.mem_cons_of_mem _ hf, z⟩
theorem JoinT.swap {e : Tie} {a b : Str} : JoinT (e.2, e.1) a b ↔ JoinT e a b :=
  ⟨fun h => h.elim (fun x => .inr ⟨x.2, x.1⟩) fun x => .inl ⟨x.2, x.1⟩, fun h => h.elim (fun x => .inr ⟨x.2, x.1⟩) fun x => .inl ⟨x.2, x.1⟩⟩
theorem Flips.noPar {us ts : List Tie} (h : Flips us ts) : NoPar ts → NoPar us := by
  induction h with
  | nil => exact fun h => h
  | @keep e us ts h ih =>
    intro n
    have n' := List.pairwise_cons.mp n
    refine List.pairwise_cons.mpr ⟨fun f hf j => ?_, ih n'.2⟩
    obtain ⟨g, hg, rfl | rfl⟩ := h.mem.1 f hf
    · exact n'.1 _ hg j
    · exact n'.1 g hg j.symm
  | @turn e us ts h ih =>
    intro n
    have n' := List.pairwise_cons.mp n
    refine List.pairwise_cons.mpr ⟨fun f hf j => ?_, ih n'.2⟩
    have j' := JoinT.swap.mp j
    obtain ⟨g, hg, rfl | rfl⟩ := h.mem.1 f hf
    · exact n'.1 _ hg j'
    · exact n'.1 g hg j'.symm
theorem noPar_perm {us ts : List Tie} (h : us.Perm ts) (n : NoPar ts) : NoPar us := by
  refine h.symm.pairwise n fun {e f} j z => j ?_
  rcases z with ⟨a, b⟩ | ⟨a, b⟩
  · exact .inl ⟨a.symm, b.symm⟩
  · exact .inr ⟨b.symm, a.symm⟩
/-- ties that are the same but for their sequence and directions -/
theorem Rt.same {ps ps' : List Str} {ts us : List Tie} {p : Str} {up : Str → Option Str} {dep : Str → Nat} (R : Rt ps ts p up dep) (hp : ∀ q, q ∈ ps' ↔ q ∈ ps)
    (h1 : ∀ e ∈ us, ∃ f ∈ ts, e = f ∨ e = (f.2, f.1)) (h2 : ∀ f ∈ ts, ∃ e ∈ us, e = f ∨ e = (f.2, f.1)) : Rt ps' us p up dep where
  root := R.root
  par := fun q hq => R.par q ((hp q).mp hq)
  step := fun q a e => by
    obtain ⟨s1, s2, s3, f, hf, s4⟩ := R.step q a e
    obtain ⟨g, hg, rfl | rfl⟩ := h2 f hf
    · exact ⟨(hp a).mpr s1, (hp q).mpr s2, s3, _, hg, s4⟩
    · exact ⟨(hp a).mpr s1, (hp q).mpr s2, s3, _, hg, JoinT.swap.mpr s4⟩
  edge := fun e he => by
    obtain ⟨f, hf, rfl | rfl⟩ := h1 e he
    · exact R.edge _ hf
    · exact (R.edge f hf).symm
  at_ := fun e he => by
    obtain ⟨f, hf, rfl | rfl⟩ := h1 e he
    · exact ⟨(hp _).mpr (R.at_ _ hf).1, (hp _).mpr (R.at_ _ hf).2⟩
    · exact ⟨(hp _).mpr (R.at_ f hf).2, (hp _).mpr (R.at_ f hf).1⟩
abbrev tiesR (rs : List Road) : List Tie := rs.map fun r => r.2
structure TreeOk (ps : List Str) (rs : List Road) : Prop where
  rt : ∀ p ∈ ps, ∃ up dep, Rt ps (tiesR rs) p up dep
  one : NoPar (tiesR rs)
theorem TreeOk.uniq {ps : List Str} {rs : List Road} (h : TreeOk ps rs) {r s : Road} (hr : r ∈ rs) (hs : s ∈ rs) {a b : Str} (jr : JoinT r.2 a b) (js : JoinT s.2 a b) : r = s := by
  obtain ⟨i, hi⟩ := List.mem_iff_getElem?.mp hr
  obtain ⟨j, hj⟩ := List.mem_iff_getElem?.mp hs
  obtain ⟨li, ei⟩ := List.getElem?_eq_some_iff.mp hi
  obtain ⟨lj, ej⟩ := List.getElem?_eq_some_iff.mp hj
  have pw := List.pairwise_iff_getElem.mp h.one
  have key : ∀ i j (li : i < rs.length) (lj : j < rs.length), i < j → JoinT (rs[i]).2 a b → JoinT (rs[j]).2 a b → False := fun i j li lj lt x y => by
    refine pw i j (by rw [List.length_map]; exact li) (by rw [List.length_map]; exact lj) lt ?_
    rw [List.getElem_map, List.getElem_map]
    rcases x with ⟨x1, x2⟩ | ⟨x1, x2⟩ <;> rcases y with ⟨y1, y2⟩ | ⟨y1, y2⟩
    · exact .inl ⟨x1.trans y1.symm, x2.trans y2.symm⟩
    · exact .inr ⟨x1.trans y2.symm, x2.trans y1.symm⟩
    · exact .inr ⟨x1.trans y2.symm, x2.trans y1.symm⟩
    · exact .inl ⟨x1.trans y1.symm, x2.trans y2.symm⟩
  rcases Nat.lt_trichotomy i j with lt | e | gt
  · exact (key i j li lj lt (by rw [ei]; exact jr) (by rw [ej]; exact js)).elim
  · subst e
    rw [← ei, ← ej]
  · exact (key j i lj li gt (by rw [ej]; exact js) (by rw [ei]; exact jr)).elim
theorem tree_of {nm ps : List Str} {ts zs us : List Tie} {rn : List Str} (h : TB nm ts) (hz : zs.Perm ts) (hf : Flips us zs) (rl : rn.length = us.length) (hp : ps.Perm nm) : TreeOk ps (mkR rn us) := by
  have e : tiesR (mkR rn us) = us := by
    clear hf
    induction us generalizing rn with
    | nil => cases rn <;> rfl
    | cons u us ih =>
      cases rn with
      | nil => simp at rl
      | cons n rn =>
        show u :: tiesR (mkR rn us) = u :: us
        rw [ih (by simpa using rl)]
  refine ⟨fun p hpp => ?_, ?_⟩
  · obtain ⟨up, dep, R⟩ := h.rt p (hp.mem_iff.mp hpp)
    refine ⟨up, dep, R.same (fun q => hp.mem_iff) ?_ ?_⟩
    · rw [e]
      intro x hx
      obtain ⟨f, hf', z⟩ := hf.mem.1 x hx
      exact ⟨f, hz.mem_iff.mp hf', z⟩
    · rw [e]
      intro x hx
      exact hf.mem.2 x (hz.mem_iff.mpr hx)
  · rw [e]
    exact hf.noPar (noPar_perm hz h.noPar)
end Rp

set_option Elab.async false
set_option linter.all false
set_option maxRecDepth 100000
set_option maxHeartbeats 4000000
namespace Rp
open PySem PySem.Spec PyProof.Rows L2 Dl
/-! ### where the news is at last -/
def FinS (rs : List Road) (wk : List (List Str)) (p : Str) (m : Mom) : Got := S rs wk p m 50
section
variable {ps : List Str} {rs : List Road} {wk : List (List Str)} {p : Str} {m : Mom}
theorem fin_all (ok : WebOk ps rs) (hw : WeekOk rs wk) (hp : p ∈ ps) : ∀ M, 50 ≤ M → S rs wk p m M = FinS rs wk p m := fun M hM => by
  obtain ⟨N, hN, st, _⟩ := final_ex (m := m) ok hw hp
  unfold FinS
  rw [st M (by omega), st 50 hN]
theorem fin_final (ok : WebOk ps rs) (hw : WeekOk rs wk) (hp : p ∈ ps) : Final rs wk p m (FinS rs wk p m) := ⟨50, rfl, fin_all ok hw hp⟩
theorem fin_of (ok : WebOk ps rs) (hw : WeekOk rs wk) (hp : p ∈ ps) {st : Got} (h : Final rs wk p m st) : st = FinS rs wk p m := h.one (fin_final ok hw hp)
theorem fin_reach (ok : WebOk ps rs) (hw : WeekOk rs wk) (hp : p ∈ ps) {q : Str} : q ∈ ks (FinS rs wk p m) ↔ Reach (walked rs wk) p q := by
  obtain ⟨N, hN, st, h⟩ := final_ex (m := m) ok hw hp
  unfold FinS
  rw [st 50 hN]
  exact h q
theorem fin_inv (ok : WebOk ps rs) (hw : WeekOk rs wk) : Inv0 rs wk p (FinS rs wk p m) := S_inv ok.r.nd hw 50
theorem fin_sub (ok : WebOk ps rs) (hw : WeekOk rs wk) (hp : p ∈ ps) {q : Str} (h : q ∈ ks (FinS rs wk p m)) : q ∈ ps := reach_ps ok.r hp ((fin_inv ok hw).re q h)
theorem fin_val {st : Got} {q : Str} {t : Mom} (nd : (ks st).Nodup) (h : (q, t) ∈ st) : valS st q = t := valS_nd nd h
theorem fin_uniq {st : Got} {q : Str} {t u : Mom} (nd : (ks st).Nodup) (h : (q, t) ∈ st) (h' : (q, u) ∈ st) : t = u := (valS_nd nd h).symm.trans (valS_nd nd h')
theorem mem_ks {st : Got} {q : Str} : q ∈ ks st ↔ ∃ t, (q, t) ∈ st :=
  ⟨fun h => by obtain ⟨x, hx, rfl⟩ := List.mem_map.mp h; exact ⟨x.2, hx⟩, fun ⟨t, h⟩ => List.mem_map.mpr ⟨_, h, rfl⟩⟩
/-! what comes later is later -/
def After (st st' : Got) (day k : Int) : Prop := ∀ x ∈ st', x ∈ st ∨ ¬ le2 x.2 day k
theorem After.refl {st : Got} {d k : Int} : After st st d k := fun _ h => .inl h
theorem After.trans {a b c : Got} {d k : Int} (h : After a b d k) (h' : After b c d k) : After a c d k := fun x hx => (h' x hx).elim (h x) .inr
theorem After.low {a b : Got} {d k d' k' : Int} (h : After a b d k) (l : d' < d ∨ (d' = d ∧ k' ≤ k)) : After a b d' k' := fun x hx => (h x hx).imp id fun n z => n (by
  rcases z with z | ⟨z, y⟩ <;> rcases l with l | ⟨l, u⟩
  · exact .inl (by omega)
  · exact .inl (by omega)
  · exact .inl (by omega)
  · exact .inr ⟨by omega, by omega⟩)
theorem after_step {day : Int} {k : Nat} {n : Str} {st : Got} : After st (stepW rs day k n st) day k := fun x hx => by
  unfold stepW at hx
  split at hx
  · rcases List.mem_append.mp hx with z | z
    · exact .inl z
    · refine .inr ?_
      rw [List.mem_singleton.mp z]
      rintro (y | ⟨_, y⟩)
      · have y' : day < day := y
        omega
      · have y' : (k : Int) + 1 ≤ k := y
        omega
  · exact .inl hx
theorem after_walk {day : Int} : ∀ (ns : List Str) (k : Nat) (st : Got), After st (walkF rs day k ns st) day k
  | [], _, _ => .refl
  | n :: ns, k, st => after_step.trans ((after_walk ns (k + 1) _).low (.inr ⟨rfl, by omega⟩))
theorem after_S (n : Nat) : ∀ j, After (S rs wk p m n) (S rs wk p m (n + j)) (m.1 + n) (beg m n)
  | 0 => .refl
  | j + 1 => by
    refine (after_S n j).trans ?_
    have h : After (S rs wk p m (n + j)) (S rs wk p m (n + (j + 1))) (m.1 + ((n + j : Nat) : Int)) (beg m (n + j)) := after_walk _ _ _
    refine h.low ?_
    cases j with
    | zero => exact .inr ⟨rfl, Int.le_refl _⟩
    | succ j => exact .inl (by omega)
theorem after_mid (n i j : Nat) : After (mid rs wk p m n i) (S rs wk p m (n + 1 + j)) (m.1 + n) ((beg m n + i : Nat) : Int) := by
  have h1 : After (mid rs wk p m n i) (S rs wk p m (n + 1)) (m.1 + n) ((beg m n + i : Nat) : Int) := by
    by_cases h : i ≤ ((roundAt wk (m.1 + n)).drop (beg m n)).length
    · rw [S_next, walkF_take rs (m.1 + n) ((roundAt wk (m.1 + n)).drop (beg m n)) (beg m n) i]
      have a := after_walk (rs := rs) (day := m.1 + n) (((roundAt wk (m.1 + n)).drop (beg m n)).drop i) (beg m n + (((roundAt wk (m.1 + n)).drop (beg m n)).take i).length) (mid rs wk p m n i)
      rw [List.length_take, Nat.min_eq_left h] at a ⊢
      exact a
    · rw [List.length_drop] at h
      rw [mid_end (i := i) (by omega)]
      exact .refl
  refine h1.trans ((after_S (rs := rs) (wk := wk) (p := p) (n + 1) j).low (.inl (by omega)))
theorem mid_sub (n i j : Nat) : ∀ x ∈ mid rs wk p m n i, x ∈ S rs wk p m (n + 1 + j) := fun x hx => by
  have h1 : x ∈ S rs wk p m (n + 1) := by
    rw [S_next, walkF_take rs (m.1 + n) ((roundAt wk (m.1 + n)).drop (beg m n)) (beg m n) i]
    obtain ⟨t, e⟩ := walkF_app rs (m.1 + n) (((roundAt wk (m.1 + n)).drop (beg m n)).drop i) (beg m n + (((roundAt wk (m.1 + n)).drop (beg m n)).take i).length) (walkF rs (m.1 + n) (beg m n) (((roundAt wk (m.1 + n)).drop (beg m n)).take i) (S rs wk p m n))
    rw [e]
    exact List.mem_append.mpr (.inl hx)
  obtain ⟨t, e⟩ := S_le (rs := rs) (wk := wk) (p := p) (m := m) j (n + 1)
  rw [e]
  exact List.mem_append.mpr (.inl h1)
/-- who is not the first has it from somebody -/
def Pre (rs : List Road) (wk : List (List Str)) (p : Str) (m : Mom) (st : Got) : Prop := ∀ x ∈ st, (x = (p, m)) ∨ ∃ a ta e, ∃ k : Nat, (a, ta) ∈ st ∧ (roundAt wk x.2.1)[k]? = some e ∧ x.2.2 = (k : Int) + 1 ∧ JoinT (endsOf rs e) x.1 a ∧ le2 ta x.2.1 k ∧ m.1 ≤ x.2.1
theorem Pre.step {day : Int} {k : Nat} {n : Str} {st : Got} (h : Pre rs wk p m st) (l : Le st day k) (hn : (roundAt wk day)[k]? = some n) (hd : m.1 ≤ day) : Pre rs wk p m (stepW rs day k n st) := by
  unfold stepW
  split
  · rename_i c
    intro x hx
    rcases List.mem_append.mp hx with z | z
    · rcases h x z with y | ⟨a, ta, e, j, h1, h2⟩
      · exact .inl y
      · exact .inr ⟨a, ta, e, j, List.mem_append.mpr (.inl h1), h2⟩
    · refine .inr ?_
      rw [List.mem_singleton.mp z]
      rw [bne_iff_ne, ne_eq] at c
      by_cases a : (endsOf rs n).1 ∈ ks st
      · rw [if_pos a]
        obtain ⟨t, ht⟩ := mem_ks.mp a
        exact ⟨_, t, n, k, List.mem_append.mpr (.inl ht), hn, rfl, .inr ⟨rfl, rfl⟩, l _ ht, hd⟩
      · rw [if_neg a]
        have b : (endsOf rs n).2 ∈ ks st := by
          by_cases b : (endsOf rs n).2 ∈ ks st
          · exact b
          · exact absurd (by rw [decide_eq_false a, decide_eq_false b]) c
        obtain ⟨t, ht⟩ := mem_ks.mp b
        exact ⟨_, t, n, k, List.mem_append.mpr (.inl ht), hn, rfl, .inl ⟨rfl, rfl⟩, l _ ht, hd⟩
  · exact h
theorem Pre.mid (hm : MomS wk m) {n : Nat} (h : Pre rs wk p m (S rs wk p m n)) : ∀ i, Pre rs wk p m (mid rs wk p m n i)
  | 0 => h
  | i + 1 => by
    have ih := Pre.mid hm h i
    cases hx : (roundAt wk (m.1 + n))[beg m n + i]? with
    | none =>
      have : (roundAt wk (m.1 + n)).length ≤ beg m n + i := List.getElem?_eq_none_iff.mp hx
      rw [mid_end (i := i + 1) (by omega), ← mid_end (i := i) (by omega)]
      exact ih
    | some x =>
      rw [mid_succ hx]
      exact ih.step (by have := mid_Le (rs := rs) (wk := wk) (p := p) hm.w1 n i; exact this) hx (by omega)
theorem S_pre (hm : MomS wk m) : ∀ n, Pre rs wk p m (S rs wk p m n)
  | 0 => fun x hx => .inl (List.mem_singleton.mp hx)
  | n + 1 => by
    rw [← mid_end (i := (roundAt wk (m.1 + n)).length) (by omega)]
    exact (S_pre hm n).mid hm _
theorem fin_pre (hm : MomS wk m) : Pre rs wk p m (FinS rs wk p m) := S_pre hm 50
/-- nobody hears it ahead of the moment -/
theorem fin_ge (hm : MomS wk m) : ∀ x ∈ FinS rs wk p m, m.1 < x.2.1 ∨ (m.1 = x.2.1 ∧ m.2 ≤ x.2.2) := fun x hx => by
  have h := after_S (rs := rs) (wk := wk) (p := p) (m := m) 0 50
  rw [Nat.zero_add] at h
  rcases h x hx with z | z
  · rw [List.mem_singleton.mp z]
    exact .inr ⟨rfl, Int.le_refl _⟩
  · have b : ((beg m 0 : Nat) : Int) = m.2 := by
      have := hm.w1
      unfold beg
      rw [if_pos rfl]
      omega
    rw [b] at z
    by_cases c : m.1 < x.2.1
    · exact .inl c
    · by_cases d : m.1 = x.2.1
      · refine .inr ⟨d, ?_⟩
        by_cases e : m.2 ≤ x.2.2
        · exact e
        · exact absurd (.inr ⟨by omega, by omega⟩) z
      · exact absurd (.inl (by omega)) z
/-- news goes on as soon as a road is walked -/
theorem fin_step (ok : WebOk ps rs) (hw : WeekOk rs wk) (hp : p ∈ ps) (hm : MomS wk m) {D : Int} {k : Nat} {e a b : Str} {ta : Mom} (he : (roundAt wk D)[k]? = some e) (ha : (a, ta) ∈ FinS rs wk p m) (hle : le2 ta D k) (j : JoinT (endsOf rs e) a b) :
    ∃ tb, (b, tb) ∈ FinS rs wk p m ∧ le2 tb D (k + 1) := by
  have ge := fin_ge hm _ ha
  have w1 := hm.w1
  have hD : m.1 < D ∨ (m.1 = D ∧ m.2 ≤ k) := by
    have ge' : m.1 < ta.1 ∨ (m.1 = ta.1 ∧ m.2 ≤ ta.2) := ge
    rcases hle with z | ⟨z, y⟩ <;> rcases ge' with g | ⟨g, g2⟩
    · exact .inl (by omega)
    · exact .inl (by omega)
    · exact .inl (by omega)
    · exact .inr ⟨by omega, by omega⟩
  obtain ⟨n, hn⟩ : ∃ n : Nat, D = m.1 + n := ⟨(D - m.1).toNat, by rcases hD with z | ⟨z, _⟩ <;> omega⟩
  subst hn
  have hb : beg m n ≤ k := by
    unfold beg
    split
    · rename_i z
      subst z
      rcases hD with z | ⟨_, z⟩
      · omega
      · omega
    · exact Nat.zero_le _
  obtain ⟨i, rfl⟩ : ∃ i, k = beg m n + i := ⟨k - beg m n, by omega⟩
  have big := fin_all (m := m) ok hw hp (n + 1 + 50) (by omega)
  have am : (a, ta) ∈ mid rs wk p m n i := by
    have := after_mid (rs := rs) (wk := wk) (p := p) (m := m) n i 50
    rw [big] at this
    exact (this _ ha).resolve_right fun z => z hle
  have sub := mid_sub (rs := rs) (wk := wk) (p := p) (m := m) n (i + 1) 50
  rw [big] at sub
  have l := mid_Le (rs := rs) (wk := wk) (p := p) hm.w1 n (i + 1)
  have bm : b ∈ ks (mid rs wk p m n (i + 1)) := by
    have e1 := mid_succ (p := p) (rs := rs) (m := m) he
    have ak : a ∈ ks (mid rs wk p m n i) := mem_ks.mpr ⟨ta, am⟩
    rw [e1]
    by_cases bk : b ∈ ks (mid rs wk p m n i)
    · obtain ⟨t, et⟩ := stepW_app rs (m.1 + n) (beg m n + i) e (mid rs wk p m n i)
      rw [et, ks_app]
      exact List.mem_append.mpr (.inl bk)
    · rcases j with ⟨j1, j2⟩ | ⟨j1, j2⟩
      · rw [stepW_tf (by rw [j1]; exact ak) (by rw [j2]; exact bk), ks_app, j2]
        exact List.mem_append.mpr (.inr (List.mem_singleton.mpr rfl))
      · rw [stepW_ft (by rw [j1]; exact bk) (by rw [j2]; exact ak), ks_app, j1]
        exact List.mem_append.mpr (.inr (List.mem_singleton.mpr rfl))
  obtain ⟨tb, hb'⟩ := mem_ks.mp bm
  refine ⟨tb, sub _ hb', ?_⟩
  have := l _ hb'
  rw [show ((beg m n + (i + 1) : Nat) : Int) = ((beg m n + i : Nat) : Int) + 1 by omega] at this
  exact this
end
end Rp

set_option Elab.async false
set_option linter.all false
set_option maxRecDepth 100000
set_option maxHeartbeats 4000000
namespace Rp
open PySem PySem.Spec PyProof.Rows L2 Dl
/-! ### news in trees, by a rota -/
def rk (r : List Str) (e : Str) : Nat := r.idxOf e
def nxt (t : Mom) (k : Nat) : Mom := if t.2 ≤ (k : Int) then (t.1, (k : Int) + 1) else (t.1 + 1, (k : Int) + 1)
def goT (r : List Str) (t : Mom) (w : List Str) : Mom := w.foldl (fun t e => nxt t (rk r e)) t
theorem goT_snoc (r : List Str) (t : Mom) (w : List Str) (e : Str) : goT r t (w ++ [e]) = nxt (goT r t w) (rk r e) := by
  unfold goT
  rw [List.foldl_append]
  rfl
theorem goT_cons (r : List Str) (t : Mom) (w : List Str) (e : Str) : goT r t (e :: w) = goT r (nxt t (rk r e)) w := rfl
theorem nxt_sh (D : Int) (t : Mom) (k : Nat) : nxt (shM D t) k = shM D (nxt t k) := by
  unfold nxt
  rw [show (shM D t).2 = t.2 from rfl, show (shM D t).1 = t.1 + D from rfl]
  split
  · rfl
  · show (t.1 + D + 1, _) = (t.1 + 1 + D, _)
    rw [show t.1 + D + 1 = t.1 + 1 + D by omega]
theorem goT_sh (r : List Str) (D : Int) : ∀ (w : List Str) (t : Mom), goT r (shM D t) w = shM D (goT r t w)
  | [], _ => rfl
  | e :: w, t => by
    rw [goT_cons, goT_cons, nxt_sh]
    exact goT_sh r D w _
/-- ways that never turn about -/
inductive Go (rs : List Road) (a : Str) : List Str → Str → Prop
  | nil : Go rs a [] a
  | snoc {w : List Str} {b c : Str} {r : Road} : Go rs a w b → r ∈ rs → JoinT r.2 b c → w.getLast? ≠ some r.1 → Go rs a (w ++ [r.1]) c
theorem Go.cons {rs : List Road} {a b c : Str} {w : List Str} {r : Road} (h : Go rs a w b) (hr : r ∈ rs) (j : JoinT r.2 c a) (n : w.head? ≠ some r.1) : Go rs c (r.1 :: w) b := by
  induction h with
  | nil => exact Go.snoc (w := []) .nil hr j (by simp)
  | @snoc w b' c' s h hs js ns ih =>
    have n' : w.head? ≠ some r.1 := by
      cases w with
      | nil => simp
      | cons x w => exact n
    have g := ih n'
    refine Go.snoc (w := r.1 :: w) g hs js ?_
    cases w with
    | nil =>
      intro e
      have e' : r.1 = s.1 := Option.some.inj e
      exact n (by rw [← e']; rfl)
    | cons x w => exact ns
theorem Go.rev {rs : List Road} {a b : Str} {w : List Str} (h : Go rs a w b) : Go rs b w.reverse a := by
  induction h with
  | nil => exact .nil
  | @snoc w b c r h hr j n ih =>
    rw [List.reverse_append]
    show Go rs c (r.1 :: w.reverse) a
    exact ih.cons hr j.symm (by rw [List.head?_reverse]; exact n)
theorem Go.nil_eq {rs : List Road} {a b : Str} (h : Go rs a [] b) : b = a := by
  generalize hx : ([] : List Str) = x at h
  cases h with
  | nil => rfl
  | snoc => simp at hx
theorem Go.init {rs : List Road} {a b : Str} {w : List Str} {e : Str} (h : Go rs a (w ++ [e]) b) : ∃ c r, Go rs a w c ∧ r ∈ rs ∧ r.1 = e ∧ JoinT r.2 c b ∧ w.getLast? ≠ some e := by
  generalize hx : w ++ [e] = x at h
  cases h with
  | nil => simp at hx
  | @snoc w' b' c r h hr j n =>
    obtain ⟨rfl, z⟩ := List.append_inj' hx rfl
    have z' : e = r.1 := by simpa using z
    subst z'
    exact ⟨_, r, h, hr, rfl, j, n⟩
/-- there and back again -/
theorem back_to {rs : List Road} {a : Str} {r : List Str} {t : Mom} (inj : ∀ e ∈ rnm rs, ∀ f ∈ rnm rs, rk r e = rk r f → e = f) :
    ∀ (n : Nat) (w : List Str) (b e : Str), w.length = n → Go rs a (e :: w) b → goT r (goT r t (e :: w)) (e :: w).reverse = ((nxt t (rk r e)).1 + ((e :: w).length : Int), (rk r e : Int) + 1)
  | 0, w, b, e, hl, h => by
    obtain rfl := List.length_eq_zero_iff.mp hl
    show nxt (nxt t (rk r e)) (rk r e) = ((nxt t (rk r e)).1 + 1, (rk r e : Int) + 1)
    have : (nxt t (rk r e)).2 = (rk r e : Int) + 1 := by unfold nxt; split <;> rfl
    generalize nxt t (rk r e) = u at this
    unfold nxt
    rw [if_neg (by omega)]
  | n + 1, w, b, e, hl, h => by
    obtain ⟨w', g, rfl⟩ : ∃ w' g, w = w' ++ [g] := ⟨w.dropLast, w.getLast (by intro z; rw [z] at hl; simp at hl), (List.dropLast_concat_getLast _).symm⟩
    rw [List.length_append] at hl
    have hl' : w'.length = n := by simpa using hl
    obtain ⟨c, rr, h1, hrr, rfl, hj, hn⟩ := Go.init (w := e :: w') h
    have ih := back_to (r := r) (t := t) inj n w' c e hl' h1
    -- the last name of e :: w'
    obtain ⟨v, f, hv⟩ : ∃ v f, e :: w' = v ++ [f] := ⟨(e :: w').dropLast, (e :: w').getLast (by simp), (List.dropLast_concat_getLast _).symm⟩
    obtain ⟨c2, r2, _, hr2, hf, _, _⟩ := Go.init (w := v) (e := f) (hv ▸ h1)
    have ne : f ≠ rr.1 := fun z => hn (by rw [hv, List.getLast?_append, ← z]; rfl)
    have rne : rk r f ≠ rk r rr.1 := fun z => ne (inj f (List.mem_map.mpr ⟨r2, hr2, hf⟩) rr.1 (List.mem_map.mpr ⟨rr, hrr, rfl⟩) z)
    rw [show e :: (w' ++ [rr.1]) = (e :: w') ++ [rr.1] from rfl, List.reverse_append]
    show goT r (goT r t ((e :: w') ++ [rr.1])) (rr.1 :: (e :: w').reverse) = _
    rw [goT_snoc, goT_cons]
    rw [hv, List.reverse_append] at ih ⊢
    have ih' : goT r (goT r t (v ++ [f])) (f :: v.reverse) = _ := ih
    show goT r (nxt (nxt (goT r t (v ++ [f])) (rk r rr.1)) (rk r rr.1)) (f :: v.reverse) = _
    rw [goT_cons] at ih' ⊢
    have hu : (goT r t (v ++ [f])).2 = (rk r f : Int) + 1 := by rw [goT_snoc]; unfold nxt; split <;> rfl
    generalize goT r t (v ++ [f]) = u at hu ih'
    have key : nxt (nxt (nxt u (rk r rr.1)) (rk r rr.1)) (rk r f) = shM 1 (nxt u (rk r f)) := by
      have i1 : nxt u (rk r f) = (u.1 + 1, (rk r f : Int) + 1) := by
        unfold nxt
        rw [if_neg (by omega)]
      rw [i1]
      by_cases c : rk r f < rk r rr.1
      · have i2 : nxt u (rk r rr.1) = (u.1, (rk r rr.1 : Int) + 1) := by
          unfold nxt
          rw [if_pos (by omega)]
        have i3 : nxt (u.1, (rk r rr.1 : Int) + 1) (rk r rr.1) = (u.1 + 1, (rk r rr.1 : Int) + 1) := by
          unfold nxt
          rw [if_neg (by show ¬ (rk r rr.1 : Int) + 1 ≤ _; omega)]
        rw [i2, i3]
        unfold nxt
        rw [if_neg (by show ¬ (rk r rr.1 : Int) + 1 ≤ _; omega)]
        rfl
      · have i2 : nxt u (rk r rr.1) = (u.1 + 1, (rk r rr.1 : Int) + 1) := by
          unfold nxt
          rw [if_neg (by omega)]
        have i3 : nxt (u.1 + 1, (rk r rr.1 : Int) + 1) (rk r rr.1) = (u.1 + 1 + 1, (rk r rr.1 : Int) + 1) := by
          unfold nxt
          rw [if_neg (by show ¬ (rk r rr.1 : Int) + 1 ≤ _; omega)]
        rw [i2, i3]
        unfold nxt
        rw [if_pos (by show (rk r rr.1 : Int) + 1 ≤ _; omega)]
        rfl
    rw [key, goT_sh, ih']
    show ((nxt t (rk r e)).1 + ((v ++ [f]).length : Int) + 1, _) = _
    congr 1
    rw [List.length_append]
    show _ = (nxt t (rk r e)).1 + (((v ++ [f]) ++ [rr.1]).length : Int)
    simp
    omega
section
variable {ps : List Str} {rs : List Road} {wk : List (List Str)} {p : Str} {m : Mom} {up : Str → Option Str} {dep : Str → Nat}
/-- in a tree the news comes from the place that is nearer -/
theorem tree_pre (ok : WebOk ps rs) (hw : WeekOk rs wk) (hp : p ∈ ps) (hm : MomS wk m) (R : Rt ps (tiesR rs) p up dep) : ∀ (N : Nat) (q : Str) (t : Mom), (q, t) ∈ FinS rs wk p m → ((t.1 - m.1).toNat * 100 + t.2.toNat) ≤ N → q ≠ p →
    ∃ a ta e, ∃ k : Nat, up q = some a ∧ (a, ta) ∈ FinS rs wk p m ∧ (roundAt wk t.1)[k]? = some e ∧ t.2 = (k : Int) + 1 ∧ JoinT (endsOf rs e) q a ∧ le2 ta t.1 k := by
  intro N
  induction N with
  | zero =>
    intro q t hq hN ne
    rcases fin_pre hm _ hq with z | ⟨a, ta, e, k, h1, h2, h3, h4, h5, h6⟩
    · exact absurd (congrArg Prod.fst z) ne
    · have h3' : t.2 = (k : Int) + 1 := h3
      omega
  | succ N ih =>
    intro q t hq hN ne
    rcases fin_pre hm _ hq with z | ⟨a, ta, e, k, h1, h2, h3, h4, h5, h6⟩
    · exact absurd (congrArg Prod.fst z) ne
    · have h2' : (roundAt wk t.1)[k]? = some e := h2
      have h3' : t.2 = (k : Int) + 1 := h3
      have h4' : JoinT (endsOf rs e) q a := h4
      have h5' : le2 ta t.1 k := h5
      have h6' : m.1 ≤ t.1 := h6
      obtain ⟨r, hr, rfl⟩ := List.mem_map.mp (round_sub hw _ e (List.mem_of_getElem? h2'))
      rw [endsOf_mem ok.r.nd hr] at h4'
      have he := R.edge r.2 (List.mem_map.mpr ⟨r, hr, rfl⟩)
      have two : up q = some a ∨ up a = some q := by
        rcases h4' with ⟨x, y⟩ | ⟨x, y⟩
        · rw [x, y] at he
          exact he
        · rw [x, y] at he
          exact he.symm
      rcases two with z | z
      · exact ⟨a, ta, r.1, k, z, h1, h2', h3', by rw [endsOf_mem ok.r.nd hr]; exact h4', h5'⟩
      · exfalso
        have nd := (fin_inv (p := p) (m := m) ok hw).nd
        have ap : a ≠ p := fun z2 => by rw [z2, R.root] at z; cases z
        obtain ⟨⟨b1, b2⟩, b3, b4⟩ := S_bd (p := p) hw ok.r.most hm 50 _ h1
        have b3' : 0 ≤ ta.2 := b3
        have b4' : ta.2 ≤ 20 := b4
        have ge := fin_ge hm _ h1
        have ge' : m.1 < ta.1 ∨ (m.1 = ta.1 ∧ m.2 ≤ ta.2) := ge
        have lt : (ta.1 - m.1).toNat * 100 + ta.2.toNat < (t.1 - m.1).toNat * 100 + t.2.toNat := by
          rcases h5' with x | ⟨x, y⟩
          · have : (ta.1 - m.1).toNat + 1 ≤ (t.1 - m.1).toNat := by rcases ge' with g | ⟨g, _⟩ <;> omega
            omega
          · rw [x]
            omega
        obtain ⟨b, tb, e', k', u1, u2, u3, u4, u5, u6⟩ := ih a ta h1 (by omega) ap
        rw [z] at u1
        obtain rfl := Option.some.inj u1
        have := fin_uniq nd u2 hq
        subst this
        rcases h5' with x | ⟨x, y⟩ <;> rcases u6 with x2 | ⟨x2, y2⟩ <;> omega
theorem rota_at {r : List Str} (hr : RotaOk rs r) {e : Str} (he : e ∈ rnm rs) : r[rk r e]? = some e := by
  have : e ∈ r := by
    by_cases z : e ∈ r
    · exact z
    · exfalso
      have h := nd_len (e :: r) (rnm rs) (List.nodup_cons.mpr ⟨z, hr.ok.nd⟩) (fun x hx => by
        rcases List.mem_cons.mp hx with rfl | hx
        · exact he
        · exact hr.ok.sub x hx)
      rw [List.length_cons, hr.len, List.length_map] at h
      omega
  unfold rk
  rw [List.getElem?_eq_getElem (List.idxOf_lt_length_of_mem this), List.getElem_idxOf]
theorem rk_inj {r : List Str} (hr : RotaOk rs r) {e f : Str} (he : e ∈ rnm rs) (hf : f ∈ rnm rs) (h : rk r e = rk r f) : e = f := by
  have a := rota_at hr he
  have b := rota_at hr hf
  rw [h, b] at a
  exact (Option.some.inj a).symm
theorem rk_of {r : List Str} (hr : RotaOk rs r) {e : Str} {k : Nat} (h : r[k]? = some e) : k = rk r e := by
  have he := hr.ok.sub e (List.mem_of_getElem? h)
  exact nd_ix hr.ok.nd h (rota_at hr he)
/-- the moment behind the next walk -/
theorem tree_time (ok : WebOk ps rs) {r : List Str} (hr : RotaOk rs r) (hp : p ∈ ps) (hm : MomS [r] m) (T : TreeOk ps rs) (R : Rt ps (tiesR rs) p up dep) {q a : Str} {ta : Mom} {s : Road} (u : up q = some a) (ha : (a, ta) ∈ FinS rs [r] p m) (hs : s ∈ rs) (js : JoinT s.2 q a) :
    (q, nxt ta (rk r s.1)) ∈ FinS rs [r] p m := by
  have hw := hr.week
  have nd := (fin_inv (p := p) (m := m) ok hw).nd
  have qp : q ≠ p := fun z => by rw [z, R.root] at u; cases u
  have hs' : s.1 ∈ rnm rs := List.mem_map.mpr ⟨s, hs, rfl⟩
  have jE : JoinT (endsOf rs s.1) a q := by rw [endsOf_mem ok.r.nd hs]; exact js.symm
  obtain ⟨D, hD, hle, hn⟩ : ∃ D, (roundAt [r] D)[rk r s.1]? = some s.1 ∧ le2 ta D (rk r s.1) ∧ nxt ta (rk r s.1) = (D, (rk r s.1 : Int) + 1) := by
    by_cases c : ta.2 ≤ (rk r s.1 : Int)
    · exact ⟨ta.1, by rw [round_one]; exact rota_at hr hs', .inr ⟨rfl, c⟩, if_pos c⟩
    · exact ⟨ta.1 + 1, by rw [round_one]; exact rota_at hr hs', .inl (by omega), if_neg c⟩
  obtain ⟨t, ht, l⟩ := fin_step ok hw hp hm hD ha hle jE
  obtain ⟨b, tb, e, k, u1, u2, u3, u4, u5, u6⟩ := tree_pre ok hw hp hm R _ q t ht (Nat.le_refl _) qp
  rw [u] at u1
  obtain rfl := Option.some.inj u1
  have := fin_uniq nd ha u2
  subst this
  rw [round_one] at u3
  obtain ⟨s2, hs2, rfl⟩ := List.mem_map.mp (hr.ok.sub e (List.mem_of_getElem? u3))
  rw [endsOf_mem ok.r.nd hs2] at u5
  have := T.uniq hs hs2 js u5
  subst this
  have hk := rk_of hr u3
  subst hk
  rw [hn]
  have e2 : t = (D, (rk r s.1 : Int) + 1) := by
    have e1 : t.1 = D := by
      unfold nxt at hn
      split at hn
      · rename_i c
        have := congrArg Prod.fst hn
        have this' : ta.1 = D := this
        rcases l with x | ⟨x, _⟩ <;> rcases u6 with y | ⟨y, _⟩ <;> omega
      · rename_i c
        have := congrArg Prod.fst hn
        have this' : ta.1 + 1 = D := this
        rcases l with x | ⟨x, _⟩ <;> rcases u6 with y | ⟨y, y2⟩ <;> omega
    exact Prod.ext e1 u4
  rw [← e2]
  exact ht
/-- a way that never turns about leads away -/
theorem Go.down (T : TreeOk ps rs) (R : Rt ps (tiesR rs) p up dep) {w : List Str} {q : Str} (h : Go rs p w q) : ∀ {v : List Str} {e : Str}, w = v ++ [e] → ∃ a s, up q = some a ∧ s ∈ rs ∧ s.1 = e ∧ JoinT s.2 q a ∧ Go rs p v a := by
  induction h with
  | nil =>
    intro v e z
    simp at z
  | @snoc w b c r h hr j n ih =>
    intro v e z
    obtain ⟨rfl, z2⟩ := List.append_inj' z rfl
    have z3 : r.1 = e := by simpa using z2
    subst z3
    have ed := R.edge r.2 (List.mem_map.mpr ⟨r, hr, rfl⟩)
    have two : up c = some b ∨ up b = some c := by
      rcases j with ⟨x, y⟩ | ⟨x, y⟩
      · rw [x, y] at ed
        exact ed.symm
      · rw [x, y] at ed
        exact ed
    rcases two with u | u
    · exact ⟨b, r, u, hr, rfl, j.symm, h⟩
    · exfalso
      rcases List.eq_nil_or_concat w with rfl | ⟨w', f, rfl⟩
      · have e : b = p := h.nil_eq
        rw [e, R.root] at u
        cases u
      · obtain ⟨a, s, u1, hs, hf, js, _⟩ := ih (v := w') (e := f) (by simp)
        rw [u] at u1
        obtain rfl := Option.some.inj u1
        have := T.uniq hr hs (a := b) (b := c) j js
        subst this
        exact n (by simp [hf])
theorem go_time (ok : WebOk ps rs) {r : List Str} (hr : RotaOk rs r) (hp : p ∈ ps) (hm : MomS [r] m) (T : TreeOk ps rs) : ∀ (n : Nat) (w : List Str) (q : Str), w.length = n → Go rs p w q → (q, goT r m w) ∈ FinS rs [r] p m
  | 0, w, q, hl, h => by
    obtain rfl := List.length_eq_zero_iff.mp hl
    have e : q = p := h.nil_eq
    subst e
    have i : ks (FinS rs [r] q m) = ks (FinS rs [r] q m) := rfl
    obtain ⟨t, et⟩ := S_le (rs := rs) (wk := [r]) (p := q) (m := m) 50 0
    rw [Nat.zero_add] at et
    show (q, m) ∈ S rs [r] q m 50
    rw [et]
    exact List.mem_append.mpr (.inl (List.mem_singleton.mpr rfl))
  | n + 1, w, q, hl, h => by
    obtain ⟨v, e, rfl⟩ : ∃ v e, w = v ++ [e] := ⟨w.dropLast, w.getLast (by intro z; rw [z] at hl; simp at hl), (List.dropLast_concat_getLast _).symm⟩
    obtain ⟨up, dep, R⟩ := T.rt p hp
    obtain ⟨a, s, u, hs, rfl, js, hv⟩ := h.down T R rfl
    have ih := go_time ok hr hp hm T n v a (by simpa using hl) hv
    rw [goT_snoc]
    exact tree_time ok hr hp hm T R u ih hs js
end
end Rp

set_option Elab.async false
set_option linter.all false
set_option maxRecDepth 100000
set_option maxHeartbeats 4000000
namespace Rp
open PySem PySem.Spec PyProof.Rows L2 Dl
/-! ### dicts from names to data -/
abbrev kd (l : List (Str × PyData)) : List Str := l.map fun q => q.1
theorem dA_in (l : List (Str × PyData)) (q : Str) : (valA (dA l) (.inr q)).isSome = decide (q ∈ kd l) := by
  unfold valA dA
  induction l with
  | nil => rfl
  | cons x st ih =>
    rw [List.map_cons, List.find?_cons]
    by_cases e : x.1 = q
    · rw [decide_eq_true (show (Sum.inr x.1 : Key) = Sum.inr q from congrArg _ e), decide_eq_true (show q ∈ kd (x :: st) from List.mem_cons.mpr (.inl e.symm))]
      rfl
    · rw [decide_eq_false (show ¬ (Sum.inr x.1 : Key) = Sum.inr q from fun z => e (Sum.inr.inj z))]
      refine ih.trans (decide_eq_decide.mpr ⟨List.mem_cons_of_mem _, fun h => ?_⟩)
      rcases List.mem_cons.mp h with z | z
      · exact absurd z.symm e
      · exact z
theorem lookD_at : ∀ {l : List (Str × PyData)} {q : Str} {d : PyData}, (kd l).Nodup → (q, d) ∈ l → lookD l q = d
  | x :: l, q, d, nd, h => by
    have nd' := List.nodup_cons.mp nd
    unfold lookD
    rw [List.find?_cons]
    rcases List.mem_cons.mp h with rfl | h
    · rw [decide_eq_true rfl]
      rfl
    · rw [decide_eq_false (fun e : x.1 = q => nd'.1 (List.mem_map.mpr ⟨(q, d), h, e.symm⟩))]
      exact lookD_at nd'.2 h
theorem dA_at {l : List (Str × PyData)} {q : Str} {d : PyData} (nd : (kd l).Nodup) (h : (q, d) ∈ l) : valA (dA l) (.inr q) = some (.d d) := by
  have a := dA_in l q
  rw [decide_eq_true (List.mem_map.mpr ⟨_, h, rfl⟩)] at a
  have b := valA_d l q
  rw [lookD_at nd h] at b
  cases e : valA (dA l) (.inr q) with
  | none => rw [e] at a; cases a
  | some z => rw [e] at b; exact congrArg some b
theorem dA_put {l : List (Str × PyData)} {q : Str} {d : PyData} (hn : q ∉ kd l) : putA (dA l) (.inr q) (.d d) = dA (l ++ [(q, d)]) := by
  unfold dA
  rw [putA_new, List.map_append]
  · rfl
  · intro x hx e
    exact hn (Sum.inr.inj e ▸ List.mem_map.mpr ⟨x, hx, rfl⟩)
theorem dA_len (l : List (Str × PyData)) : (dA l).length = l.length := List.length_map ..
/-! ### ways in trees, found turn by turn -/
abbrev Wys := List (Str × List Str)
abbrev kw (W : Wys) : List Str := W.map fun q => q.1
def wayD (w : List Str) : PyData := .tuple (w.map .str)
def wyL (W : Wys) : List (Str × PyData) := W.map fun q => (q.1, wayD q.2)
theorem kd_wy (W : Wys) : kd (wyL W) = kw W := by
  unfold wyL kw kd
  rw [List.map_map]
  rfl
def wayOf (W : Wys) (q : Str) : List Str := ((W.find? fun x => decide (x.1 = q)).map fun x => x.2).getD []
theorem wayOf_at : ∀ {W : Wys} {q : Str}, q ∈ kw W → (q, wayOf W q) ∈ W
  | x :: W, q, h => by
    unfold wayOf
    rw [List.find?_cons]
    by_cases e : x.1 = q
    · rw [decide_eq_true e]
      subst e
      exact List.mem_cons_self ..
    · rw [decide_eq_false e]
      rcases List.mem_cons.mp h with z | z
      · exact absurd z.symm e
      · exact List.mem_cons_of_mem _ (wayOf_at z)
theorem kw_app (a b : Wys) : kw (a ++ b) = kw a ++ kw b := List.map_append ..
def stepP (W : Wys) (r : Road) : Wys :=
  if r.2.1 ∈ kw W then (if r.2.2 ∈ kw W then W else W ++ [(r.2.2, wayOf W r.2.1 ++ [r.1])])
  else if r.2.2 ∈ kw W then W ++ [(r.2.1, wayOf W r.2.2 ++ [r.1])] else W
def passP (rs : List Road) (W : Wys) : Wys := rs.foldl stepP W
def itP' (rs : List Road) (p : Str) : Nat → Wys
  | 0 => [(p, [])]
  | n + 1 => passP rs (itP' rs p n)
theorem stepP_app (W : Wys) (r : Road) : ∃ t, stepP W r = W ++ t := by
  unfold stepP
  split
  · split
    · exact ⟨[], (List.append_nil _).symm⟩
    · exact ⟨_, rfl⟩
  · split
    · exact ⟨_, rfl⟩
    · exact ⟨[], (List.append_nil _).symm⟩
theorem passP_app : ∀ (rs : List Road) (W : Wys), ∃ t, passP rs W = W ++ t
  | [], W => ⟨[], (List.append_nil _).symm⟩
  | r :: rs, W => by
    obtain ⟨t, e⟩ := stepP_app W r
    obtain ⟨u, e2⟩ := passP_app rs (stepP W r)
    exact ⟨t ++ u, by show passP rs (stepP W r) = _; rw [e2, e, List.append_assoc]⟩
theorem passP_still : ∀ (rs : List Road) (W : Wys), passP rs W = W → ∀ r ∈ rs, (r.2.1 ∈ kw W ↔ r.2.2 ∈ kw W)
  | [], _, _ => fun r hr => by cases hr
  | r :: rs, W, h => by
    obtain ⟨t, e⟩ := stepP_app W r
    obtain ⟨u, e2⟩ := passP_app rs (stepP W r)
    have h' : passP rs (stepP W r) = W := h
    rw [e2, e, List.append_assoc] at h'
    have h2 : t ++ u = [] := List.append_cancel_left (h'.trans (List.append_nil _).symm)
    have ht := (List.append_eq_nil_iff.mp h2).1
    have e3 : stepP W r = W := by rw [e, ht, List.append_nil]
    intro x hx
    rcases List.mem_cons.mp hx with rfl | hx
    · unfold stepP at e3
      split at e3
      · rename_i a
        split at e3
        · rename_i b
          exact ⟨fun _ => b, fun _ => a⟩
        · have := congrArg List.length e3
          simp at this
      · rename_i a
        split at e3
        · have := congrArg List.length e3
          simp at this
        · rename_i b
          exact ⟨fun z => absurd z a, fun z => absurd z b⟩
    · refine passP_still rs W ?_ x hx
      have h3 : passP rs (stepP W r) = W := h
      rw [e3] at h3
      exact h3
structure WI (ps : List Str) (rs : List Road) (p : Str) (up : Str → Option Str) (W : Wys) : Prop where
  nd : (kw W).Nodup
  hd : p ∈ kw W
  sub : ∀ q ∈ kw W, q ∈ ps
  go : ∀ x ∈ W, Go rs p x.2 x.1
  cl : ∀ q ∈ kw W, ∀ a, up q = some a → a ∈ kw W
  sz : ∀ x ∈ W, x.2.length < W.length
section
variable {ps : List Str} {rs : List Road} {p : Str} {up : Str → Option Str} {dep : Str → Nat}
theorem WI.start (hp : p ∈ ps) (R : Rt ps (tiesR rs) p up dep) : WI ps rs p up [(p, [])] where
  nd := List.nodup_cons.mpr ⟨(fun z => by cases z), List.nodup_nil⟩
  hd := List.mem_singleton.mpr rfl
  sub := fun q hq => by rw [List.mem_singleton.mp hq]; exact hp
  go := fun x hx => by rw [List.mem_singleton.mp hx]; exact .nil
  cl := fun q hq a h => by
    rw [List.mem_singleton.mp hq, R.root] at h
    cases h
  sz := fun x hx => by rw [List.mem_singleton.mp hx]; exact Nat.zero_lt_one
theorem WI.add (T : TreeOk ps rs) (R : Rt ps (tiesR rs) p up dep) (nd : (rnm rs).Nodup) {W : Wys} (h : WI ps rs p up W) {r : Road} (hr : r ∈ rs) {a b : Str} (j : JoinT r.2 b a) (ha : a ∈ kw W) (hb : b ∉ kw W) : WI ps rs p up (W ++ [(b, wayOf W a ++ [r.1])]) := by
  have ed := R.edge r.2 (List.mem_map.mpr ⟨r, hr, rfl⟩)
  have at_ := R.at_ r.2 (List.mem_map.mpr ⟨r, hr, rfl⟩)
  have two : up b = some a ∨ up a = some b := by
    rcases j with ⟨x, y⟩ | ⟨x, y⟩
    · rw [x, y] at ed
      exact ed
    · rw [x, y] at ed
      exact ed.symm
  have bp : b ∈ ps := by
    rcases j with ⟨x, y⟩ | ⟨x, y⟩
    · exact x ▸ at_.1
    · exact y ▸ at_.2
  have u : up b = some a := by
    rcases two with z | z
    · exact z
    · exact absurd (h.cl a ha b z) hb
  have wa := wayOf_at ha
  have ga := h.go _ wa
  refine ⟨?_, ?_, fun q hq => ?_, fun x hx => ?_, fun q hq c e => ?_, fun x hx => ?_⟩
  · rw [kw_app]
    refine List.nodup_append.mpr ⟨h.nd, List.nodup_cons.mpr ⟨(fun z => by cases z), List.nodup_nil⟩, fun x hx y hy e => hb ?_⟩
    have e2 : x = b := e.trans (List.mem_singleton.mp hy)
    exact e2 ▸ hx
  · rw [kw_app]
    exact List.mem_append.mpr (.inl h.hd)
  · rw [kw_app] at hq
    rcases List.mem_append.mp hq with z | z
    · exact h.sub q z
    · rw [List.mem_singleton.mp z]
      exact bp
  · rcases List.mem_append.mp hx with z | z
    · exact h.go x z
    · rw [List.mem_singleton.mp z]
      refine ga.snoc hr j.symm fun l => ?_
      rcases List.eq_nil_or_concat (wayOf W a) with e | ⟨v, f, e⟩
      · rw [e] at l
        simp at l
      · rw [e] at l ga
        rw [List.concat_eq_append] at l ga
        have fe : f = r.1 := by simpa using l
        subst fe
        obtain ⟨c, s, u1, hs, es, js, _⟩ := Go.down T R ga rfl
        have e2 : s = r := by
          obtain ⟨i, hi⟩ := List.mem_iff_getElem?.mp hs
          obtain ⟨k, hk⟩ := List.mem_iff_getElem?.mp hr
          have := nd_ix nd (i := i) (j := k) (x := r.1) (by rw [List.getElem?_map, hi]; exact congrArg some es) (by rw [List.getElem?_map, hk]; rfl)
          subst this
          rw [hi] at hk
          exact Option.some.inj hk
        subst e2
        have ca : c = b := by
          have ne : a ≠ b := fun z => hb (z ▸ ha)
          rcases js with ⟨x, y⟩ | ⟨x, y⟩ <;> rcases j with ⟨x2, y2⟩ | ⟨x2, y2⟩
          · exact absurd (x.symm.trans x2) ne
          · exact y.symm.trans y2
          · exact x.symm.trans x2
          · exact absurd (y.symm.trans y2) ne
        subst ca
        exact hb (h.cl a ha c u1)
  · rw [kw_app] at hq ⊢
    rcases List.mem_append.mp hq with z | z
    · exact List.mem_append.mpr (.inl (h.cl q z c e))
    · rw [List.mem_singleton.mp z, u] at e
      obtain rfl := Option.some.inj e
      exact List.mem_append.mpr (.inl ha)
  · rw [List.length_append]
    rcases List.mem_append.mp hx with z | z
    · have := h.sz x z
      show _ < W.length + 1
      omega
    · rw [List.mem_singleton.mp z]
      have := h.sz _ wa
      show (wayOf W a ++ [r.1]).length < W.length + 1
      rw [List.length_append]
      have : (wayOf W a).length < W.length := this
      show _ + 1 < _
      omega
theorem WI.step (T : TreeOk ps rs) (R : Rt ps (tiesR rs) p up dep) (nd : (rnm rs).Nodup) {W : Wys} (h : WI ps rs p up W) {r : Road} (hr : r ∈ rs) : WI ps rs p up (stepP W r) := by
  unfold stepP
  split
  · rename_i a
    split
    · exact h
    · rename_i b
      exact h.add T R nd hr (.inr ⟨rfl, rfl⟩) a b
  · rename_i a
    split
    · rename_i b
      exact h.add T R nd hr (.inl ⟨rfl, rfl⟩) b a
    · exact h
theorem WI.pass (T : TreeOk ps rs) (R : Rt ps (tiesR rs) p up dep) (nd : (rnm rs).Nodup) : ∀ (ss : List Road), (∀ r ∈ ss, r ∈ rs) → ∀ {W : Wys}, WI ps rs p up W → WI ps rs p up (passP ss W)
  | [], _, _, h => h
  | r :: ss, hs, W, h => WI.pass T R nd ss (fun x hx => hs x (List.mem_cons_of_mem _ hx)) (h.step T R nd (hs r (List.mem_cons_self ..)))
theorem WI.len {W : Wys} (h : WI ps rs p up W) : W.length ≤ ps.length := by
  have := nd_len (kw W) ps h.nd h.sub
  rwa [List.length_map] at this
theorem WI.iter (T : TreeOk ps rs) (R : Rt ps (tiesR rs) p up dep) (nd : (rnm rs).Nodup) (hp : p ∈ ps) : ∀ n, WI ps rs p up (itP' rs p n)
  | 0 => .start hp R
  | n + 1 => (WI.iter T R nd hp n).pass T R nd rs fun _ h => h
theorem WI.mid (T : TreeOk ps rs) (R : Rt ps (tiesR rs) p up dep) (nd : (rnm rs).Nodup) (hp : p ∈ ps) (n i : Nat) : WI ps rs p up (passP (rs.take i) (itP' rs p n)) :=
  (WI.iter T R nd hp n).pass T R nd _ fun r h => List.mem_of_mem_take h
theorem closed_all (R : Rt ps (tiesR rs) p up dep) {W : Wys} (h : WI ps rs p up W) (c : ∀ r ∈ rs, (r.2.1 ∈ kw W ↔ r.2.2 ∈ kw W)) : ∀ n q, q ∈ ps → dep q ≤ n → q ∈ kw W := by
  intro n
  induction n with
  | zero =>
    intro q hq hn
    by_cases z : q = p
    · rw [z]; exact h.hd
    · obtain ⟨a, u⟩ := R.par q hq z
      have := (R.step q a u).2.2.1
      omega
  | succ n ih =>
    intro q hq hn
    by_cases z : q = p
    · rw [z]; exact h.hd
    · obtain ⟨a, u⟩ := R.par q hq z
      obtain ⟨s1, s2, s3, e, he, j⟩ := R.step q a u
      obtain ⟨r, hr, rfl⟩ := List.mem_map.mp he
      have ha := ih a s1 (by omega)
      rcases j with ⟨x, y⟩ | ⟨x, y⟩
      · rw [← x]
        exact (c r hr).mpr (y ▸ ha)
      · rw [← y]
        exact (c r hr).mp (x ▸ ha)
theorem iter_full (T : TreeOk ps rs) (R : Rt ps (tiesR rs) p up dep) (nd : (rnm rs).Nodup) (hp : p ∈ ps) : ∀ n, (∀ q ∈ ps, q ∈ kw (itP' rs p n)) ∨ n + 1 ≤ (itP' rs p n).length
  | 0 => .inr (Nat.le_refl _)
  | n + 1 => by
    have I := WI.iter T R nd hp n
    obtain ⟨t, e⟩ := passP_app rs (itP' rs p n)
    rcases iter_full T R nd hp n with h | h
    · refine .inl fun q hq => ?_
      show q ∈ kw (passP rs (itP' rs p n))
      rw [e, kw_app]
      exact List.mem_append.mpr (.inl (h q hq))
    · cases t with
      | nil =>
        rw [List.append_nil] at e
        refine .inl fun q hq => ?_
        show q ∈ kw (passP rs (itP' rs p n))
        rw [e]
        exact closed_all R I (passP_still rs _ e) _ q hq (Nat.le_refl _)
      | cons x t =>
        refine .inr ?_
        show n + 1 + 1 ≤ (passP rs (itP' rs p n)).length
        rw [e, List.length_append, List.length_cons]
        omega
theorem iter_all (T : TreeOk ps rs) (R : Rt ps (tiesR rs) p up dep) (nd : (rnm rs).Nodup) (hp : p ∈ ps) : ∀ q ∈ ps, q ∈ kw (itP' rs p ps.length) := by
  rcases iter_full T R nd hp ps.length with h | h
  · exact h
  · have := (WI.iter T R nd hp ps.length).len
    omega
end
theorem passP_snoc {rs : List Road} {W : Wys} {i : Nat} {r : Road} (h : rs[i]? = some r) : passP (rs.take (i + 1)) W = stepP (passP (rs.take i) W) r := by
  rw [take_get h]
  unfold passP
  rw [List.foldl_append]
  rfl
theorem wyL_snoc (W : Wys) (b : Str) (w : List Str) : wyL (W ++ [(b, w)]) = wyL W ++ [(b, wayD w)] := List.map_append ..
theorem wy_at {W : Wys} {q : Str} (nd : (kw W).Nodup) (h : q ∈ kw W) : valA (dA (wyL W)) (.inr q) = some (.d (wayD (wayOf W q))) :=
  dA_at (by rw [kd_wy]; exact nd) (List.mem_map.mpr ⟨_, wayOf_at h, rfl⟩)
theorem wy_put {W : Wys} {b : Str} {w : List Str} (h : b ∉ kw W) : putA (dA (wyL W)) (.inr b) (.d (wayD w)) = dA (wyL (W ++ [(b, w)])) := by
  rw [dA_put (by rw [kd_wy]; exact h), wyL_snoc]
theorem wayD_snoc (w : List Str) (n : Str) : (PyData.tuple (w.map .str ++ [.str n])) = wayD (w ++ [n]) := by
  unfold wayD
  rw [List.map_append]
  rfl
theorem dO_dA' (l : List (Str × PyData)) : dO (.dct (dA l)) := dO_dA l
def R__law_path : DR := fun xs μ Pk _ => ∃ ps rs p q, xs = [.d (webD ps rs), .d (.str p), .d (.str q)] ∧ μ = [] ∧ WebOk ps rs ∧ TreeOk ps rs ∧ p ∈ ps ∧ q ∈ ps ∧ ∀ w, Go rs p w q → w.length ≤ 10 → Pk (.d (wayD w)) []
theorem fr_path {μ : Mu} {P : DK} {Ex : DX} {ps : List Str} {rs : List Road} {p q : Str} (ok : WebOk ps rs) (T : TreeOk ps rs) (hp : p ∈ ps) (hq : q ∈ ps) (h : ∀ w, Go rs p w q → w.length ≤ 10 → P (.d (wayD w)) μ) : FR R__law_path [.d (webD ps rs), .d (.str p), .d (.str q)] μ P Ex :=
  fr_d [_, _, _] ⟨ps, rs, p, q, rfl, rfl, ok, T, hp, hq, fun w g l => bk (h w g l)⟩
end Rp

set_option Elab.async false
set_option linter.all false
set_option maxRecDepth 100000
set_option maxHeartbeats 4000000
namespace Rp
open PySem PySem.Spec PyProof.Rows L2 Dl
/-! ### calls in short -/
section
variable {μ : Mu} {P : DK} {Ex : DX} {ps : List Str} {rs : List Road} {wk : List (List Str)} {p q : Str} {m : Mom} {r : List Str}
theorem bk0 {d : PyData} (h : P (.d d) μ) : (∀ o ∈ ([] : Mu), dO o) ∧ P (upA [] μ.length (.d d)) (μ ++ []) := bk h
theorem fr_need_web (ok : WebOk ps rs) (h : P (.d .none) μ) : FR R_need_web [.d (webD ps rs)] μ P Ex := fr_d [_] ⟨ps, rs, rfl, rfl, ok, bk h⟩
theorem fr_need_week (ok : WebOk ps rs) (hw : WeekOk rs wk) (h : P (.d .none) μ) : FR R_need_week [.d (webD ps rs), .d (weekD wk)] μ P Ex := fr_d [_, _] ⟨ps, rs, wk, rfl, rfl, ok.r.most, hw, bk h⟩
theorem fr_need_place (hp : p ∈ ps) (h : P (.d .none) μ) : FR R_need_place [.d (webD ps rs), .d (.str p)] μ P Ex := fr_d [_, _] ⟨ps, rs, p, rfl, rfl, hp, bk h⟩
theorem fr_need_moment (hw : WeekOk rs wk) (hm : MomOk wk m) (h : P (.d .none) μ) : FR R_need_moment [.d (weekD wk), .d (momD m)] μ P Ex := fr_d [_, _] ⟨wk, m, rfl, rfl, ⟨hw.one, hw.most⟩, hm, bk h⟩
theorem fr_need_rota (ok : WebOk ps rs) (hr : RotaOk rs r) (h : P (.d .none) μ) : FR R_need_rota [.d (webD ps rs), .d (roundD r)] μ P Ex := fr_d [_, _] ⟨ps, rs, r, rfl, rfl, ok.r.most, hr, bk h⟩
theorem fr_spread (ok : WebOk ps rs) (hw : WeekOk rs wk) (hp : p ∈ ps) (hm : MomS wk m) (h : P (.c μ.length) (μ ++ [.dct (stA (FinS rs wk p m))])) : FR RC_spread [.d (webD ps rs), .d (weekD wk), .d (.str p), .d (momD m)] μ P Ex :=
  fr_d [_, _, _, _] ⟨rfl, ps, rs, wk, p, m, rfl, rfl, ok, hw, hp, hm, fun N _ hF => by
    rw [fin_of ok hw hp hF]
    exact bkc (dO_st _) h⟩
theorem fr_lawArr (ok : WebOk ps rs) (hw : WeekOk rs wk) (hp : p ∈ ps) (hm : MomS wk m) (h : P (.c μ.length) (μ ++ [.dct (stA (FinS rs wk p m))])) : FR R__law_arrivals [.d (webD ps rs), .d (weekD wk), .d (.str p), .d (momD m)] μ P Ex :=
  fr_d [_, _, _, _] ⟨ps, rs, wk, p, m, rfl, rfl, ok, hw, hp, hm, fun N _ hF => by
    rw [fin_of ok hw hp hF]
    exact bkc (dO_st _) h⟩
/-- what arrivals tells -/
def arrL (ps : List Str) (rs : List Road) (wk : List (List Str)) (p : Str) (m : Mom) : List PyData := ps.map (lookD (gotL (FinS rs wk p m)))
theorem fr_arrivals (ok : WebOk ps rs) (hw : WeekOk rs wk) (hp : p ∈ ps) (hm : MomOk wk m) (h1 : P (.d (.list (arrL ps rs wk p m))) μ) : FR R_arrivals [.d (webD ps rs), .d (weekD wk), .d (.str p), .d (momD m)] μ P Ex :=
  fr_d [_, _, _, _] ⟨ps, rs, wk, p, m, rfl, rfl, ok, hw, hp, hm, fun N _ hF => by
    rw [fin_of ok hw hp hF, gotD_lookD]
    exact .inl (bk h1)⟩
theorem fin_mom (hm : MomS wk m) {t : Mom} (h : (q, t) ∈ FinS rs wk p m) : MomS wk t := by
  have ge := fin_ge hm _ h
  have ge' : m.1 < t.1 ∨ (m.1 = t.1 ∧ m.2 ≤ t.2) := ge
  have d1 := hm.d1
  rcases fin_pre hm _ h with z | ⟨a, ta, e, k, h1, h2, h3, h4, h5, h6⟩
  · have : t = m := congrArg Prod.snd z
    subst this
    exact hm
  · have h3' : t.2 = (k : Int) + 1 := h3
    have h2' : (roundAt wk t.1)[k]? = some e := h2
    have lt := (List.getElem?_eq_some_iff.mp h2').1
    exact ⟨by omega, by omega, by omega⟩
theorem Reach.trans {ss : List Road} {a b c : Str} (h : Reach ss a b) (h' : Reach ss b c) : Reach ss a c := by
  induction h' with
  | refl => exact h
  | go _ hr j ih => exact .go ih hr j
theorem Reach.symm {ss : List Road} {a b : Str} (h : Reach ss a b) : Reach ss b a := by
  induction h with
  | refl => exact .refl
  | @go b c r _ hr j ih =>
    refine Reach.trans (.go .refl hr ?_) ih
    exact j.elim (fun x => .inr ⟨x.2, x.1⟩) fun x => .inl ⟨x.2, x.1⟩
def ansD (rs : List Road) (wk : List (List Str)) (p q : Str) (m : Mom) : PyData :=
  if q ∈ ks (FinS rs wk p m) then momD (valS (FinS rs wk q (valS (FinS rs wk p m) q)) p) else .none
def R_answer_moment : DR := fun xs μ Pk _ => ∃ ps rs wk p q m, xs = [.d (webD ps rs), .d (weekD wk), .d (.str p), .d (.str q), .d (momD m)] ∧ μ = [] ∧ WebOk ps rs ∧ WeekOk rs wk ∧ p ∈ ps ∧ q ∈ ps ∧ MomOk wk m ∧ Pk (.d (ansD rs wk p q m)) []
theorem fr_answer (ok : WebOk ps rs) (hw : WeekOk rs wk) (hp : p ∈ ps) (hq : q ∈ ps) (hm : MomOk wk m) (h : P (.d (ansD rs wk p q m)) μ) : FR R_answer_moment [.d (webD ps rs), .d (weekD wk), .d (.str p), .d (.str q), .d (momD m)] μ P Ex :=
  fr_d [_, _, _, _, _] ⟨ps, rs, wk, p, q, m, rfl, rfl, ok, hw, hp, hq, hm, bk h⟩
end
theorem tb_one {nm : List Str} (h : 1 ≤ nm.length) : TB (nm.take (0 + 1)) [] := by
  cases nm with
  | nil => simp at h
  | cons x nm => exact .one x
theorem tb_add {nm : List Str} {ts : List Tie} {i j : Nat} {x y : Str} (nd : nm.Nodup) (h : TB (nm.take (i + 1)) ts) (hx : nm[i + 1]? = some x) (hy : nm[j]? = some y) (hj : j ≤ i) : TB (nm.take (i + 1 + 1)) (ts ++ [(x, y)]) := by
  rw [take_get hx]
  refine .add h (fun z => ?_) ?_
  · obtain ⟨l, hl⟩ := List.mem_iff_getElem?.mp z
    rw [List.getElem?_take] at hl
    split at hl
    · have := nd_ix nd hl hx
      omega
    · cases hl
  · refine List.mem_iff_getElem?.mpr ⟨j, ?_⟩
    rw [List.getElem?_take, if_pos (by omega)]
    exact hy
def R__law_webT : DR := fun xs μ Pk _ => ∃ o k, ∃ way : Str, xs = [.c 0, .d (.str way)] ∧ μ = [o] ∧ FD k o ∧ k < 10 ^ 16 ∧
  ∀ ps rs o', WebOk ps rs → (way = "tree" → TreeOk ps rs) → FD (k + 200) o' → Pk (.d (webD ps rs)) [o']
theorem fr_web' {μ : Mu} {P : DK} {Ex : DX} {n : Nat} {o : O} {k : Int} {way : Str} (h : μ[n]? = some o) (hk : FD k o) (k1 : k < 10 ^ 16) (q : ∀ ps rs o', WebOk ps rs → FD (k + 200) o' → P (.d (webD ps rs)) (μ.set n o')) : FR R__law_webT [.c n, .d (.str way)] μ P Ex :=
  fr_feed [_] h hk.dO ⟨o, k, way, rfl, rfl, hk, k1, fun ps rs o' h1 _ hk' => bkf hk'.dO (q ps rs o' h1 hk')⟩
theorem fr_webT {μ : Mu} {P : DK} {Ex : DX} {n : Nat} {o : O} {k : Int} (h : μ[n]? = some o) (hk : FD k o) (k1 : k < 10 ^ 16) (q : ∀ ps rs o', WebOk ps rs → TreeOk ps rs → FD (k + 200) o' → P (.d (webD ps rs)) (μ.set n o')) : FR R__law_webT [.c n, .d (.str "tree")] μ P Ex :=
  fr_feed [_] h hk.dO ⟨o, k, "tree", rfl, rfl, hk, k1, fun ps rs o' h1 h2 hk' => bkf hk'.dO (q ps rs o' h1 (h2 rfl) hk')⟩
theorem WebOk.perm {ps ps' : List Str} {rs rs' : List Road} (h : WebOk ps rs) (hp : ps'.Perm ps) (hr : rs'.Perm rs) : WebOk ps' rs' where
  p := ⟨by rw [hp.length_eq]; exact h.p.one, by rw [hp.length_eq]; exact h.p.most, fun s hs => h.p.nm s (hp.mem_iff.mp hs), hp.nodup_iff.mpr h.p.nd⟩
  r := ⟨by rw [hr.length_eq]; exact h.r.most, fun r hs => h.r.nm r (hr.mem_iff.mp hs), fun r hs => hp.mem_iff.mpr (h.r.a r (hr.mem_iff.mp hs)), fun r hs => hp.mem_iff.mpr (h.r.b r (hr.mem_iff.mp hs)), fun r hs => h.r.ne r (hr.mem_iff.mp hs), (hr.map _).nodup_iff.mpr h.r.nd⟩
theorem TreeOk.perm {ps ps' : List Str} {rs rs' : List Road} (h : TreeOk ps rs) (hp : ps'.Perm ps) (hr : rs'.Perm rs) : TreeOk ps' rs' where
  rt := fun p hpp => by
    obtain ⟨up, dep, R⟩ := h.rt p (hp.mem_iff.mp hpp)
    have ht : (tiesR rs').Perm (tiesR rs) := hr.map _
    exact ⟨up, dep, R.same (fun q => hp.mem_iff) (fun e he => ⟨e, ht.mem_iff.mp he, .inl rfl⟩) fun e he => ⟨e, ht.mem_iff.mpr he, .inl rfl⟩⟩
  one := noPar_perm (hr.map _) h.one
theorem Flips.refl : ∀ ts : List Tie, Flips ts ts
  | [] => .nil
  | _ :: ts => .keep (Flips.refl ts)
theorem fr_namesI {μ : Mu} {P : DK} {Ex : DX} {n : Nat} {o : O} {k i : Int} (m : Nat) (e : i = (m : Int)) (h : μ[n]? = some o) (hk : FD k o) (k1 : k < 10 ^ 17) (q : ∀ (nm : List Str) (o' : O), nm.length = min m 14 → nm.Nodup → (∀ s ∈ nm, NameOk s) → FD (k + 14) o' → P (.d (.list (nm.map .str))) (μ.set n o')) : FR R__law_names [.c n, .d (.int i)] μ P Ex := by
  subst e
  exact fr_names h hk k1 fun ss o' hp hk' => q _ o' (by rw [List.length_take, hp.length_eq, names14_len]) (take_nd hp m) (take_ok hp m) hk'
def R__law_tall_tree : DR := fun xs μ Pk _ => ∃ o k, xs = [.c 0] ∧ μ = [o] ∧ FD k o ∧ k < 10 ^ 16 ∧ ∀ ps rs o', WebOk ps rs → TreeOk ps rs → FD (k + 200) o' → Pk (.d (webD ps rs)) [o']
theorem fr_tall {μ : Mu} {P : DK} {Ex : DX} {n : Nat} {o : O} {k : Int} (h : μ[n]? = some o) (hk : FD k o) (k1 : k < 10 ^ 16) (q : ∀ ps rs o', WebOk ps rs → TreeOk ps rs → FD (k + 200) o' → P (.d (webD ps rs)) (μ.set n o')) : FR R__law_tall_tree [.c n] μ P Ex :=
  fr_feed [] h hk.dO ⟨o, k, rfl, rfl, hk, k1, fun ps rs o' h1 h2 hk' => bkf hk'.dO (q ps rs o' h1 h2 hk')⟩
theorem Sml.shown {d : PyData} (h : Sml d) : Shown d := by
  refine ⟨h.sh, h.nd, Nat.le_trans h.dp (by decide), ?_⟩
  refine Nat.le_trans (shown_le13 ?_ h.si) (by decide)
  unfold PyData.layable0
  simp only [Bool.and_eq_true, decide_eq_true_eq]
  refine ⟨⟨h.cl, Nat.le_trans h.dp (by decide)⟩, ?_⟩
  have := h.wt
  have : (2 : Nat) ^ 20 = 1048576 := by decide
  omega
/-- repr(x) != repr(y), the same -/
theorem repr_same {x : Dl.A} {μ : Mu} {d : PyData} {P : DK} (h : Shown d) (hx : DatOf x μ d) (q : P (.d (.str d.shown)) μ) : rdRepU [x] μ P := ⟨x, d, rfl, hx, h.1, h.2.1, h.2.2.1, h.2.2.2, q⟩
theorem eqvA_strs : ∀ xs ys : List Str, PyData.eqvAll (xs.map .str) (ys.map .str) = decide (xs = ys)
  | [], [] => by simp only [List.map_nil, PyData.eqvAll, decide_true]
  | [], _ :: _ => by simp [PyData.eqvAll]
  | _ :: _, [] => by simp [PyData.eqvAll]
  | x :: xs, y :: ys => by
    have e : (x == y) = decide (x = y) := by rw [Bool.eq_iff_iff, beq_iff_eq, decide_eq_true_eq]
    rw [List.map_cons, List.map_cons, PyData.eqvAll, eqvA_strs xs ys, PyData.eqv, e, ← Bool.decide_and]
    exact decide_eq_decide.mpr (by rw [List.cons.injEq])
theorem eqv_way (xs ys : List Str) : PyData.eqv (wayD xs) (wayD ys) = decide (xs = ys) := by
  unfold wayD
  simp only [PyData.eqv]
  exact eqvA_strs xs ys
theorem strs_lay : ∀ {xs : List Str}, (∀ s ∈ xs, NameOk s) → PyData.canLayAll0 (xs.map .str) = true ∧ PyData.depthAll (xs.map .str) = 0
  | [], _ => ⟨rfl, by simp [PyData.depthAll]⟩
  | x :: xs, h => by
    obtain ⟨a, b⟩ := strs_lay (xs := xs) fun s hs => h s (List.mem_cons_of_mem _ hs)
    have c := name_str (h x (List.mem_cons_self ..))
    refine ⟨?_, ?_⟩
    · simp only [List.map_cons, PyData.canLayAll0, PyData.canLay0, a, c, Bool.and_self]
    · simp [PyData.depthAll, PyData.depth, b]
theorem way_shaped {xs : List Str} (h : ∀ s ∈ xs, NameOk s) : SeqAt.shaped (wayD xs) = true := by
  obtain ⟨a, b⟩ := strs_lay h
  unfold SeqAt.shaped wayD
  refine Bool.and_eq_true_iff.mpr ⟨?_, decide_eq_true ?_⟩
  · simpa only [PyData.canLay0] using a
  · simp only [PyData.depth, b]
    omega
theorem Go.names {rs : List Road} {a b : Str} {w : List Str} (h : Go rs a w b) : ∀ e ∈ w, e ∈ rnm rs := by
  induction h with
  | nil => intro e he; cases he
  | @snoc w b c r _ hr _ _ ih =>
    intro e he
    rcases List.mem_append.mp he with z | z
    · exact ih e z
    · rw [List.mem_singleton.mp z]
      exact List.mem_map.mpr ⟨r, hr, rfl⟩
theorem rota_of_perm {rs : List Road} {ss : List Str} (nd : (rnm rs).Nodup) (hp : ss.Perm (rnm rs)) : RotaOk rs ss := rota_of nd hp
/-- several ways to a web -/
theorem viaW {X : List Str → List Road → O → Prop} {G : Prop} (Q : List Str → List Road → O → Prop) (k : (∀ ps rs o, Q ps rs o → X ps rs o) → G) (h : ∀ ps rs o, Q ps rs o → X ps rs o) : G := k h
def R__law_trees_right : DR := R_law
def R__law_weeks_right : DR := R_law
theorem t_index {ys : List Str} {k : Str} {μ : Mu} {P : DK} (h : k ∈ ys) (q : P (.d (.int (rk ys k : Nat))) μ) : rdTIndexS (.d (roundD ys)) [.d (.str k)] μ P := ⟨ys, k, rfl, rfl, h, q⟩
theorem fr_webW {μ : Mu} {P : DK} {Ex : DX} {n : Nat} {o : O} {k : Int} {way : Str} (h : μ[n]? = some o) (hk : FD k o) (k1 : k < 10 ^ 16) (q : ∀ ps rs o', WebOk ps rs → (way = "tree" → TreeOk ps rs) → FD (k + 200) o' → P (.d (webD ps rs)) (μ.set n o')) : FR R__law_webT [.c n, .d (.str way)] μ P Ex :=
  fr_feed [_] h hk.dO ⟨o, k, way, rfl, rfl, hk, k1, fun ps rs o' h1 h2 hk' => bkf hk'.dO (q ps rs o' h1 h2 hk')⟩
def R__law_some_webT : DR := fun xs μ Pk _ => ∃ o k, ∃ way : Str, xs = [.c 0, .d (.str way)] ∧ μ = [o] ∧ FD k o ∧ k < 10 ^ 15 ∧
  ∀ ps rs o', WebOk ps rs → (way = "tree" → TreeOk ps rs) → FD (k + 300) o' → Pk (.d (webD ps rs)) [o']
theorem fr_someW' {μ : Mu} {P : DK} {Ex : DX} {n : Nat} {o : O} {k : Int} {way : Str} (h : μ[n]? = some o) (hk : FD k o) (k1 : k < 10 ^ 15) (q : ∀ ps rs o', WebOk ps rs → (way = "tree" → TreeOk ps rs) → FD (k + 300) o' → P (.d (webD ps rs)) (μ.set n o')) : FR R__law_some_webT [.c n, .d (.str way)] μ P Ex :=
  fr_feed [_] h hk.dO ⟨o, k, way, rfl, rfl, hk, k1, fun ps rs o' h1 h2 hk' => bkf hk'.dO (q ps rs o' h1 h2 hk')⟩
theorem fr_someT {μ : Mu} {P : DK} {Ex : DX} {n : Nat} {o : O} {k : Int} (h : μ[n]? = some o) (hk : FD k o) (k1 : k < 10 ^ 15) (q : ∀ ps rs o', WebOk ps rs → TreeOk ps rs → FD (k + 300) o' → P (.d (webD ps rs)) (μ.set n o')) : FR R__law_some_webT [.c n, .d (.str "tree")] μ P Ex :=
  fr_someW' h hk k1 fun ps rs o' h1 h2 hk' => q ps rs o' h1 (h2 rfl) hk'
theorem viaT' {X : List (Str × Str) → O → Prop} {G : Prop} (Q : List (Str × Str) → O → Prop) (k : (∀ b o, Q b o → X b o) → G) (h : ∀ b o, Q b o → X b o) : G := k h
/-! ### answers in trees -/
theorem goT_rev {rs : List Road} {ps : List Str} {p q : Str} {r : List Str} {d : Int} (ok : WebOk ps rs) (hr : RotaOk rs r) (hp : p ∈ ps) (hq : q ∈ ps) (T : TreeOk ps rs) (hm : MomS [r] (d, 0)) {w : List Str} (g : Go rs p w q) :
    ansD rs [r] p q (d, 0) = match w with
      | [] => momD (d, 0)
      | e :: _ => momD (d + w.length, (rk r e : Int) + 1) := by
  have hw := hr.week
  have nd := (fin_inv (p := p) (m := (d, 0)) ok hw).nd
  have h1 := go_time ok hr hp hm T w.length w q rfl g
  have h2 := fin_mom hm h1
  have h3 := go_time ok hr hq h2 T w.reverse.length w.reverse p rfl g.rev
  have nd2 := (fin_inv (p := q) (m := goT r (d, 0) w) ok hw).nd
  unfold ansD
  rw [if_pos (mem_ks.mpr ⟨_, h1⟩), fin_val nd h1, fin_val nd2 h3]
  cases w with
  | nil => rfl
  | cons e w =>
    have b := back_to (r := r) (t := (d, 0)) (fun e he f hf z => rk_inj hr he hf z) w.length w q e rfl g
    rw [b]
    have : (nxt (d, 0) (rk r e)).1 = d := by
      unfold nxt
      rw [if_pos (by show (0 : Int) ≤ _; omega)]
    rw [this]
theorem viaD {X : PyData → Mu → Prop} {G : Prop} (Q : PyData → Mu → Prop) (k : (∀ d μ, Q d μ → X d μ) → G) (h : ∀ d μ, Q d μ → X d μ) : G := k h
theorem fin_bd {ps : List Str} {rs : List Road} {wk : List (List Str)} {p : Str} {m : Mom} (ok : WebOk ps rs) (hw : WeekOk rs wk) (hm : MomS wk m) {q : Str} {t : Mom} (h : (q, t) ∈ FinS rs wk p m) : 0 ≤ t.1 ∧ t.1 ≤ m.1 + 50 ∧ 0 ≤ t.2 ∧ t.2 ≤ 20 := by
  obtain ⟨⟨a, b⟩, c, d⟩ := S_bd (p := p) hw ok.r.most hm 50 _ h
  exact ⟨a, b, c, d⟩
theorem fin_shown {ps : List Str} {rs : List Road} {wk : List (List Str)} {p : Str} {m : Mom} (ok : WebOk ps rs) (hw : WeekOk rs wk) (hm : MomS wk m) (d2 : m.1 ≤ 100000000) {q : Str} {t : Mom} (h : (q, t) ∈ FinS rs wk p m) : Shown (momD t) := by
  obtain ⟨a, b, c, d⟩ := fin_bd ok hw hm h
  exact (sml_mom a (by omega) c (by omega)).shown
/-- an answer, or none -/
theorem ans_two {ps : List Str} {rs : List Road} {wk : List (List Str)} {p q : Str} {m : Mom} (ok : WebOk ps rs) (hw : WeekOk rs wk) (hp : p ∈ ps) (hq : q ∈ ps) (hm : MomOk wk m) :
    (q ∉ ks (FinS rs wk p m) ∧ ansD rs wk p q m = .none) ∨ ∃ t u, (q, t) ∈ FinS rs wk p m ∧ (p, u) ∈ FinS rs wk q t ∧ MomS wk t ∧ ansD rs wk p q m = momD u ∧ Shown (momD u) ∧ ¬ (u.1 < t.1 ∨ (u.1 = t.1 ∧ u.2 < t.2)) := by
  by_cases h : q ∈ ks (FinS rs wk p m)
  · refine .inr ?_
    obtain ⟨_, e2⟩ := valS_at _ q h
    have hp2 : p ∈ ks (FinS rs wk q (valS (FinS rs wk p m) q)) := (fin_reach ok hw hq).mpr ((fin_reach ok hw hp).mp h).symm
    obtain ⟨_, f2⟩ := valS_at _ p hp2
    have m2 := fin_mom hm.toMomS e2
    have := hm.d2
    have b := fin_bd ok hw hm.toMomS e2
    refine ⟨_, _, e2, f2, m2, by unfold ansD; rw [if_pos h], fin_shown ok hw m2 (by omega) f2, ?_⟩
    have ge := fin_ge m2 _ f2
    have ge' : (valS (FinS rs wk p m) q).1 < (valS (FinS rs wk q (valS (FinS rs wk p m) q)) p).1 ∨ ((valS (FinS rs wk p m) q).1 = (valS (FinS rs wk q (valS (FinS rs wk p m) q)) p).1 ∧ (valS (FinS rs wk p m) q).2 ≤ (valS (FinS rs wk q (valS (FinS rs wk p m) q)) p).2) := ge
    rcases ge' with g | ⟨g, g2⟩ <;> rintro (x | ⟨x, y⟩) <;> omega
  · exact .inl ⟨h, by unfold ansD; rw [if_neg h]⟩
theorem arr_at {ps : List Str} {rs : List Road} {wk : List (List Str)} {p q : Str} {m t : Mom} (ok : WebOk ps rs) (hw : WeekOk rs wk) {i : Nat} (hi : ps[i]? = some q) (h : (q, t) ∈ FinS rs wk p m) : (arrL ps rs wk p m)[i]? = some (momD t) := by
  unfold arrL
  rw [List.getElem?_map, hi]
  have nd := (fin_inv (p := p) (m := m) ok hw).nd
  refine congrArg some (lookD_at ?_ (List.mem_map.mpr ⟨_, h, rfl⟩))
  unfold kd gotL
  rw [List.map_map]
  exact nd
theorem go_ex {rs : List Road} {ps : List Str} {p q : Str} (ok : WebOk ps rs) (T : TreeOk ps rs) (hp : p ∈ ps) (hq : q ∈ ps) : ∃ w, Go rs p w q ∧ w.length ≤ 10 := by
  obtain ⟨up, dep, R⟩ := T.rt p hp
  have I := WI.iter T R ok.r.nd hp ps.length
  have w := wayOf_at (iter_all T R ok.r.nd hp q hq)
  have l := I.sz _ w
  have l2 := I.len
  have l3 := ok.p.most
  exact ⟨_, I.go _ w, by
    have : (wayOf (itP' rs p ps.length) q).length < (itP' rs p ps.length).length := l
    omega⟩
theorem ans_day {rs : List Road} {ps : List Str} {p q : Str} {r : List Str} {d : Int} (ok : WebOk ps rs) (hr : RotaOk rs r) (hp : p ∈ ps) (hq : q ∈ ps) (T : TreeOk ps rs) (hm : MomS [r] (d, 0)) {w : List Str} (g : Go rs p w q) :
    ∃ j, ansD rs [r] p q (d, 0) = momD (d + (w.length : Int), j) := by
  rw [goT_rev ok hr hp hq T hm g]
  cases w with
  | nil => exact ⟨0, by show momD (d, 0) = momD (d + 0, 0); rw [Int.add_zero]⟩
  | cons e w => exact ⟨_, rfl⟩
theorem momD_inj {x y : Mom} (h : momD x = momD y) : x = y := by
  unfold momD at h
  injection h with h
  injection h with h1 h
  injection h with h2 h
  injection h1 with h1
  injection h2 with h2
  exact Prod.ext h1 h2
end Rp

set_option Elab.async false
set_option linter.all false
set_option maxRecDepth 100000
set_option maxHeartbeats 4000000
namespace Rp
open PySem PySem.Spec PyProof.Rows L2 Dl
/-! ### lags, of any two moments -/
def lagG (a b : Got) : List (Str × PyData) := a.map fun x => (x.1, .int ((valS b x.1).1 - x.2.1))
def R_lagsG : DR := fun xs μ Pk _ => ∃ ps rs r p m m', xs = [.d (webD ps rs), .d (roundD r), .d (.str p), .d (momD m), .d (momD m')] ∧ μ = [] ∧ WebOk ps rs ∧ RotaOk rs r ∧ p ∈ ps ∧ MomOk [r] m ∧ MomOk [r] m' ∧ ¬ (m'.1 < m.1 ∨ (m'.1 = m.1 ∧ m'.2 < m.2)) ∧
  Pk (.d (.list (ps.map (lookD (lagG (FinS rs [r] p m) (FinS rs [r] p m')))))) []
section
variable {μ : Mu} {P : DK} {Ex : DX} {ps : List Str} {rs : List Road} {p q : Str} {m m' : Mom} {r : List Str}
theorem fr_lagsG (ok : WebOk ps rs) (hr : RotaOk rs r) (hp : p ∈ ps) (hm : MomOk [r] m) (hm' : MomOk [r] m') (hl : ¬ (m'.1 < m.1 ∨ (m'.1 = m.1 ∧ m'.2 < m.2))) (h : P (.d (.list (ps.map (lookD (lagG (FinS rs [r] p m) (FinS rs [r] p m')))))) μ) : FR R_lagsG [.d (webD ps rs), .d (roundD r), .d (.str p), .d (momD m), .d (momD m')] μ P Ex :=
  fr_d [_, _, _, _, _] ⟨ps, rs, r, p, m, m', rfl, rfl, ok, hr, hp, hm, hm', hl, bk h⟩
theorem lookD_at2 {l : List (Str × PyData)} {q : Str} {d : PyData} (nd : (kd l).Nodup) (h : (q, d) ∈ l) : lookD l q = d := lookD_at nd h
theorem lag_at (ok : WebOk ps rs) (hr : RotaOk rs r) (hp : p ∈ ps) (T : TreeOk ps rs) (hm : MomS [r] m) (hm' : MomS [r] m') {w : List Str} (g : Go rs p w q) :
    lookD (lagG (FinS rs [r] p m) (FinS rs [r] p m')) q = .int ((goT r m' w).1 - (goT r m w).1) := by
  have h1 := go_time ok hr hp hm T _ w q rfl g
  have h2 := go_time ok hr hp hm' T _ w q rfl g
  have nd1 := (fin_inv (p := p) (m := m) ok hr.week).nd
  have nd2 := (fin_inv (p := p) (m := m') ok hr.week).nd
  refine lookD_at ?_ (List.mem_map.mpr ⟨_, h1, ?_⟩)
  · unfold kd lagG
    rw [List.map_map]
    exact nd1
  · show (q, PyData.int ((valS _ q).1 - (goT r m w).1)) = _
    rw [valS_nd nd2 h2]
/-- the lag beyond the first road is that of the first road -/
theorem lag_head (r : List Str) (m m' : Mom) (e : Str) : ∃ D : Int, (m.1 = m'.1 → ¬ (m'.2 < m.2) → D = 0 ∨ D = 1) ∧ (¬ (m'.1 < m.1 ∨ (m'.1 = m.1 ∧ m'.2 < m.2)) → 0 ≤ D) ∧ ∀ v, (goT r m' (e :: v)).1 - (goT r m (e :: v)).1 = D := by
  have h : nxt m' (rk r e) = shM ((nxt m' (rk r e)).1 - (nxt m (rk r e)).1) (nxt m (rk r e)) := by
    have a : (nxt m' (rk r e)).2 = (nxt m (rk r e)).2 := by
      unfold nxt
      split <;> split <;> rfl
    unfold shM
    refine Prod.ext ?_ a
    show _ = (nxt m (rk r e)).1 + ((nxt m' (rk r e)).1 - (nxt m (rk r e)).1)
    omega
  refine ⟨(nxt m' (rk r e)).1 - (nxt m (rk r e)).1, fun e1 e2 => ?_, fun e1 => ?_, fun v => ?_⟩
  · unfold nxt
    split <;> split <;> simp only [] <;> omega
  · unfold nxt
    split <;> split <;> simp only [] <;> omega
  · generalize (nxt m' (rk r e)).1 - (nxt m (rk r e)).1 = D at h
    rw [goT_cons, goT_cons, h, goT_sh]
    show (goT r (nxt m (rk r e)) v).1 + D - (goT r (nxt m (rk r e)) v).1 = D
    omega
end
theorem Go.ps {ps : List Str} {rs : List Road} (ok : WebOk ps rs) {p q : Str} {w : List Str} (hp : p ∈ ps) (g : Go rs p w q) : q ∈ ps := by
  cases g with
  | nil => exact hp
  | @snoc w b _ r h hr j n =>
    rcases j with ⟨_, e⟩ | ⟨e, _⟩
    · rw [← e]; exact ok.r.b r hr
    · rw [← e]; exact ok.r.a r hr
/-! ### the places along a way -/
def Trail (rs : List Road) (p : Str) (w qs : List Str) : Prop := qs.length = w.length ∧
  ∀ i, i < w.length → ∃ a c s, (p :: qs)[i]? = some a ∧ qs[i]? = some c ∧ s ∈ rs ∧ w[i]? = some s.1 ∧ JoinT s.2 a c ∧ Go rs p (w.take (i + 1)) c
theorem trail_end {rs : List Road} {p q : Str} {w qs : List Str} (g : Go rs p w q) : ∃ qs, Trail rs p w qs ∧ (p :: qs)[w.length]? = some q := by
  induction g with
  | nil => exact ⟨[], ⟨rfl, fun i hi => absurd hi (Nat.not_lt_zero _)⟩, rfl⟩
  | @snoc w b c s h hs j n ih =>
    obtain ⟨qs, ⟨hl, hq⟩, hb⟩ := ih
    refine ⟨qs ++ [c], ⟨by simp [hl], fun i hi => ?_⟩, ?_⟩
    · rw [List.length_append, List.length_singleton] at hi
      rcases Nat.lt_or_ge i w.length with lt | ge
      · obtain ⟨a, c', s', e1, e2, e3, e4, e5, e6⟩ := hq i lt
        refine ⟨a, c', s', ?_, ?_, e3, ?_, e5, ?_⟩
        · show (p :: qs ++ [c])[i]? = _
          rw [List.getElem?_append_left (by show i < qs.length + 1; omega)]
          exact e1
        · rw [List.getElem?_append_left (by omega)]
          exact e2
        · rw [List.getElem?_append_left lt]
          exact e4
        · rw [List.take_append_of_le_length (by omega)]
          exact e6
      · have e : i = w.length := by omega
        subst e
        refine ⟨b, c, s, ?_, ?_, hs, ?_, j, ?_⟩
        · show (p :: qs ++ [c])[w.length]? = _
          rw [List.getElem?_append_left (by show w.length < qs.length + 1; omega)]
          exact hb
        · rw [List.getElem?_append_right (by omega), hl, Nat.sub_self]
          rfl
        · rw [List.getElem?_append_right (Nat.le_refl _), Nat.sub_self]
          rfl
        · rw [List.take_of_length_le (by simp)]
          exact Go.snoc h hs j n
    · rw [List.length_append]
      show ((p :: qs) ++ [c])[w.length + 1]? = _
      rw [List.getElem?_append_right (by show qs.length + 1 ≤ w.length + 1; omega)]
      show [c][w.length + 1 - (qs.length + 1)]? = _
      rw [hl, Nat.sub_self]
      rfl
theorem trail_ex {rs : List Road} {p q : Str} {w : List Str} (g : Go rs p w q) : ∃ qs, Trail rs p w qs := let ⟨qs, h, _⟩ := trail_end (qs := []) g; ⟨qs, h⟩
theorem Trail.heads {rs : List Road} {p : Str} {e : Str} {v qs : List Str} (t : Trail rs p (e :: v) qs) : ∀ c ∈ qs, ∃ u, Go rs p (e :: u) c := fun c hc => by
  obtain ⟨i, hi, ec⟩ := List.mem_iff_getElem.mp hc
  obtain ⟨a, c', s, _, e2, _, _, _, g⟩ := t.2 i (by rw [← t.1]; exact hi)
  rw [List.getElem?_eq_getElem hi, ec] at e2
  obtain rfl := Option.some.inj e2
  exact ⟨_, g⟩
def R__law_ahead : DR := fun xs μ Pk _ => ∃ ps rs p q, xs = [.d (webD ps rs), .d (.str p), .d (.str q)] ∧ μ = [] ∧ WebOk ps rs ∧ TreeOk ps rs ∧ p ∈ ps ∧ q ∈ ps ∧
  ∀ e qs, qs.length ≤ 10 → (∀ c ∈ qs, c ∈ ps ∧ ∃ v, Go rs p (e :: v) c) → Pk (.d (.list ((p :: qs).map .str))) []
theorem fr_ahead {μ : Mu} {P : DK} {Ex : DX} {ps : List Str} {rs : List Road} {p q : Str} (ok : WebOk ps rs) (T : TreeOk ps rs) (hp : p ∈ ps) (hq : q ∈ ps) (h : ∀ e qs, qs.length ≤ 10 → (∀ c ∈ qs, c ∈ ps ∧ ∃ v, Go rs p (e :: v) c) → P (.d (.list ((p :: qs).map .str))) μ) : FR R__law_ahead [.d (webD ps rs), .d (.str p), .d (.str q)] μ P Ex :=
  fr_d [_, _, _] ⟨ps, rs, p, q, rfl, rfl, ok, T, hp, hq, fun e qs l g => bk (h e qs l g)⟩
theorem road_one {rs : List Road} (nd : (rnm rs).Nodup) {s : Road} (hs : s ∈ rs) : rs.filter (fun x => decide (x.1 = s.1)) = [s] := by
  induction rs with
  | nil => cases hs
  | cons x rs ih =>
    have nd' : x.1 ∉ rnm rs ∧ (rnm rs).Nodup := List.nodup_cons.mp nd
    rw [List.filter_cons]
    rcases List.mem_cons.mp hs with rfl | hs
    · rw [if_pos (by simp)]
      refine congrArg (s :: ·) (List.filter_eq_nil_iff.mpr fun y hy h => nd'.1 ?_)
      have : y.1 = s.1 := by simpa using h
      rw [← this]
      exact List.mem_map.mpr ⟨y, hy, rfl⟩
    · rw [if_neg ?_]
      · exact ih nd'.2 hs
      · intro h
        have : x.1 = s.1 := by simpa using h
        exact nd'.1 (this ▸ List.mem_map.mpr ⟨s, hs, rfl⟩)
end Rp
namespace Rp
open PySem PySem.Spec PyProof.Rows L2 Dl
theorem cut_tail {α : Type} (x : α) (l : List α) : cut (x :: l) (some 1) none = l := by
  unfold cut
  rw [HT.sIx_none, show HT.sIx (x :: l).length 0 (some 1) = min 1 (x :: l).length from HT.sIx_nat _ _ 1]
  have : min 1 (x :: l).length = 1 := by
    show min 1 (l.length + 1) = 1
    omega
  rw [this]
  show List.take (l.length + 1 - 1) l = l
  exact List.take_of_length_le (by omega)
theorem ints_lay : ∀ {xs : List Int}, (∀ i ∈ xs, 0 ≤ i ∧ i < 10 ^ 9) → PyData.canLayAll0 (xs.map .int) = true ∧ PyData.depthAll (xs.map .int) = 0
  | [], _ => ⟨rfl, by simp [PyData.depthAll]⟩
  | x :: xs, h => by
    obtain ⟨a, b⟩ := ints_lay (xs := xs) fun s hs => h s (List.mem_cons_of_mem _ hs)
    obtain ⟨x0, x1⟩ := h x (List.mem_cons_self ..)
    have c := (sml_int x0 x1).cl
    refine ⟨?_, ?_⟩
    · simp only [List.map_cons, PyData.canLayAll0, a, c, Bool.and_self]
    · simp [PyData.depthAll, PyData.depth, b]
theorem ints_shaped {xs : List Int} (h : ∀ i ∈ xs, 0 ≤ i ∧ i < 10 ^ 9) : SeqAt.shaped (.list (xs.map .int)) = true := by
  obtain ⟨a, b⟩ := ints_lay h
  unfold SeqAt.shaped
  refine Bool.and_eq_true_iff.mpr ⟨?_, decide_eq_true ?_⟩
  · simpa only [PyData.canLay0] using a
  · simp only [PyData.depth, b]
    omega
theorem eqvA_ints : ∀ xs : List Int, PyData.eqvAll (xs.map .int) (xs.map .int) = true
  | [] => by simp [PyData.eqvAll]
  | x :: xs => by simp [PyData.eqvAll, PyData.eqv, eqvA_ints xs]
theorem eqv_ints (xs : List Int) : PyData.eqv (.list (xs.map .int)) (.list (xs.map .int)) = true := by
  simp only [PyData.eqv]
  exact eqvA_ints xs
theorem rep_row (n : Nat) (D : Int) : (List.replicate n (cut ((List.replicate n D).map PyData.int |>.map A.d) none (some 1))).flatten = ((List.replicate n D).map PyData.int).map A.d := by
  rw [show (some 1 : Option Int) = some ((1 : Nat) : Int) from rfl, cut_nat]
  cases n with
  | zero => rfl
  | succ n =>
    rw [show List.take 1 (((List.replicate (n + 1) D).map PyData.int).map A.d) = [A.d (.int D)] by rw [List.replicate_succ]; rfl]
    generalize n + 1 = k
    induction k with
    | zero => rfl
    | succ k ih => rw [List.replicate_succ, List.replicate_succ, List.flatten_cons, ih]; rfl
theorem rk_at {ps : List Str} {x : Str} (h : x ∈ ps) : ps[rk ps x]? = some x := by
  have lt := List.idxOf_lt_length_of_mem h
  unfold rk
  rw [List.getElem?_eq_getElem lt, List.getElem_idxOf lt]
theorem mm_order (x y : Int × Int) : ¬ ((if Dl.ltP x y then y else x).1 < (if Dl.ltP y x then y else x).1 ∨ ((if Dl.ltP x y then y else x).1 = (if Dl.ltP y x then y else x).1 ∧ (if Dl.ltP x y then y else x).2 < (if Dl.ltP y x then y else x).2)) := by
  cases h1 : Dl.ltP x y <;> cases h2 : Dl.ltP y x <;> unfold Dl.ltP at h1 h2 <;> simp only [decide_eq_true_eq, decide_eq_false_iff_not] at h1 h2 <;> simp only [if_true, if_false, Bool.false_eq_true] <;> omega
theorem lag_ex {ps : List Str} {rs : List Road} {p : Str} {r : List Str} {m m' : Mom} (ok : WebOk ps rs) (hr : RotaOk rs r) (hp : p ∈ ps) (T : TreeOk ps rs) (hm : MomOk [r] m) (hm' : MomOk [r] m') (hl : ¬ (m'.1 < m.1 ∨ (m'.1 = m.1 ∧ m'.2 < m.2))) :
    ∃ L : Str → Int, (∀ x ∈ ps, lookD (lagG (FinS rs [r] p m) (FinS rs [r] p m')) x = .int (L x) ∧ (0 ≤ L x ∧ L x < 10 ^ 9) ∧ ∃ t t', (x, t) ∈ FinS rs [r] p m ∧ (x, t') ∈ FinS rs [r] p m' ∧ L x = t'.1 - t.1) ∧ ∀ e, ∃ D : Int, (m.1 = m'.1 → D = 0 ∨ D = 1) ∧ ∀ v x, x ∈ ps → Go rs p (e :: v) x → L x = D := by
  have nd1 := (fin_inv (p := p) (m := m) ok hr.week).nd
  have nd2 := (fin_inv (p := p) (m := m') ok hr.week).nd
  refine ⟨fun x => (valS (FinS rs [r] p m') x).1 - (valS (FinS rs [r] p m) x).1, fun x hx => ?_, fun e => ?_⟩
  · obtain ⟨w, g, _⟩ := go_ex ok T hp hx
    have h1 := go_time ok hr hp hm.toMomS T _ w x rfl g
    have h2 := go_time ok hr hp hm'.toMomS T _ w x rfl g
    have e1 := valS_nd nd1 h1
    have e2 := valS_nd nd2 h2
    have e1' : valS (FinS rs [r] p m) x = goT r m w := e1
    have e2' : valS (FinS rs [r] p m') x = goT r m' w := e2
    show lookD _ x = .int ((valS (FinS rs [r] p m') x).1 - (valS (FinS rs [r] p m) x).1) ∧ (0 ≤ (valS (FinS rs [r] p m') x).1 - (valS (FinS rs [r] p m) x).1 ∧ (valS (FinS rs [r] p m') x).1 - (valS (FinS rs [r] p m) x).1 < 10 ^ 9) ∧ _
    rw [e1', e2']
    refine ⟨lag_at ok hr hp T hm.toMomS hm'.toMomS g, ⟨?_, ?_⟩, _, _, h1, h2, ?_⟩
    · cases w with
      | nil =>
        show 0 ≤ m'.1 - m.1
        omega
      | cons e v =>
        obtain ⟨D, _, h3, h4⟩ := lag_head r m m' e
        rw [h4 v]
        exact h3 hl
    · obtain ⟨a1, _⟩ := fin_bd ok hr.week hm.toMomS h1
      obtain ⟨_, b1, _⟩ := fin_bd ok hr.week hm'.toMomS h2
      have := hm'.d2
      omega
    · show (valS (FinS rs [r] p m') x).1 - (valS (FinS rs [r] p m) x).1 = _
      rw [e1', e2']
  · obtain ⟨D, h1, _, h2⟩ := lag_head r m m' e
    refine ⟨D, fun z => h1 z fun y => hl (.inr ⟨z.symm, y⟩), fun v x hx g => ?_⟩
    have h1 := go_time ok hr hp hm.toMomS T _ _ x rfl g
    have h2' := go_time ok hr hp hm'.toMomS T _ _ x rfl g
    have e1 := valS_nd nd1 h1
    have e2 := valS_nd nd2 h2'
    have e1' : valS (FinS rs [r] p m) x = goT r m (e :: v) := e1
    have e2' : valS (FinS rs [r] p m') x = goT r m' (e :: v) := e2
    show (valS (FinS rs [r] p m') x).1 - (valS (FinS rs [r] p m) x).1 = D
    rw [e1', e2']
    exact h2 v
end Rp

set_option Elab.async false
set_option linter.all false
set_option maxRecDepth 100000
set_option maxHeartbeats 4000000
namespace Rp
open PySem PySem.Spec PyProof.Rows L2 Dl
/-! ### days between two places, by numbers -/
def numD (ps : List Str) (rs : List Road) (e : Str) : PyData := .tuple [.int (rk ps (endsOf rs e).1 : Nat), .int (rk ps (endsOf rs e).2 : Nat)]
def numL (ps : List Str) (rs : List Road) : List (Str × PyData) := rs.map fun r => (r.1, .tuple [.int (rk ps r.2.1 : Nat), .int (rk ps r.2.2 : Nat)])
def R_numbered_ends : DR := fun xs μ Pk _ => ∃ ps rs, xs = [.d (webD ps rs)] ∧ μ = [] ∧ WebOk ps rs ∧ Pk (.c 0) [.dct (dA (numL ps rs))]
def R_numbered_rounds : DR := fun xs μ Pk _ => ∃ ps rs wk, xs = [.d (webD ps rs), .d (weekD wk)] ∧ μ = [] ∧ WebOk ps rs ∧ WeekOk rs wk ∧ Pk (.d (.list (wk.map fun r => .list (r.map (numD ps rs))))) []
def R_days_between : DR := fun xs μ Pk _ => ∃ ps rs r p q t, xs = [.d (.list (r.map (numD ps rs))), .d (.int (rk ps p : Nat)), .d (.int (rk ps q : Nat))] ∧ μ = [] ∧ WebOk ps rs ∧ RotaOk rs r ∧ p ∈ ps ∧ q ∈ ps ∧ (q, t) ∈ FinS rs [r] p (1, 0) ∧
  Pk (.d (.int (if q = p then 0 else t.1))) []
def MaskOf (ps : List Str) (n : Nat) (ss : List Str) : Prop := ∀ x ∈ ps, n.testBit (rk ps x) = decide (x ∈ ss)
theorem rk_eq {ps : List Str} {x y : Str} (hx : x ∈ ps) (hy : y ∈ ps) : rk ps x = rk ps y ↔ x = y := by
  constructor
  · intro h
    have a := rk_at hx
    have b := rk_at hy
    rw [h, b] at a
    exact (Option.some.inj a).symm
  · rintro rfl
    rfl
theorem mask_start {ps : List Str} {p : Str} (hp : p ∈ ps) : MaskOf ps (1 * 2 ^ rk ps p) [p] := fun x hx => by
  rw [Nat.one_mul, Nat.testBit_two_pow]
  refine decide_eq_decide.mpr ?_
  rw [List.mem_singleton, rk_eq hp hx]
  exact eq_comm
theorem mask_bit {ps : List Str} {n : Nat} {ss : List Str} (h : MaskOf ps n ss) {x : Str} (hx : x ∈ ps) : n / 2 ^ rk ps x &&& 1 = if x ∈ ss then 1 else 0 := by
  have e := h x hx
  rw [Nat.testBit_eq_decide_div_mod_eq] at e
  rw [Nat.and_one_is_mod]
  by_cases z : x ∈ ss
  · rw [if_pos z]
    have : decide (n / 2 ^ rk ps x % 2 = 1) = true := by rw [e]; exact decide_eq_true z
    exact of_decide_eq_true this
  · rw [if_neg z]
    have : decide (n / 2 ^ rk ps x % 2 = 1) = false := by rw [e]; exact decide_eq_false z
    have := of_decide_eq_false this
    omega
theorem step_ks (rs : List Road) (day : Int) (k : Nat) (e : Str) (st : Got) (x : Str) : x ∈ ks (stepW rs day k e st) ↔ x ∈ ks st ∨ (((endsOf rs e).1 ∈ ks st ∨ (endsOf rs e).2 ∈ ks st) ∧ (x = (endsOf rs e).1 ∨ x = (endsOf rs e).2)) := by
  unfold stepW
  by_cases h1 : (endsOf rs e).1 ∈ ks st <;> by_cases h2 : (endsOf rs e).2 ∈ ks st
  · simp only [h1, h2, decide_true, bne_self_eq_false, Bool.false_eq_true, if_false]
    constructor
    · exact .inl
    · rintro (h | ⟨_, rfl | rfl⟩)
      · exact h
      · exact h1
      · exact h2
  · rw [if_pos (by simp [h1, h2]), if_pos h1]
    unfold ks at h1 ⊢
    rw [List.map_append, List.mem_append, List.map_singleton, List.mem_singleton]
    constructor
    · rintro (h | h)
      · exact .inl h
      · exact .inr ⟨.inl h1, .inr h⟩
    · rintro (h | ⟨_, rfl | rfl⟩)
      · exact .inl h
      · exact .inl h1
      · exact .inr rfl
  · rw [if_pos (by simp [h1, h2]), if_neg h1]
    unfold ks at h2 ⊢
    rw [List.map_append, List.mem_append, List.map_singleton, List.mem_singleton]
    constructor
    · rintro (h | h)
      · exact .inl h
      · exact .inr ⟨.inr h2, .inl h⟩
    · rintro (h | ⟨_, rfl | rfl⟩)
      · exact .inl h
      · exact .inr rfl
      · exact .inl h2
  · simp only [h1, h2, decide_false, bne_self_eq_false, Bool.false_eq_true, if_false]
    constructor
    · exact .inl
    · rintro (h | ⟨h | h, _⟩)
      · exact h
      · exact h.elim
      · exact h.elim
theorem mask_yes {ps : List Str} {rs : List Road} {day : Int} {k n : Nat} {e : Str} {st : Got} (h : MaskOf ps n (ks st)) (ha : (endsOf rs e).1 ∈ ps) (hb : (endsOf rs e).2 ∈ ps) (y : (endsOf rs e).1 ∈ ks st ∨ (endsOf rs e).2 ∈ ks st) :
    MaskOf ps ((n ||| 1 * 2 ^ rk ps (endsOf rs e).1) ||| 1 * 2 ^ rk ps (endsOf rs e).2) (ks (stepW rs day k e st)) := fun x hx => by
  rw [Nat.testBit_or, Nat.testBit_or, h x hx, Nat.one_mul, Nat.one_mul, Nat.testBit_two_pow, Nat.testBit_two_pow]
  have e1 : decide (rk ps (endsOf rs e).1 = rk ps x) = decide (x = (endsOf rs e).1) := decide_eq_decide.mpr ((rk_eq ha hx).trans eq_comm)
  have e2 : decide (rk ps (endsOf rs e).2 = rk ps x) = decide (x = (endsOf rs e).2) := decide_eq_decide.mpr ((rk_eq hb hx).trans eq_comm)
  rw [e1, e2, ← Bool.decide_or, ← Bool.decide_or]
  refine decide_eq_decide.mpr ?_
  rw [step_ks]
  constructor
  · rintro ((h | h) | h)
    · exact .inl h
    · exact .inr ⟨y, .inl h⟩
    · exact .inr ⟨y, .inr h⟩
  · rintro (h | ⟨_, h | h⟩)
    · exact .inl (.inl h)
    · exact .inl (.inr h)
    · exact .inr h
theorem mask_no {ps : List Str} {rs : List Road} {day : Int} {k n : Nat} {e : Str} {st : Got} (h : MaskOf ps n (ks st)) (a : ¬ (endsOf rs e).1 ∈ ks st) (b : ¬ (endsOf rs e).2 ∈ ks st) : MaskOf ps n (ks (stepW rs day k e st)) := by
  have : stepW rs day k e st = st := by
    unfold stepW
    simp only [a, b, decide_false, bne_self_eq_false, Bool.false_eq_true, if_false]
  rw [this]
  exact h
/-- the place is found on the day that the news tells -/
theorem day_of {ps : List Str} {rs : List Road} {r : List Str} {p q : Str} {t : Mom} {n : Nat} (ok : WebOk ps rs) (hr : RotaOk rs r) (hp : p ∈ ps) (h : (q, t) ∈ FinS rs [r] p (1, 0)) (hn : n ≤ 50) (y : q ∈ ks (S rs [r] p (1, 0) n)) (no : n = 0 ∨ q ∉ ks (S rs [r] p (1, 0) (n - 1))) : (n : Int) = if q = p then 0 else t.1 := by
  obtain ⟨u, hu⟩ := mem_ks.mp y
  have nd := (fin_inv (p := p) (m := (1, 0)) ok hr.week).nd
  obtain ⟨l, e⟩ := S_le (rs := rs) (wk := [r]) (p := p) (m := (1, 0)) (50 - n) n
  rw [show n + (50 - n) = 50 by omega] at e
  have hu' : (q, u) ∈ FinS rs [r] p (1, 0) := by
    show (q, u) ∈ S rs [r] p (1, 0) 50
    rw [e]
    exact List.mem_append.mpr (.inl hu)
  obtain rfl := fin_uniq nd h hu'
  cases n with
  | zero =>
    have hu0 : (q, t) ∈ [(p, ((1, 0) : Mom))] := hu
    have := List.mem_singleton.mp hu0
    rw [if_pos (congrArg Prod.fst this)]
    rfl
  | succ n =>
    have no' : q ∉ ks (S rs [r] p (1, 0) n) := no.elim (fun z => by omega) id
    have hqp : q ≠ p := fun z => by
      subst z
      obtain ⟨l2, e2⟩ := S_le (rs := rs) (wk := [r]) (p := q) (m := (1, 0)) n 0
      rw [Nat.zero_add] at e2
      refine no' ?_
      rw [e2]
      exact mem_ks.mpr ⟨(1, 0), List.mem_append.mpr (.inl (List.mem_singleton.mpr rfl))⟩
    rw [if_neg hqp]
    have up := S_Le (rs := rs) (wk := [r]) (p := p) (m := (1, 0)) (Int.le_refl _) (n + 1) _ hu
    have lo := after_S (rs := rs) (wk := [r]) (p := p) (m := (1, 0)) n 1 _ hu
    have lo' : ¬ le2 t (1 + (n : Int)) (beg (1, 0) n) := lo.elim (fun z => absurd (mem_ks.mpr ⟨_, z⟩) no') id
    have up' : t.1 < 1 + ((n + 1 : Nat) : Int) ∨ (t.1 = 1 + ((n + 1 : Nat) : Int) ∧ t.2 ≤ (beg (1, 0) (n + 1) : Int)) := up
    have b0 : (beg (1, 0) n : Int) = 0 := by
      unfold beg
      split <;> rfl
    have b1 : (beg (1, 0) (n + 1) : Int) = 0 := by
      unfold beg
      split <;> rfl
    have lo2 : ¬ (t.1 < 1 + (n : Int) ∨ (t.1 = 1 + (n : Int) ∧ t.2 ≤ (beg (1, 0) n : Int))) := lo'
    have t2 : 1 ≤ t.2 := by
      rcases fin_pre (⟨Int.le_refl _, Int.le_refl _, by show (0 : Int) ≤ _; omega⟩ : MomS [r] (1, 0)) _ h with z | ⟨_, _, _, k, _, _, h3, _⟩
      · exact absurd (congrArg Prod.fst z) hqp
      · have h3' : t.2 = (k : Int) + 1 := h3
        omega
    rw [b1] at up'
    rw [b0] at lo2
    omega
end Rp
namespace Rp
open PySem PySem.Spec PyProof.Rows L2 Dl
def R_beside : DR := fun xs μ Pk _ => ∃ ps rs, xs = [.d (webD ps rs)] ∧ μ = [] ∧ WebOk ps rs ∧ Pk (.c 0) [.dct (dA (ps.map fun p => (p, .list ((roadsAt rs p).map endD))))]
def R_steps_fromT : DR := fun xs μ Pk _ => ∃ ps rs p, xs = [.d (webD ps rs), .d (.str p)] ∧ μ = [] ∧ WebOk ps rs ∧ TreeOk ps rs ∧ p ∈ ps ∧
  ∀ st : List (Str × Int), (st.map (·.1)).Nodup → (∀ x w, x ∈ ps → Go rs p w x → (x, (w.length : Int)) ∈ st) → Pk (.c 0) [.dct (stepA st)]
def backD (r w : List Str) : PyData := if w = [] then .tuple [.int 0, .int 0, .int 0] else .tuple [.int (goT r (1, 0) w).1, .int (goT r (1, 0) w.reverse).1, .int w.length]
def R_there_and_back : DR := fun xs μ Pk _ => ∃ ps rs r p q, xs = [.d (webD ps rs), .d (roundD r), .d (.str p), .d (.str q)] ∧ μ = [] ∧ WebOk ps rs ∧ TreeOk ps rs ∧ RotaOk rs r ∧ p ∈ ps ∧ q ∈ ps ∧
  ∀ w, Go rs p w q → Pk (.d (backD r w)) []
def RK_there_and_back : DR := fun xs μ Pk Ex => ∃ a b c d, xs = [a, b, c, d] ∧ R_there_and_back [d, c, b, a] μ Pk Ex
end Rp
namespace Rp
open PySem PySem.Spec PyProof.Rows L2 Dl
theorem nd_ix {α : Type} {N : List α} (hN : N.Nodup) {i j : Nat} {x : α} (a : N[i]? = some x) (b : N[j]? = some x) : i = j := by
  obtain ⟨h1, e1⟩ := List.getElem?_eq_some_iff.mp a
  obtain ⟨h2, e2⟩ := List.getElem?_eq_some_iff.mp b
  exact (List.getElem_inj hN).mp (e1.trans e2.symm)
theorem dc_ix {α : Type} {ys : List Y} {ok : Mu → Prop} {μ : Mu} {ρ : Rho} {dg : DG} {dk dv : DT} {vs : List Nat} {P : DK} (xs : List α) (kf : α → Key) (vf : Nat → α → Dl.A) (yf : Nat → α → Y) (hl : ys.length = xs.length)
    (hy : ∀ i y, ys[i]? = some y → ∃ x, xs[i]? = some x ∧ y = yf i x) (hok : ok μ) (hz : xs.length ≤ sizeLine) (nd : (xs.map kf).Nodup)
    (hs : ∀ i x, xs[i]? = some x → ∀ Q : Dl.A → Dl.A → Mu → Prop, Q (kD (kf x)) (vf i x) μ → dg (yf i x) (wipeR ρ vs) μ fun ρ3 μ3 => dk ρ3 μ3 fun z μ5 => dv ρ3 μ5 fun u μ6 => Q z u μ6) (q : P (.c μ.length) (μ ++ [.dct (xs.mapIdx fun i x => (kf x, vf i x))])) :
    ∃ Pv : Nat → List (Key × Dl.A) → Mu → Prop, Pv 0 [] μ ∧
      (∀ (i : Nat) y acc μ2, ys[i]? = some y → Pv i acc μ2 → ok μ2 ∧ dg y (wipeR ρ vs) μ2 fun ρ3 μ3 => dtYes ρ3 μ3 fun b μ4 => if b = true then dk ρ3 μ4 fun z μ5 => dv ρ3 μ5 fun u μ6 => ∃ k, z = kD k ∧ acc.length < sizeLine ∧ Pv (i + 1) (putA acc k u) μ6 else Pv (i + 1) acc μ4) ∧
        ∀ acc μ2, Pv ys.length acc μ2 → ok μ2 ∧ dcEnd P acc μ2 := by
  refine ⟨fun i acc μ2 => acc = (xs.take i).mapIdx (fun i x => (kf x, vf i x)) ∧ μ2 = μ, ⟨by rw [List.take_zero]; rfl, rfl⟩, ?_, ?_⟩
  · rintro i y acc μ2 hi ⟨rfl, rfl⟩
    obtain ⟨x, hx, rfl⟩ := hy i y hi
    refine ⟨hok, hs i x hx _ ?_⟩
    have lt := (List.getElem?_eq_some_iff.mp hx).1
    refine ⟨kf x, rfl, ?_, ?_, rfl⟩
    · rw [List.length_mapIdx, List.length_take]
      omega
    · rw [List.take_add_one, hx]
      show _ = (xs.take i ++ [x]).mapIdx _
      rw [List.mapIdx_concat, List.length_take, Nat.min_eq_left (Nat.le_of_lt lt)]
      unfold putA
      rw [if_neg ?_]
      intro z
      obtain ⟨p, hp, e⟩ := List.any_eq_true.mp z
      obtain ⟨j, hj, rfl⟩ := List.mem_mapIdx.mp hp
      have e' : kf (xs.take i)[j] = kf x := of_decide_eq_true e
      rw [List.length_take] at hj
      rw [List.getElem_take] at e'
      have a1 : (xs.map kf)[j]? = some (kf x) := by rw [List.getElem?_map, List.getElem?_eq_getElem (by omega)]; exact congrArg some e'
      have a2 : (xs.map kf)[i]? = some (kf x) := by rw [List.getElem?_map, hx]; rfl
      have := nd_ix nd a1 a2
      omega
  · rintro acc μ2 ⟨rfl, rfl⟩
    rw [hl, List.take_length]
    exact ⟨hok, q⟩
theorem rk_ix {ps : List Str} (nd : ps.Nodup) {i : Nat} {x : Str} (h : ps[i]? = some x) : rk ps x = i := nodup_ix nd (rk_at (List.mem_of_getElem? h)) h
theorem num_dct {ps : List Str} (nd : ps.Nodup) : (ps.mapIdx fun i x => ((Sum.inr x : Key), Dl.A.d (.int (i : Nat)))) = dA (ps.map fun x => (x, PyData.int (rk ps x : Nat))) := by
  unfold dA
  rw [List.map_map]
  refine List.ext_getElem? fun i => ?_
  rw [List.getElem?_mapIdx, List.getElem?_map]
  cases h : ps[i]? with
  | none => rfl
  | some x =>
    show some _ = some (Sum.inr x, Dl.A.d (.int (rk ps x : Nat)))
    rw [rk_ix nd h]
end Rp
namespace Rp
open PySem PySem.Spec PyProof.Rows L2 Dl
theorem num_at {ps : List Str} {rs : List Road} (nd : (rnm rs).Nodup) {e : Str} (h : e ∈ rnm rs) : valA (dA (numL ps rs)) (.inr e) = some (.d (numD ps rs e)) := by
  obtain ⟨s, hs, rfl⟩ := List.mem_map.mp h
  refine dA_at ?_ (List.mem_map.mpr ⟨s, hs, ?_⟩)
  · unfold kd numL
    rw [List.map_map]
    exact nd
  · unfold numD
    rw [endsOf_mem nd hs]
theorem dO_numL {ps : List Str} {rs : List Road} : dO (.dct (dA (numL ps rs))) := dO_dA _
theorem fr_days {μ : Mu} {P : DK} {Ex : DX} {ps : List Str} {rs : List Road} {r : List Str} {p q : Str} {t : Mom} (ok : WebOk ps rs) (hr : RotaOk rs r) (hp : p ∈ ps) (hq : q ∈ ps) (ht : (q, t) ∈ FinS rs [r] p (1, 0)) (h : P (.d (.int (if q = p then 0 else t.1))) μ) : FR R_days_between [.d (.list (r.map (numD ps rs))), .d (.int (rk ps p : Nat)), .d (.int (rk ps q : Nat))] μ P Ex :=
  fr_d [_, _, _] ⟨ps, rs, r, p, q, t, rfl, rfl, ok, hr, hp, hq, ht, bk h⟩
theorem mom10 {r : List Str} : MomS [r] (1, 0) := ⟨Int.le_refl _, Int.le_refl _, by show (0 : Int) ≤ _; omega⟩
theorem mom10k {r : List Str} : MomOk [r] (1, 0) := .mk4 (Int.le_refl _) (by show (1 : Int) ≤ 1000000; decide) (Int.le_refl _) (by show (0 : Int) ≤ _; omega)
end Rp
namespace Rp
open PySem PySem.Spec PyProof.Rows L2 Dl
theorem step_dA (st : List (Str × Int)) : stepA st = dA (st.map fun x => (x.1, PyData.int x.2)) := by
  unfold stepA dA
  rw [List.map_map]
  rfl
theorem stepA_at {st : List (Str × Int)} (nd : (st.map (·.1)).Nodup) {x : Str} {d : Int} (h : (x, d) ∈ st) : (valA (stepA st) (.inr x)).getD (.d .none) = .d (.int d) := by
  rw [step_dA, valA_d, lookD_at (by unfold kd; rw [List.map_map]; exact nd) (List.mem_map.mpr ⟨_, h, rfl⟩)]
theorem goT_pos (r : List Str) (t : Mom) {w : List Str} (h : w ≠ []) : 1 ≤ (goT r t w).2 := by
  obtain ⟨v, e, rfl⟩ : ∃ v e, w = v ++ [e] := ⟨w.dropLast, w.getLast h, (List.dropLast_concat_getLast _).symm⟩
  rw [goT_snoc]
  unfold nxt
  split
  · show 1 ≤ (rk r e : Int) + 1
    omega
  · show 1 ≤ (rk r e : Int) + 1
    omega
theorem Go.ne {ps : List Str} {rs : List Road} {r : List Str} {p q : Str} {w : List Str} (ok : WebOk ps rs) (hr : RotaOk rs r) (hp : p ∈ ps) (T : TreeOk ps rs) (g : Go rs p w q) (h : w ≠ []) : q ≠ p := fun e => by
  subst e
  have a := go_time ok hr hp (m := (1, 0)) mom10 T _ w q rfl g
  have b := go_time ok hr hp (m := (1, 0)) mom10 T _ [] q rfl .nil
  have c := fin_uniq (fin_inv ok hr.week).nd a b
  have d := goT_pos r (1, 0) h
  rw [c] at d
  have d' : (1 : Int) ≤ 0 := d
  omega
theorem fr_there {μ : Mu} {P : DK} {Ex : DX} {ps : List Str} {rs : List Road} {r : List Str} {p q : Str} (ok : WebOk ps rs) (T : TreeOk ps rs) (hr : RotaOk rs r) (hp : p ∈ ps) (hq : q ∈ ps) (h : ∀ w, Go rs p w q → P (.d (backD r w)) μ) : FR R_there_and_back [.d (webD ps rs), .d (roundD r), .d (.str p), .d (.str q)] μ P Ex :=
  fr_d [_, _, _, _] ⟨ps, rs, r, p, q, rfl, rfl, ok, T, hr, hp, hq, fun w g => bk (h w g)⟩
end Rp
namespace Rp
open PySem PySem.Spec PyProof.Rows L2 Dl
/-! ### rises and falls of a way -/
def asc (r : List Str) : Nat → List Str → Nat
  | _, [] => 0
  | k, e :: v => (if k < rk r e then 1 else 0) + asc r (rk r e) v
theorem asc_le (r : List Str) : ∀ (v : List Str) (k : Nat), asc r k v ≤ v.length
  | [], _ => Nat.le_refl _
  | e :: v, k => by
    have := asc_le r v (rk r e)
    show (if k < rk r e then 1 else 0) + asc r (rk r e) v ≤ v.length + 1
    split <;> omega
theorem go_asc (r : List Str) : ∀ (v : List Str) (k : Nat) (d : Int), (goT r (d, (k : Int) + 1) v).1 = d + v.length - asc r k v
  | [], k, d => by
    show d = d + ((0 : Nat) : Int) - ((0 : Nat) : Int)
    omega
  | e :: v, k, d => by
    rw [goT_cons]
    show (goT r (nxt (d, (k : Int) + 1) (rk r e)) v).1 = d + ((v.length + 1 : Nat) : Int) - (((if k < rk r e then 1 else 0) + asc r (rk r e) v : Nat) : Int)
    unfold nxt
    by_cases h : k < rk r e
    · rw [if_pos (show ((d, (k : Int) + 1) : Mom).2 ≤ (rk r e : Int) by show (k : Int) + 1 ≤ _; omega), if_pos h]
      show (goT r (d, (rk r e : Int) + 1) v).1 = _
      rw [go_asc r v]
      omega
    · rw [if_neg (show ¬ ((d, (k : Int) + 1) : Mom).2 ≤ (rk r e : Int) by show ¬ (k : Int) + 1 ≤ _; omega), if_neg h]
      show (goT r (d + 1, (rk r e : Int) + 1) v).1 = _
      rw [go_asc r v]
      omega
theorem go_first (r : List Str) (e : Str) (v : List Str) : (goT r (1, 0) (e :: v)).1 = 1 + v.length - asc r (rk r e) v := by
  rw [goT_cons]
  unfold nxt
  rw [if_pos (show ((1, 0) : Mom).2 ≤ (rk r e : Int) by show (0 : Int) ≤ _; omega)]
  exact go_asc r v _ _
/-- roads that follow one another are not alike -/
def Alt (r : List Str) : List Str → Prop
  | [] => True
  | [_] => True
  | e :: e' :: v => rk r e ≠ rk r e' ∧ Alt r (e' :: v)
theorem go_back (r : List Str) : ∀ (v : List Str) (e : Str), Alt r (e :: v) → goT r (1, 0) (e :: v).reverse = (1 + (asc r (rk r e) v : Int), (rk r e : Int) + 1)
  | [], e, _ => by
    show nxt (1, 0) (rk r e) = _
    unfold nxt
    rw [if_pos (show ((1, 0) : Mom).2 ≤ (rk r e : Int) by show (0 : Int) ≤ _; omega)]
    rfl
  | e' :: v, e, h => by
    rw [List.reverse_cons, goT_snoc, go_back r v e' h.2]
    show nxt _ _ = (1 + (((if rk r e < rk r e' then 1 else 0) + asc r (rk r e') v : Nat) : Int), _)
    have ne := h.1
    unfold nxt
    by_cases z : rk r e < rk r e'
    · rw [if_neg (show ¬ ((1 + (asc r (rk r e') v : Int), (rk r e' : Int) + 1) : Mom).2 ≤ (rk r e : Int) by show ¬ (rk r e' : Int) + 1 ≤ _; omega), if_pos z]
      refine Prod.ext ?_ rfl
      show 1 + (asc r (rk r e') v : Int) + 1 = _
      omega
    · rw [if_pos (show ((1 + (asc r (rk r e') v : Int), (rk r e' : Int) + 1) : Mom).2 ≤ (rk r e : Int) by show (rk r e' : Int) + 1 ≤ _; omega), if_neg z]
      refine Prod.ext ?_ rfl
      show 1 + (asc r (rk r e') v : Int) = _
      omega
theorem alt_snoc (r : List Str) : ∀ (w : List Str) (e : Str), Alt r w → (∀ a, w.getLast? = some a → rk r a ≠ rk r e) → Alt r (w ++ [e])
  | [], _, _, _ => trivial
  | [a], e, _, h => ⟨h a rfl, trivial⟩
  | a :: b :: w, e, h, l => ⟨h.1, alt_snoc r (b :: w) e h.2 fun c hc => l c (by rw [List.getLast?_cons_cons]; exact hc)⟩
theorem Go.alt {rs : List Road} {r : List Str} {p q : Str} {w : List Str} (hr : RotaOk rs r) (g : Go rs p w q) : Alt r w := by
  induction g with
  | nil => trivial
  | @snoc w b c s h hs j n ih =>
    refine alt_snoc r w s.1 ih fun a ha e => n ?_
    have am : a ∈ w := List.mem_of_getLast? ha
    have := rk_inj hr (h.names a am) (List.mem_map.mpr ⟨s, hs, rfl⟩) e
    rw [ha, this]
theorem asc_count (r : List Str) : ∀ (v : List Str) (e : Str), ((List.range v.length).filter fun i => decide (((e :: v).map fun x => (rk r x : Int)).getD i 0 < ((e :: v).map fun x => (rk r x : Int)).getD (i + 1) 0)).length = asc r (rk r e) v
  | [], _ => rfl
  | e' :: v, e => by
    rw [List.length_cons, List.range_succ_eq_map, List.filter_cons]
    have ih := asc_count r v e'
    have sh : (((List.range v.length).map Nat.succ).filter fun i => decide (((e :: e' :: v).map fun x => (rk r x : Int)).getD i 0 < ((e :: e' :: v).map fun x => (rk r x : Int)).getD (i + 1) 0)).length = asc r (rk r e') v := by
      rw [List.filter_map, List.length_map, ← ih]
      rfl
    show List.length (if decide ((rk r e : Int) < (rk r e' : Int)) = true then _ else _) = (if rk r e < rk r e' then 1 else 0) + asc r (rk r e') v
    by_cases z : rk r e < rk r e'
    · rw [if_pos (decide_eq_true (by omega)), if_pos z, List.length_cons, sh, Nat.add_comm]
    · rw [if_neg (by rw [decide_eq_true_eq]; omega), if_neg z, sh, Nat.zero_add]
end Rp
namespace Rp
open PySem PySem.Spec PyProof.Rows L2 Dl
theorem back_cons {rs : List Road} {r : List Str} {p q : Str} {e : Str} {v : List Str} (hr : RotaOk rs r) (g : Go rs p (e :: v) q) : backD r (e :: v) = .tuple [.int (((v.length : Int) + 1) - asc r (rk r e) v), .int ((asc r (rk r e) v : Int) + 1), .int ((v.length : Int) + 1)] := by
  unfold backD
  rw [if_neg (by simp), go_first, go_back r v e (g.alt hr)]
  rw [show (1 + (v.length : Int) - asc r (rk r e) v) = ((v.length : Int) + 1) - asc r (rk r e) v by omega, show (1 + (asc r (rk r e) v : Int)) = (asc r (rk r e) v : Int) + 1 by omega]
  rfl
theorem back_one {ps : List Str} {rs : List Road} {r : List Str} {p q : Str} {w w' : List Str} (ok : WebOk ps rs) (hr : RotaOk rs r) (hp : p ∈ ps) (hq : q ∈ ps) (T : TreeOk ps rs) (g : Go rs p w q) (g' : Go rs p w' q) : backD r w' = backD r w := by
  have nd := (fin_inv (p := p) (m := (1, 0)) ok hr.week).nd
  have nd2 := (fin_inv (p := q) (m := (1, 0)) ok hr.week).nd
  have a := fin_uniq nd (go_time ok hr hp (m := (1, 0)) mom10 T _ w' q rfl g') (go_time ok hr hp (m := (1, 0)) mom10 T _ w q rfl g)
  have b := fin_uniq nd2 (go_time ok hr hq (m := (1, 0)) mom10 T _ w'.reverse p rfl g'.rev) (go_time ok hr hq (m := (1, 0)) mom10 T _ w.reverse p rfl g.rev)
  cases w with
  | nil =>
    cases w' with
    | nil => rfl
    | cons e v => exact absurd g.nil_eq (g'.ne ok hr hp T (by simp))
  | cons e v =>
    cases w' with
    | nil => exact absurd g'.nil_eq (g.ne ok hr hp T (by simp))
    | cons e' v' =>
      have a1 := congrArg Prod.fst a
      have b1 := congrArg Prod.fst b
      rw [go_first, go_first] at a1
      rw [go_back r v e (g.alt hr), go_back r v' e' (g'.alt hr)] at b1
      have b2 : 1 + (asc r (rk r e') v' : Int) = 1 + (asc r (rk r e) v : Int) := b1
      rw [back_cons hr g, back_cons hr g']
      have e1 : (v'.length : Int) = v.length := by omega
      have e2 : (asc r (rk r e') v' : Int) = asc r (rk r e) v := by omega
      rw [e1, e2]
theorem eqv_nil_cons (x : PyData) (xs : List PyData) : PyData.eqv (.list (x :: xs)) (.list []) = false := by
  simp [PyData.eqv, PyData.eqvAll]
end Rp
namespace Rp
open PySem PySem.Spec PyProof.Rows L2 Dl
theorem sml_tri {a b c : Int} (a0 : 0 ≤ a) (a1 : a < 10 ^ 9) (b0 : 0 ≤ b) (b1 : b < 10 ^ 9) (c0 : 0 ≤ c) (c1 : c < 10 ^ 9) : Sml (.tuple [.int a, .int b, .int c]) := by
  have la := int_small a0 a1
  have lb := int_small b0 b1
  have lc := int_small c0 c1
  have n : ∀ {i : Int}, 0 ≤ i → i < 10 ^ 9 → (PyData.shown (.int i)).length ≤ 10 := fun h0 h1 => by
    have := PySem.W.KT.len_num h0 (Int.lt_trans h1 (by decide))
    simpa only [PyData.shown] using this
  have na := n a0 a1
  have nb := n b0 b1
  have nc := n c0 c1
  refine ⟨?_, ?_, ?_, ?_, ?_, ?_⟩
  · simp only [PyData.showable, PyData.showableAll, Bool.and_true, Bool.and_eq_true, decide_eq_true_eq]
    omega
  · simp only [PyData.hasDict, PyData.hasDictAll, Bool.or_self]
  · simp [PyData.depth, PyData.depthAll]
  · simp [PyData.canLay0, PyData.canLayAll0]
  · simp only [PyData.weight, PyData.weightAll]
    split <;> split <;> split <;> omega
  · simp only [PyData.intsShort, PyData.intsShortAll, Bool.and_true, Bool.and_eq_true, decide_eq_true_eq]
    omega
end Rp
namespace Rp
theorem ifF {b : Bool} {p q : Prop} (h : b = false) (x : q) : if b = true then p else q := by rw [h]; exact x
theorem ifT {b : Bool} {p q : Prop} (h : b = true) (x : p) : if b = true then p else q := by rw [h]; exact x
end Rp
namespace Rp
open PySem PySem.Spec PyProof.Rows L2 Dl
theorem Sml.shaped {d : PyData} (h : Sml d) : SeqAt.shaped d = true := Bool.and_eq_true_iff.mpr ⟨h.cl, decide_eq_true (Nat.le_trans h.dp (by decide))⟩
theorem eqv_tri (a b c : Int) : PyData.eqv (.tuple [.int a, .int b, .int c]) (.tuple [.int a, .int b, .int c]) = true := by
  simp [PyData.eqv, PyData.eqvAll]
theorem back_two {ps : List Str} {rs : List Road} {r : List Str} {p q : Str} {w : List Str} (ok : WebOk ps rs) (hr : RotaOk rs r) (hp : p ∈ ps) (hq : q ∈ ps) (T : TreeOk ps rs) (g : Go rs p w q) (wl : w.length ≤ 10) : ∃ a b c : Int, backD r w = .tuple [.int a, .int b, .int c] ∧ backD r w.reverse = .tuple [.int b, .int a, .int c] ∧ Sml (.tuple [.int a, .int b, .int c]) := by
  by_cases z : w = []
  · subst z
    exact ⟨0, 0, 0, rfl, rfl, sml_tri (by decide) (by decide) (by decide) (by decide) (by decide) (by decide)⟩
  · have z' : w.reverse ≠ [] := fun e => z (List.reverse_eq_nil_iff.mp e)
    refine ⟨(goT r (1, 0) w).1, (goT r (1, 0) w.reverse).1, w.length, ?_, ?_, ?_⟩
    · unfold backD
      rw [if_neg z]
    · unfold backD
      rw [if_neg z', List.reverse_reverse, List.length_reverse]
    · obtain ⟨a0, a1, _⟩ := fin_bd ok hr.week (m := (1, 0)) mom10 (go_time ok hr hp (m := (1, 0)) mom10 T _ w q rfl g)
      obtain ⟨b0, b1, _⟩ := fin_bd ok hr.week (m := (1, 0)) mom10 (go_time ok hr hq (m := (1, 0)) mom10 T _ w.reverse p rfl g.rev)
      have a1' : (goT r (1, 0) w).1 ≤ 1 + 50 := a1
      have b1' : (goT r (1, 0) w.reverse).1 ≤ 1 + 50 := b1
      exact sml_tri a0 (by omega) b0 (by omega) (by omega) (by omega)
end Rp
namespace Rp
open PySem PySem.Spec PyProof.Rows L2 Dl
theorem keepR {P : DK} {l : Mu} {j : Nat} {o o' : O} (e : l[j]? = some o) (ho : RfyO 0 (some j) l o o') (h : P (.c 0) [o']) : RetD 0 P (.c j) l := by
  refine ⟨some j, .c 0, [o'], .inr (.inr (.inl ⟨_, rfl, rfl, rfl⟩)), ⟨fun i z => ?_, rfl, fun i u lt => absurd lt (Nat.not_lt_zero _), fun i u z z2 => ?_⟩, h⟩
  · obtain rfl := Option.some.inj z
    exact ⟨Nat.zero_le _, (List.getElem?_eq_some_iff.mp e).1⟩
  · obtain rfl := Option.some.inj z
    obtain rfl : o' = u := Option.some.inj z2
    exact ⟨_, e, ho⟩
/-- lists beside the places, cell by cell, and the dict of them behind -/
def besC (ps : List Str) (f : Str → List PyData) : Mu := ps.map (fun x => O.lst ((f x).map Dl.A.d)) ++ [.dct (ps.mapIdx fun i x => ((Sum.inr x : Key), Dl.A.c i))]
theorem bes_at {ps : List Str} {f : Str → List PyData} {x : Str} (h : x ∈ ps) : (besC ps f)[rk ps x]? = some (.lst ((f x).map Dl.A.d)) := by
  have e := rk_at h
  have lt := (List.getElem?_eq_some_iff.mp e).1
  unfold besC
  rw [List.getElem?_append_left (by rw [List.length_map]; exact lt), List.getElem?_map, e]
  rfl
theorem bes_set {ps : List Str} (nd : ps.Nodup) {f : Str → List PyData} {x : Str} (h : x ∈ ps) (z : PyData) : (besC ps f).set (rk ps x) (.lst ((f x).map Dl.A.d ++ [.d z])) = besC ps fun y => if y = x then f y ++ [z] else f y := by
  have lt := (List.getElem?_eq_some_iff.mp (rk_at h)).1
  unfold besC
  rw [List.set_append_left _ _ (by rw [List.length_map]; exact lt)]
  refine congrArg (· ++ _) ?_
  refine List.ext_getElem? fun i => ?_
  rw [List.getElem?_map]
  by_cases e : rk ps x = i
  · subst e
    rw [List.getElem?_set_self (by rw [List.length_map]; exact lt), rk_at h]
    show some _ = some (O.lst ((if x = x then f x ++ [z] else f x).map Dl.A.d))
    rw [if_pos rfl, List.map_append]
    rfl
  · rw [List.getElem?_set_ne e, List.getElem?_map]
    cases hy : ps[i]? with
    | none => rfl
    | some y =>
      have ne : y ≠ x := fun z => e (by subst z; exact rk_ix nd hy)
      show some _ = some (O.lst ((if y = x then f y ++ [z] else f y).map Dl.A.d))
      rw [if_neg ne]
theorem bes_dct (ps : List Str) (f : Str → List PyData) : (besC ps f)[ps.length]? = some (.dct (ps.mapIdx fun i x => ((Sum.inr x : Key), Dl.A.c i))) := by
  unfold besC
  rw [List.getElem?_append_right (by rw [List.length_map]; exact Nat.le_refl _), List.length_map, Nat.sub_self]
  rfl
theorem bes_val {ps : List Str} {x : Str} (h : x ∈ ps) : valA (ps.mapIdx fun i x => ((Sum.inr x : Key), Dl.A.c i)) (.inr x) = some (.c (rk ps x)) := by
  suffices ∀ (ps : List Str) (k : Nat), x ∈ ps → valA (ps.mapIdx fun i x => ((Sum.inr x : Key), Dl.A.c (k + i))) (.inr x) = some (.c (k + rk ps x)) by
    have := this ps 0 h
    simpa using this
  intro ps
  induction ps with
  | nil => intro k h; cases h
  | cons y ps ih =>
    intro k h
    rw [List.mapIdx_cons]
    unfold valA
    rw [List.find?_cons]
    by_cases e : y = x
    · subst e
      simp [rk]
    · have ne : ¬ (Sum.inr y : Key) = Sum.inr x := fun z => e (Sum.inr.inj z)
      rw [decide_eq_false ne]
      have := ih (k + 1) ((List.mem_cons.mp h).resolve_left fun z => e z.symm)
      unfold valA at this
      have rke : rk (y :: ps) x = rk ps x + 1 := by
        unfold rk
        rw [List.idxOf_cons, cond_eq_if, if_neg (by simpa using e)]
      rw [rke, show k + (rk ps x + 1) = k + 1 + rk ps x by omega, ← this]
      refine congrArg _ (congrArg (List.find? _) ?_)
      refine congrArg (fun g => List.mapIdx g ps) ?_
      funext i x
      rw [show k + (i + 1) = k + 1 + i by omega]
theorem bes_rfy {ps : List Str} (f : Str → List PyData) : RfyO 0 (some ps.length) (besC ps f) (.dct (ps.mapIdx fun i x => ((Sum.inr x : Key), Dl.A.c i))) (.dct (dA (ps.map fun p => (p, .list (f p))))) := by
  show Paired (fun (p q : Key × Dl.A) => p.1 = q.1 ∧ RfyV 0 (some ps.length) (besC ps f) p.2 q.2) _ _
  suffices ∀ (l : List Str) (k : Nat), (∀ i x, l[i]? = some x → (besC ps f)[k + i]? = some (.lst ((f x).map Dl.A.d)) ∧ k + i < ps.length) → Paired (fun (p q : Key × Dl.A) => p.1 = q.1 ∧ RfyV 0 (some ps.length) (besC ps f) p.2 q.2) (l.mapIdx fun i x => ((Sum.inr x : Key), Dl.A.c (k + i))) (dA (l.map fun p => (p, .list (f p)))) by
    have := this ps 0 fun i x hx => by
      have lt := (List.getElem?_eq_some_iff.mp hx).1
      refine ⟨?_, by omega⟩
      unfold besC
      rw [Nat.zero_add, List.getElem?_append_left (by rw [List.length_map]; exact lt), List.getElem?_map, hx]
      rfl
    simpa using this
  intro l
  induction l with
  | nil => intro k _; exact .nil
  | cons y l ih =>
    intro k h
    rw [List.mapIdx_cons]
    obtain ⟨h1, h2⟩ := h 0 y rfl
    refine .cons ⟨rfl, .inl ⟨.list (f y), .c (Nat.zero_le _) (fun z => ?_) h1 (.data _), rfl⟩⟩ ?_
    · have := Option.some.inj z
      omega
    · have := ih (k + 1) fun i x hx => by
        have := h (i + 1) x hx
        rw [show k + 1 + i = k + (i + 1) by omega]
        exact this
      have e : (l.mapIdx fun i x => ((Sum.inr x : Key), Dl.A.c (k + (i + 1)))) = l.mapIdx fun i x => ((Sum.inr x : Key), Dl.A.c (k + 1 + i)) := by
        refine congrArg (fun g => List.mapIdx g l) ?_
        funext i x
        rw [show k + (i + 1) = k + 1 + i by omega]
      rw [e]
      exact this
end Rp
namespace Rp
open PySem PySem.Spec PyProof.Rows L2 Dl
def TI (p : Str) (up : Str → Option Str) (dep : Str → Nat) (st : List (Str × Int)) : Prop := (∀ x d, (x, d) ∈ st → d + (dep p : Int) = (dep x : Int)) ∧ ∀ x ∈ kk st, ∀ a, up x = some a → a ∈ kk st
theorem ti_start {ps : List Str} {ts : List Tie} {p : Str} {up : Str → Option Str} {dep : Str → Nat} (R : Rt ps ts p up dep) : TI p up dep [(p, 0)] := by
  refine ⟨fun x d h => ?_, fun x h a e => ?_⟩
  · have := List.mem_singleton.mp h
    obtain ⟨rfl, rfl⟩ := Prod.mk.inj this
    omega
  · have : x = p := List.mem_singleton.mp h
    subst this
    rw [R.root] at e
    cases e
theorem step_mem {st : List (Str × Int)} (nd : (kk st).Nodup) {q : Str} (h : q ∈ kk st) : ∃ v : Int, valA (stepA st) (.inr q) = some (.d (.int v)) ∧ (q, v) ∈ st := by
  obtain ⟨x, hx, rfl⟩ := List.mem_map.mp h
  refine ⟨x.2, ?_, hx⟩
  rw [step_dA]
  exact dA_at (by unfold kd; rw [List.map_map]; exact nd) (List.mem_map.mpr ⟨x, hx, rfl⟩)
theorem ti_put {ps : List Str} {rs : List Road} {p x b : Str} {up : Str → Option Str} {dep : Str → Nat} {st : List (Str × Int)} {v : Int} (R : Rt ps (tiesR rs) p up dep) (t : TI p up dep st) (hx : (x, v) ∈ st) (hb : b ∈ nbs rs x) (nb : b ∉ kk st) : TI p up dep (st ++ [(b, v + 1)]) := by
  have xk : x ∈ kk st := List.mem_map.mpr ⟨_, hx, rfl⟩
  obtain ⟨r, hr, j⟩ := mem_nbs.mp hb
  have he : r.2 ∈ tiesR rs := List.mem_map.mpr ⟨r, hr, rfl⟩
  have ub : up b = some x := by
    rcases R.edge _ he with e | e <;> rcases j with ⟨j1, j2⟩ | ⟨j1, j2⟩
    · rw [j1, j2] at e
      exact absurd (t.2 x xk _ e) nb
    · rw [j1, j2] at e
      exact e
    · rw [j1, j2] at e
      exact e
    · rw [j1, j2] at e
      exact absurd (t.2 x xk _ e) nb
  have dx := t.1 _ _ hx
  obtain ⟨_, _, db, _⟩ := R.step _ _ ub
  refine ⟨fun y d h => ?_, fun y h a e => ?_⟩
  · rcases List.mem_append.mp h with h | h
    · exact t.1 _ _ h
    · obtain ⟨rfl, rfl⟩ := Prod.mk.inj (List.mem_singleton.mp h)
      omega
  · rw [kk_app] at h ⊢
    refine List.mem_append.mpr (.inl ?_)
    rcases List.mem_append.mp h with h | h
    · exact t.2 y h a e
    · have : y = b := List.mem_singleton.mp h
      subst this
      rw [ub] at e
      obtain rfl := Option.some.inj e
      exact xk
theorem go_dep {ps : List Str} {rs : List Road} {p : Str} {up : Str → Option Str} {dep : Str → Nat} (T : TreeOk ps rs) (R : Rt ps (tiesR rs) p up dep) : ∀ (n : Nat) (w : List Str) (q : Str), w.length = n → Go rs p w q → dep q = dep p + n
  | 0, w, q, hl, h => by
    obtain rfl := List.length_eq_zero_iff.mp hl
    rw [h.nil_eq]
    rfl
  | n + 1, w, q, hl, h => by
    obtain ⟨v, e, rfl⟩ : ∃ v e, w = v ++ [e] := ⟨w.dropLast, w.getLast (by intro z; rw [z] at hl; simp at hl), (List.dropLast_concat_getLast _).symm⟩
    obtain ⟨a, s, u, hs, rfl, js, hv⟩ := h.down T R rfl
    have ih := go_dep T R n v a (by simpa using hl) hv
    have := (R.step _ _ u).2.2.1
    omega
theorem Go.reach {rs : List Road} {p q : Str} {w : List Str} (g : Go rs p w q) : Reach rs p q := by
  induction g with
  | nil => exact .refl
  | snoc h hr j n ih => exact .go ih hr (j.elim (fun z => .inl z) fun z => .inr ⟨z.2, z.1⟩)
theorem ti_end {ps : List Str} {rs : List Road} {p q : Str} {w : List Str} {up : Str → Option Str} {dep : Str → Nat} {st : List (Str × Int)} (T : TreeOk ps rs) (R : Rt ps (tiesR rs) p up dep) (I : Bfs rs p st [] []) (t : TI p up dep st) (g : Go rs p w q) : (q, (w.length : Int)) ∈ st := by
  obtain ⟨x, hx, rfl⟩ := List.mem_map.mp (I.done.mpr g.reach)
  have := t.1 _ _ (show (x.1, x.2) ∈ st from hx)
  have := go_dep T R _ w _ rfl g
  have e : x.2 = (w.length : Int) := by omega
  rw [← e]
  exact hx
end Rp
namespace Rp
open PySem PySem.Spec PyProof.Rows L2 Dl
theorem reach_in {ps : List Str} {rs : List Road} (ok : WebOk ps rs) {p q : Str} (hp : p ∈ ps) (h : Reach rs p q) : q ∈ ps := by
  induction h with
  | refl => exact hp
  | @go a b r _ hr hc ih =>
    rcases hc with ⟨_, e⟩ | ⟨_, e⟩
    · rw [← e]; exact ok.r.b r hr
    · rw [← e]; exact ok.r.a r hr
end Rp

set_option Elab.async false
set_option linter.all false
set_option maxRecDepth 100000
set_option maxHeartbeats 4000000
namespace Rp
open PySem PySem.Spec PyProof.Rows L2 Dl
/-! ### the same days -/
def kI (st : Got) : List (Key × Int) := st.map fun x => (Sum.inr x.1, x.2.1)
def sameD (rs : List Road) (r : List Str) (p : Str) (n : Nat) : Bool := eqI (kI (FinS rs [r] p (1, ((n + 1 : Nat) : Int)))) (kI (FinS rs [r] p (1, (n : Int))))
def grp (same : Nat → Bool) : Nat → List (List Nat)
  | 0 => [[0]]
  | n + 1 => if same n = true then (grp same n).dropLast ++ [((grp same n).getLast?.getD []) ++ [n + 1]] else grp same n ++ [[n + 1]]
def grpD (g : List (List Nat)) : List PyData := g.map fun l => .tuple (l.map fun (k : Nat) => .int (k : Int))
def R_same_days : DR := fun xs μ Pk _ => ∃ ps rs r p, xs = [.d (webD ps rs), .d (roundD r), .d (.str p)] ∧ μ = [] ∧ WebOk ps rs ∧ RotaOk rs r ∧ p ∈ ps ∧ Pk (.c 0) [.lst ((grpD (grp (sameD rs r p) r.length)).map A.d)]
theorem grp_len (same : Nat → Bool) : ∀ n, 1 ≤ (grp same n).length ∧ (grp same n).length ≤ n + 1
  | 0 => ⟨Nat.le_refl _, Nat.le_refl _⟩
  | n + 1 => by
    have ih := grp_len same n
    show 1 ≤ (if same n = true then _ else _ : List (List Nat)).length ∧ (if same n = true then _ else _ : List (List Nat)).length ≤ _
    split
    · rw [List.length_append, List.length_dropLast, List.length_singleton]
      omega
    · rw [List.length_append, List.length_singleton]
      omega
theorem grp_item (same : Nat → Bool) : ∀ n, ∀ l ∈ grp same n, l.length ≤ n + 1
  | 0 => fun l h => by rw [List.mem_singleton.mp h]; exact Nat.le_refl _
  | n + 1 => fun l h => by
    have ih := grp_item same n
    have h' : l ∈ (if same n = true then (grp same n).dropLast ++ [((grp same n).getLast?.getD []) ++ [n + 1]] else grp same n ++ [[n + 1]]) := h
    split at h'
    · rcases List.mem_append.mp h' with h | h
      · have := ih l (List.dropLast_subset _ h)
        omega
      · rw [List.mem_singleton.mp h, List.length_append, List.length_singleton]
        cases e : (grp same n).getLast? with
        | none => show 0 + 1 ≤ _; omega
        | some m =>
          have := ih m (List.mem_of_getLast? e)
          show m.length + 1 ≤ _
          omega
    · rcases List.mem_append.mp h' with h | h
      · have := ih l h
        omega
      · rw [List.mem_singleton.mp h]
        show 1 ≤ _
        omega
/-- found[-1]: read, and written -/
theorem ixN_last {n : Nat} (h : 1 ≤ n) : ixN n (-1) = some (n - 1) := by
  unfold ixN
  rw [if_neg (by decide), if_pos (by omega)]
  exact congrArg some (by omega)
theorem atI_last {α : Type} {xs : List α} {x : α} (h : xs.getLast? = some x) : atI xs (-1) = some x := by
  have l : 1 ≤ xs.length := by
    cases xs with
    | nil => cases h
    | cons y ys => show 1 ≤ ys.length + 1; omega
  unfold atI
  rw [ixN_last l]
  show xs[xs.length - 1]? = some x
  rw [← List.getLast?_eq_getElem?]
  exact h
theorem set_last {α : Type} : ∀ {xs : List α} {x : α}, xs ≠ [] → xs.set (xs.length - 1) x = xs.dropLast ++ [x]
  | [], _, h => absurd rfl h
  | [_], _, _ => rfl
  | a :: b :: xs, x, _ => by
    have := set_last (xs := b :: xs) (x := x) (by simp)
    rw [List.dropLast_cons_of_ne_nil (by simp), List.cons_append, ← this]
    rfl
theorem aI_kI (st : Got) : aI (kI st) = stepA (st.map fun x => (x.1, x.2.1)) := by
  unfold aI kI stepA
  rw [List.map_map, List.map_map]
  rfl
end Rp
namespace Rp
open PySem PySem.Spec PyProof.Rows L2 Dl
def R__law_days : DR := fun xs μ Pk _ => ∃ ps rs r p, ∃ w : Nat, xs = [.d (webD ps rs), .d (roundD r), .d (.str p), .d (.int w)] ∧ μ = [] ∧ WebOk ps rs ∧ RotaOk rs r ∧ p ∈ ps ∧ w ≤ r.length ∧
  Pk (.d (.list (ps.map (lookD ((FinS rs [r] p (1, (w : Int))).map fun x => (x.1, .int x.2.1)))))) []
def RK_same_days : DR := fun xs μ Pk Ex => ∃ a b c, xs = [a, b, c] ∧ R_same_days [c, b, a] μ Pk Ex
end Rp
namespace Rp
open PySem PySem.Spec PyProof.Rows L2 Dl
/-! ### days do not depend on the first place's own moment -/
theorem step_hd {rs : List Road} {day : Int} {k : Nat} {e : Str} {p : Str} {t t' : Mom} {l : Got} : ∃ l', stepW rs day k e ((p, t) :: l) = (p, t) :: l' ∧ stepW rs day k e ((p, t') :: l) = (p, t') :: l' := by
  unfold stepW
  have e1 : ks ((p, t) :: l) = ks ((p, t') :: l) := rfl
  rw [e1]
  split
  · exact ⟨_, rfl, rfl⟩
  · exact ⟨_, rfl, rfl⟩
theorem walk_hd {rs : List Road} {day : Int} {p : Str} {t t' : Mom} : ∀ (ns : List Str) (k : Nat) (l : Got), ∃ l', walkF rs day k ns ((p, t) :: l) = (p, t) :: l' ∧ walkF rs day k ns ((p, t') :: l) = (p, t') :: l'
  | [], _, l => ⟨l, rfl, rfl⟩
  | e :: ns, k, l => by
    obtain ⟨l1, a, b⟩ := step_hd (rs := rs) (day := day) (k := k) (e := e) (p := p) (t := t) (t' := t') (l := l)
    show ∃ l', walkF rs day (k + 1) ns (stepW rs day k e ((p, t) :: l)) = _ ∧ walkF rs day (k + 1) ns (stepW rs day k e ((p, t') :: l)) = _
    rw [a, b]
    exact walk_hd ns (k + 1) l1
/-- a walk that does not touch the place: the news may as well start behind it -/
theorem start_skip {rs : List Road} {r : List Str} {p e : Str} {n : Nat} (h : r[n]? = some e) (h1 : (endsOf rs e).1 ≠ p) (h2 : (endsOf rs e).2 ≠ p) : ∀ k, ∃ l, S rs [r] p (1, (n : Int)) (k + 1) = (p, (1, (n : Int))) :: l ∧ S rs [r] p (1, ((n + 1 : Nat) : Int)) (k + 1) = (p, (1, ((n + 1 : Nat) : Int))) :: l
  | 0 => by
    have b1 : beg (1, (n : Int)) 0 = n := by unfold beg; rw [if_pos rfl]; exact Int.toNat_natCast n
    have b2 : beg (1, ((n + 1 : Nat) : Int)) 0 = n + 1 := by unfold beg; rw [if_pos rfl]; exact Int.toNat_natCast (n + 1)
    rw [S_next, S_next, b1, b2, round_one]
    have d : r.drop n = e :: r.drop (n + 1) := drop_get h
    rw [d]
    show ∃ l, walkF rs _ (n + 1) (r.drop (n + 1)) (stepW rs _ n e [(p, (1, (n : Int)))]) = _ ∧ walkF rs _ (n + 1) (r.drop (n + 1)) [(p, (1, ((n + 1 : Nat) : Int)))] = _
    have st : stepW rs (1 + ((0 : Nat) : Int)) n e [(p, (1, (n : Int)))] = [(p, (1, (n : Int)))] := by
      unfold stepW
      have a1 : decide ((endsOf rs e).1 ∈ ks [(p, ((1, (n : Int)) : Mom))]) = false := decide_eq_false fun z => h1 (List.mem_singleton.mp z)
      have a2 : decide ((endsOf rs e).2 ∈ ks [(p, ((1, (n : Int)) : Mom))]) = false := decide_eq_false fun z => h2 (List.mem_singleton.mp z)
      rw [a1, a2]
      rfl
    show ∃ l, walkF rs (1 + ((0 : Nat) : Int)) (n + 1) (r.drop (n + 1)) (stepW rs (1 + ((0 : Nat) : Int)) n e [(p, (1, (n : Int)))]) = _ ∧ walkF rs (1 + ((0 : Nat) : Int)) (n + 1) (r.drop (n + 1)) [(p, (1, ((n + 1 : Nat) : Int)))] = _
    rw [st]
    exact walk_hd _ _ []
  | k + 1 => by
    obtain ⟨l, a, b⟩ := start_skip h h1 h2 k
    have b1 : beg (1, (n : Int)) (k + 1) = 0 := by unfold beg; rw [if_neg (by omega)]
    have b2 : beg (1, ((n + 1 : Nat) : Int)) (k + 1) = 0 := by unfold beg; rw [if_neg (by omega)]
    rw [S_next (k + 1), S_next (k + 1), b1, b2, a, b]
    exact walk_hd _ _ l
theorem eqI_refl {l : List (Key × Int)} (nd : (l.map (·.1)).Nodup) : eqI l l = true := by
  unfold eqI
  rw [beq_self_eq_true, Bool.true_and, List.all_eq_true]
  intro p hp
  refine decide_eq_true ?_
  induction l with
  | nil => cases hp
  | cons x l ih =>
    have nd' := List.nodup_cons.mp nd
    rw [List.find?_cons]
    rcases List.mem_cons.mp hp with rfl | h
    · simp
    · have ne : ¬ x.1 = p.1 := fun z => nd'.1 (by show x.1 ∈ _; rw [z]; exact List.mem_map.mpr ⟨p, h, rfl⟩)
      rw [decide_eq_false ne]
      exact ih nd'.2 h
theorem same_far {ps : List Str} {rs : List Road} {r : List Str} {p e : Str} {n : Nat} (ok : WebOk ps rs) (hr : RotaOk rs r) (h : r[n]? = some e) (h1 : (endsOf rs e).1 ≠ p) (h2 : (endsOf rs e).2 ≠ p) : sameD rs r p n = true := by
  obtain ⟨l, a, b⟩ := start_skip h h1 h2 49
  unfold sameD FinS
  rw [a, b]
  have nd := (fin_inv (p := p) (m := (1, (n : Int))) ok hr.week).nd
  unfold FinS at nd
  rw [a] at nd
  refine eqI_refl ?_
  unfold kI
  rw [List.map_map]
  exact keys_nd nd |> fun h => by rw [List.map_map] at h; exact h
end Rp
namespace Rp
open PySem PySem.Spec PyProof.Rows L2 Dl
def dyL (st : Got) : List (Str × PyData) := st.map fun x => (x.1, PyData.int x.2.1)
theorem dy_at {st : Got} (nd : (ks st).Nodup) {q : Str} {t : Mom} (h : (q, t) ∈ st) : lookD (dyL st) q = .int t.1 := lookD_at (by unfold kd dyL; rw [List.map_map]; exact nd) (List.mem_map.mpr ⟨_, h, rfl⟩)
theorem dy_no {st : Got} {q : Str} (h : q ∉ ks st) : lookD (dyL st) q = .none := by
  rcases lookD_map (fun m => PyData.int m.1) st q with ⟨_, e⟩ | ⟨k, _⟩
  · exact e
  · exact absurd k h
theorem mix_lay : ∀ {ds : List PyData}, (∀ d ∈ ds, d = .none ∨ ∃ i : Int, d = .int i ∧ 0 ≤ i ∧ i < 10 ^ 9) → PyData.canLayAll0 ds = true ∧ PyData.depthAll ds = 0
  | [], _ => ⟨rfl, by simp [PyData.depthAll]⟩
  | x :: xs, h => by
    obtain ⟨a, b⟩ := mix_lay (ds := xs) fun s hs => h s (List.mem_cons_of_mem _ hs)
    rcases h x (List.mem_cons_self ..) with rfl | ⟨i, rfl, x0, x1⟩
    · refine ⟨?_, ?_⟩
      · simp only [PyData.canLayAll0, a, sml_none.cl, Bool.and_self]
      · simp [PyData.depthAll, PyData.depth, b]
    · have c := (sml_int x0 x1).cl
      refine ⟨?_, ?_⟩
      · simp only [PyData.canLayAll0, a, c, Bool.and_self]
      · simp [PyData.depthAll, PyData.depth, b]
theorem row_shaped {ps : List Str} {rs : List Road} {r : List Str} {p : Str} {w : Nat} (ok : WebOk ps rs) (hr : RotaOk rs r) (hp : p ∈ ps) (hw : w ≤ r.length) : SeqAt.shaped (.list (ps.map (lookD (dyL (FinS rs [r] p (1, (w : Int))))))) = true := by
  have nd := (fin_inv (p := p) (m := (1, (w : Int))) ok hr.week).nd
  have hm : MomS [r] (1, (w : Int)) := ⟨Int.le_refl _, by show 0 ≤ (w : Int); omega, by show (w : Int) ≤ ((roundAt [r] 1).length : Int); rw [round_one]; omega⟩
  obtain ⟨a, b⟩ := mix_lay (ds := ps.map (lookD (dyL (FinS rs [r] p (1, (w : Int)))))) fun d hd => by
    obtain ⟨q, hq, rfl⟩ := List.mem_map.mp hd
    by_cases z : q ∈ ks (FinS rs [r] p (1, (w : Int)))
    · obtain ⟨t, ht⟩ := mem_ks.mp z
      obtain ⟨a, b, _⟩ := fin_bd ok hr.week hm ht
      have b' : t.1 ≤ 1 + 50 := b
      exact .inr ⟨t.1, dy_at nd ht, a, by omega⟩
    · exact .inl (dy_no z)
  unfold SeqAt.shaped
  refine Bool.and_eq_true_iff.mpr ⟨?_, decide_eq_true ?_⟩
  · simpa only [PyData.canLay0] using a
  · simp only [PyData.depth, b]
    omega
theorem eqvA_map (f g : Str → PyData) : ∀ ps : List Str, PyData.eqvAll (ps.map f) (ps.map g) = ps.all fun q => PyData.eqv (f q) (g q)
  | [] => by simp [PyData.eqvAll]
  | q :: ps => by rw [List.map_cons, List.map_cons, PyData.eqvAll, eqvA_map f g ps, List.all_cons]
theorem kI_find {st : Got} (nd : (ks st).Nodup) {q : Str} {t : Mom} (h : (q, t) ∈ st) : ((kI st).find? fun z => decide (z.1 = Sum.inr q)).map (·.2) = some t.1 := by
  induction st with
  | nil => cases h
  | cons x st ih =>
    have nd' : x.1 ∉ ks st ∧ (ks st).Nodup := List.nodup_cons.mp nd
    unfold kI
    rw [List.map_cons, List.find?_cons]
    rcases List.mem_cons.mp h with rfl | h
    · simp
    · have ne : ¬ ((Sum.inr x.1 : Key) = Sum.inr q) := fun z => nd'.1 (by rw [Sum.inr.inj z]; exact mem_ks.mpr ⟨t, h⟩)
      rw [decide_eq_false ne]
      exact ih nd'.2 h
theorem row_same {ps : List Str} {rs : List Road} {r : List Str} {p : Str} {n : Nat} (ok : WebOk ps rs) (hr : RotaOk rs r) (hp : p ∈ ps) (hn : n + 1 ≤ r.length) :
    PyData.eqv (.list (ps.map (lookD (dyL (FinS rs [r] p (1, ((n + 1 : Nat) : Int))))))) (.list (ps.map (lookD (dyL (FinS rs [r] p (1, (n : Int))))))) = sameD rs r p n := by
  have nda := (fin_inv (p := p) (m := (1, ((n + 1 : Nat) : Int))) ok hr.week).nd
  have ndb := (fin_inv (p := p) (m := (1, (n : Int))) ok hr.week).nd
  have ab : ∀ q, q ∈ ks (FinS rs [r] p (1, ((n + 1 : Nat) : Int))) ↔ q ∈ ks (FinS rs [r] p (1, (n : Int))) := fun q => (fin_reach ok hr.week hp).trans (fin_reach ok hr.week hp).symm
  have sub : ∀ q, q ∈ ks (FinS rs [r] p (1, ((n + 1 : Nat) : Int))) → q ∈ ps := fun q h => fin_sub ok hr.week hp h
  unfold sameD
  generalize FinS rs [r] p (1, ((n + 1 : Nat) : Int)) = a at *
  generalize FinS rs [r] p (1, (n : Int)) = b at *
  simp only [PyData.eqv]
  rw [eqvA_map, Bool.eq_iff_iff]
  unfold eqI
  rw [Bool.and_eq_true, List.all_eq_true, List.all_eq_true]
  have len : (kI a).length = (kI b).length := by
    unfold kI
    rw [List.length_map, List.length_map]
    have l1 := nd_len (ks a) (ks b) nda fun q h => (ab q).mp h
    have l2 := nd_len (ks b) (ks a) ndb fun q h => (ab q).mpr h
    rw [List.length_map, List.length_map] at l1 l2
    omega
  constructor
  · intro h
    refine ⟨by rw [len]; exact beq_self_eq_true _, fun x hx => ?_⟩
    obtain ⟨y, hy, rfl⟩ := List.mem_map.mp hx
    have qa : y.1 ∈ ks a := List.mem_map.mpr ⟨y, hy, rfl⟩
    obtain ⟨t, ht⟩ := mem_ks.mp ((ab y.1).mp qa)
    have e := h y.1 (sub y.1 qa)
    rw [dy_at nda (t := y.2) hy, dy_at ndb ht] at e
    have e2 : y.2.1 = t.1 := by simpa [PyData.eqv] using e
    refine decide_eq_true ?_
    show ((kI b).find? fun z => decide (z.1 = Sum.inr y.1)).map (·.2) = some y.2.1
    rw [kI_find ndb ht, e2]
  · rintro ⟨_, h⟩ q hq
    by_cases z : q ∈ ks a
    · obtain ⟨t, ht⟩ := mem_ks.mp z
      obtain ⟨u, hu⟩ := mem_ks.mp ((ab q).mp z)
      have e := of_decide_eq_true (h (Sum.inr q, t.1) (List.mem_map.mpr ⟨_, ht, rfl⟩))
      have e1 : ((kI b).find? fun z => decide (z.1 = Sum.inr q)).map (·.2) = some t.1 := e
      rw [kI_find ndb hu] at e1
      rw [dy_at nda ht, dy_at ndb hu, Option.some.inj e1]
      simp [PyData.eqv]
    · rw [dy_no z, dy_no fun w => z ((ab q).mpr w)]
      simp [PyData.eqv]
end Rp
namespace Rp
open PySem PySem.Spec PyProof.Rows L2 Dl
structure SmlB (d : PyData) : Prop where
  sh : d.showable = true
  nd : d.hasDict = false
  dp : d.depth ≤ 3
  cl : d.canLay0 = true
  wt : d.weight ≤ 20000
  si : d.intsShort 13 = true
theorem smlB_tup {ds : List PyData} (h : ∀ d ∈ ds, Sml d) (hl : ds.length ≤ 17) : SmlB (.tuple ds) := by
  obtain ⟨a, b, c, e, f, g⟩ := sml_all ds h
  refine ⟨by simpa only [PyData.showable] using a, by simpa only [PyData.hasDict] using b, ?_, by simpa only [PyData.canLay0] using e, ?_, by simpa only [PyData.intsShort] using g⟩
  · simp only [PyData.depth]
    omega
  · simp only [PyData.weight]
    omega
theorem smlB_all : ∀ ds : List PyData, (∀ d ∈ ds, SmlB d) → PyData.showableAll ds = true ∧ PyData.hasDictAll ds = false ∧ PyData.depthAll ds ≤ 3 ∧ PyData.canLayAll0 ds = true ∧ PyData.weightAll ds ≤ 20001 * ds.length ∧ PyData.intsShortAll 13 ds = true
  | [], _ => ⟨rfl, rfl, by simp [PyData.depthAll], rfl, by simp [PyData.weightAll], rfl⟩
  | d :: ds, h => by
    have s := h d (List.mem_cons_self ..)
    obtain ⟨a, b, c, e, f, g⟩ := smlB_all ds fun x hx => h x (List.mem_cons_of_mem _ hx)
    refine ⟨?_, ?_, ?_, ?_, ?_, ?_⟩
    · simp only [PyData.showableAll, s.sh, a, Bool.and_self]
    · simp only [PyData.hasDictAll, s.nd, b, Bool.or_self]
    · have := s.dp
      simp only [PyData.depthAll]
      omega
    · simp only [PyData.canLayAll0, s.cl, e, Bool.and_self]
    · have := s.wt
      simp only [PyData.weightAll, List.length_cons]
      omega
    · simp only [PyData.intsShortAll, s.si, g, Bool.and_self]
theorem smlB_shown {ds : List PyData} (h : ∀ d ∈ ds, SmlB d) (hl : ds.length ≤ 20) : Shown (.list ds) := by
  obtain ⟨a, b, c, e, f, g⟩ := smlB_all ds h
  have dp : (PyData.list ds).depth ≤ 4 := by
    simp only [PyData.depth]
    omega
  refine ⟨by simpa only [PyData.showable] using a, by simpa only [PyData.hasDict] using b, by omega, ?_⟩
  refine Nat.le_trans (shown_le13 ?_ (by simpa only [PyData.intsShort] using g)) (by decide)
  unfold PyData.layable0
  simp only [Bool.and_eq_true, decide_eq_true_eq]
  refine ⟨⟨by simpa only [PyData.canLay0] using e, by omega⟩, ?_⟩
  simp only [PyData.weight]
  have : (2 : Nat) ^ 20 = 1048576 := by decide
  omega
theorem grp_bd (same : Nat → Bool) : ∀ n, ∀ l ∈ grp same n, ∀ k ∈ l, k ≤ n
  | 0 => fun l h k hk => by
    rw [List.mem_singleton.mp h] at hk
    rw [List.mem_singleton.mp hk]
    exact Nat.le_refl _
  | n + 1 => fun l h k hk => by
    have ih := grp_bd same n
    have h' : l ∈ (if same n = true then (grp same n).dropLast ++ [((grp same n).getLast?.getD []) ++ [n + 1]] else grp same n ++ [[n + 1]]) := h
    split at h'
    · rcases List.mem_append.mp h' with h | h
      · have := ih l (List.dropLast_subset _ h) k hk
        omega
      · rw [List.mem_singleton.mp h] at hk
        rcases List.mem_append.mp hk with hk | hk
        · cases e : (grp same n).getLast? with
          | none => rw [e] at hk; cases hk
          | some m =>
            rw [e] at hk
            have := ih m (List.mem_of_getLast? e) k hk
            omega
        · rw [List.mem_singleton.mp hk]
          exact Nat.le_refl _
    · rcases List.mem_append.mp h' with h | h
      · have := ih l h k hk
        omega
      · rw [List.mem_singleton.mp h] at hk
        rw [List.mem_singleton.mp hk]
        exact Nat.le_refl _
theorem grp_shown (same : Nat → Bool) {n : Nat} (hn : n ≤ 14) : Shown (.list (grpD (grp same n))) := by
  refine smlB_shown (fun d hd => ?_) ?_
  · obtain ⟨l, hl, rfl⟩ := List.mem_map.mp hd
    refine smlB_tup (fun d hd => ?_) ?_
    · obtain ⟨k, hk, rfl⟩ := List.mem_map.mp hd
      have := grp_bd same n l hl k hk
      exact sml_int (by omega) (by omega)
    · rw [List.length_map]
      have := grp_item same n l hl
      omega
  · unfold grpD
    rw [List.length_map]
    have := (grp_len same n).2
    omega
/-- the last of a group ends the days that are alike -/
theorem grp_last (same : Nat → Bool) : ∀ n, ((grp same n).getLast?.map List.getLast?) = some (some n) ∧ ∀ l ∈ (grp same n).dropLast, ∃ k, l.getLast? = some k ∧ k < n ∧ same k = false
  | 0 => ⟨rfl, fun l h => by cases h⟩
  | n + 1 => by
    obtain ⟨h1, h2⟩ := grp_last same n
    show ((if same n = true then (grp same n).dropLast ++ [((grp same n).getLast?.getD []) ++ [n + 1]] else grp same n ++ [[n + 1]]).getLast?.map List.getLast?) = _ ∧ ∀ l ∈ (if same n = true then (grp same n).dropLast ++ [((grp same n).getLast?.getD []) ++ [n + 1]] else grp same n ++ [[n + 1]]).dropLast, _
    by_cases hs : same n = true
    · rw [if_pos hs]
      refine ⟨by simp, fun l h => ?_⟩
      rw [List.dropLast_concat] at h
      obtain ⟨k, a, b, c⟩ := h2 l h
      exact ⟨k, a, by omega, c⟩
    · rw [if_neg hs]
      refine ⟨by simp, fun l h => ?_⟩
      rw [List.dropLast_concat] at h
      have hl : l ∈ (grp same n).dropLast ∨ (grp same n).getLast? = some l := by
        cases e : (grp same n).getLast? with
        | none =>
          rw [List.getLast?_eq_none_iff.mp e] at h
          cases h
        | some m =>
          obtain ⟨ys, ey⟩ := List.getLast?_eq_some_iff.mp e
          rw [ey] at h ⊢
          rw [List.dropLast_concat]
          rcases List.mem_append.mp h with h | h
          · exact .inl h
          · exact .inr (by rw [List.mem_singleton.mp h])
      rcases hl with hl | hl
      · obtain ⟨k, a, b, c⟩ := h2 l hl
        exact ⟨k, a, by omega, c⟩
      · rw [hl] at h1
        exact ⟨n, Option.some.inj h1, by omega, by simpa using hs⟩
end Rp
namespace Rp
open PySem PySem.Spec PyProof.Rows L2 Dl
theorem cut_init {α : Type} (l : List α) : cut l none (some (-1)) = l.dropLast := by
  unfold cut
  rw [HT.sIx_none, List.drop_zero, Nat.sub_zero, List.dropLast_eq_take]
  refine congrArg (fun n => List.take n l) ?_
  show ((-1 : Int) + (l.length : Int)).toNat = l.length - 1
  omega
theorem near_of {ps : List Str} {rs : List Road} {r : List Str} {p e : Str} {k : Nat} (ok : WebOk ps rs) (hr : RotaOk rs r) (h : r[k]? = some e) (hs : sameD rs r p k = false) : e ∈ (rs.filter fun x => decide (p ∈ [x.2.1, x.2.2])).map (·.1) := by
  obtain ⟨s, hsm, rfl⟩ := List.mem_map.mp (hr.ok.sub e (List.mem_of_getElem? h))
  refine List.mem_map.mpr ⟨s, List.mem_filter.mpr ⟨hsm, ?_⟩, rfl⟩
  have es := endsOf_mem ok.r.nd hsm
  refine decide_eq_true ?_
  by_cases z1 : s.2.1 = p
  · rw [z1]; exact List.mem_cons_self ..
  by_cases z2 : s.2.2 = p
  · rw [z2]; exact List.mem_cons_of_mem _ (List.mem_cons_self ..)
  have := same_far ok hr h (by rw [es]; exact z1) (by rw [es]; exact z2)
  rw [hs] at this
  cases this
end Rp

set_option Elab.async false
set_option linter.all false
set_option maxRecDepth 100000
set_option maxHeartbeats 4000000
namespace Rp
open PySem PySem.Spec PyProof.Rows L2 Dl
/-! news that sets out behind the day's last walk: as if it set out at the next dawn -/
theorem late_all {rs : List Road} {r : List Str} {p : Str} : ∀ k, ∃ l, S rs [r] p (2, 0) k = (p, (2, 0)) :: l ∧ S rs [r] p (1, (r.length : Int)) (k + 1) = (p, (1, (r.length : Int))) :: l
  | 0 => by
    refine ⟨[], rfl, ?_⟩
    have b1 : beg (1, (r.length : Int)) 0 = r.length := by unfold beg; rw [if_pos rfl]; exact Int.toNat_natCast _
    rw [S_next, b1, round_one, List.drop_length]
    rfl
  | k + 1 => by
    obtain ⟨l, a, b⟩ := late_all (rs := rs) (r := r) (p := p) k
    have b1 : beg (1, (r.length : Int)) (k + 1) = 0 := by unfold beg; rw [if_neg (by omega)]
    have b2 : beg ((2, 0) : Mom) k = 0 := by unfold beg; split <;> rfl
    rw [S_next (k + 1), S_next k, b1, b2, a, b, round_one, round_one]
    have e : ((1, (r.length : Int)) : Mom).1 + ((k + 1 : Nat) : Int) = ((2, 0) : Mom).1 + (k : Int) := by
      show (1 : Int) + ((k + 1 : Nat) : Int) = 2 + (k : Int)
      omega
    rw [e]
    exact walk_hd _ _ l
theorem mom20 {r : List Str} : MomS [r] (2, 0) := ⟨by show (1 : Int) ≤ 2; decide, Int.le_refl _, Int.natCast_nonneg _⟩
theorem late_fin {ps : List Str} {rs : List Road} {r : List Str} {p : Str} (ok : WebOk ps rs) (hr : RotaOk rs r) (hp : p ∈ ps) : ∃ l, sh 1 (FinS rs [r] p (1, 0)) = (p, (2, 0)) :: l ∧ FinS rs [r] p (1, (r.length : Int)) = (p, (1, (r.length : Int))) :: l := by
  obtain ⟨l, a, b⟩ := late_all (rs := rs) (r := r) (p := p) 50
  refine ⟨l, ?_, ?_⟩
  · rw [← a]
    exact (S_sh rs r p (1, 0) 1 50).symm
  · rw [← b]
    exact (fin_all ok hr.week hp 51 (by decide)).symm
theorem sh_mem {D : Int} {st : Got} {q : Str} {t : Mom} (h : (q, t) ∈ st) : (q, shM D t) ∈ sh D st := List.mem_map.mpr ⟨(q, t), h, rfl⟩
/-- the lag behind the last walk of the day: 0 at the place, 1 elsewhere where the news comes -/
theorem late_lag {ps : List Str} {rs : List Road} {r : List Str} {p q : Str} (ok : WebOk ps rs) (hr : RotaOk rs r) (hp : p ∈ ps) :
    (q ∉ ks (FinS rs [r] p (1, 0)) ∧ lookD (lagG (FinS rs [r] p (1, 0)) (FinS rs [r] p (1, (r.length : Int)))) q = .none ∧ lookD (dyL (FinS rs [r] p (1, 0))) q = .none) ∨
      ∃ t, (q, t) ∈ FinS rs [r] p (1, 0) ∧ lookD (lagG (FinS rs [r] p (1, 0)) (FinS rs [r] p (1, (r.length : Int)))) q = .int (if q = p then 0 else 1) ∧ lookD (dyL (FinS rs [r] p (1, 0))) q = .int t.1 := by
  have hw := hr.week
  have I1 := fin_inv (p := p) (m := (1, 0)) ok hw
  have I2 := fin_inv (p := p) (m := (1, (r.length : Int))) ok hw
  have kdl : kd (lagG (FinS rs [r] p (1, 0)) (FinS rs [r] p (1, (r.length : Int)))) = ks (FinS rs [r] p (1, 0)) := by
    unfold lagG kd ks
    rw [List.map_map]
    rfl
  by_cases z : q ∈ ks (FinS rs [r] p (1, 0))
  · right
    obtain ⟨t, ht⟩ := mem_ks.mp z
    refine ⟨t, ht, ?_, dy_at I1.nd ht⟩
    have m1 : (q, PyData.int ((valS (FinS rs [r] p (1, (r.length : Int))) q).1 - t.1)) ∈ lagG (FinS rs [r] p (1, 0)) (FinS rs [r] p (1, (r.length : Int))) := List.mem_map.mpr ⟨(q, t), ht, rfl⟩
    rw [lookD_at (by rw [kdl]; exact I1.nd) m1]
    obtain ⟨l, e1, e2⟩ := late_fin ok hr hp
    have h1 := sh_mem (D := 1) ht
    rw [e1] at h1
    have ndl : (ks ((p, ((2, 0) : Mom)) :: l)).Nodup := by
      rw [← e1, ks_sh]
      exact I1.nd
    by_cases y : q = p
    · subst y
      rw [if_pos rfl]
      have v : valS (FinS rs [r] q (1, (r.length : Int))) q = (1, (r.length : Int)) := fin_val I2.nd (by rw [e2]; exact List.mem_cons_self ..)
      have v2 : shM 1 t = (2, 0) := fin_uniq ndl h1 (List.mem_cons_self ..)
      have v3 : t.1 + 1 = 2 := congrArg Prod.fst v2
      rw [v, show ((1, (r.length : Int)) : Mom).1 - t.1 = 0 by show (1 : Int) - t.1 = 0; omega]
    · rw [if_neg y]
      have h2 : (q, shM 1 t) ∈ FinS rs [r] p (1, (r.length : Int)) := by
        rw [e2]
        rcases List.mem_cons.mp h1 with h | h
        · exact absurd (congrArg Prod.fst h) y
        · exact List.mem_cons_of_mem _ h
      rw [fin_val I2.nd h2, show (shM 1 t).1 - t.1 = 1 by show t.1 + 1 - t.1 = 1; omega]
  · left
    refine ⟨z, ?_, dy_no z⟩
    unfold lookD
    rw [List.find?_eq_none.mpr fun x hx => ?_]
    · rfl
    · have : x.1 ∈ ks (FinS rs [r] p (1, 0)) := by
        rw [← kdl]
        exact List.mem_map.mpr ⟨x, hx, rfl⟩
      simp only [decide_eq_true_eq]
      intro e
      exact z (by rw [← e]; exact this)
def lateI (rs : List Road) (r : List Str) (p q : Str) : PyData := if q ∈ ks (FinS rs [r] p (1, 0)) then .int (if q = p then 0 else 1) else .none
theorem late_eq {ps : List Str} {rs : List Road} {r : List Str} {p : Str} (ok : WebOk ps rs) (hr : RotaOk rs r) (hp : p ∈ ps) : lookD (lagG (FinS rs [r] p (1, 0)) (FinS rs [r] p (1, (r.length : Int)))) = lateI rs r p := by
  funext q
  unfold lateI
  rcases late_lag (q := q) ok hr hp with ⟨a, b, _⟩ | ⟨t, a, b, _⟩
  · rw [b, if_neg a]
  · rw [b, if_pos (mem_ks.mpr ⟨t, a⟩)]
theorem mix_shaped {ds : List PyData} (h : ∀ d ∈ ds, d = .none ∨ ∃ i : Int, d = .int i ∧ 0 ≤ i ∧ i < 10 ^ 9) : SeqAt.shaped (.list ds) = true := by
  obtain ⟨a, b⟩ := mix_lay h
  unfold SeqAt.shaped
  refine Bool.and_eq_true_iff.mpr ⟨?_, decide_eq_true ?_⟩
  · simpa only [PyData.canLay0] using a
  · simp only [PyData.depth, b]
    decide
theorem late_shaped {ps : List Str} {rs : List Road} {r : List Str} {p : Str} : SeqAt.shaped (.list (ps.map (lateI rs r p))) = true := mix_shaped fun d hd => by
  obtain ⟨q, _, rfl⟩ := List.mem_map.mp hd
  unfold lateI
  split
  · right
    refine ⟨_, rfl, ?_⟩
    split <;> decide
  · exact .inl rfl
theorem eqv_mix (f : Str → PyData) (hf : ∀ q, f q = .none ∨ ∃ i : Int, f q = .int i) (ps : List Str) : PyData.eqv (.list (ps.map f)) (.list (ps.map f)) = true := by
  show PyData.eqvAll (ps.map f) (ps.map f) = true
  rw [eqvA_map, List.all_eq_true]
  intro q _
  rcases hf q with e | ⟨i, e⟩
  · rw [e]
    rfl
  · rw [e]
    simp [PyData.eqv]
theorem tgtY2 {i j : Nat} {a b : Dl.A} {ρ : Rho} {μ : Mu} {P : RM} (q : P ((ρ.set i (some a)).set j (some b)) μ) : dgTup 2 (dgCons (dgName i) (dgCons (dgName j) dgNil)) (.two a b) ρ μ P :=
  ⟨_, rfl, rfl, _, _, rfl, _, rfl, _, _, rfl, _, rfl, rfl, q⟩
/-! comprehensions over anything that yields, item by item, what a list of Lean has -/
section
variable {α : Type} {ys : List Y} {ok : Mu → Prop} {μ : Mu} {ρ : Rho} {dg : DG} {dt : DTT} {de : DT} {vs : List Nat} {P : DK}
theorem lc_filterY (xs : List α) (yf : α → Y) (h : α → Dl.A) (c : α → Bool) (hy : ys = xs.map yf) (hok : ok μ) (hz : xs.length ≤ sizeLine)
    (hs : ∀ x ∈ xs, ∀ (Q : DK) (N : Mu → Prop), (c x = true → Q (h x) μ) → (c x = false → N μ) → dg (yf x) (wipeR ρ vs) μ fun ρ3 μ3 => dt ρ3 μ3 fun b μ4 => if b = true then de ρ3 μ4 Q else N μ4) (q : lcEnd P ((xs.filter c).map h) μ) :
    ∃ Pv : Nat → List Dl.A → Mu → Prop, Pv 0 [] μ ∧
      (∀ (i : Nat) y acc μ2, ys[i]? = some y → Pv i acc μ2 → ok μ2 ∧ dg y (wipeR ρ vs) μ2 fun ρ3 μ3 => dt ρ3 μ3 fun b μ4 => if b = true then de ρ3 μ4 fun z μ5 => acc.length < sizeLine ∧ Pv (i + 1) (acc ++ [z]) μ5 else Pv (i + 1) acc μ4) ∧
        ∀ acc μ2, Pv ys.length acc μ2 → ok μ2 ∧ lcEnd P acc μ2 := by
  subst hy
  refine ⟨fun i acc μ2 => acc = ((xs.take i).filter c).map h ∧ μ2 = μ, ⟨by rw [List.take_zero]; rfl, rfl⟩, ?_, ?_⟩
  · rintro i y acc μ2 hi ⟨rfl, rfl⟩
    rw [List.getElem?_map] at hi
    obtain ⟨x, hx, rfl⟩ := Option.map_eq_some_iff.mp hi
    have lt := (List.getElem?_eq_some_iff.mp hx).1
    refine ⟨hok, hs x (List.mem_of_getElem? hx) _ _ (fun e => ⟨?_, ?_, rfl⟩) (fun e => ⟨?_, rfl⟩)⟩
    · rw [List.length_map]
      have := List.length_filter_le c (xs.take i)
      rw [List.length_take] at this
      omega
    · rw [List.take_add_one, hx, List.filter_append, List.map_append]
      show _ = _ ++ List.map h (List.filter c [x])
      rw [List.filter_cons, if_pos e]
      rfl
    · rw [List.take_add_one, hx, List.filter_append]
      show _ = List.map h (_ ++ List.filter c [x])
      rw [List.filter_cons, if_neg (by rw [e]; exact Bool.false_ne_true)]
      rw [List.filter_nil, List.append_nil]
  · rintro acc μ2 ⟨rfl, rfl⟩
    refine ⟨hok, ?_⟩
    rw [List.length_map, List.take_length]
    exact q
theorem lc_mapY (xs : List α) (yf : α → Y) (h : α → Dl.A) (hy : ys = xs.map yf) (hok : ok μ) (hz : xs.length ≤ sizeLine)
    (hs : ∀ x ∈ xs, ∀ Q : DK, Q (h x) μ → dg (yf x) (wipeR ρ vs) μ fun ρ3 μ3 => de ρ3 μ3 Q) (q : lcEnd P (xs.map h) μ) :
    ∃ Pv : Nat → List Dl.A → Mu → Prop, Pv 0 [] μ ∧
      (∀ (i : Nat) y acc μ2, ys[i]? = some y → Pv i acc μ2 → ok μ2 ∧ dg y (wipeR ρ vs) μ2 fun ρ3 μ3 => dtYes ρ3 μ3 fun b μ4 => if b = true then de ρ3 μ4 fun z μ5 => acc.length < sizeLine ∧ Pv (i + 1) (acc ++ [z]) μ5 else Pv (i + 1) acc μ4) ∧
        ∀ acc μ2, Pv ys.length acc μ2 → ok μ2 ∧ lcEnd P acc μ2 := by
  refine lc_filterY (dt := dtYes) xs yf h (fun _ => true) hy hok hz (fun x hx Q N a _ => ?_) (by rw [List.filter_eq_self.mpr fun _ _ => rfl]; exact q)
  exact hs x hx Q (a rfl)
theorem enum_ix (ds : List PyData) : enumY (ds.map Dl.A.d) = ds.zipIdx.map fun p => .two (.d (.int (p.2 : Nat))) (.d p.1) := by
  unfold enumY
  rw [List.mapIdx_eq_zipIdx_map, List.zipIdx_map, List.map_map]
  rfl
theorem zipA_map {β : Type} (xs : List β) (f g : β → Dl.A) : zipA (xs.map f) (xs.map g) = xs.map fun x => .two (f x) (g x) := by
  unfold zipA
  rw [List.zipWith_map, List.zipWith_self]
end
end Rp

set_option Elab.async false
set_option linter.all false
set_option maxRecDepth 100000
set_option maxHeartbeats 4000000
namespace Rp
open PySem PySem.Spec PyProof.Rows L2 Dl
/-! ### moments one behind another -/
def Lt2 (a b : Mom) : Prop := a.1 < b.1 ∨ (a.1 = b.1 ∧ a.2 < b.2)
def Le2 (a b : Mom) : Prop := a.1 < b.1 ∨ (a.1 = b.1 ∧ a.2 ≤ b.2)
instance (a b : Mom) : Decidable (Lt2 a b) := by unfold Lt2; exact inferInstance
instance (a b : Mom) : Decidable (Le2 a b) := by unfold Le2; exact inferInstance
theorem Le2.refl (a : Mom) : Le2 a a := .inr ⟨rfl, Int.le_refl _⟩
theorem Le2.not {a b : Mom} (h : Le2 a b) : ¬ Lt2 b a := fun g => by
  unfold Le2 at h
  unfold Lt2 at g
  omega
theorem Le2.trans {a b c : Mom} (h : Le2 a b) (g : Le2 b c) : Le2 a c := by
  unfold Le2 at *
  omega
theorem Lt2.trans_le {a b c : Mom} (h : Lt2 a b) (g : Le2 b c) : Lt2 a c := by
  unfold Le2 at *
  unfold Lt2 at *
  omega
theorem Lt2.le {a b : Mom} (h : Lt2 a b) : Le2 a b := by
  unfold Le2
  unfold Lt2 at h
  omega
theorem le2_iff {a b : Mom} : le2 a b.1 b.2 ↔ Le2 a b := Iff.rfl
section
variable {ps : List Str} {rs : List Road} {wk : List (List Str)} {p : Str} {m : Mom}
/-- what sets out at p at m or earlier in another spreading comes everywhere no later by that one -/
theorem fin_dom (ok : WebOk ps rs) (hw : WeekOk rs wk) (hp : p ∈ ps) (hm : MomS wk m) {p' : Str} {m' t0 : Mom} (hp' : p' ∈ ps) (hm' : MomS wk m') (h0 : (p, t0) ∈ FinS rs wk p' m') (l0 : Le2 t0 m) :
    ∀ (N : Nat) (q : Str) (t : Mom), (q, t) ∈ FinS rs wk p m → (t.1 - m.1).toNat * 100 + t.2.toNat ≤ N → ∃ t', (q, t') ∈ FinS rs wk p' m' ∧ Le2 t' t := by
  intro N
  induction N with
  | zero =>
    intro q t hq hN
    rcases fin_pre hm _ hq with z | ⟨a, ta, e, k, h1, h2, h3, h4, h5, h6⟩
    · have e1 : q = p := congrArg Prod.fst z
      have e2 : t = m := congrArg Prod.snd z
      rw [e1, e2]
      exact ⟨t0, h0, l0⟩
    · have h3' : t.2 = (k : Int) + 1 := h3
      omega
  | succ N ih =>
    intro q t hq hN
    rcases fin_pre hm _ hq with z | ⟨a, ta, e, k, h1, h2, h3, h4, h5, h6⟩
    · have e1 : q = p := congrArg Prod.fst z
      have e2 : t = m := congrArg Prod.snd z
      rw [e1, e2]
      exact ⟨t0, h0, l0⟩
    · have h2' : (roundAt wk t.1)[k]? = some e := h2
      have h3' : t.2 = (k : Int) + 1 := h3
      have h5' : le2 ta t.1 k := h5
      have h6' : m.1 ≤ t.1 := h6
      have b1 := fin_bd ok hw hm h1
      have b2 : m.1 ≤ ta.1 := by
        rcases fin_ge hm _ h1 with g | ⟨g, _⟩
        · have g' : m.1 < ta.1 := g
          omega
        · have g' : m.1 = ta.1 := g
          omega
      obtain ⟨ta', ha', la⟩ := ih a ta h1 (by
        unfold le2 at h5'
        omega)
      obtain ⟨tb, hb, lb⟩ := fin_step ok hw hp' hm' h2' ha' (b := q) (by
        unfold le2 at h5' ⊢
        unfold Le2 at la
        omega) (by
        have j : JoinT (endsOf rs e) q a := h4
        exact j.symm)
      refine ⟨tb, hb, ?_⟩
      unfold le2 at lb
      unfold Le2
      omega
theorem fin_at_start : (p, m) ∈ FinS rs wk p m := by
  obtain ⟨t, e⟩ := S_le (rs := rs) (wk := wk) (p := p) (m := m) 50 0
  unfold FinS
  rw [show (50 : Nat) = 0 + 50 from rfl, e]
  exact List.mem_append_left _ (List.mem_singleton.mpr rfl)
theorem fin_early (ok : WebOk ps rs) (hw : WeekOk rs wk) (hp : p ∈ ps) (hm : MomS wk m) {m' : Mom} (hm' : MomS wk m') (hl : Le2 m' m) {q : Str} {t : Mom} (h : (q, t) ∈ FinS rs wk p m) : ∃ t', (q, t') ∈ FinS rs wk p m' ∧ Le2 t' t :=
  fin_dom ok hw hp hm hp hm' fin_at_start hl _ q t h (Nat.le_refl _)
/-! whole weeks later -/
theorem round_weeks {L : List (List Str)} (j d : Int) : roundAt L (d + L.length * j) = roundAt L d := by
  unfold roundAt
  rw [show d + (L.length : Int) * j - 1 = d - 1 + (L.length : Int) * j by omega, Int.add_mul_emod_self_left]
theorem S_weeks (j : Int) : ∀ n, S rs wk p (shM (wk.length * j) m) n = sh (wk.length * j) (S rs wk p m n)
  | 0 => rfl
  | n + 1 => by
    show walkF rs ((m.1 + wk.length * j) + n) (if n = 0 then m.2.toNat else 0) ((roundAt wk ((m.1 + wk.length * j) + n)).drop (if n = 0 then m.2.toNat else 0)) (S rs wk p (shM (wk.length * j) m) n) = sh (wk.length * j) (walkF rs (m.1 + n) (if n = 0 then m.2.toNat else 0) ((roundAt wk (m.1 + n)).drop (if n = 0 then m.2.toNat else 0)) (S rs wk p m n))
    rw [show m.1 + (wk.length : Int) * j + (n : Int) = (m.1 + n) + wk.length * j by omega, round_weeks, S_weeks j n]
    exact walkF_sh rs (wk.length * j) (m.1 + n) _ _ _
theorem fin_weeks (j : Int) : FinS rs wk p (shM (wk.length * j) m) = sh (wk.length * j) (FinS rs wk p m) := S_weeks j 50
end
/-! ### ways in a tree, in two parts -/
theorem Go.split {rs : List Road} {p : Str} : ∀ (n : Nat) (u v : List Str) (x : Str), v.length = n → Go rs p (u ++ v) x → ∃ c, Go rs p u c ∧ Go rs c v x
  | 0, u, v, x, hl, g => by
    obtain rfl := List.eq_nil_of_length_eq_zero hl
    rw [List.append_nil] at g
    exact ⟨x, g, .nil⟩
  | n + 1, u, v, x, hl, g => by
    obtain ⟨v', e, rfl⟩ : ∃ v' e, v = v' ++ [e] := ⟨v.dropLast, v.getLast (by intro z; subst z; cases hl), (List.dropLast_concat_getLast _).symm⟩
    rw [← List.append_assoc] at g
    obtain ⟨c, r, g1, hr, re, j, ne⟩ := g.init
    obtain ⟨d, h1, h2⟩ := Go.split n u v' c (by rw [List.length_append] at hl; simpa using hl) g1
    subst re
    refine ⟨d, h1, .snoc h2 hr j fun z => ?_⟩
    apply ne
    rw [List.getLast?_append, z]
    rfl
theorem joinT_other {ps : List Str} {rs : List Road} (ok : WebOk ps rs) {r : Road} (hr : r ∈ rs) {b c c' : Str} (h : JoinT r.2 b c) (h' : JoinT r.2 b c') : c = c' := by
  have ne := ok.r.ne r hr
  rcases h with ⟨x, y⟩ | ⟨x, y⟩ <;> rcases h' with ⟨x', y'⟩ | ⟨x', y'⟩
  · exact y.symm.trans y'
  · exact absurd (x.trans y'.symm) ne
  · exact absurd (x'.trans y.symm) ne
  · exact x.symm.trans x'
theorem road_eq {ps : List Str} {rs : List Road} (ok : WebOk ps rs) {r s : Road} (hr : r ∈ rs) (hs : s ∈ rs) (e : r.1 = s.1) : r = s := by
  have h1 := endsOf_mem ok.r.nd hr
  have h2 := endsOf_mem ok.r.nd hs
  rw [e, h2] at h1
  exact Prod.ext e h1.symm
theorem Go.one {ps : List Str} {rs : List Road} (ok : WebOk ps rs) {p : Str} : ∀ (n : Nat) (u : List Str) (c c' : Str), u.length = n → Go rs p u c → Go rs p u c' → c = c'
  | 0, u, c, c', hl, g, g' => by
    obtain rfl := List.eq_nil_of_length_eq_zero hl
    exact g.nil_eq.trans g'.nil_eq.symm
  | n + 1, u, c, c', hl, g, g' => by
    obtain ⟨v', e, rfl⟩ : ∃ v' e, u = v' ++ [e] := ⟨u.dropLast, u.getLast (by intro z; subst z; cases hl), (List.dropLast_concat_getLast _).symm⟩
    obtain ⟨d, r, g1, hr, re, j, _⟩ := g.init
    obtain ⟨d', r', g1', hr', re', j', _⟩ := g'.init
    obtain rfl := Go.one ok n v' d d' (by rw [List.length_append] at hl; simpa using hl) g1 g1'
    obtain rfl := road_eq ok hr hr' (re.trans re'.symm)
    exact joinT_other ok hr j j'
theorem goT_app (r : List Str) (t : Mom) (u v : List Str) : goT r t (u ++ v) = goT r (goT r t u) v := by
  unfold goT
  exact List.foldl_append
theorem nxt_lt (t : Mom) (k : Nat) : Lt2 t (nxt t k) := by
  unfold nxt
  split
  · refine .inr ⟨rfl, ?_⟩
    show t.2 < (k : Int) + 1
    omega
  · refine .inl ?_
    show t.1 < t.1 + 1
    omega
theorem goT_le (r : List Str) : ∀ (w : List Str) (t : Mom), Le2 t (goT r t w)
  | [], t => Le2.refl t
  | e :: w, t => by
    rw [goT_cons]
    exact (nxt_lt t _).le.trans (goT_le r w _)
theorem goT_lt (r : List Str) {w : List Str} (t : Mom) (h : w ≠ []) : Lt2 t (goT r t w) := by
  cases w with
  | nil => exact absurd rfl h
  | cons e w =>
    rw [goT_cons]
    exact (nxt_lt t _).trans_le (goT_le r w _)
/-! ### beliefs -/
def belV (b : Got) (x : Str × Mom) : Option PyData := if x.1 ∈ ks b then (if Lt2 x.2 (valS b x.1) then some (.tuple [momD x.2, momD (valS b x.1)]) else none) else some (.tuple [momD x.2, .none])
def belG (a b : Got) : List (Str × PyData) := a.filterMap fun x => (belV b x).map fun d => (x.1, d)
theorem belG_snoc (a b : Got) (x : Str × Mom) : belG (a ++ [x]) b = belG a b ++ ((belV b x).map fun d => (x.1, d)).toList := by
  unfold belG
  rw [List.filterMap_append]
  cases h : belV b x <;> simp [h]
theorem belG_sub (a b : Got) : ∀ q ∈ kd (belG a b), q ∈ ks a := fun q h => by
  obtain ⟨y, hy, rfl⟩ := List.mem_map.mp h
  unfold belG at hy
  obtain ⟨x, hx, e⟩ := List.mem_filterMap.mp hy
  cases hv : belV b x with
  | none => rw [hv] at e; cases e
  | some d =>
    rw [hv] at e
    obtain rfl := Option.some.inj e
    exact List.mem_map.mpr ⟨x, hx, rfl⟩
theorem belG_nd {a b : Got} (nd : (ks a).Nodup) : (kd (belG a b)).Nodup := by
  induction a with
  | nil => exact List.nodup_nil
  | cons x a ih =>
    have nd' := List.nodup_cons.mp nd
    have e : belG (x :: a) b = ((belV b x).map fun d => (x.1, d)).toList ++ belG a b := by
      unfold belG
      rw [List.filterMap_cons]
      cases h : belV b x <;> simp
    rw [e]
    cases h : belV b x with
    | none => exact ih nd'.2
    | some d =>
      refine List.nodup_cons.mpr ⟨fun z => nd'.1 (belG_sub a b _ z), ih nd'.2⟩
theorem belG_len (a b : Got) : (belG a b).length ≤ a.length := List.length_filterMap_le _ _
def belD (a b : Got) (x : Str) : PyData := if x ∈ ks a then (belV b (x, valS a x)).getD .none else .none
theorem belD_at {a b : Got} (nd : (ks a).Nodup) {q : Str} {t : Mom} (h : (q, t) ∈ a) : belD a b q = (belV b (q, t)).getD .none := by
  unfold belD
  rw [if_pos (mem_ks.mpr ⟨t, h⟩), fin_val nd h]
theorem belD_no {a b : Got} {q : Str} (h : q ∉ ks a) : belD a b q = .none := if_neg h
theorem look_bel {a b : Got} (nd : (ks a).Nodup) : lookD (belG a b) = belD a b := by
  funext q
  by_cases z : q ∈ ks a
  · obtain ⟨t, ht⟩ := mem_ks.mp z
    rw [belD_at nd ht]
    cases h : belV b (q, t) with
    | some d => exact lookD_at (belG_nd nd) (List.mem_filterMap.mpr ⟨(q, t), ht, by rw [h]; rfl⟩)
    | none =>
      unfold lookD
      rw [List.find?_eq_none.mpr fun x hx => ?_]
      · rfl
      · simp only [decide_eq_true_eq]
        intro e
        obtain ⟨y, hy, e2⟩ := List.mem_filterMap.mp hx
        cases hv : belV b y with
        | none => rw [hv] at e2; cases e2
        | some d =>
          rw [hv] at e2
          obtain rfl := Option.some.inj e2
          have e' : y.1 = q := e
          have : y = (q, t) := by
            have := fin_uniq nd (q := q) (t := y.2) (by rw [← e']; exact hy) ht
            exact Prod.ext e' this
          rw [this, h] at hv
          cases hv
  · rw [belD_no z]
    unfold lookD
    rw [List.find?_eq_none.mpr fun x hx => ?_]
    · rfl
    · simp only [decide_eq_true_eq]
      intro e
      exact z (by rw [← e]; exact belG_sub a b _ (List.mem_map.mpr ⟨x, hx, rfl⟩))
/-! what last_belief looks at -/
def oD : Option Mom → PyData
  | none => .none
  | some m => momD m
def spanOf (a b : Got) (x : Str) : Option (Mom × Option Mom) := if x ∈ ks a then (if x ∈ ks b then (if Lt2 (valS a x) (valS b x) then some (valS a x, some (valS b x)) else none) else some (valS a x, none)) else none
def spD (s : Mom × Option Mom) : PyData := .tuple [momD s.1, oD s.2]
theorem belD_span (a b : Got) (x : Str) : belD a b x = ((spanOf a b x).map spD).getD .none := by
  unfold belD spanOf belV
  by_cases h1 : x ∈ ks a
  · rw [if_pos h1, if_pos h1]
    by_cases h2 : x ∈ ks b
    · rw [if_pos h2, if_pos h2]
      by_cases h3 : Lt2 (valS a x) (valS b x)
      · rw [if_pos h3, if_pos h3]
        rfl
      · rw [if_neg h3, if_neg h3]
        rfl
    · rw [if_neg h2, if_neg h2]
      rfl
  · rw [if_neg h1, if_neg h1]
    rfl
def spans (a b : Got) (ps : List Str) : List (Mom × Option Mom) := ps.filterMap (spanOf a b)
theorem spans_list (a b : Got) : ∀ ps : List Str, ((ps.map (belD a b)).filter fun d => !noneD d) = (spans a b ps).map spD
  | [] => rfl
  | x :: ps => by
    rw [List.map_cons, List.filter_cons, spans_list a b ps, belD_span]
    unfold spans
    rw [List.filterMap_cons]
    cases spanOf a b x with
    | none => rfl
    | some s => rfl
theorem spans_len (a b : Got) (ps : List Str) : (spans a b ps).length ≤ ps.length := List.length_filterMap_le _ _
def lastD (sp : List (Mom × Option Mom)) (m m' : Mom) : PyData := if none ∈ sp.map (fun s => s.2) then .none else match sp.map (fun s => oD s.2) with | [] => dPair (if Dl.ltP m' m then m' else m) | x :: ds => bestD true x ds
theorem moms_alike {ds : List PyData} (h : ∀ d ∈ ds, ∃ m : Mom, d = momD m) : PySem.W.AlikeAll ds := by
  refine ⟨fun x hx y hy => ?_, fun x hx => ?_⟩
  · obtain ⟨m, rfl⟩ := h x hx
    obtain ⟨n, rfl⟩ := h y hy
    simp [momD, PySem.W.alike, PySem.W.alikeAll]
  · obtain ⟨m, rfl⟩ := h x hx
    unfold momD
    exact fun e => by cases e
theorem moms_depth : ∀ {ds : List PyData}, (∀ d ∈ ds, ∃ m : Mom, d = momD m) → PyData.depthAll ds ≤ 60
  | [], _ => by simp [PyData.depthAll]
  | d :: ds, h => by
    obtain ⟨m, rfl⟩ := h d (List.mem_cons_self ..)
    have := moms_depth (ds := ds) fun x hx => h x (List.mem_cons_of_mem _ hx)
    have e : (momD m).depth ≤ 60 := by simp [momD, PyData.depth, PyData.depthAll]
    simp only [PyData.depthAll]
    omega
theorem best_mom {mx : Bool} {x : PyData} {ds : List PyData} (h : ∀ d ∈ x :: ds, ∃ m : Mom, d = momD m) : ∃ m : Mom, bestD mx x ds = momD m := h _ (best_mem mx x ds)
theorem eqv_mom (m : Mom) : PyData.eqv (momD m) (momD m) = true := by simp [momD, PyData.eqv, PyData.eqvAll]
/-! promises -/
def R_beliefsG : DR := fun xs μ Pk _ => ∃ ps rs wk p q m m', xs = [.d (webD ps rs), .d (weekD wk), .d (.str p), .d (momD m), .d (.str q), .d (momD m')] ∧ μ = [] ∧ WebOk ps rs ∧ WeekOk rs wk ∧ p ∈ ps ∧ q ∈ ps ∧ MomOk wk m ∧ MomOk wk m' ∧
  Pk (.d (.list (ps.map (belD (FinS rs wk p m) (FinS rs wk q m'))))) []
def R_last_belief : DR := fun xs μ Pk _ => ∃ ps rs wk p q m m', xs = [.d (webD ps rs), .d (weekD wk), .d (.str p), .d (momD m), .d (.str q), .d (momD m')] ∧ μ = [] ∧ WebOk ps rs ∧ WeekOk rs wk ∧ p ∈ ps ∧ q ∈ ps ∧ MomOk wk m ∧ MomOk wk m' ∧
  Pk (.d (lastD (spans (FinS rs wk p m) (FinS rs wk q m') ps) m m')) []
def R__law_beliefs : DR := fun xs μ Pk _ => ∃ ps rs wk p q m m', xs = [.d (webD ps rs), .d (weekD wk), .d (.str p), .d (momD m), .d (.str q), .d (momD m')] ∧ μ = [] ∧ WebOk ps rs ∧ WeekOk rs wk ∧ p ∈ ps ∧ q ∈ ps ∧ MomS wk m ∧ MomS wk m' ∧
  Pk (.d (.list (ps.map (belD (FinS rs wk p m) (FinS rs wk q m'))))) []
section
variable {μ : Mu} {P : DK} {Ex : DX} {ps : List Str} {rs : List Road} {wk : List (List Str)} {p q : Str} {m m' : Mom}
theorem fr_beliefsG (ok : WebOk ps rs) (hw : WeekOk rs wk) (hp : p ∈ ps) (hq : q ∈ ps) (hm : MomOk wk m) (hm' : MomOk wk m') (h : P (.d (.list (ps.map (belD (FinS rs wk p m) (FinS rs wk q m'))))) μ) : FR R_beliefsG [.d (webD ps rs), .d (weekD wk), .d (.str p), .d (momD m), .d (.str q), .d (momD m')] μ P Ex :=
  fr_d [_, _, _, _, _, _] ⟨ps, rs, wk, p, q, m, m', rfl, rfl, ok, hw, hp, hq, hm, hm', bk0 h⟩
theorem fr_last (ok : WebOk ps rs) (hw : WeekOk rs wk) (hp : p ∈ ps) (hq : q ∈ ps) (hm : MomOk wk m) (hm' : MomOk wk m') (h : P (.d (lastD (spans (FinS rs wk p m) (FinS rs wk q m') ps) m m')) μ) : FR R_last_belief [.d (webD ps rs), .d (weekD wk), .d (.str p), .d (momD m), .d (.str q), .d (momD m')] μ P Ex :=
  fr_d [_, _, _, _, _, _] ⟨ps, rs, wk, p, q, m, m', rfl, rfl, ok, hw, hp, hq, hm, hm', bk0 h⟩
theorem fr_lawBel (ok : WebOk ps rs) (hw : WeekOk rs wk) (hp : p ∈ ps) (hq : q ∈ ps) (hm : MomS wk m) (hm' : MomS wk m') (h : P (.d (.list (ps.map (belD (FinS rs wk p m) (FinS rs wk q m'))))) μ) : FR R__law_beliefs [.d (webD ps rs), .d (weekD wk), .d (.str p), .d (momD m), .d (.str q), .d (momD m')] μ P Ex :=
  fr_d [_, _, _, _, _, _] ⟨ps, rs, wk, p, q, m, m', rfl, rfl, ok, hw, hp, hq, hm, hm', bk0 h⟩
/-! sizes -/
theorem Sml.B {d : PyData} (h : Sml d) : SmlB d := ⟨h.sh, h.nd, Nat.le_trans h.dp (by decide), h.cl, Nat.le_trans h.wt (by decide), h.si⟩
theorem SmlB.shaped {d : PyData} (h : SmlB d) : SeqAt.shaped d = true := Bool.and_eq_true_iff.mpr ⟨h.cl, decide_eq_true (Nat.le_trans h.dp (by decide))⟩
theorem smlB_list {ds : List PyData} (h : ∀ d ∈ ds, SmlB d) : SeqAt.shaped (.list ds) = true := by
  obtain ⟨_, _, c, e, _, _⟩ := smlB_all ds h
  unfold SeqAt.shaped
  refine Bool.and_eq_true_iff.mpr ⟨by simpa only [PyData.canLay0] using e, decide_eq_true ?_⟩
  simp only [PyData.depth]
  omega
theorem fin_sml (ok : WebOk ps rs) (hw : WeekOk rs wk) (hm : MomS wk m) (d2 : m.1 ≤ 100000000) {t : Mom} (h : (q, t) ∈ FinS rs wk p m) : Sml (momD t) := by
  obtain ⟨a, b, c, d⟩ := fin_bd ok hw hm h
  exact sml_mom a (by omega) c (by omega)
theorem span_mem {a b : Got} {x : Str} {s : Mom × Option Mom} (h : spanOf a b x = some s) : (x, s.1) ∈ a ∧ ∀ u, s.2 = some u → (x, u) ∈ b := by
  unfold spanOf at h
  have at_ : ∀ {c : Got}, x ∈ ks c → (x, valS c x) ∈ c := fun z => (valS_at _ _ z).2
  by_cases h1 : x ∈ ks a
  · rw [if_pos h1] at h
    by_cases h2 : x ∈ ks b
    · rw [if_pos h2] at h
      by_cases h3 : Lt2 (valS a x) (valS b x)
      · rw [if_pos h3] at h
        obtain rfl := Option.some.inj h
        exact ⟨at_ h1, fun u e => by obtain rfl := Option.some.inj e; exact at_ h2⟩
      · rw [if_neg h3] at h
        cases h
    · rw [if_neg h2] at h
      obtain rfl := Option.some.inj h
      exact ⟨at_ h1, fun u e => by cases e⟩
  · rw [if_neg h1] at h
    cases h
theorem bel_sml (ok : WebOk ps rs) (hw : WeekOk rs wk) (hm : MomS wk m) (hm' : MomS wk m') (d1 : m.1 ≤ 100000000) (d2 : m'.1 ≤ 100000000) (x : Str) : SmlB (belD (FinS rs wk p m) (FinS rs wk q m') x) := by
  rw [belD_span]
  cases h : spanOf (FinS rs wk p m) (FinS rs wk q m') x with
  | none => exact sml_none.B
  | some s =>
    obtain ⟨h1, h2⟩ := span_mem h
    refine smlB_tup (fun d hd => ?_) (by show 2 ≤ 17; decide)
    simp only [List.mem_cons, List.not_mem_nil, or_false] at hd
    rcases hd with rfl | rfl
    · exact fin_sml ok hw hm d1 h1
    · cases e : s.2 with
      | none => exact sml_none
      | some u => exact fin_sml ok hw hm' d2 (h2 u e)
theorem bel_shown (ok : WebOk ps rs) (hw : WeekOk rs wk) (hm : MomS wk m) (hm' : MomS wk m') (d1 : m.1 ≤ 100000000) (d2 : m'.1 ≤ 100000000) : Shown (.list (ps.map (belD (FinS rs wk p m) (FinS rs wk q m')))) := by
  refine smlB_shown (fun d hd => ?_) (by rw [List.length_map]; exact Nat.le_trans ok.p.most (by decide))
  obtain ⟨x, _, rfl⟩ := List.mem_map.mp hd
  exact bel_sml ok hw hm hm' d1 d2 x
/-! a place's own denial -/
theorem bel_early (ok : WebOk ps rs) (hw : WeekOk rs wk) (hp : p ∈ ps) (hm : MomS wk m) (hm' : MomS wk m') (hl : Le2 m' m) (x : Str) : spanOf (FinS rs wk p m) (FinS rs wk p m') x = none := by
  unfold spanOf
  by_cases h1 : x ∈ ks (FinS rs wk p m)
  · obtain ⟨t, ht⟩ := mem_ks.mp h1
    obtain ⟨t', ht', le⟩ := fin_early ok hw hp hm hm' hl ht
    rw [if_pos h1, if_pos (mem_ks.mpr ⟨t', ht'⟩), fin_val (fin_inv ok hw).nd ht, fin_val (fin_inv ok hw).nd ht', if_neg le.not]
  · rw [if_neg h1]
theorem bel_weeks (ok : WebOk ps rs) (hw : WeekOk rs wk) {j : Int} (hj : 0 < (wk.length : Int) * j) (x : Str) : spanOf (FinS rs wk p m) (FinS rs wk p (shM (wk.length * j) m)) x = if x ∈ ks (FinS rs wk p m) then some (valS (FinS rs wk p m) x, some (shM (wk.length * j) (valS (FinS rs wk p m) x))) else none := by
  unfold spanOf
  by_cases h1 : x ∈ ks (FinS rs wk p m)
  · obtain ⟨t, ht⟩ := mem_ks.mp h1
    have nd := (fin_inv (p := p) (m := m) ok hw).nd
    have h2 : (x, shM (wk.length * j) t) ∈ FinS rs wk p (shM (wk.length * j) m) := by
      rw [fin_weeks]
      exact sh_mem ht
    rw [if_pos h1, if_pos h1, if_pos (mem_ks.mpr ⟨_, h2⟩), fin_val nd ht, fin_val (fin_inv ok hw).nd h2, if_pos]
    refine .inl ?_
    show t.1 < t.1 + wk.length * j
    omega
  · rw [if_neg h1, if_neg h1]
end
/-! for the walks -/
theorem nd_take {α : Type} {l : List α} (nd : l.Nodup) {i : Nat} {x : α} (h : l[i]? = some x) : x ∉ l.take i := fun z => by
  obtain ⟨j, hj, e⟩ := List.mem_iff_getElem.mp z
  rw [List.length_take] at hj
  rw [List.getElem_take] at e
  have h2 : l[j]? = some x := by
    rw [List.getElem?_eq_getElem (by omega), e]
  have := nd_ix nd h h2
  omega
theorem ks_take (a : Got) (i : Nat) : ks (a.take i) = (ks a).take i := by
  unfold ks
  rw [List.map_take]
theorem bel_step {a b : Got} (nd : (ks a).Nodup) {i : Nat} {x : Str × Mom} (hx : a[i]? = some x) {d : PyData} (h : belV b x = some d) : putA (dA (belG (a.take i) b)) (.inr x.1) (.d d) = dA (belG (a.take (i + 1)) b) := by
  rw [take_get hx, belG_snoc, h]
  refine dA_put fun z => ?_
  have := belG_sub _ _ _ z
  rw [ks_take] at this
  exact nd_take nd (by rw [List.getElem?_map, hx]; rfl) this
theorem bel_skip {a b : Got} {i : Nat} {x : Str × Mom} (hx : a[i]? = some x) (h : belV b x = none) : dA (belG (a.take i) b) = dA (belG (a.take (i + 1)) b) := by
  rw [take_get hx, belG_snoc, h]
  simp
theorem any_none : ∀ sp : List (Mom × Option Mom), ((sp.map fun s => oD s.2).any fun z => PyData.eqv z .none) = decide (none ∈ sp.map fun s => s.2)
  | [] => rfl
  | s :: sp => by
    rw [List.map_cons, List.any_cons, any_none sp]
    cases e : s.2 with
    | none => simp [oD, PyData.eqv, e]
    | some u => simp [oD, momD, PyData.eqv, e]
theorem noneA_bel (a b : Got) (x : Str) : noneA (.d (belD a b x)) = some (noneD (belD a b x)) := by
  rw [belD_span]
  cases spanOf a b x <;> rfl
theorem ends_moms {sp : List (Mom × Option Mom)} (h : none ∉ sp.map fun s => s.2) : ∀ d ∈ sp.map (fun s => oD s.2), ∃ m : Mom, d = momD m := fun d hd => by
  obtain ⟨s, hs, rfl⟩ := List.mem_map.mp hd
  cases e : s.2 with
  | none => exact absurd (List.mem_map.mpr ⟨s, hs, e⟩) h
  | some u => exact ⟨u, rfl⟩
def R__law_right2 : DR := fun xs μ Pk _ => ∃ o k, xs = [.c 0] ∧ μ = [o] ∧ FD k o ∧ k < 10 ^ 13 ∧ ∀ o', FD (k + 5000) o' → Pk (.d (.bool true)) [o']
theorem fr_right2 {μ : Mu} {P : DK} {Ex : DX} {n : Nat} {o : O} {k : Int} (h : μ[n]? = some o) (hk : FD k o) (k1 : k < 10 ^ 13) (q : ∀ o', FD (k + 5000) o' → P (.d (.bool true)) (μ.set n o')) : FR R__law_right2 [.c n] μ P Ex :=
  fr_feed [] h hk.dO ⟨o, k, rfl, rfl, hk, k1, fun o' hk' => bkf hk'.dO (q o' hk')⟩
def R__law_same_place_right : DR := fun xs μ Pk _ => ∃ o k ps rs wk p m, xs = [.c 0, .d (webD ps rs), .d (weekD wk), .d (.str p), .d (momD m)] ∧ μ = [o] ∧ FD k o ∧ k < 10 ^ 14 ∧ WebOk ps rs ∧ WeekOk rs wk ∧ p ∈ ps ∧ MomOk wk m ∧ ∀ o', FD (k + 10) o' → Pk (.d (.bool true)) [o']
def R__law_behind_right : DR := fun xs μ Pk _ => ∃ o k, xs = [.c 0] ∧ μ = [o] ∧ FD k o ∧ k < 10 ^ 14 ∧ ∀ o', FD (k + 1000) o' → Pk (.d (.bool true)) [o']
theorem oD_lay : ∀ sp : List (Mom × Option Mom), PyData.canLayAll0 (sp.map fun s => oD s.2) = true ∧ PyData.depthAll (sp.map fun s => oD s.2) ≤ 1
  | [] => ⟨rfl, by simp [PyData.depthAll]⟩
  | s :: sp => by
    obtain ⟨h1, h2⟩ := oD_lay sp
    rw [List.map_cons]
    simp only [PyData.canLayAll0, PyData.depthAll, h1, Bool.and_true]
    cases e : s.2 with
    | none =>
      have e1 : (oD none).depth ≤ 1 := by simp [oD, PyData.depth]
      exact ⟨rfl, by omega⟩
    | some u =>
      have e1 : (oD (some u)).depth ≤ 1 := by simp [oD, momD, PyData.depth, PyData.depthAll]
      exact ⟨rfl, by omega⟩
theorem oD_shaped (sp : List (Mom × Option Mom)) : SeqAt.shaped (.tuple (sp.map fun s => oD s.2)) = true := by
  obtain ⟨h1, h2⟩ := oD_lay sp
  unfold SeqAt.shaped
  refine Bool.and_eq_true_iff.mpr ⟨by simpa only [PyData.canLay0] using h1, decide_eq_true ?_⟩
  simp only [PyData.depth]
  omega
theorem gotD_val {st : Got} {q : Str} (h : q ∈ ks st) : gotD st q = momD (valS st q) := by
  have e1 := valA_st st q
  rw [(valS_at st q h).1] at e1
  exact (Dl.A.d.inj e1).symm
theorem gotD_none {st : Got} {q : Str} (h : q ∉ ks st) : gotD st q = .none := by
  unfold gotD
  rw [List.find?_eq_none.mpr fun x hx => by
    simp only [decide_eq_true_eq]
    intro e
    exact h (by rw [← e]; exact List.mem_map.mpr ⟨x, hx, rfl⟩)]
theorem belD_val {a b : Got} {x : Str} (h : x ∈ ks a) : belD a b x = (belV b (x, valS a x)).getD .none := by
  unfold belD
  rw [if_pos h]
theorem eqv_rep : ∀ n : Nat, PyData.eqv (.list (List.replicate n .none)) (.list (List.replicate n .none)) = true := by
  intro n
  show PyData.eqvAll (List.replicate n .none) (List.replicate n .none) = true
  induction n with
  | zero => rfl
  | succ n ih =>
    rw [List.replicate_succ]
    simp [PyData.eqvAll, PyData.eqv, ih]
theorem rep_shaped (n : Nat) : SeqAt.shaped (.list (List.replicate n .none)) = true := mix_shaped fun d hd => .inl (List.eq_of_mem_replicate hd)
theorem rep_one (n : Nat) (d : PyData) : (List.replicate n [Dl.A.d d]).flatten = (List.replicate n d).map Dl.A.d := by
  induction n with
  | zero => rfl
  | succ n ih =>
    rw [List.replicate_succ, List.replicate_succ, List.flatten_cons, ih]
    rfl
theorem bel_none {a b : Got} (h : ∀ x, spanOf a b x = none) (ps : List Str) : ps.map (belD a b) = List.replicate ps.length .none ∧ spans a b ps = [] := by
  constructor
  · rw [List.eq_replicate_iff]
    refine ⟨List.length_map _, fun d hd => ?_⟩
    obtain ⟨x, _, rfl⟩ := List.mem_map.mp hd
    rw [belD_span, h]
    rfl
  · unfold spans
    rw [List.filterMap_eq_nil_iff]
    exact fun x _ => h x
theorem min_same (z m : Mom) : (if Dl.ltP z m then z else m) = (if Dl.ltP m z then m else z) := by
  unfold Dl.ltP
  by_cases h1 : z.1 < m.1 ∨ (z.1 = m.1 ∧ z.2 < m.2)
  · have h2 : ¬ (m.1 < z.1 ∨ (m.1 = z.1 ∧ m.2 < z.2)) := by omega
    simp [h1, h2]
  · by_cases h2 : m.1 < z.1 ∨ (m.1 = z.1 ∧ m.2 < z.2)
    · simp [h1, h2]
    · have e : z = m := Prod.ext (by omega) (by omega)
      rw [e]
theorem momok_sml {rs : List Road} {wk : List (List Str)} {m : Mom} (hw : WeekOk rs wk) (r14 : rs.length ≤ 14) (hm : MomOk wk m) : Sml (momD m) := by
  have h1 := hm.d1
  have h2 := hm.d2
  have h3 := hm.w1
  have h4 := hm.w2
  have h5 := round_len hw m.1
  exact sml_mom (by omega) (by omega) (by omega) (by omega)
theorem momok_weeks {wk : List (List Str)} {m : Mom} {j : Int} (hm : MomOk wk m) (hj : 0 ≤ (wk.length : Int) * j) (hd : m.1 + wk.length * j ≤ 1000000) : MomOk wk (shM (wk.length * j) m) := by
  have h1 := hm.d1
  refine .mk4 (by show 1 ≤ m.1 + wk.length * j; omega) hd hm.w1 ?_
  show m.2 ≤ ((roundAt wk (m.1 + wk.length * j)).length : Int)
  rw [round_weeks]
  exact hm.w2
def endP : PyData → PyData
  | .tuple [_, e] => e
  | _ => .none
theorem ends_list (a b : Got) (ps : List Str) : ((ps.map (belD a b)).filter fun d => !noneD d).map (fun d => Dl.A.d (endP d)) = ((spans a b ps).map fun s => oD s.2).map Dl.A.d := by
  rw [spans_list, List.map_map, List.map_map]
  rfl
/-- all ends are there where the denial comes whole weeks later -/
theorem weeks_spans {ps : List Str} {rs : List Road} {wk : List (List Str)} {p : Str} {m : Mom} (ok : WebOk ps rs) (hw : WeekOk rs wk) (hp : p ∈ ps) {j : Int} (hj : 0 < (wk.length : Int) * j) :
    none ∉ (spans (FinS rs wk p m) (FinS rs wk p (shM (wk.length * j) m)) ps).map (fun s => s.2) ∧ spans (FinS rs wk p m) (FinS rs wk p (shM (wk.length * j) m)) ps ≠ [] := by
  constructor
  · intro z
    obtain ⟨s, hs, e⟩ := List.mem_map.mp z
    obtain ⟨x, hx, e2⟩ := List.mem_filterMap.mp hs
    rw [bel_weeks ok hw hj] at e2
    split at e2
    · obtain rfl := Option.some.inj e2
      cases e
    · cases e2
  · intro z
    have h := (List.filterMap_eq_nil_iff.mp z) p hp
    rw [bel_weeks ok hw hj, if_pos (mem_ks.mpr ⟨m, fin_at_start⟩)] at h
    cases h
theorem lastD_all {sp : List (Mom × Option Mom)} {m m' : Mom} (h : none ∉ sp.map (fun s => s.2)) (ne : sp ≠ []) : ∃ x ds, sp.map (fun s => oD s.2) = x :: ds ∧ lastD sp m m' = bestD true x ds := by
  unfold lastD
  rw [if_neg h]
  cases sp with
  | nil => exact absurd rfl ne
  | cons s sp => exact ⟨_, _, rfl, rfl⟩
theorem mom_shaped (m : Mom) : SeqAt.shaped (momD m) = true := by
  unfold SeqAt.shaped
  refine Bool.and_eq_true_iff.mpr ⟨rfl, decide_eq_true ?_⟩
  simp [momD, PyData.depth, PyData.depthAll]
theorem wayD_cut (w : List Str) (n : Nat) : cut (w.map PyData.str) none (some (n : Int)) = (w.take n).map .str := by
  rw [cut_nat, List.map_take]
theorem fr_behind {μ : Mu} {P : DK} {Ex : DX} {n : Nat} {o : O} {k : Int} (h : μ[n]? = some o) (hk : FD k o) (k1 : k < 10 ^ 14) (q : ∀ o', FD (k + 1000) o' → P (.d (.bool true)) (μ.set n o')) : FR R__law_behind_right [.c n] μ P Ex :=
  fr_feed [] h hk.dO ⟨o, k, rfl, rfl, hk, k1, fun o' hk' => bkf hk'.dO (q o' hk')⟩
theorem fr_samePl {μ : Mu} {P : DK} {Ex : DX} {n : Nat} {o : O} {k : Int} {ps : List Str} {rs : List Road} {wk : List (List Str)} {p : Str} {m : Mom} (h : μ[n]? = some o) (hk : FD k o) (k1 : k < 10 ^ 14) (ok : WebOk ps rs) (hw : WeekOk rs wk) (hp : p ∈ ps) (hm : MomOk wk m) (q : ∀ o', FD (k + 10) o' → P (.d (.bool true)) (μ.set n o')) : FR R__law_same_place_right [.c n, .d (webD ps rs), .d (weekD wk), .d (.str p), .d (momD m)] μ P Ex :=
  fr_feed [_, _, _, _] h hk.dO ⟨o, k, ps, rs, wk, p, m, rfl, rfl, hk, k1, ok, hw, hp, hm, fun o' hk' => bkf hk'.dO (q o' hk')⟩
theorem ix_lstN {ds : List PyData} {j : Nat} {z : PyData} {μ : Mu} {P : DK} (e : ds[j]? = some z) (q : P (.d z) μ) : rdIx (.d (.list ds)) (.d (.int (j : Nat))) μ P :=
  ix_lstI (Int.natCast_nonneg _) (by rw [Int.toNat_natCast]; exact e) q
theorem enum_strs {ps : List Str} {i : Nat} {y : Y} (h : (enumY ((ps.map PyData.str).map Dl.A.d))[i]? = some y) : ∃ x, ps[i]? = some x ∧ y = .two (.d (.int (i : Nat))) (.d (.str x)) := by
  obtain ⟨z, hz, rfl⟩ := enumY_get h
  rw [List.map_map, List.getElem?_map] at hz
  obtain ⟨x, hx, rfl⟩ := Option.map_eq_some_iff.mp hz
  exact ⟨x, hx, rfl⟩
theorem eqv_mn (m : Mom) : PyData.eqv (.tuple [momD m, .none]) (.tuple [momD m, .none]) = true := by simp [momD, PyData.eqv, PyData.eqvAll]
theorem mn_shaped (m : Mom) : SeqAt.shaped (.tuple [momD m, .none]) = true := by
  unfold SeqAt.shaped
  refine Bool.and_eq_true_iff.mpr ⟨rfl, decide_eq_true ?_⟩
  simp [momD, PyData.depth, PyData.depthAll]
section
variable {ps : List Str} {rs : List Road} {p r x : Str} {m : Mom} {ss w v : List Str}
theorem Lt2.irrefl (a : Mom) : ¬ Lt2 a a := fun h => by
  unfold Lt2 at h
  omega
theorem behind_none (ok : WebOk ps rs) (hr : RotaOk rs ss) (hp : p ∈ ps) (hq : r ∈ ps) (T : TreeOk ps rs) (hm : MomS [ss] m) (g : Go rs p w r) (g' : Go rs p v x) (e : v.take w.length = w) : spanOf (FinS rs [ss] p m) (FinS rs [ss] r (goT ss m w)) x = none := by
  obtain ⟨rest, rfl⟩ : ∃ rest, v = w ++ rest := ⟨v.drop w.length, by
    have := (List.take_append_drop w.length v).symm
    rw [e] at this
    exact this⟩
  obtain ⟨c, g1, g2⟩ := Go.split _ w rest x rfl g'
  obtain rfl := Go.one ok _ w c r rfl g1 g
  have h1 := go_time ok hr hp hm T _ w c rfl g
  have h2 := go_time ok hr hp hm T _ _ x rfl g'
  have hm' := fin_mom hm h1
  have h3 := go_time ok hr hq hm' T _ rest x rfl g2
  rw [goT_app] at h2
  unfold spanOf
  rw [if_pos (mem_ks.mpr ⟨_, h2⟩), if_pos (mem_ks.mpr ⟨_, h3⟩), fin_val (fin_inv ok hr.week).nd h2, fin_val (fin_inv ok hr.week).nd h3, if_neg (Lt2.irrefl _)]
theorem before_some (ok : WebOk ps rs) (hr : RotaOk rs ss) (hp : p ∈ ps) (hq : r ∈ ps) (T : TreeOk ps rs) (hm : MomS [ss] m) (g : Go rs p w r) (g' : Go rs p v x) (e : w.take v.length = v) (l : v.length < w.length) : ∃ u, spanOf (FinS rs [ss] p m) (FinS rs [ss] r (goT ss m w)) x = some (goT ss m v, u) := by
  obtain ⟨rest, rfl⟩ : ∃ rest, w = v ++ rest := ⟨w.drop v.length, by
    have := (List.take_append_drop v.length w).symm
    rw [e] at this
    exact this⟩
  have ne : rest ≠ [] := fun z => by
    subst z
    rw [List.append_nil] at l
    exact Nat.lt_irrefl _ l
  obtain ⟨c, g1, g2⟩ := Go.split _ v rest r rfl g
  obtain rfl := Go.one ok _ v c x rfl g1 g'
  have h1 := go_time ok hr hp hm T _ _ r rfl g
  have h2 := go_time ok hr hp hm T _ v c rfl g'
  have hm' := fin_mom hm h1
  have h3 := go_time ok hr hq hm' T _ rest.reverse c rfl g2.rev
  have lt : Lt2 (goT ss m v) (goT ss (goT ss m (v ++ rest)) rest.reverse) := by
    refine Lt2.trans_le ?_ (goT_le ss _ _)
    rw [goT_app]
    exact goT_lt ss _ ne
  unfold spanOf
  rw [if_pos (mem_ks.mpr ⟨_, h2⟩), if_pos (mem_ks.mpr ⟨_, h3⟩), fin_val (fin_inv ok hr.week).nd h2, fin_val (fin_inv ok hr.week).nd h3, if_pos lt]
  exact ⟨_, rfl⟩
end
end Rp

set_option Elab.async false
set_option linter.all false
set_option maxRecDepth 100000
set_option maxHeartbeats 4000000
namespace K55
open PySem PySem.Spec PyProof.Rows L2 Dl Rp
local macro_rules | `(tactic| and_intros) => `(tactic| repeat (first | refine ⟨_, rfl, ?_⟩ | refine iteT ?_ | refine iteF ?_ | refine ⟨_, _, rfl, rfl, ?_⟩ | refine add_int ?_ | refine len_tup ?_ | refine len_lst ?_ | refine tgt2 ?_ | refine tgt3 ?_ | refine ⟨[_], rfl, len1, ?_⟩ | refine ⟨[_, _], rfl, len2, ?_⟩ | refine ⟨[_, _, _], rfl, len3, ?_⟩))
def topS (i : Nat) : Stmt := PySem.Challenge.pw_roundpost_k55_denials_as_early_as_the_ne.main.body.getD i (.Pass ⟨0, 0, 0, 0⟩)
def blt : List Str := ["len", "max", "min", "int", "sum", "list", "tuple", "range", "enumerate", "zip", "all", "any", "isinstance", "str", "bool", "repr", "set", "sorted", "dict"]
abbrev st_is_whole : Stmt := topS 7
abbrev ns_is_whole : List Str := ["thing"]
theorem sc_is_whole : FnScope ns_is_whole ["thing"] (defScope st_is_whole) := ⟨rfl, rfl, rfl, by decide +kernel, rfl, by decide +kernel, by decide +kernel⟩
abbrev st_is_count : Stmt := topS 8
abbrev ns_is_count : List Str := ["thing", "least", "most"]
theorem sc_is_count : FnScope ns_is_count ["thing", "least", "most"] (defScope st_is_count) := ⟨rfl, rfl, rfl, by decide +kernel, rfl, by decide +kernel, by decide +kernel⟩
abbrev st_is_name : Stmt := topS 13
abbrev ns_is_name : List Str := ["thing"]
theorem sc_is_name : FnScope ns_is_name ["thing"] (defScope st_is_name) := ⟨rfl, rfl, rfl, by decide +kernel, rfl, by decide +kernel, by decide +kernel⟩
abbrev st_are_places : Stmt := topS 14
abbrev ns_are_places : List Str := ["thing", "place"]
theorem sc_are_places : FnScope ns_are_places ["thing"] (defScope st_are_places) := ⟨rfl, rfl, rfl, by decide +kernel, rfl, by decide +kernel, by decide +kernel⟩
abbrev st_is_road_between : Stmt := topS 15
abbrev ns_is_road_between : List Str := ["places", "thing", "name", "near", "far"]
theorem sc_is_road_between : FnScope ns_is_road_between ["places", "thing"] (defScope st_is_road_between) := ⟨rfl, rfl, rfl, by decide +kernel, rfl, by decide +kernel, by decide +kernel⟩
abbrev st_are_roads_between : Stmt := topS 16
abbrev ns_are_roads_between : List Str := ["places", "thing", "road"]
theorem sc_are_roads_between : FnScope ns_are_roads_between ["places", "thing"] (defScope st_are_roads_between) := ⟨rfl, rfl, rfl, by decide +kernel, rfl, by decide +kernel, by decide +kernel⟩
abbrev st_is_web : Stmt := topS 17
abbrev ns_is_web : List Str := ["thing", "places", "roads"]
theorem sc_is_web : FnScope ns_is_web ["thing"] (defScope st_is_web) := ⟨rfl, rfl, rfl, by decide +kernel, rfl, by decide +kernel, by decide +kernel⟩
abbrev st_need_web : Stmt := topS 18
abbrev ns_need_web : List Str := ["web"]
theorem sc_need_web : FnScope ns_need_web ["web"] (defScope st_need_web) := ⟨rfl, rfl, rfl, by decide +kernel, rfl, by decide +kernel, by decide +kernel⟩
abbrev st_need_place : Stmt := topS 19
abbrev ns_need_place : List Str := ["web", "place"]
theorem sc_need_place : FnScope ns_need_place ["web", "place"] (defScope st_need_place) := ⟨rfl, rfl, rfl, by decide +kernel, rfl, by decide +kernel, by decide +kernel⟩
abbrev st_are_unlike_roads : Stmt := topS 20
abbrev ns_are_unlike_roads : List Str := ["web", "thing", "names", "road", "name"]
theorem sc_are_unlike_roads : FnScope ns_are_unlike_roads ["web", "thing"] (defScope st_are_unlike_roads) := ⟨rfl, rfl, rfl, by decide +kernel, rfl, by decide +kernel, by decide +kernel⟩
abbrev st_ends_of : Stmt := topS 21
abbrev ns_ends_of : List Str := ["web", "name", "near", "far"]
theorem sc_ends_of : FnScope ns_ends_of ["web"] (defScope st_ends_of) := ⟨rfl, rfl, rfl, by decide +kernel, rfl, by decide +kernel, by decide +kernel⟩
abbrev st_is_week : Stmt := topS 25
abbrev ns_is_week : List Str := ["web", "thing", "names"]
theorem sc_is_week : FnScope ns_is_week ["web", "thing"] (defScope st_is_week) := ⟨rfl, rfl, rfl, by decide +kernel, rfl, by decide +kernel, by decide +kernel⟩
abbrev st_need_week : Stmt := topS 26
abbrev ns_need_week : List Str := ["web", "week"]
theorem sc_need_week : FnScope ns_need_week ["web", "week"] (defScope st_need_week) := ⟨rfl, rfl, rfl, by decide +kernel, rfl, by decide +kernel, by decide +kernel⟩
abbrev st_round_of : Stmt := topS 27
abbrev ns_round_of : List Str := ["week", "day"]
theorem sc_round_of : FnScope ns_round_of ["week", "day"] (defScope st_round_of) := ⟨rfl, rfl, rfl, by decide +kernel, rfl, by decide +kernel, by decide +kernel⟩
abbrev st_is_moment : Stmt := topS 28
abbrev ns_is_moment : List Str := ["week", "thing", "day", "walks"]
theorem sc_is_moment : FnScope ns_is_moment ["week", "thing"] (defScope st_is_moment) := ⟨rfl, rfl, rfl, by decide +kernel, rfl, by decide +kernel, by decide +kernel⟩
abbrev st_need_moment : Stmt := topS 29
abbrev ns_need_moment : List Str := ["week", "moment"]
theorem sc_need_moment : FnScope ns_need_moment ["week", "moment"] (defScope st_need_moment) := ⟨rfl, rfl, rfl, by decide +kernel, rfl, by decide +kernel, by decide +kernel⟩
abbrev st_spread : Stmt := topS 31
abbrev ns_spread : List Str := ["web", "week", "place", "moment", "fallen", "ends", "known", "day", "start", "idle", "names", "index", "near", "far"]
theorem sc_spread : FnScope ns_spread ["web", "week", "place", "moment", "fallen"] (defScope st_spread) := ⟨rfl, rfl, rfl, by decide +kernel, rfl, by decide +kernel, by decide +kernel⟩
abbrev st_listed : Stmt := topS 32
abbrev ns_listed : List Str := ["web", "known", "place"]
theorem sc_listed : FnScope ns_listed ["web", "known"] (defScope st_listed) := ⟨rfl, rfl, rfl, by decide +kernel, rfl, by decide +kernel, by decide +kernel⟩
abbrev st_beliefs : Stmt := topS 34
abbrev ns_beliefs : List Str := ["web", "week", "place", "moment", "other", "later", "known", "denied", "believed", "one", "since", "until"]
theorem sc_beliefs : FnScope ns_beliefs ["web", "week", "place", "moment", "other", "later"] (defScope st_beliefs) := ⟨rfl, rfl, rfl, by decide +kernel, rfl, by decide +kernel, by decide +kernel⟩
abbrev st_last_belief : Stmt := topS 35
abbrev ns_last_belief : List Str := ["web", "week", "place", "moment", "other", "later", "spans", "ends", "span", "_", "until"]
theorem sc_last_belief : FnScope ns_last_belief ["web", "week", "place", "moment", "other", "later"] (defScope st_last_belief) := ⟨rfl, rfl, rfl, by decide +kernel, rfl, by decide +kernel, by decide +kernel⟩
abbrev st__law_feed : Stmt := topS 37
abbrev ns__law_feed : List Str := ["_law_script", "_law_k", "_law_cell"]
theorem sc__law_feed : FnScope ns__law_feed ["_law_script", "_law_k"] (defScope st__law_feed) := ⟨rfl, rfl, rfl, by decide +kernel, rfl, by decide +kernel, by decide +kernel⟩
abbrev st__law_draw : Stmt := topS 38
abbrev ns__law_draw : List Str := ["_law_feed_here", "_law_many", "_law_rest", "_law_got", "_law_stir"]
theorem sc__law_draw : FnScope ns__law_draw ["_law_feed_here", "_law_many"] (defScope st__law_draw) := ⟨rfl, rfl, rfl, by decide +kernel, rfl, by decide +kernel, by decide +kernel⟩
abbrev st__law_one : Stmt := topS 39
abbrev ns__law_one : List Str := ["_law_feed_here", "_law_things"]
theorem sc__law_one : FnScope ns__law_one ["_law_feed_here", "_law_things"] (defScope st__law_one) := ⟨rfl, rfl, rfl, by decide +kernel, rfl, by decide +kernel, by decide +kernel⟩
abbrev st__law_mixed : Stmt := topS 40
abbrev ns__law_mixed : List Str := ["_law_feed_here", "_law_things", "_law_pool", "_law_got", "_law_turn"]
theorem sc__law_mixed : FnScope ns__law_mixed ["_law_feed_here", "_law_things"] (defScope st__law_mixed) := ⟨rfl, rfl, rfl, by decide +kernel, rfl, by decide +kernel, by decide +kernel⟩
abbrev st__law_names : Stmt := topS 41
abbrev ns__law_names : List Str := ["_law_feed_here", "_law_many"]
theorem sc__law_names : FnScope ns__law_names ["_law_feed_here", "_law_many"] (defScope st__law_names) := ⟨rfl, rfl, rfl, by decide +kernel, rfl, by decide +kernel, by decide +kernel⟩
abbrev st__law_web : Stmt := topS 42
abbrev ns__law_web : List Str := ["_law_feed_here", "_law_way", "_law_many", "_law_shape", "_law_names_here", "_law_ties", "_law_at", "_law_back", "_law_turn", "_law_one_here", "_law_roads", "_law_tie", "_law_road"]
theorem sc__law_web : FnScope ns__law_web ["_law_feed_here", "_law_way"] (defScope st__law_web) := ⟨rfl, rfl, rfl, by decide +kernel, rfl, by decide +kernel, by decide +kernel⟩
abbrev st__law_rota : Stmt := topS 43
abbrev ns__law_rota : List Str := ["_law_feed_here", "_law_web_here", "_law_road"]
theorem sc__law_rota : FnScope ns__law_rota ["_law_feed_here", "_law_web_here"] (defScope st__law_rota) := ⟨rfl, rfl, rfl, by decide +kernel, rfl, by decide +kernel, by decide +kernel⟩
abbrev st__law_week : Stmt := topS 44
abbrev ns__law_week : List Str := ["_law_feed_here", "_law_web_here", "_law_rota_here", "_law_rounds", "_law_turn", "_law_some"]
theorem sc__law_week : FnScope ns__law_week ["_law_feed_here", "_law_web_here"] (defScope st__law_week) := ⟨rfl, rfl, rfl, by decide +kernel, rfl, by decide +kernel, by decide +kernel⟩
abbrev st__law_moment : Stmt := topS 45
abbrev ns__law_moment : List Str := ["_law_feed_here", "_law_week_here", "_law_day"]
theorem sc__law_moment : FnScope ns__law_moment ["_law_feed_here", "_law_week_here"] (defScope st__law_moment) := ⟨rfl, rfl, rfl, by decide +kernel, rfl, by decide +kernel, by decide +kernel⟩
abbrev st__law_round : Stmt := topS 46
abbrev ns__law_round : List Str := ["_law_week_here", "_law_day"]
theorem sc__law_round : FnScope ns__law_round ["_law_week_here", "_law_day"] (defScope st__law_round) := ⟨rfl, rfl, rfl, by decide +kernel, rfl, by decide +kernel, by decide +kernel⟩
abbrev st__law_arrivals : Stmt := topS 47
abbrev ns__law_arrivals : List Str := ["_law_web_here", "_law_week_here", "_law_place", "_law_moment_here", "_law_ends", "_law_got", "_law_day", "_law_still", "_law_new", "_law_k", "_law_road", "_law_one_here", "_law_other", "_law_here", "_law_there"]
theorem sc__law_arrivals : FnScope ns__law_arrivals ["_law_web_here", "_law_week_here", "_law_place", "_law_moment_here"] (defScope st__law_arrivals) := ⟨rfl, rfl, rfl, by decide +kernel, rfl, by decide +kernel, by decide +kernel⟩
abbrev st__law_path : Stmt := topS 48
abbrev ns__law_path : List Str := ["_law_web_here", "_law_place", "_law_other", "_law_ways", "_law_turn", "_law_road", "_law_one_here", "_law_two"]
theorem sc__law_path : FnScope ns__law_path ["_law_web_here", "_law_place", "_law_other"] (defScope st__law_path) := ⟨rfl, rfl, rfl, by decide +kernel, rfl, by decide +kernel, by decide +kernel⟩
abbrev st__law_big_web : Stmt := topS 49
abbrev ns__law_big_web : List Str := ["_law_feed_here", "_law_way", "_law_shape", "_law_ties", "_law_names_here", "_law_at", "_law_turn", "_law_one_here", "_law_roads", "_law_tie", "_law_road"]
theorem sc__law_big_web : FnScope ns__law_big_web ["_law_feed_here", "_law_way"] (defScope st__law_big_web) := ⟨rfl, rfl, rfl, by decide +kernel, rfl, by decide +kernel, by decide +kernel⟩
abbrev st__law_some_web : Stmt := topS 50
abbrev ns__law_some_web : List Str := ["_law_feed_here", "_law_way"]
theorem sc__law_some_web : FnScope ns__law_some_web ["_law_feed_here", "_law_way"] (defScope st__law_some_web) := ⟨rfl, rfl, rfl, by decide +kernel, rfl, by decide +kernel, by decide +kernel⟩
abbrev st__law_any_web : Stmt := topS 51
abbrev ns__law_any_web : List Str := ["_law_feed_here"]
theorem sc__law_any_web : FnScope ns__law_any_web ["_law_feed_here"] (defScope st__law_any_web) := ⟨rfl, rfl, rfl, by decide +kernel, rfl, by decide +kernel, by decide +kernel⟩
abbrev st__law_listed : Stmt := topS 52
abbrev ns__law_listed : List Str := ["_law_web_here", "_law_got", "_law_place"]
theorem sc__law_listed : FnScope ns__law_listed ["_law_web_here", "_law_got"] (defScope st__law_listed) := ⟨rfl, rfl, rfl, by decide +kernel, rfl, by decide +kernel, by decide +kernel⟩
abbrev st__law_beliefs : Stmt := topS 53
abbrev ns__law_beliefs : List Str := ["_law_web_here", "_law_week_here", "_law_place", "_law_moment_here", "_law_other", "_law_later", "_law_news", "_law_denial", "_law_got", "_law_here", "_law_begin", "_law_end"]
theorem sc__law_beliefs : FnScope ns__law_beliefs ["_law_web_here", "_law_week_here", "_law_place", "_law_moment_here", "_law_other", "_law_later"] (defScope st__law_beliefs) := ⟨rfl, rfl, rfl, by decide +kernel, rfl, by decide +kernel, by decide +kernel⟩
abbrev st__law_same_place_right : Stmt := topS 54
abbrev ns__law_same_place_right : List Str := ["_law_feed_here", "_law_web_here", "_law_week_here", "_law_place", "_law_moment_here", "_law_early", "_law_one_here", "_law_days", "_law_got", "_law_due", "_law_later", "_law_row"]
theorem sc__law_same_place_right : FnScope ns__law_same_place_right ["_law_feed_here", "_law_web_here", "_law_week_here", "_law_place", "_law_moment_here"] (defScope st__law_same_place_right) := ⟨rfl, rfl, rfl, by decide +kernel, rfl, by decide +kernel, by decide +kernel⟩
abbrev st__law_behind_right : Stmt := topS 55
abbrev ns__law_behind_right : List Str := ["_law_feed_here", "_law_web_here", "_law_rota_here", "_law_place", "_law_other", "_law_moment_here", "_law_news", "_law_told", "_law_ahead", "_law_at", "_law_here", "_law_way"]
theorem sc__law_behind_right : FnScope ns__law_behind_right ["_law_feed_here"] (defScope st__law_behind_right) := ⟨rfl, rfl, rfl, by decide +kernel, rfl, by decide +kernel, by decide +kernel⟩
abbrev st__law_right : Stmt := topS 56
abbrev ns__law_right : List Str := ["_law_feed_here", "_law_web_here", "_law_week_here", "_law_place", "_law_other", "_law_moment_here", "_law_news", "_law_denied", "_law_told", "_law_at", "_law_here"]
theorem sc__law_right : FnScope ns__law_right ["_law_feed_here"] (defScope st__law_right) := ⟨rfl, rfl, rfl, by decide +kernel, rfl, by decide +kernel, by decide +kernel⟩
abbrev st_law : Stmt := topS 57
abbrev ns_law : List Str := ["_law_script", "_law_k"]
theorem sc_law : FnScope ns_law ["_law_script"] (defScope st_law) := ⟨rfl, rfl, rfl, by decide +kernel, rfl, by decide +kernel, by decide +kernel⟩
end K55

set_option Elab.async false
set_option linter.all false
set_option maxRecDepth 100000
set_option maxHeartbeats 4000000
namespace K55
open PySem PySem.Spec PyProof.Rows L2 Dl Rp
local macro_rules | `(tactic| and_intros) => `(tactic| repeat (first | refine ⟨_, rfl, ?_⟩ | refine iteT ?_ | refine iteF ?_ | refine ⟨_, _, rfl, rfl, ?_⟩ | refine add_int ?_ | refine len_tup ?_ | refine len_lst ?_ | refine tgt2 ?_ | refine tgt3 ?_ | refine ⟨[_], rfl, len1, ?_⟩ | refine ⟨[_, _], rfl, len2, ?_⟩ | refine ⟨[_, _, _], rfl, len3, ?_⟩))
end K55

set_option Elab.async false
set_option linter.all false
set_option maxRecDepth 100000
set_option maxHeartbeats 4000000
namespace K55
open PySem PySem.Spec PyProof.Rows L2 Dl Rp
local macro_rules | `(tactic| and_intros) => `(tactic| repeat (first | refine ⟨_, rfl, ?_⟩ | refine iteT ?_ | refine iteF ?_ | refine ⟨_, _, rfl, rfl, ?_⟩ | refine add_int ?_ | refine len_tup ?_ | refine len_lst ?_ | refine tgt2 ?_ | refine tgt3 ?_ | refine ⟨[_], rfl, len1, ?_⟩ | refine ⟨[_, _], rfl, len2, ?_⟩ | refine ⟨[_, _, _], rfl, len3, ?_⟩))
section
variable {P : Program} {w : World} {K : PySem.W.Frag} {mg : Str → Option Value} {base : Heap}
theorem ok_spread {f : Addr} {fd : FuncData} (F : FunV K "spread" "spread" st_spread f fd) (Z : ∀ x, x ∈ blt → mg x = none) (C_ends_of : CalG P w K mg base "ends_of" 1 R_ends_of) (C_round_of : CalG P w K mg base "round_of" 1 R_round_of)  : FnG P w K mg base (L2.CX P w) 2 f fd ["web", "week", "place", "moment", "fallen"] (SpD K R_spread) := by
  refine cal_ofG F sc_spread ?_ (fun cd A ou s H E W hg hr tk po => ?_)
  rotate_left
  have hN := sc_spread.nd
  have hu := hr.units
  have hu65 := hr.units65
  refine ⟨_, (dss_cons (ds_set (i := 5) hN (d_calG C_ends_of hg (hr.mono (by omega)) (da_cons (d_var 0) da_nil))) (dss_cons (ds_set (i := 6) hN (d_disp1 (d_var 2) (d_var 3))) (dss_cons (ds_asg (d_var 3) (dg_tup (n := 2) rfl (dgs_cons (dg_name (i := 7) hN) (dgs_cons (dg_name (i := 8) hN) dgs_nil)))) (dss_cons (ds_set (i := 9) hN d_int) (dss_cons (ds_while po (dt_w (dw_and (tLt (d_callB call_lenD s_lenD (da_cons (d_var 6) da_nil) (Z "len" (by decide))) (d_callB call_len s_lenU (da_cons (dIx (d_var 0) d_int) da_nil) (Z "len" (by decide)))) (dw_and1 (tLe (d_var 9) (d_callB call_len s_lenU (da_cons (d_var 1) da_nil) (Z "len" (by decide))))))) (dss_cons (ds_set (i := 9) hN (dAdd (d_var 9) d_int)) (dss_cons (ds_set (i := 10) hN (d_calG C_round_of hg (hr.mono (by omega)) (da_cons (d_var 1) (da_cons (d_var 7) da_nil)))) (dss_cons (ds_for po rfl (di_range2 (da_cons (d_var 8) (da_cons (d_callB call_len s_lenU (da_cons (d_var 10) da_nil) (Z "len" (by decide))) da_nil)) (Z "range" (by decide))) (dg_name (i := 11) hN) (dss_cons (ds_asg (d_dget hu (d_var 5) (dIx (d_var 10) (d_var 11))) (dg_tup (n := 2) rfl (dgs_cons (dg_name (i := 12) hN) (dgs_cons (dg_name (i := 13) hN) dgs_nil)))) (dss_one (ds_if (tNe hu (d_din hu (d_var 12) (d_var 6)) (d_din hu (d_var 13) (d_var 6))) (dss_cons (ds_set (i := 9) hN d_int) (dss_one (ds_if (tNotInT hu65 (d_tup (da_cons (d_var 7) (da_cons (dIx (d_var 10) (d_var 11)) da_nil))) (d_var 4)) (dss_one (ds_dput hu (d_var 6) (d_if (t_din hu (d_var 12) (d_var 6)) (d_var 13) (d_var 12)) (d_tup (da_cons (d_var 7) (da_cons (dAdd (d_var 11) d_int) da_nil))))) dss_nil))) dss_nil)))) (dss_one (ds_par (i := 7) (j := 8) rfl hN (da_cons (dAdd (d_var 7) d_int) (da_cons d_int da_nil)))))))) (dss_one (ds_ret (d_var 6)))))))), ?_⟩
  · rintro xs μ Pk Ex old ⟨ps, rs, wk, p, m, rfl, rfl, ok, hw, hp, hm, q⟩
    have m10 := ok.p.most
    have r14 := ok.r.most
    have w4 := hw.most
    refine ⟨_, rfl, fr_d [_] ⟨ps, rs, rfl, rfl, ⟨ok.r.most, ok.r.nd⟩, one_o (dO_ends rs), ?_⟩⟩
    refine ⟨_, rfl, _, rfl, .inr p, rfl, ?_⟩
    refine ⟨_, rfl, tgt2 ?_⟩
    refine ⟨fun k ρ μ => ∃ n j dy sw b c d e, ρ = [some (.d (webD ps rs)), some (.d (weekD wk)), some (.d (.str p)), some (.d (momD m)), some (.d (.tuple [])), some (.c 0), some (.c 1), some (.d (.int dy)), some (.d (.int sw)), some (.d (.int (j : Nat))), b, c, d, e] ∧
      μ = [.dct (endsA rs), .dct (stA (S rs wk p m n))] ∧ dy = m.1 + (n : Nat) ∧ sw = (beg m n : Int) ∧ Idle rs wk p m n j ∧ k = (ps.length - (S rs wk p m n).length) * (wk.length + 2) + (wk.length + 1 - j), ⟨_, 0, 0, m.1, m.2, _, _, _, _, rfl, rfl, by omega, ?_, Idle.start, rfl⟩, ?_⟩
    · have := hm.w1
      unfold beg
      rw [if_pos rfl]
      omega
    rintro k ρ2 μ2 ⟨n, j, dy, sw, b, c, d, e, rfl, rfl, hdy, hsw, hI, rfl⟩
    have n50 := hI.n50 ok hw hp
    have sl := S_len (m := m) ok.r hw hp n
    have lst : (stA (S rs wk p m n)).length = (S rs wk p m n).length := List.length_map ..
    have lps : (ps.map PyData.str).length = ps.length := List.length_map ..
    have lwk : (wk.map roundD).length = wk.length := List.length_map ..
    have out : Final rs wk p m (S rs wk p m n) → RetD 0 Pk (.c 1) [.dct (endsA rs), .dct (stA (S rs wk p m n))] := fun hF => keep0 (j := 1) rfl (fun x hx => by
      obtain ⟨r, _, rfl⟩ := List.mem_map.mp hx
      trivial) (q n n50 hF)
    refine ⟨_, rfl, 1, _, rfl, rfl, _, rfl, ix_tup (j := 0) rfl (len_tup ⟨_, _, rfl, rfl, _, rfl, iteD (fun hlt => ?_) (fun hge => ?_)⟩)⟩
    · refine ⟨_, rfl, _, rfl, len_tup ⟨_, _, rfl, rfl, _, rfl, iteD (fun hj => ?_) (fun hj => ?_)⟩⟩
      · rw [lst, lps] at hlt
        rw [lwk] at hj
        have jl : j ≤ wk.length := by omega
        have nlt : (S rs wk p m n).length < ps.length := by omega
        have bl := beg_le hm n
        have rl := round_len hw (m.1 + n)
        refine ⟨_, rfl, add_int ⟨_, rfl, _, rfl, fr_d [_, _] ⟨wk, dy, rfl, rfl, ⟨hw.one, hw.most⟩, noO, ?_⟩⟩⟩
        rw [List.append_nil, hdy]
        have ln : ((roundAt wk (m.1 + n)).map PyData.str).length = (roundAt wk (m.1 + n)).length := List.length_map ..
        refine ⟨_, rfl, _, rfl, _, _, rfl, ⟨?_, ?_, ?_, ?_⟩, ?_⟩
        any_goals omega
        refine ⟨fun i ρ μ => ∃ b c d g, ρ = [some (.d (webD ps rs)), some (.d (weekD wk)), some (.d (.str p)), some (.d (momD m)), some (.d (.tuple [])), some (.c 0), some (.c 1), some (.d (.int (m.1 + n))), some (.d (.int sw)), some (.d (.int g)), some (.d (roundD (roundAt wk (m.1 + n)))), b, c, d] ∧ g = idl rs wk p m n j i ∧
          μ = [.dct (endsA rs), .dct (stA (mid rs wk p m n i))], ⟨_, _, _, _, rfl, ?_, rfl⟩, ?_, ?_⟩
        · unfold idl
          rw [mid_zero, if_pos rfl]
        · rintro i y ρ3 μ3 hy ⟨b, c, d, g, rfl, hg2, rfl⟩
          obtain ⟨hi, rfl⟩ := rngY_get hy
          have hi2 : beg m n + i < (roundAt wk (m.1 + n)).length := by omega
          have hx : (roundAt wk (m.1 + n))[beg m n + i]? = some (roundAt wk (m.1 + n))[beg m n + i] := List.getElem?_eq_getElem hi2
          generalize (roundAt wk (m.1 + n))[beg m n + i] = x at hx
          have xr : x ∈ rnm rs := round_sub hw _ x (List.mem_of_getElem? hx)
          have e0 : (0 : Int) ≤ sw + (i : Int) := by omega
          have e1 : ((roundAt wk (m.1 + n)).map PyData.str)[(sw + (i : Int)).toNat]? = some (.str x) := by
            rw [show (sw + (i : Int)).toNat = beg m n + i by omega, List.getElem?_map, hx]
            rfl
          have iv := mid_inv (p := p) (m := m) ok.r.nd hw n i
          have sl2 : (stA (mid rs wk p m n i)).length < sizeLine := by
            unfold stA
            rw [List.length_map]
            exact Nat.lt_of_le_of_lt (Nat.le_trans (iv.len ok.r hp) m10) (by decide)
          have e3 : ((beg m n + i : Nat) : Int) + 1 = sw + (i : Int) + 1 := by omega
          obtain ⟨t, et⟩ := mid_len (rs := rs) (wk := wk) (p := p) (m := m) n i
          refine ⟨trivial, _, rfl, ?_⟩
          refine ⟨_, rfl, _, rfl, _, rfl, ix_tupI e0 e1 ⟨0, _, .inr x, _, rfl, rfl, rfl, valA_endF rs x xr, tgt2 ?_⟩⟩
          refine ⟨_, rfl, _, rfl, 1, _, .inr _, rfl, rfl, rfl, _, rfl, _, rfl, 1, _, .inr _, rfl, rfl, rfl, ?_⟩
          rw [valA_in, valA_in]
          have same : mid rs wk p m n (i + 1) = mid rs wk p m n i → idl rs wk p m n j (i + 1) = idl rs wk p m n j i := fun e => by
            unfold idl
            rw [e]
          have news : ∀ z, mid rs wk p m n (i + 1) = mid rs wk p m n i ++ [z] → idl rs wk p m n j (i + 1) = 0 := fun z e => by
            unfold idl
            rw [e, et, List.length_append, List.length_append, if_neg]
            simp
            omega
          by_cases a : (endsOf rs x).1 ∈ ks (mid rs wk p m n i) <;> by_cases b : (endsOf rs x).2 ∈ ks (mid rs wk p m n i)
          · rw [decide_eq_true a, decide_eq_true b]
            refine ⟨_, _, rfl, rfl, rfl, rfl, _, rfl, ?_⟩
            have e := mid_succ (p := p) (rs := rs) hx
            rw [stepW_tt a b] at e
            refine iteF ⟨_, _, _, _, rfl, ?_, ?_⟩
            · rw [same e]
              exact hg2
            · rw [e]
          · rw [decide_eq_true a, decide_eq_false b]
            refine ⟨_, _, rfl, rfl, rfl, rfl, _, rfl, ?_⟩
            have e := mid_succ (p := p) (rs := rs) hx
            rw [stepW_tf a b] at e
            refine iteT ⟨_, rfl, _, rfl, _, rfl, ix_tupI e0 e1 ⟨[_, _], rfl, len2, _, rfl, _, [], rfl, .inl rfl, shp2 (by obtain ⟨r, hr, rfl⟩ := List.mem_map.mp xr; exact ok.r.nm r hr), rfl, _, rfl, iteT ?_⟩⟩
            refine ⟨_, rfl, _, rfl, [_, _], rfl, len2, _, rfl, _, rfl, _, rfl, 1, _, .inr _, rfl, rfl, rfl, _, rfl, ?_⟩
            rw [valA_in]
            refine fP a ⟨_, rfl, 1, _, .inr _, rfl, rfl, rfl, sl2, _, _, _, _, rfl, ?_, ?_⟩
            · rw [news _ e]
            · rw [e, e3, ← st_put b]
              rfl
          · rw [decide_eq_false a, decide_eq_true b]
            refine ⟨_, _, rfl, rfl, rfl, rfl, _, rfl, ?_⟩
            have e := mid_succ (p := p) (rs := rs) hx
            rw [stepW_ft a b] at e
            refine iteT ⟨_, rfl, _, rfl, _, rfl, ix_tupI e0 e1 ⟨[_, _], rfl, len2, _, rfl, _, [], rfl, .inl rfl, shp2 (by obtain ⟨r, hr, rfl⟩ := List.mem_map.mp xr; exact ok.r.nm r hr), rfl, _, rfl, iteT ?_⟩⟩
            refine ⟨_, rfl, _, rfl, [_, _], rfl, len2, _, rfl, _, rfl, _, rfl, 1, _, .inr _, rfl, rfl, rfl, _, rfl, ?_⟩
            rw [valA_in]
            refine fQ a ⟨_, rfl, 1, _, .inr _, rfl, rfl, rfl, sl2, _, _, _, _, rfl, ?_, ?_⟩
            · rw [news _ e]
            · rw [e, e3, ← st_put a]
              rfl
          · rw [decide_eq_false a, decide_eq_false b]
            refine ⟨_, _, rfl, rfl, rfl, rfl, _, rfl, ?_⟩
            have e := mid_succ (p := p) (rs := rs) hx
            rw [stepW_ff a b] at e
            refine iteF ⟨_, _, _, _, rfl, ?_, ?_⟩
            · rw [same e]
              exact hg2
            · rw [e]
        · rintro ρ3 μ3 ⟨b, c, d, g, rfl, hg2, rfl⟩
          rw [rngY_len] at hg2
          have me : mid rs wk p m n (((roundAt wk (m.1 + n)).map PyData.str).length - sw).toNat = S rs wk p m (n + 1) := mid_end (by omega)
          have mt : [O.dct (endsA rs), O.dct (stA (mid rs wk p m n (rngY sw (((roundAt wk (m.1 + n)).map PyData.str).length - sw).toNat).length))] = [O.dct (endsA rs), O.dct (stA (S rs wk p m (n + 1)))] := by
            rw [rngY_len, me]
          have sl1 := S_len (m := m) ok.r hw hp (n + 1)
          obtain ⟨t1, et1⟩ := S_app (rs := rs) (wk := wk) (p := p) (m := m) n
          by_cases e : S rs wk p m (n + 1) = S rs wk p m n
          · have g1 : g = ((j + 1 : Nat) : Int) := by
              rw [hg2]
              unfold idl
              rw [me, e, if_pos rfl]
              rfl
            subst g1
            refine ⟨trivial, _, rfl, _, _, rfl, _, ?_, n + 1, j + 1, m.1 + n + 1, 0, _, _, _, _, rfl, mt, ?_, ?_, hI.next jl e, rfl⟩
            · rw [e]
              omega
            · omega
            · unfold beg
              rw [if_neg (by omega)]
              rfl
          · have hl : (S rs wk p m n).length + 1 ≤ (S rs wk p m (n + 1)).length := by
              by_cases z : (S rs wk p m (n + 1)).length = (S rs wk p m n).length
              · exact absurd (S_same z) e
              · rw [et1, List.length_append] at z ⊢
                omega
            have g1 : g = ((0 : Nat) : Int) := by
              rw [hg2]
              unfold idl
              rw [me, if_neg (by omega)]
              rfl
            subst g1
            refine ⟨trivial, _, rfl, _, _, rfl, _, ?_, n + 1, 0, m.1 + n + 1, 0, _, _, _, _, rfl, mt, ?_, ?_, hI.new jl e, rfl⟩
            · have h2 : ps.length - (S rs wk p m (n + 1)).length + 1 ≤ ps.length - (S rs wk p m n).length := by omega
              have := Nat.mul_le_mul_right (wk.length + 2) h2
              rw [Nat.succ_mul] at this
              omega
            · omega
            · unfold beg
              rw [if_neg (by omega)]
              rfl
      · rw [lwk] at hj
        have ej : j = wk.length + 1 := by have := hI.most; omega
        subst ej
        exact ⟨_, rfl, out (hI.final hw.one)⟩
    · rw [lst, lps] at hge
      exact ⟨_, rfl, out (full_final ok hw hp (by omega))⟩
  · rintro xs μ Pk Ex ⟨ps, rs, wk, p, m, rfl, _⟩
    rfl
end
end K55

set_option Elab.async false
set_option linter.all false
set_option maxRecDepth 100000
set_option maxHeartbeats 4000000
namespace K55
open PySem PySem.Spec PyProof.Rows L2 Dl Rp
local macro_rules | `(tactic| and_intros) => `(tactic| repeat (first | refine ⟨_, rfl, ?_⟩ | refine iteT ?_ | refine iteF ?_ | refine ⟨_, _, rfl, rfl, ?_⟩ | refine add_int ?_ | refine len_tup ?_ | refine len_lst ?_ | refine tgt2 ?_ | refine tgt3 ?_ | refine ⟨[_], rfl, len1, ?_⟩ | refine ⟨[_, _], rfl, len2, ?_⟩ | refine ⟨[_, _, _], rfl, len3, ?_⟩))
section
variable {P : Program} {w : World} {K : PySem.W.Frag} {mg : Str → Option Value} {base : Heap}
theorem ok_law {f : Addr} {fd : FuncData} (F : FunV K "law" "law" st_law f fd) (Z : ∀ x, x ∈ blt → mg x = none) (C__law_feed : CalG P w K mg base "_law_feed" 1 R__law_feed) (C__law_right : CalG P w K mg base "_law_right" 9 R__law_right2)  : FnG P w K mg base (L2.CX P w) 10 f fd ["_law_script"] (SpD K R_law) := by
  refine cal_ofG F sc_law ?_ (fun cd A ou s H E W hg hr tk po => ?_)
  rotate_left
  have hN := sc_law.nd
  have hu := hr.units
  have hu65 := hr.units65
  refine ⟨_, (dss_cons (ds_for po rfl (di_range1 (da_cons (d_callB (call_max2 rfl) s_max2 (da_cons d_int (da_cons (d_callB (call_min2 rfl) s_min2 (da_cons (d_callB call_len s_lenU (da_cons (d_var 0) da_nil) (Z "len" (by decide))) (da_cons d_int da_nil)) (Z "min" (by decide))) da_nil)) (Z "max" (by decide))) da_nil) (Z "range" (by decide))) (dg_name (i := 1) hN) (dss_one (ds_if (dt_not (dt_truth (d_calG C__law_right hg (hr.mono (by omega)) (da_cons (d_calG C__law_feed hg (hr.mono (by omega)) (da_cons (d_var 0) (da_cons (d_var 1) da_nil))) da_nil)))) (dss_one (ds_ret d_bl)) dss_nil))) (dss_one (ds_ret d_bl))), ?_⟩
  · rintro xs μ Pk Ex old ⟨ns, rfl, rfl, hns, q⟩
    refine ⟨_, rfl, _, _, rfl, _, _, rfl, _, rfl, by split <;> split <;> omega, by split <;> split <;> omega, ?_⟩
    have cb : ∀ z : Int, (if (if (3 : Int) < ((ns.map PyData.int).length : Int) then (3 : Int) else ((ns.map PyData.int).length : Int)) > 1 then (if (3 : Int) < ((ns.map PyData.int).length : Int) then (3 : Int) else ((ns.map PyData.int).length : Int)) else 1) = z → z.toNat ≤ 14 := fun z hz => by
      subst hz
      split <;> split <;> omega
    generalize hcn : (if (if (3 : Int) < ((ns.map PyData.int).length : Int) then (3 : Int) else ((ns.map PyData.int).length : Int)) > 1 then (if (3 : Int) < ((ns.map PyData.int).length : Int) then (3 : Int) else ((ns.map PyData.int).length : Int)) else 1) = cz
    have cb2 := cb cz hcn
    generalize cz.toNat = cn at cb2
    refine ⟨fun i ρ μ => ∃ (a : Option Dl.A), ρ = [some (.d (.list (ns.map PyData.int))), a], ⟨_, rfl⟩, ?_, ?_⟩
    · rintro i y ρ2 μ2 hy ⟨a, rfl⟩
      obtain ⟨lt, rfl⟩ := rngY_get hy
      refine ⟨trivial, _, rfl, ?_⟩
      refine ⟨_, rfl, _, rfl, fr_d [_, _] ⟨ns, 0 + (i : Int), rfl, rfl, by omega, by omega, fun o1 hk1 => ⟨one_o hk1.dO, ?_⟩⟩⟩
      refine fr_right2 (n := μ2.length) get_end hk1 (by decide) fun o2 hk2 => ⟨true, rfl, iteF ?_⟩
      exact ⟨_, rfl⟩
    · rintro ρ2 μ2 ⟨a, rfl⟩
      refine ⟨trivial, ?_⟩
      exact data0 q
  · rintro xs μ Pk Ex ⟨ns, rfl, _⟩
    rfl
end
end K55

set_option Elab.async false
set_option linter.all false
set_option maxRecDepth 100000
set_option maxHeartbeats 4000000
namespace K55
open PySem PySem.Spec PyProof.Rows L2 Dl Rp
local macro_rules | `(tactic| and_intros) => `(tactic| repeat (first | refine ⟨_, rfl, ?_⟩ | refine iteT ?_ | refine iteF ?_ | refine ⟨_, _, rfl, rfl, ?_⟩ | refine add_int ?_ | refine len_tup ?_ | refine len_lst ?_ | refine tgt2 ?_ | refine tgt3 ?_ | refine ⟨[_], rfl, len1, ?_⟩ | refine ⟨[_, _], rfl, len2, ?_⟩ | refine ⟨[_, _, _], rfl, len3, ?_⟩))
section
variable {P : Program} {w : World} {K : PySem.W.Frag} {mg : Str → Option Value} {base : Heap}
theorem ok__law_big_web {f : Addr} {fd : FuncData} (F : FunV K "_law_big_web" "_law_big_web" st__law_big_web f fd) (Z : ∀ x, x ∈ blt → mg x = none) (C__law_draw : CalG P w K mg base "_law_draw" 1 R__law_draw) (C__law_mixed : CalG P w K mg base "_law_mixed" 2 R__law_mixed) (C__law_one : CalG P w K mg base "_law_one" 2 R__law_one)  : FnG P w K mg base (L2.CX P w) 3 f fd ["_law_feed_here", "_law_way"] (SpD K R__law_webT) := by
  refine cal_ofG F sc__law_big_web ?_ (fun cd A ou s H E W hg hr tk po => ?_)
  rotate_left
  have hN := sc__law_big_web.nd
  have hu := hr.units
  have hu65 := hr.units65
  refine ⟨_, (dss_cons (ds_par (i := 2) (j := 3) rfl hN (da_cons (d_calG C__law_draw hg (hr.mono (by omega)) (da_cons (d_var 0) (da_cons d_int da_nil))) (da_cons (d_lstU da_nil) da_nil))) (dss_cons (ds_setLc (i := 4) (own := [("_law_at", 5)]) rfl hN (di_range1 (da_cons d_int da_nil) (Z "range" (by decide))) (blkOk_by (N := ns__law_big_web) (sc := defScope st__law_big_web) (by decide +kernel)) (fun _ _ _ _ _ => (dg_name (i := 5) hN)) (fun _ _ _ _ _ => dts_nil) (fun _ _ _ _ _ => (dAdd (dAdd d_str (d_callTy call_str_int s_strI (da_cons (d_var 5) da_nil) (Z "str" (by decide)))) (d_calG C__law_one hg (hr.mono (by omega)) (da_cons (d_var 0) (da_cons (d_lstU (da_cons d_str (da_cons d_str (da_cons d_str da_nil)))) da_nil))))) (sw_true rfl rfl rfl rfl)) (dss_cons (ds_for po rfl (di_range2 (da_cons d_int (da_cons d_int da_nil)) (Z "range" (by decide))) (dg_name (i := 5) hN) (dss_one (ds_expr (d_bm PySem.F.plainAttrs_list PySem.F.slot_list_append PySem.F.type_list_append mt_append s_append (d_var 3) (da_cons (d_tup (da_cons (dIx (d_var 4) (d_var 5)) (da_cons (dIx (d_var 4) (d_if (tEq hu (d_var 2) d_int) (d_sub (d_var 5) d_int) (d_if (tEq hu (d_var 2) d_int) d_int (d_calG C__law_draw hg (hr.mono (by omega)) (da_cons (d_var 0) (da_cons (d_var 5) da_nil)))))) da_nil))) da_nil))))) (dss_cons (ds_for po rfl (di_range1 (da_cons (d_if (tNe hu (d_var 1) d_str) (d_calG C__law_draw hg (hr.mono (by omega)) (da_cons (d_var 0) (da_cons d_int da_nil))) d_int) da_nil) (Z "range" (by decide))) (dg_name (i := 6) hN) (dss_cons (ds_set (i := 7) hN (d_calG C__law_draw hg (hr.mono (by omega)) (da_cons (d_var 0) (da_cons d_int da_nil)))) (dss_one (ds_expr (d_bm PySem.F.plainAttrs_list PySem.F.slot_list_append PySem.F.type_list_append mt_append s_append (d_var 3) (da_cons (d_tup (da_cons (dIx (d_var 4) (d_var 7)) (da_cons (dIx (d_var 4) (d_mod (d_callTy call_int1 s_int1 (da_cons (dAdd (dAdd (d_var 7) d_int) (d_calG C__law_draw hg (hr.mono (by omega)) (da_cons (d_var 0) (da_cons d_int da_nil)))) da_nil) (Z "int" (by decide))) d_int)) da_nil))) da_nil)))))) (dss_frz (i := 3) (dss_cons (ds_if (tEq hu (d_var 1) d_str) (dss_one (ds_setLc (i := 3) (own := [("_law_tie", 9)]) rfl hN (di_any (d_var 3)) (blkOk_by (N := ns__law_big_web) (sc := defScope st__law_big_web) (by decide +kernel)) (fun _ _ _ _ _ => (dg_name (i := 9) hN)) (fun _ _ _ _ _ => (dts_one (tGt (d_calG C__law_draw hg (hr.mono (by omega)) (da_cons (d_var 0) (da_cons d_int da_nil))) d_int))) (fun _ _ _ _ _ => (d_var 9)) (sw_true rfl rfl rfl rfl))) dss_nil) (dss_cons (ds_set (i := 8) hN (d_calG C__law_mixed hg (hr.mono (by omega)) (da_cons (d_var 0) (da_cons (d_lc (own := [("_law_at", 5)]) rfl hN (di_range1 (da_cons (d_callB call_len s_lenU (da_cons (d_var 3) da_nil) (Z "len" (by decide))) da_nil) (Z "range" (by decide))) (blkOk_by (N := ns__law_big_web) (sc := defScope st__law_big_web) (by decide +kernel)) (fun _ _ _ _ _ => (dg_name (i := 5) hN)) (fun _ _ _ _ _ => dts_nil) (fun _ _ _ _ _ => (dAdd (dAdd d_str (d_callTy call_str_int s_strI (da_cons (d_var 5) da_nil) (Z "str" (by decide)))) (d_slice d_str do_none (do_some (d_calG C__law_draw hg (hr.mono (by omega)) (da_cons (d_var 0) (da_cons d_int da_nil)))))))) da_nil)))) (dss_one (ds_ret (d_tup (da_cons (d_callTy call_tupleN s_tuple (da_cons (d_calG C__law_mixed hg (hr.mono (by omega)) (da_cons (d_var 0) (da_cons (d_var 4) da_nil))) da_nil) (Z "tuple" (by decide))) (da_cons (d_callTy call_tupleN s_tuple (da_cons (d_lc (own := [("_law_road", 10), ("_law_tie", 9)]) rfl hN (di_zip (da_cons (d_var 8) (da_cons (d_calG C__law_mixed hg (hr.mono (by omega)) (da_cons (d_var 0) (da_cons (d_var 3) da_nil))) da_nil)) (Z "zip" (by decide))) (blkOk_by (N := ns__law_big_web) (sc := defScope st__law_big_web) (by decide +kernel)) (fun _ _ _ _ _ => (dg_tup (n := 2) rfl (dgs_cons (dg_name (i := 10) hN) (dgs_cons (dg_name (i := 9) hN) dgs_nil)))) (fun _ _ _ _ _ => dts_nil) (fun _ _ _ _ _ => (dAdd (d_tup (da_cons (d_var 10) da_nil)) (d_var 9)))) da_nil) (Z "tuple" (by decide))) da_nil)))))))))))), ?_⟩
  · rintro xs μ Pk Ex old ⟨o, k, way, rfl, rfl, hk, k1, q⟩
    have k0 := hk.pos
    refine ⟨_, rfl, fr_draw rfl hk (by omega) ⟨by decide, by decide⟩ fun sh o1 _ _ hk1 => ⟨Nat.zero_le _, .inr ⟨_, _, rfl, ?_⟩⟩⟩
    refine ⟨_, rfl, by decide, by decide, ?_⟩
    refine ⟨fun i acc μ => ∃ (nm : List Str) (o' : O), acc = (nm.map PyData.str).map Dl.A.d ∧ μ = [o', .lst []] ∧ nm.length = i ∧ PlN nm ∧ FD (k + 1 + i) o', ⟨[], o1, rfl, rfl, rfl, (fun i s h => by simp at h), hk1.mono (by omega)⟩, ?_, ?_⟩
    · rintro i y acc μ2 hy ⟨nm, o', rfl, rfl, hl, hn, hk'⟩
      obtain ⟨lt, rfl⟩ := rngY_get hy
      have i10 : i < 10 := lt
      have il := i_len (i := i) (by omega)
      refine ⟨trivial, _, rfl, iteT ?_⟩
      refine ⟨_, rfl, _, rfl, ?_, ?_, ?_⟩
      · exact Nat.lt_trans (int_small (by omega) (by omega)) (by decide)
      · show 5 + (PySem.Str.ofString (toString (0 + (i : Int)))).length ≤ _
        exact Nat.le_trans (show 5 + (PySem.Str.ofString (toString (0 + (i : Int)))).length ≤ 15 by omega) (by decide)
      refine ⟨_, rfl, by show 3 ≤ sizeLine; decide, .inl ⟨plT.map PyData.str, rfl, ?_⟩⟩
      refine fr_one _ rfl (.inl rfl) hk' (by omega) (by decide) fun x o2 hx hk2 => ?_
      obtain ⟨t, ht, rfl⟩ := List.mem_map.mp hx
      have tl : t.length ≤ 2 := by
        have : ∀ t ∈ plT, t.length ≤ 2 := by decide +kernel
        exact this t ht
      refine ⟨?_, ?_, nm ++ [plN nm.length t], o2, ?_, rfl, by rw [List.length_append, hl]; rfl, hn.snoc ht, hk2.mono (by omega)⟩
      · rw [Str.length_append]
        show 5 + (PySem.Str.ofString (toString (0 + (i : Int)))).length + _ ≤ _
        exact Nat.le_trans (show 5 + (PySem.Str.ofString (toString (0 + (i : Int)))).length + t.length ≤ 17 by omega) (by decide)
      · rw [List.length_map, List.length_map]
        exact Nat.lt_of_le_of_lt (show nm.length ≤ 10 by omega) (by decide)
      · rw [List.map_append, List.map_append, hl]
        rfl
    rintro acc μ2 ⟨nm, o2, rfl, rfl, hl, hn, hk2⟩
    rw [rngY_len] at hl hk2
    have hl10 : nm.length = 10 := hl
    have nnd := hn.nd (by omega)
    have nok := hn.ok (by omega)
    have nlD : (nm.map PyData.str).length = 10 := by rw [List.length_map, hl10]
    refine ⟨trivial, .inl ⟨nm.map .str, rfl, ?_⟩⟩
    refine ⟨_, _, rfl, ⟨by decide, by decide, by decide, by decide⟩, ?_⟩
    refine ⟨fun i ρ μ => ∃ (ts : List (Str × Str)) (o' : O) (a b c d e f : Option Dl.A), ρ = [some (.c 0), some (.d (.str way)), some (.d (.int sh)), some (.c 1), some (.d (.list (nm.map .str))), a, b, c, d, e, f] ∧
      μ = [o', .lst ((ts.map endD).map Dl.A.d)] ∧ ts.length ≤ i ∧ TiesOk nm ts ∧ TB (nm.take (i + 1)) ts ∧ FD (k + 12 + i) o', ⟨[], o2, _, _, _, _, _, _, rfl, rfl, Nat.le_refl _, .nil, tb_one (by omega), hk2.mono (by show k + 1 + ((10 : Nat) : Int) ≤ _; omega)⟩, ?_, ?_⟩
    · rintro i y ρ2 μ2 hy ⟨ts, o', a, b, c, d, e, f, rfl, rfl, hl2, ht, hT, hk'⟩
      obtain ⟨lt, rfl⟩ := rngY_get hy
      have i9 : i < 9 := lt
      refine ⟨trivial, _, rfl, ?_⟩
      obtain ⟨x, hx1, hx2⟩ := strs_get (nm := nm) (i := 1 + (i : Int)) (by omega) (by omega)
      refine ⟨_, rfl, .inr (.inl ⟨rfl, .inr ⟨1, _, rfl, rfl⟩⟩), _, rfl, _, rfl, ix_lstI (by omega) hx2 ⟨_, rfl, ?_⟩⟩
      apply viaI (fun b o2 => 0 ≤ b ∧ b < 1 + (i : Int) ∧ FD (k + 12 + i + 1) o2)
      case k =>
        intro cont
        refine ⟨_, rfl, _, rfl, iteE (fun h0 => ?a1) (fun h0 => ⟨_, rfl, _, rfl, iteE (fun h1 => ?a2) (fun h1 => ⟨_, rfl, _, rfl, fr_draw rfl hk' (by omega) ⟨by omega, by omega⟩ fun r o2 r0 r1 hk2 => cont r o2 ⟨r0, r1, hk2⟩⟩)⟩)⟩
        case a1 => exact ⟨_, rfl, _, _, rfl, rfl, cont _ o' ⟨by omega, by omega, hk'.mono (by omega)⟩⟩
        case a2 => exact cont _ o' ⟨by omega, by omega, hk'.mono (by omega)⟩
      case h =>
        rintro b o2 ⟨b0, b1, hk2⟩
        obtain ⟨y, hy1, hy2⟩ := strs_get (nm := nm) b0 (by omega)
        have xy : x ≠ y := nd_get nnd hx1 hy1 (by omega)
        refine ix_lstI b0 hy2 ⟨[_, _], rfl, len2, 1, _, _, rfl, rfl, rfl, ?_, ?_⟩
        · rw [List.length_map, List.length_map]
          exact Nat.lt_of_le_of_lt (show ts.length ≤ 9 by omega) (by decide)
        · refine ⟨ts ++ [(x, y)], o2, _, _, _, _, _, _, rfl, ?_, by rw [List.length_append]; simp; omega, ht.snoc ⟨List.mem_of_getElem? hx1, List.mem_of_getElem? hy1, xy⟩, tb_add nnd hT (show nm[i + 1]? = some x by rw [← hx1]; congr 1; omega) hy1 (by omega), hk2.mono (by omega)⟩
          rw [List.map_append, List.map_append]
          rfl
    · rintro ρ2 μ2 ⟨ts, o', a, b, c, d, e, f, rfl, rfl, hl2, ht, hT0, hk'⟩
      have hT : TB nm ts := by
        rw [rngY_len] at hT0
        rwa [List.take_of_length_le (by rw [hl10]; exact (by decide : 10 ≤ ((10 : Int) - 1).toNat + 1))] at hT0
      have hl9 : ts.length ≤ 9 := by rw [rngY_len] at hl2; exact hl2
      have hk9 : FD (k + 21) o' := by rw [rngY_len] at hk'; exact hk'.mono (by show k + 12 + ((9 : Nat) : Int) ≤ _; omega)
      refine ⟨trivial, ?_⟩
      apply viaI (fun c o2 => 0 ≤ c ∧ c < 6 ∧ (way = "tree" → c = 0) ∧ FD (k + 22) o2)
      case k =>
        intro cont
        refine ⟨_, rfl, _, rfl, iteN (fun hne => ⟨_, rfl, fr_draw rfl hk9 (by omega) ⟨by decide, by decide⟩ fun r o2 r0 r1 hk2 => cont r o2 ⟨r0, r1, (fun w => absurd w hne), hk2.mono (by omega)⟩⟩) (fun he => ?a2)⟩
        case a2 => exact cont _ o' ⟨by omega, by omega, fun _ => rfl, hk9.mono (by omega)⟩
      case h =>
      rintro cn o2 ⟨c0, c6, cT, hk2⟩
      refine ⟨_, rfl, by omega, by omega, ?_⟩
      refine ⟨fun i ρ μ => ∃ (ts : List (Str × Str)) (o' : O) (a b c d e f : Option Dl.A), ρ = [some (.c 0), some (.d (.str way)), some (.d (.int sh)), some (.c 1), some (.d (.list (nm.map .str))), a, b, c, d, e, f] ∧
        μ = [o', .lst ((ts.map endD).map Dl.A.d)] ∧ ts.length ≤ 9 + i ∧ TiesOk nm ts ∧ (way = "tree" → TB nm ts) ∧ FD (k + 22 + 2 * i) o', ⟨ts, o2, _, _, _, _, _, _, rfl, rfl, by omega, ht, fun _ => hT, hk2.mono (by omega)⟩, ?_, ?_⟩
      · rintro i y ρ2 μ2 hy ⟨ts, o', a, b, c, d, e, f, rfl, rfl, hl2, ht, hT2, hk'⟩
        obtain ⟨lt, rfl⟩ := rngY_get hy
        refine ⟨trivial, _, rfl, ?_⟩
        refine ⟨_, rfl, fr_draw rfl hk' (by omega) ⟨by decide, by decide⟩ fun r o3 r0 r1 hk3 => ?_⟩
        obtain ⟨x, hx1, hx2⟩ := strs_get (nm := nm) r0 (by omega)
        refine ⟨_, rfl, .inr (.inl ⟨rfl, .inr ⟨1, _, rfl, rfl⟩⟩), _, rfl, _, rfl, ix_lstI r0 hx2 ⟨_, rfl, _, rfl, _, rfl, ?_⟩⟩
        refine fr_draw rfl hk3 (by omega) ?_ fun d o4 d0 d1 hk4 => ?_
        · constructor <;> omega
        obtain ⟨w0, w1, w2⟩ := other_ix (n := 10) r0 r1 d0 (by omega)
        obtain ⟨y, hy1, hy2⟩ := strs_get (nm := nm) w0 (by omega)
        have xy : x ≠ y := nd_get nnd hx1 hy1 (by omega)
        refine ⟨_, rfl, _, _, rfl, rfl, by show (0 : Int) < 10; decide, ix_lstI w0 hy2 ⟨[_, _], rfl, len2, 1, _, _, rfl, rfl, rfl, ?_, ?_⟩⟩
        · rw [List.length_map, List.length_map]
          exact Nat.lt_of_le_of_lt (show ts.length ≤ 15 by omega) (by decide)
        · refine ⟨ts ++ [(x, y)], o4, _, _, _, _, _, _, rfl, ?_, by rw [List.length_append]; simp; omega, ht.snoc ⟨List.mem_of_getElem? hx1, List.mem_of_getElem? hy1, xy⟩, (fun w => absurd (cT w) (by omega)), hk4.mono (by omega)⟩
          rw [List.map_append, List.map_append]
          rfl
      · rintro ρ2 μ2 ⟨ts, o', a, b, c, d, e, f, rfl, rfl, hl2, ht, hT2, hk'⟩
        rw [rngY_len] at hl2 hk'
        have tl14 : ts.length ≤ 14 := by omega
        have hk'' : FD (k + 34) o' := hk'.mono (by omega)
        refine ⟨trivial, 1, ts.map endD, rfl, rfl, ?_⟩
        apply viaT (fun us o2 => us.length ≤ 14 ∧ TiesOk nm us ∧ (way = "tree" → TB nm us) ∧ FD (k + 50) o2)
        case k =>
          intro cont
          refine ⟨_, rfl, _, rfl, iteE (fun h0 => ?a1) (fun h0 => ?a2)⟩
          case a1 =>
            refine ⟨_, rfl, ?_⟩
            refine ⟨fun i acc μ => ∃ (us : List (Str × Str)) (o' : O), acc = (us.map endD).map Dl.A.d ∧ μ = [o', .dead] ∧ us.length ≤ i ∧ TiesOk nm us ∧ FD (k + 34 + i) o', ⟨[], o', rfl, rfl, Nat.le_refl _, .nil, hk''.mono (by omega)⟩, ?_, ?_⟩
            · rintro i y acc μ2 hy ⟨us, o3, rfl, rfl, hul, hu, hk3⟩
              rw [oneD_ones] at hy
              obtain ⟨v, hv1, rfl⟩ := ones_get hy
              have ilt := (List.getElem?_eq_some_iff.mp hv1).1
              refine ⟨trivial, _, rfl, ?_⟩
              refine ⟨_, rfl, fr_draw rfl hk3 (by omega) ⟨by decide, by decide⟩ fun r o4 _ _ hk4 => ⟨_, _, rfl, rfl, _, rfl, iteD (fun h => ?_) (fun h => ?_)⟩⟩
              · refine ⟨_, rfl, ?_, us ++ [v], o4, ?_, rfl, by rw [List.length_append]; simp; omega, hu.snoc (ht v (List.mem_of_getElem? hv1)), hk4.mono (by omega)⟩
                · rw [List.length_map, List.length_map]
                  exact Nat.lt_of_le_of_lt (show us.length ≤ 14 by omega) (by decide)
                · rw [List.map_append, List.map_append]
                  rfl
              · exact ⟨us, o4, rfl, rfl, by omega, hu, hk4.mono (by omega)⟩
            · rintro acc μ2 ⟨us, o3, rfl, rfl, hul, hu, hk3⟩
              rw [oneD_ones, List.length_map] at hul hk3
              exact ⟨trivial, .inl ⟨us.map endD, rfl, cont us o3 ⟨by omega, hu, (fun w => absurd (h0.symm.trans w) (by decide)), hk3.mono (by omega)⟩⟩⟩
          case a2 => exact cont ts o' ⟨tl14, ht, hT2, hk''.mono (by omega)⟩
        case h =>
        rintro us o3 ⟨ul, hu, hTu, hk3⟩
        have ulD : (us.map endD).length = us.length := List.length_map ..
        refine ⟨_, rfl, _, rfl, len_lst ⟨_, rfl, by omega, by omega, ?_⟩⟩
        rw [ulD, Int.toNat_natCast]
        refine ⟨fun i acc μ => ∃ (rn : List Str) (o' : O), acc = (rn.map PyData.str).map Dl.A.d ∧ μ = [o', .dead] ∧ rn.length = i ∧ RdN rn ∧ FD (k + 50 + i) o', ⟨[], o3, rfl, rfl, rfl, (fun i s h => by simp at h), hk3.mono (by omega)⟩, ?_, ?_⟩
        · rintro i y acc μ2 hy ⟨rn, o', rfl, rfl, hrl, hrn, hk'⟩
          obtain ⟨lt, rfl⟩ := rngY_get hy
          have il := i_len (i := i) (by omega)
          refine ⟨trivial, _, rfl, iteT ?_⟩
          refine ⟨_, rfl, _, rfl, ?_, ?_, ?_⟩
          · exact Nat.lt_trans (int_small (by omega) (by omega)) (by decide)
          · show 4 + (PySem.Str.ofString (toString (0 + (i : Int)))).length ≤ _
            exact Nat.le_trans (show 4 + (PySem.Str.ofString (toString (0 + (i : Int)))).length ≤ 15 by omega) (by decide)
          refine ⟨_, rfl, fr_draw rfl hk' (by omega) ⟨by decide, by decide⟩ fun r o4 r0 r1 hk4 => ?_⟩
          obtain ⟨r, rfl⟩ := Int.eq_ofNat_of_zero_le r0
          have r3 : r < 3 := by omega
          refine ⟨_, rfl, .inl ⟨_, rfl, by show 3 ≤ sizeLine; decide, ?_⟩⟩
          have cl : (cutS "xyz" none (some (r : Int))).length ≤ 3 := by
            have : ∀ r : Nat, r < 3 → (cutS "xyz" none (some (r : Int))).length ≤ 3 := by decide +kernel
            exact this r r3
          refine ⟨?_, ?_, rn ++ [rdN rn.length r], o4, ?_, rfl, by rw [List.length_append, hrl]; rfl, hrn.snoc r3, hk4.mono (by omega)⟩
          · rw [Str.length_append]
            show 4 + (PySem.Str.ofString (toString (0 + (i : Int)))).length + _ ≤ _
            exact Nat.le_trans (show 4 + (PySem.Str.ofString (toString (0 + (i : Int)))).length + (cutS "xyz" none (some (r : Int))).length ≤ 17 by omega) (by decide)
          · rw [List.length_map, List.length_map]
            exact Nat.lt_of_le_of_lt (show rn.length ≤ 14 by omega) (by decide)
          · rw [List.map_append, List.map_append, hrl]
            rfl
        rintro acc μ2 ⟨rn0, o4, rfl, rfl, hrl, hrn, hk4⟩
        rw [rngY_len] at hrl hk4
        have rnd0 := hrn.nd (by omega)
        have rok0 := hrn.ok (by omega)
        refine ⟨trivial, .inl ⟨rn0.map .str, rfl, ?_⟩⟩
        refine fr_mixed PyData.str rn0 rfl (.inl rfl) hk4 (by omega) (by omega) fun rn o5 hrp hk5 => ?_
        have rl : rn.length = us.length := by rw [hrp.length_eq, hrl]
        have rnd : rn.Nodup := hrp.nodup_iff.mpr rnd0
        have rok : ∀ s ∈ rn, NameOk s := fun s hs => rok0 s (hrp.mem_iff.mp hs)
        refine ⟨_, rfl, _, rfl, fr_mixed PyData.str nm rfl (.inl rfl) hk5 (by omega) (by omega) fun ps o6 hp6 hk6 => ⟨_, _, rfl, .inl rfl, ?_⟩⟩
        refine ⟨_, rfl, _, rfl, _, rfl, fr_mixed endD us rfl (.inl rfl) hk6 (by omega) (by omega) fun vs o7 hvs hk7 => .inl ⟨_, _, rfl, ?_⟩⟩
        have vl : vs.length = us.length := hvs.length_eq
        refine lc_pure roadF trivial (Nat.le_trans (zip_len rn vs) (Nat.le_trans (show vs.length ≤ 14 by omega) (by decide))) (fun i y hy Q hQ => ?_) (.inl ⟨_, zip_road rn vs, ?_⟩)
        · obtain ⟨n, e, rfl⟩ := Rp.zip_get hy
          exact ⟨_, rfl, rfl, _, _, rfl, _, rfl, _, _, rfl, _, rfl, rfl, _, rfl, [_], rfl, len1, _, rfl, (show 1 + 2 ≤ sizeLine from by decide), hQ⟩
        refine ⟨_, _, rfl, .inl rfl, [_, _], rfl, len2, ?_⟩
        have fd : FD (k + 200) o7 := hk7.mono (by omega)
        exact feedRet fd (q ps (mkR rn vs) o7 (web_of hp6 (by omega) (by omega) nnd nok (by omega) (by omega) rnd rok (hu.perm hvs)) (fun w => tree_of (hTu w) hvs (Flips.refl vs) (by omega) hp6) fd)
  · rintro xs μ Pk Ex ⟨o, k, way, rfl, _⟩
    rfl
end
end K55

set_option Elab.async false
set_option linter.all false
set_option maxRecDepth 100000
set_option maxHeartbeats 4000000
namespace K55
open PySem PySem.Spec PyProof.Rows L2 Dl Rp
local macro_rules | `(tactic| and_intros) => `(tactic| repeat (first | refine ⟨_, rfl, ?_⟩ | refine iteT ?_ | refine iteF ?_ | refine ⟨_, _, rfl, rfl, ?_⟩ | refine add_int ?_ | refine len_tup ?_ | refine len_lst ?_ | refine tgt2 ?_ | refine tgt3 ?_ | refine ⟨[_], rfl, len1, ?_⟩ | refine ⟨[_, _], rfl, len2, ?_⟩ | refine ⟨[_, _, _], rfl, len3, ?_⟩))
section
variable {P : Program} {w : World} {K : PySem.W.Frag} {mg : Str → Option Value} {base : Heap}
theorem ok__law_web {f : Addr} {fd : FuncData} (F : FunV K "_law_web" "_law_web" st__law_web f fd) (Z : ∀ x, x ∈ blt → mg x = none) (C__law_draw : CalG P w K mg base "_law_draw" 1 R__law_draw) (C__law_mixed : CalG P w K mg base "_law_mixed" 2 R__law_mixed) (C__law_names : CalG P w K mg base "_law_names" 3 R__law_names) (C__law_one : CalG P w K mg base "_law_one" 2 R__law_one)  : FnG P w K mg base (L2.CX P w) 4 f fd ["_law_feed_here", "_law_way"] (SpD K R__law_webT) := by
  refine cal_ofG F sc__law_web ?_ (fun cd A ou s H E W hg hr tk po => ?_)
  rotate_left
  have hN := sc__law_web.nd
  have hu := hr.units
  have hu65 := hr.units65
  refine ⟨_, (dss_cons (ds_par (i := 2) (j := 3) rfl hN (da_cons (d_calG C__law_one hg (hr.mono (by omega)) (da_cons (d_var 0) (da_cons (d_lstU (da_cons d_int (da_cons d_int (da_cons d_int (da_cons d_int (da_cons d_int (da_cons d_int (da_cons d_int (da_cons d_int (da_cons d_int (da_cons d_int (da_cons d_int (da_cons d_int da_nil))))))))))))) da_nil))) (da_cons (d_calG C__law_draw hg (hr.mono (by omega)) (da_cons (d_var 0) (da_cons d_int da_nil))) da_nil))) (dss_cons (ds_par (i := 4) (j := 5) rfl hN (da_cons (d_calG C__law_names hg (hr.mono (by omega)) (da_cons (d_var 0) (da_cons (d_var 2) da_nil))) (da_cons (d_lstU da_nil) da_nil))) (dss_cons (ds_for po rfl (di_range2 (da_cons d_int (da_cons (d_var 2) da_nil)) (Z "range" (by decide))) (dg_name (i := 6) hN) (dss_cons (ds_set (i := 7) hN (d_if (tEq hu (d_var 3) d_int) (d_sub (d_var 6) d_int) (d_if (tEq hu (d_var 3) d_int) d_int (d_calG C__law_draw hg (hr.mono (by omega)) (da_cons (d_var 0) (da_cons (d_var 6) da_nil)))))) (dss_one (ds_if (dt_w (dw_or (tNe hu (d_var 1) d_str) (dw_or1 (tGt (d_calG C__law_draw hg (hr.mono (by omega)) (da_cons (d_var 0) (da_cons d_int da_nil))) d_int)))) (dss_one (ds_expr (d_bm PySem.F.plainAttrs_list PySem.F.slot_list_append PySem.F.type_list_append mt_append s_append (d_var 5) (da_cons (d_tup (da_cons (dIx (d_var 4) (d_var 6)) (da_cons (dIx (d_var 4) (d_var 7)) da_nil))) da_nil)))) dss_nil)))) (dss_cons (ds_for po rfl (di_range1 (da_cons (d_if (dt_w (dw_and (tNe hu (d_var 1) d_str) (dw_and1 (tGt (d_var 2) d_int)))) (d_calG C__law_draw hg (hr.mono (by omega)) (da_cons (d_var 0) (da_cons d_int da_nil))) d_int) da_nil) (Z "range" (by decide))) (dg_name (i := 8) hN) (dss_cons (ds_set (i := 9) hN (d_calG C__law_draw hg (hr.mono (by omega)) (da_cons (d_var 0) (da_cons (d_var 2) da_nil)))) (dss_one (ds_expr (d_bm PySem.F.plainAttrs_list PySem.F.slot_list_append PySem.F.type_list_append mt_append s_append (d_var 5) (da_cons (d_tup (da_cons (dIx (d_var 4) (d_var 9)) (da_cons (dIx (d_var 4) (d_mod (d_callTy call_int1 s_int1 (da_cons (dAdd (dAdd (d_var 9) d_int) (d_calG C__law_draw hg (hr.mono (by omega)) (da_cons (d_var 0) (da_cons (d_sub (d_var 2) d_int) da_nil)))) da_nil) (Z "int" (by decide))) (d_var 2))) da_nil))) da_nil)))))) (dss_frz (i := 5) (dss_cons (ds_setLc (i := 5) (own := [("_law_tie", 11)]) rfl hN (di_any (d_calG C__law_mixed hg (hr.mono (by omega)) (da_cons (d_var 0) (da_cons (d_var 5) da_nil)))) (blkOk_by (N := ns__law_web) (sc := defScope st__law_web) (by decide +kernel)) (fun _ _ _ _ _ => (dg_name (i := 11) hN)) (fun _ _ _ _ _ => dts_nil) (fun _ _ _ _ _ => (d_if (tEq hu (d_calG C__law_draw hg (hr.mono (by omega)) (da_cons (d_var 0) (da_cons d_int da_nil))) d_int) (d_tup (da_cons (dIx (d_var 11) d_int) (da_cons (dIx (d_var 11) d_int) da_nil))) (d_var 11))) (sw_true rfl rfl rfl rfl)) (dss_cons (ds_set (i := 10) hN (d_calG C__law_names hg (hr.mono (by omega)) (da_cons (d_var 0) (da_cons (d_callB call_len s_lenU (da_cons (d_var 5) da_nil) (Z "len" (by decide))) da_nil)))) (dss_one (ds_ret (d_tup (da_cons (d_callTy call_tupleN s_tuple (da_cons (d_calG C__law_mixed hg (hr.mono (by omega)) (da_cons (d_var 0) (da_cons (d_var 4) da_nil))) da_nil) (Z "tuple" (by decide))) (da_cons (d_callTy call_tupleN s_tuple (da_cons (d_lc (own := [("_law_road", 12), ("_law_tie", 11)]) rfl hN (di_zip (da_cons (d_var 10) (da_cons (d_var 5) da_nil)) (Z "zip" (by decide))) (blkOk_by (N := ns__law_web) (sc := defScope st__law_web) (by decide +kernel)) (fun _ _ _ _ _ => (dg_tup (n := 2) rfl (dgs_cons (dg_name (i := 12) hN) (dgs_cons (dg_name (i := 11) hN) dgs_nil)))) (fun _ _ _ _ _ => dts_nil) (fun _ _ _ _ _ => (dAdd (d_tup (da_cons (d_var 12) da_nil)) (d_var 11)))) da_nil) (Z "tuple" (by decide))) da_nil)))))))))))), ?_⟩
  · rintro xs μ Pk Ex old ⟨o, k, way, rfl, rfl, hk, k1, q⟩
    have k0 := hk.pos
    refine ⟨_, rfl, by show 12 ≤ sizeLine; decide, .inl ⟨([1, 2, 3, 3, 4, 4, 5, 5, 6, 6, 7, 8] : List Int).map PyData.int, rfl, ?_⟩⟩
    refine fr_one _ rfl (.inl rfl) hk (by omega) (by decide) fun x o1 hx hk1 => ?_
    obtain ⟨n, hn, rfl⟩ := List.mem_map.mp hx
    have nb : ∀ n ∈ ([1, 2, 3, 3, 4, 4, 5, 5, 6, 6, 7, 8] : List Int), 1 ≤ n ∧ n ≤ 8 := by decide
    obtain ⟨n1, n8⟩ := nb n hn
    obtain ⟨mn, rfl⟩ := Int.eq_ofNat_of_zero_le (show 0 ≤ n by omega)
    refine ⟨_, rfl, fr_draw rfl hk1 (by omega) ⟨by decide, by decide⟩ fun sh o2 _ _ hk2 => ⟨_, _, rfl, ?_⟩⟩
    refine ⟨_, rfl, _, rfl, fr_names rfl hk2 (by omega) fun ss o3 hp hk3 => ⟨Nat.zero_le _, .inr ⟨_, _, rfl, ?_⟩⟩⟩
    have nl : (ss.take mn).length = mn := take_len hp (by omega)
    have nnd := take_nd hp mn
    have nok := take_ok hp mn
    generalize ss.take mn = nm at nl nnd nok
    have nlD : (nm.map PyData.str).length = mn := by rw [List.length_map, nl]
    refine ⟨_, rfl, _, _, rfl, ⟨by omega, by omega, by omega, by omega⟩, ?_⟩
    refine ⟨fun i ρ μ => ∃ (ts : List (Str × Str)) (o' : O) (a b c d e f g : Option Dl.A), ρ = [some (.c 0), some (.d (.str way)), some (.d (.int (mn : Int))), some (.d (.int sh)), some (.d (.list (nm.map .str))), some (.c 1), a, b, c, d, e, f, g] ∧
      μ = [o', .lst ((ts.map endD).map Dl.A.d)] ∧ ts.length ≤ i ∧ TiesOk nm ts ∧ (way = "tree" → TB (nm.take (i + 1)) ts) ∧ FD (k + 20 + 2 * i) o', ⟨[], o3, _, _, _, _, _, _, _, rfl, rfl, Nat.le_refl _, .nil, fun _ => tb_one (by omega), hk3.mono (by omega)⟩, ?_, ?_⟩
    · rintro i y ρ2 μ2 hy ⟨ts, o', a, b, c, d, e, f, g, rfl, rfl, hl, ht, hT, hk'⟩
      obtain ⟨lt, rfl⟩ := rngY_get hy
      refine ⟨trivial, _, rfl, ?_⟩
      obtain ⟨x, hx1, hx2⟩ := strs_get (nm := nm) (i := 1 + (i : Int)) (by omega) (by omega)
      apply viaI (fun b o2 => 0 ≤ b ∧ b < 1 + (i : Int) ∧ FD (k + 20 + 2 * i + 1) o2)
      case k =>
        intro cont
        refine ⟨_, rfl, _, rfl, iteE (fun h0 => ?a1) (fun h0 => ⟨_, rfl, _, rfl, iteE (fun h1 => ?a2) (fun h1 => ⟨_, rfl, _, rfl, fr_draw rfl hk' (by omega) ⟨by omega, by omega⟩ fun r o2 r0 r1 hk2 => cont r o2 ⟨r0, r1, hk2⟩⟩)⟩)⟩
        case a1 => exact ⟨_, rfl, _, _, rfl, rfl, cont _ o' ⟨by omega, by omega, hk'.mono (by omega)⟩⟩
        case a2 => exact cont _ o' ⟨by omega, by omega, hk'.mono (by omega)⟩
      case h =>
        rintro b o2 ⟨b0, b1, hk2⟩
        obtain ⟨y, hy1, hy2⟩ := strs_get (nm := nm) b0 (by omega)
        have xy : x ≠ y := nd_get nnd hx1 hy1 (by omega)
        apply viaO (fun o3 => FD (k + 20 + 2 * i + 2) o3)
        case k =>
          intro cont
          refine ⟨_, rfl, _, rfl, iteN (fun hne => iteT (cont o2 (hk2.mono (by omega)))) (fun he => ⟨_, rfl, fr_draw rfl hk2 (by omega) ⟨by decide, by decide⟩ fun r o3 _ _ hk3 => ⟨_, _, rfl, rfl, _, rfl, iteD (fun h => cont o3 (hk3.mono (by omega))) (fun h => ?b1)⟩⟩)⟩
          case b1 => exact ⟨ts, o3, _, _, _, _, _, _, _, rfl, rfl, by omega, ht, (fun w => absurd (he.symm.trans w) (by decide)), hk3.mono (by omega)⟩
        case h =>
          intro o3 hk3
          refine ⟨_, rfl, .inr (.inl ⟨rfl, .inr ⟨1, _, rfl, rfl⟩⟩), _, rfl, _, rfl, ix_lstI (by omega) hx2 ⟨_, rfl, _, rfl, ix_lstI b0 hy2 ⟨[_, _], rfl, len2, 1, _, _, rfl, rfl, rfl, ?_, ?_⟩⟩⟩
          · rw [List.length_map, List.length_map]
            exact Nat.lt_of_le_of_lt (show ts.length ≤ 8 by omega) (by decide)
          · refine ⟨ts ++ [(x, y)], o3, _, _, _, _, _, _, _, rfl, ?_, by rw [List.length_append]; simp; omega, ht.snoc ⟨List.mem_of_getElem? hx1, List.mem_of_getElem? hy1, xy⟩, (fun w => tb_add nnd (hT w) (show nm[i + 1]? = some x by rw [← hx1]; congr 1; omega) hy1 (by omega)), hk3.mono (by omega)⟩
            rw [List.map_append, List.map_append]
            rfl
    · rintro ρ2 μ2 ⟨ts, o', a, b, c, d, e, f, g, rfl, rfl, hl, ht, hT0, hk'⟩
      rw [rngY_len] at hl hk' hT0
      have hT : way = "tree" → TB nm ts := fun w => by
        have := hT0 w
        rwa [List.take_of_length_le (by omega)] at this
      refine ⟨trivial, ?_⟩
      apply viaI (fun c o2 => 0 ≤ c ∧ c < 4 ∧ (0 < c → 2 ≤ mn) ∧ (way = "tree" → c = 0) ∧ FD (k + 40) o2)
      case k =>
        intro cont
        refine ⟨_, rfl, _, rfl, iteN (fun hne => ⟨_, rfl, _, _, rfl, rfl, _, rfl, iteD (fun h2 => ⟨_, rfl, fr_draw rfl hk' (by omega) ⟨by decide, by decide⟩ fun r o2 r0 r1 hk2 => cont r o2 ⟨r0, r1, fun _ => by omega, fun w => absurd w hne, hk2.mono (by omega)⟩⟩) (fun h2 => ?a1)⟩) (fun he => iteF ?a2)⟩
        case a1 => exact cont _ o' ⟨by omega, by omega, fun z => absurd z (by omega), fun _ => rfl, hk'.mono (by omega)⟩
        case a2 => exact cont _ o' ⟨by omega, by omega, fun z => absurd z (by omega), fun _ => rfl, hk'.mono (by omega)⟩
      case h =>
      rintro cn o2 ⟨c0, c4, cm, cT, hk2⟩
      refine ⟨_, rfl, by omega, by omega, ?_⟩
      refine ⟨fun i ρ μ => ∃ (ts : List (Str × Str)) (o' : O) (a b c d e f g : Option Dl.A), ρ = [some (.c 0), some (.d (.str way)), some (.d (.int (mn : Int))), some (.d (.int sh)), some (.d (.list (nm.map .str))), some (.c 1), a, b, c, d, e, f, g] ∧
        μ = [o', .lst ((ts.map endD).map Dl.A.d)] ∧ ts.length ≤ 7 + i ∧ TiesOk nm ts ∧ (way = "tree" → TB nm ts) ∧ FD (k + 40 + 2 * i) o', ⟨ts, o2, _, _, _, _, _, _, _, rfl, rfl, by omega, ht, hT, hk2.mono (by omega)⟩, ?_, ?_⟩
      · rintro i y ρ2 μ2 hy ⟨ts, o', a, b, c, d, e, f, g, rfl, rfl, hl, ht, hT2, hk'⟩
        obtain ⟨lt, rfl⟩ := rngY_get hy
        have m2 : 2 ≤ mn := cm (by omega)
        refine ⟨trivial, _, rfl, ?_⟩
        refine ⟨_, rfl, _, rfl, fr_draw rfl hk' (by omega) ⟨by omega, by omega⟩ fun r o3 r0 r1 hk3 => ?_⟩
        obtain ⟨x, hx1, hx2⟩ := strs_get (nm := nm) r0 (by omega)
        refine ⟨_, rfl, .inr (.inl ⟨rfl, .inr ⟨1, _, rfl, rfl⟩⟩), _, rfl, _, rfl, ix_lstI r0 hx2 ⟨_, rfl, _, rfl, _, rfl, _, rfl, _, _, rfl, rfl, ?_⟩⟩
        refine fr_draw rfl hk3 (by omega) ?_ fun d o4 d0 d1 hk4 => ?_
        · constructor <;> omega
        obtain ⟨w0, w1, w2⟩ := other_ix r0 (show r < (mn : Int) from r1) d0 d1
        obtain ⟨y, hy1, hy2⟩ := strs_get (nm := nm) w0 (by omega)
        have xy : x ≠ y := nd_get nnd hx1 hy1 (by omega)
        refine ⟨_, rfl, _, rfl, _, _, rfl, rfl, by omega, ix_lstI w0 hy2 ⟨[_, _], rfl, len2, 1, _, _, rfl, rfl, rfl, ?_, ?_⟩⟩
        · rw [List.length_map, List.length_map]
          exact Nat.lt_of_le_of_lt (show ts.length ≤ 12 by omega) (by decide)
        · refine ⟨ts ++ [(x, y)], o4, _, _, _, _, _, _, _, rfl, ?_, by rw [List.length_append]; simp; omega, ht.snoc ⟨List.mem_of_getElem? hx1, List.mem_of_getElem? hy1, xy⟩, (fun w => absurd (cT w) (by omega)), hk4.mono (by omega)⟩
          rw [List.map_append, List.map_append]
          rfl
      · rintro ρ2 μ2 ⟨ts, o', a, b, c, d, e, f, g, rfl, rfl, hl, ht, hT2, hk'⟩
        rw [rngY_len] at hl hk'
        refine ⟨trivial, 1, ts.map endD, rfl, rfl, ?_⟩
        refine ⟨_, rfl, _, rfl, fr_mixed endD ts rfl (.inl rfl) hk' (by omega) (by omega) fun vs o3 hvs hk3 => ?_⟩
        have vl : vs.length ≤ 10 := by rw [hvs.length_eq]; omega
        have tl : ts.length ≤ 10 := by omega
        have hv := ht.perm hvs
        refine ⟨fun i acc μ => ∃ (us : List (Str × Str)) (o' : O), acc = (us.map endD).map Dl.A.d ∧ μ = [o', .dead] ∧ us.length = i ∧ TiesOk nm us ∧ Flips us (vs.take i) ∧ FD (k + 60 + i) o', ⟨[], o3, rfl, rfl, rfl, .nil, .nil, hk3.mono (by omega)⟩, ?_, ?_⟩
        · rintro i y acc μ2 hy ⟨us, o', rfl, rfl, hul, hu', hF, hk'⟩
          rw [oneD_ones] at hy
          obtain ⟨v, hv1, rfl⟩ := ones_get hy
          have ilt := (List.getElem?_eq_some_iff.mp hv1).1
          have hF1 := hF.snoc v
          rw [← take_get hv1] at hF1
          obtain ⟨v1, v2, v3⟩ := hv v (List.mem_of_getElem? hv1)
          have sl : ((us.map endD).map Dl.A.d).length < sizeLine := by
            rw [List.length_map, List.length_map]
            exact Nat.lt_of_le_of_lt (show us.length ≤ 10 by omega) (by decide)
          refine ⟨trivial, _, rfl, iteT ?_⟩
          refine ⟨_, rfl, fr_draw rfl hk' (by omega) ⟨by decide, by decide⟩ fun r o4 _ _ hk4 => ⟨_, rfl, iteE (fun h => ?a1) (fun h => ?a2)⟩⟩
          case a1 =>
            refine ⟨_, rfl, ix_tup (j := 1) rfl ⟨_, rfl, ix_tup (j := 0) rfl ⟨[_, _], rfl, len2, sl, us ++ [(v.2, v.1)], o4, ?_, rfl, by rw [List.length_append, hul]; rfl, hu'.snoc ⟨v2, v1, v3.symm⟩, hF1.2, hk4.mono (by omega)⟩⟩⟩
            rw [List.map_append, List.map_append]
            rfl
          case a2 =>
            refine ⟨_, rfl, sl, us ++ [(v.1, v.2)], o4, ?_, rfl, by rw [List.length_append, hul]; rfl, hu'.snoc ⟨v1, v2, v3⟩, hF1.1, hk4.mono (by omega)⟩
            rw [List.map_append, List.map_append]
            rfl
        rintro acc μ2 ⟨us, o', rfl, rfl, hul, hu', hF, hk'⟩
        rw [oneD_ones, List.length_map] at hul hk' hF
        rw [List.take_length] at hF
        refine ⟨trivial, .inl ⟨us.map endD, rfl, ?_⟩⟩
        refine ⟨_, rfl, _, rfl, len_lst ?_⟩
        refine fr_names rfl hk' (by omega) fun s2 o4 hp2 hk4 => ?_
        rw [List.length_map]
        have rl : (s2.take us.length).length = us.length := take_len hp2 (by omega)
        have rnd := take_nd hp2 us.length
        have rok := take_ok hp2 us.length
        generalize s2.take us.length = rn at rl rnd rok
        refine ⟨_, rfl, _, rfl, fr_mixed PyData.str nm rfl (.inl rfl) hk4 (by omega) (by omega) fun ps o5 hp5 hk5 => ⟨_, _, rfl, .inl rfl, ?_⟩⟩
        refine ⟨_, rfl, _, rfl, .inl ⟨_, _, rfl, ?_⟩⟩
        refine lc_pure roadF trivial (Nat.le_trans (zip_len rn us) (Nat.le_trans (show us.length ≤ 10 by omega) (by decide))) (fun i y hy Q hQ => ?_) (.inl ⟨_, zip_road rn us, ?_⟩)
        · obtain ⟨n, e, rfl⟩ := Rp.zip_get hy
          exact ⟨_, rfl, rfl, _, _, rfl, _, rfl, _, _, rfl, _, rfl, rfl, _, rfl, [_], rfl, len1, _, rfl, (show 1 + 2 ≤ sizeLine from by decide), hQ⟩
        refine ⟨_, _, rfl, .inl rfl, [_, _], rfl, len2, ?_⟩
        have fd : FD (k + 200) o5 := hk5.mono (by omega)
        exact feedRet fd (q ps (mkR rn us) o5 (web_of hp5 (by omega) (by omega) nnd nok rl (by omega) rnd rok hu') (fun w => tree_of (hT2 w) hvs hF rl hp5) fd)
  · rintro xs μ Pk Ex ⟨o, k, way, rfl, _⟩
    rfl
end
end K55

set_option Elab.async false
set_option linter.all false
set_option maxRecDepth 100000
set_option maxHeartbeats 4000000
namespace K55
open PySem PySem.Spec PyProof.Rows L2 Dl Rp
local macro_rules | `(tactic| and_intros) => `(tactic| repeat (first | refine ⟨_, rfl, ?_⟩ | refine iteT ?_ | refine iteF ?_ | refine ⟨_, _, rfl, rfl, ?_⟩ | refine add_int ?_ | refine len_tup ?_ | refine len_lst ?_ | refine tgt2 ?_ | refine tgt3 ?_ | refine ⟨[_], rfl, len1, ?_⟩ | refine ⟨[_, _], rfl, len2, ?_⟩ | refine ⟨[_, _, _], rfl, len3, ?_⟩))
section
variable {P : Program} {w : World} {K : PySem.W.Frag} {mg : Str → Option Value} {base : Heap}
theorem ok__law_arrivals {f : Addr} {fd : FuncData} (F : FunV K "_law_arrivals" "_law_arrivals" st__law_arrivals f fd) (Z : ∀ x, x ∈ blt → mg x = none) (C__law_round : CalG P w K mg base "_law_round" 1 R__law_round)  : FnG P w K mg base (L2.CX P w) 2 f fd ["_law_web_here", "_law_week_here", "_law_place", "_law_moment_here"] (SpD K R__law_arrivals) := by
  refine cal_ofG F sc__law_arrivals ?_ (fun cd A ou s H E W hg hr tk po => ?_)
  rotate_left
  have hN := sc__law_arrivals.nd
  have hu := hr.units
  have hu65 := hr.units65
  refine ⟨_, (dss_cons (ds_set (i := 4) hN (d_callTy (call_dictP rfl) s_dictP (da_cons (d_lc (own := [("_law_road", 10)]) rfl hN (di_any (dIx (d_var 0) d_int)) (blkOk_by (N := ns__law_arrivals) (sc := defScope st__law_arrivals) (by decide +kernel)) (fun _ _ _ _ _ => (dg_name (i := 10) hN)) (fun _ _ _ _ _ => dts_nil) (fun _ _ _ _ _ => (d_tup (da_cons (dIx (d_var 10) d_int) (da_cons (d_slice (d_var 10) (do_some d_int) do_none) da_nil))))) da_nil) (Z "dict" (by decide)))) (dss_cons (ds_par3 (i := 5) (j := 6) (l := 7) rfl hN (da_cons (d_disp1 (d_var 2) (d_var 3)) (da_cons (dIx (d_var 3) d_int) (da_cons d_int da_nil)))) (dss_cons (ds_while po (tLe (d_var 7) (d_callB call_len s_lenU (da_cons (d_var 1) da_nil) (Z "len" (by decide)))) (dss_cons (ds_set (i := 8) hN d_int) (dss_cons (ds_for po rfl (di_enT (da_cons (d_calG C__law_round hg (hr.mono (by omega)) (da_cons (d_var 1) (da_cons (d_var 6) da_nil))) da_nil) (Z "enumerate" (by decide))) (dg_tup (n := 2) rfl (dgs_cons (dg_name (i := 9) hN) (dgs_cons (dg_name (i := 10) hN) dgs_nil))) (dss_cons (ds_asg (d_dget hu (d_var 4) (d_var 10)) (dg_tup (n := 2) rfl (dgs_cons (dg_name (i := 11) hN) (dgs_cons (dg_name (i := 12) hN) dgs_nil)))) (dss_one (ds_for po rfl (di_any (d_lstU (da_cons (d_tup (da_cons (d_var 11) (da_cons (d_var 12) da_nil))) (da_cons (d_tup (da_cons (d_var 12) (da_cons (d_var 11) da_nil))) da_nil)))) (dg_tup (n := 2) rfl (dgs_cons (dg_name (i := 13) hN) (dgs_cons (dg_name (i := 14) hN) dgs_nil))) (dss_one (ds_if (dt_w (dw_and (t_dnotin hu (d_var 14) (d_var 5)) (dw_and (t_din hu (d_var 13) (d_var 5)) (dw_and1 (tLeT hu (d_dget hu (d_var 5) (d_var 13)) (d_tup (da_cons (d_var 6) (da_cons (d_var 9) da_nil)))))))) (dss_cons (ds_dput hu (d_var 5) (d_var 14) (d_tup (da_cons (d_var 6) (da_cons (dAdd (d_var 9) d_int) da_nil)))) (dss_one (ds_set (i := 8) hN (dAdd (d_var 8) d_int)))) dss_nil)))))) (dss_cons (ds_set (i := 7) hN (d_if (tEq hu (d_var 8) d_int) (dAdd (d_var 7) d_int) d_int)) (dss_one (ds_set (i := 6) hN (dAdd (d_var 6) d_int))))))) (dss_one (ds_ret (d_var 5)))))), ?_⟩
  · rintro xs μ Pk Ex old ⟨ps, rs, wk, p, m, rfl, rfl, ok, hw, hp, hm, q⟩
    obtain ⟨N, hN, st1, _⟩ := final_ex (m := m) ok hw hp
    have m10 := ok.p.most
    have r14 := ok.r.most
    have w4 := hw.most
    refine ⟨_, rfl, ix_tup (j := 1) rfl ?_⟩
    refine lc_map rs rdD (fun r => pairD (.inr r.1, endD r.2)) (oneD_ones _ _) trivial (Nat.le_trans r14 (by decide)) (fun x hx Q hQ => ?_) ?_
    · refine ⟨_, rfl, ?_⟩
      refine ⟨_, rfl, ix_tup (j := 0) rfl ⟨_, rfl, _, rfl, .inr (.inl ⟨_, rfl, [_, _], rfl, len2, hQ⟩)⟩⟩
    refine ⟨_, rs.map fun r => (.inr r.1, endD r.2), rfl, by show List.map _ _ = List.map _ _; rw [List.map_map, List.map_map, List.map_map]; rfl, ?_⟩
    rw [merge_ends ok.r.nd]
    refine ⟨_, rfl, _, rfl, .inr p, rfl, ?_⟩
    refine ⟨_, rfl, ix_tup (j := 0) rfl ⟨_, _, _, rfl, ?_⟩⟩
    refine ⟨fun k ρ μ => ∃ (n s : Nat) (dy : Int) (a b c d e f g : Option Dl.A), ρ = [some (.d (webD ps rs)), some (.d (weekD wk)), some (.d (.str p)), some (.d (momD m)), some (.c 0), some (.c 1), some (.d (.int dy)), some (.d (.int (s : Int))), a, b, c, d, e, f, g] ∧
      μ = [.dct (endsA rs), .dct (stA (S rs wk p m n))] ∧ dy = m.1 + (n : Int) ∧ s ≤ n ∧ S rs wk p m (n - s) = S rs wk p m n ∧ n ≤ s + N ∧ s ≤ wk.length + 1 ∧ k = N + wk.length + 2 - n,
      ⟨_, 0, 0, m.1, _, _, _, _, _, _, _, rfl, rfl, by omega, Nat.le_refl _, rfl, Nat.zero_le _, Nat.zero_le _, rfl⟩, ?_⟩
    rintro k ρ2 μ2 ⟨n, s, dy, a, b, c, d, e, f, g, rfl, rfl, hdy, hsn, hS, hnN, hsL, rfl⟩
    have wl : (wk.map roundD).length = wk.length := List.length_map ..
    refine ⟨_, rfl, _, rfl, _, _, rfl, rfl, _, rfl, iteD (fun hle => ?_) (fun hgt => ?_)⟩
    · rw [wl] at hle
      refine ⟨_, rfl, _, rfl, fr_d [_, _] ⟨wk, dy, rfl, rfl, ⟨hw.one, hw.most⟩, noO, ?_⟩⟩
      rw [List.append_nil, hdy]
      refine ⟨_, rfl, ?_⟩
      refine ⟨fun i ρ μ => ∃ (nw : Int) (b c d e f g : Option Dl.A), ρ = [some (.d (webD ps rs)), some (.d (weekD wk)), some (.d (.str p)), some (.d (momD m)), some (.c 0), some (.c 1), some (.d (.int (m.1 + n))), some (.d (.int (s : Int))), some (.d (.int nw)), b, c, d, e, f, g] ∧
        μ = [.dct (endsA rs), .dct (stA (lawT rs wk p m n i))] ∧ nw = ((lawT rs wk p m n i).length : Int) - (S rs wk p m n).length, ⟨_, _, _, _, _, _, _, rfl, by rw [lawT_zero], by rw [lawT_zero]; omega⟩, ?_, ?_⟩
      · rintro i y ρ3 μ3 hy ⟨nw, b, c, d, e, f, g, rfl, rfl, hnw⟩
        obtain ⟨z, hz, rfl⟩ := enumY_get hy
        rw [List.getElem?_map, List.getElem?_map] at hz
        cases hx : (roundAt wk (m.1 + n))[i]? with
        | none => rw [hx] at hz; cases hz
        | some x =>
        rw [hx] at hz
        obtain rfl := Option.some.inj hz
        have xr : x ∈ rnm rs := round_sub hw _ x (List.mem_of_getElem? hx)
        refine ⟨trivial, _, rfl, rfl, _, _, rfl, _, rfl, _, _, rfl, _, rfl, rfl, ?_⟩
        refine ⟨_, rfl, _, rfl, 0, _, .inr x, _, rfl, rfl, rfl, valA_endF rs x xr, tgt2 ?_⟩
        refine ⟨_, rfl, _, rfl, [_, _], rfl, len2, _, rfl, _, rfl, [_, _], rfl, len2, len2, .inl ⟨[endsOf rs x, ((endsOf rs x).2, (endsOf rs x).1)].map endD, rfl, ?_⟩⟩
        refine ⟨fun j ρ μ => ∃ (nw : Int) (f g : Option Dl.A), ρ = [some (.d (webD ps rs)), some (.d (weekD wk)), some (.d (.str p)), some (.d (momD m)), some (.c 0), some (.c 1), some (.d (.int (m.1 + n))), some (.d (.int (s : Int))), some (.d (.int nw)), some (.d (.int (i : Int))), some (.d (.str x)), some (.d (.str (endsOf rs x).1)), some (.d (.str (endsOf rs x).2)), f, g] ∧
          μ = [.dct (endsA rs), .dct (stA (dirs (m.1 + n) i (lawT rs wk p m n i) ([endsOf rs x, ((endsOf rs x).2, (endsOf rs x).1)].take j)))] ∧ nw = ((dirs (m.1 + n) i (lawT rs wk p m n i) ([endsOf rs x, ((endsOf rs x).2, (endsOf rs x).1)].take j)).length : Int) - (S rs wk p m n).length, ⟨_, _, _, rfl, rfl, hnw⟩, ?_, ?_⟩
        · rintro j y ρ4 μ4 hy ⟨nw, f, g, rfl, rfl, hnw⟩
          rw [oneD_ones] at hy
          obtain ⟨u, hu, rfl⟩ := ones_get hy
          have tk := take_get hu
          have ds := dirs_snoc (m.1 + n) i (lawT rs wk p m n i) ([endsOf rs x, ((endsOf rs x).2, (endsOf rs x).1)].take j) u
          rw [← tk] at ds
          have slen : (dirs (m.1 + n) i (lawT rs wk p m n i) ([endsOf rs x, ((endsOf rs x).2, (endsOf rs x).1)].take j)).length ≤ 12 := by
            have h1 := (lawT_inv (p := p) (m := m) ok.r.nd hw n i).len ok.r hp
            have h2 := dirs_len (m.1 + n) i ([endsOf rs x, ((endsOf rs x).2, (endsOf rs x).1)].take j) (lawT rs wk p m n i)
            have h3 : ([endsOf rs x, ((endsOf rs x).2, (endsOf rs x).1)].take j).length ≤ 2 := by rw [List.length_take]; exact Nat.min_le_right ..
            omega
          generalize dirs (m.1 + n) i (lawT rs wk p m n i) ([endsOf rs x, ((endsOf rs x).2, (endsOf rs x).1)].take j) = st at ds hnw slen
          refine ⟨trivial, tgt2 ?_⟩
          refine ⟨_, rfl, _, rfl, 1, _, .inr u.2, rfl, rfl, rfl, _, rfl, ?_⟩
          rw [valA_in]
          by_cases ht : u.2 ∈ ks st
          · refine tP ht (iteF ⟨nw, _, _, rfl, ?_, ?_⟩)
            · rw [ds, dir_t ht]
            · rw [ds, dir_t ht]; exact hnw
          refine tQ ht ⟨_, rfl, _, rfl, 1, _, .inr u.1, rfl, rfl, rfl, _, rfl, ?_⟩
          rw [valA_in]
          by_cases hh : u.1 ∈ ks st
          rotate_left
          · refine fQ hh (iteF ⟨nw, _, _, rfl, ?_, ?_⟩)
            · rw [ds, dir_h ht hh]
            · rw [ds, dir_h ht hh]; exact hnw
          refine fP hh ⟨_, rfl, _, rfl, 1, _, .inr u.1, _, rfl, rfl, rfl, (valS_at st u.1 hh).1, _, rfl, _, rfl, [_, _], rfl, len2, _, _, _, _, rfl, rfl, _, rfl, iteD (fun hc => ?_) (fun hc => ?_)⟩
          · have hc' : le2 (valS st u.1) (m.1 + n) i := hc
            refine ⟨_, rfl, _, rfl, [_, _], rfl, len2, _, rfl, _, rfl, 1, _, .inr u.2, rfl, rfl, rfl, ?_, _, rfl, _, _, _, rfl, ?_, ?_⟩
            · unfold stA
              rw [List.length_map]
              exact Nat.lt_of_le_of_lt slen (by decide)
            · rw [ds, dir_put ht hh hc', ← st_put ht]
              rfl
            · rw [ds, dir_put ht hh hc', List.length_append, hnw]
              show _ - _ + 1 = ((st.length + 1 : Nat) : Int) - _
              omega
          · have hc' : ¬ le2 (valS st u.1) (m.1 + n) i := hc
            refine ⟨nw, _, _, rfl, ?_, ?_⟩
            · rw [ds, dir_no ht hh hc']
            · rw [ds, dir_no ht hh hc']; exact hnw
        · rintro ρ4 μ4 ⟨nw, f, g, rfl, rfl, hnw⟩
          have e : dirs (m.1 + n) i (lawT rs wk p m n i) ([endsOf rs x, ((endsOf rs x).2, (endsOf rs x).1)].take (oneD ([endsOf rs x, ((endsOf rs x).2, (endsOf rs x).1)].map endD)).length) = lawT rs wk p m n (i + 1) := (lawT_succ hm hx).symm
          rw [e] at hnw ⊢
          exact ⟨trivial, nw, _, _, _, _, _, _, rfl, rfl, hnw⟩
      · rintro ρ3 μ3 ⟨nw, b, c, d, e, f, g, rfl, rfl, hnw⟩
        have el : (enumY (((roundAt wk (m.1 + n)).map PyData.str).map Dl.A.d)).length = (roundAt wk (m.1 + n)).length := by
          unfold enumY
          rw [List.length_mapIdx, List.length_map, List.length_map]
        have e2 : lawT rs wk p m n (enumY (((roundAt wk (m.1 + n)).map PyData.str).map Dl.A.d)).length = S rs wk p m (n + 1) := by
          rw [el]
          exact lawT_end (Nat.le_refl _)
        rw [e2] at hnw ⊢
        obtain ⟨t, et⟩ := S_app (rs := rs) (wk := wk) (p := p) (m := m) n
        have hl : (S rs wk p m (n + 1)).length = (S rs wk p m n).length + t.length := by rw [et, List.length_append]
        refine ⟨trivial, _, rfl, _, rfl, iteE (fun h0 => ?_) (fun h0 => ?_)⟩
        · have t0 : t = [] := List.eq_nil_of_length_eq_zero (by omega)
          have e3 : S rs wk p m (n + 1) = S rs wk p m n := by rw [et, t0, List.append_nil]
          refine ⟨_, rfl, _, rfl, _, ?_, n + 1, s + 1, _, _, _, _, _, _, _, _, rfl, rfl, ?_, by omega, ?_, by omega, by omega, rfl⟩
          · omega
          · omega
          · rw [show n + 1 - (s + 1) = n - s by omega, hS, e3]
        · have t1 : S rs wk p m (n + 1) ≠ S rs wk p m n := fun z => by
            rw [z] at hnw
            omega
          have nN : n < N := by
            rcases Nat.lt_or_ge n N with x | x
            · exact x
            · exact absurd ((st1 (n + 1) (by omega)).trans (st1 n x).symm) t1
          refine ⟨_, rfl, _, ?_, n + 1, 0, _, _, _, _, _, _, _, _, rfl, rfl, ?_, by omega, rfl, by omega, by omega, rfl⟩
          · omega
          · omega
    · rw [wl] at hgt
      have hs : s = wk.length + 1 := by omega
      subst hs
      have hst := stable_of (rs := rs) (p := p) (m := m) hw.one (n := n - (wk.length + 1)) (by rw [show n - (wk.length + 1) + (wk.length + 1) = n by omega]; exact hS.symm)
      refine ⟨_, rfl, keep0 (j := 1) rfl (fun x hx => ?_) (q n (by omega) ⟨n - (wk.length + 1), hS.symm, hst⟩)⟩
      obtain ⟨r, _, rfl⟩ := List.mem_map.mp hx
      trivial
  · rintro xs μ Pk Ex ⟨ps, rs, wk, p, m, rfl, _⟩
    rfl
theorem ok__law_round {f : Addr} {fd : FuncData} (F : FunV K "_law_round" "_law_round" st__law_round f fd) (Z : ∀ x, x ∈ blt → mg x = none)   : FnG P w K mg base (L2.CX P w) 1 f fd ["_law_week_here", "_law_day"] (SpD K R__law_round) := by
  refine cal_ofG F sc__law_round ?_ (fun cd A ou s H E W hg hr tk po => ?_)
  rotate_left
  have hN := sc__law_round.nd
  have hu := hr.units
  have hu65 := hr.units65
  refine ⟨_, (dss_one (ds_ret (dIx (d_var 0) (d_mod (d_callTy call_int1 s_int1 (da_cons (d_sub (d_var 1) d_int) da_nil) (Z "int" (by decide))) (d_callB call_len s_lenU (da_cons (d_var 0) da_nil) (Z "len" (by decide))))))), ?_⟩
  · rintro xs μ Pk Ex old ⟨wk, day, rfl, rfl, hw, q⟩
    have hl : (wk.map roundD).length = wk.length := List.length_map ..
    refine ⟨_, rfl, _, rfl, _, _, rfl, rfl, _, rfl, _, rfl, _, _, rfl, rfl, by rw [hl]; omega, ?_⟩
    refine ix_tupI (z := roundD (roundAt wk day)) (by rw [hl]; exact (round_ix hw.1).1) (by rw [hl]; exact (round_ix hw.1).2) (ret_data0 rfl old q)
  · rintro xs μ Pk Ex ⟨ps, day, rfl, _⟩
    rfl
theorem ok_need_moment {f : Addr} {fd : FuncData} (F : FunV K "need_moment" "need_moment" st_need_moment f fd) (C_is_moment : CalG P w K mg base "is_moment" 3 R_is_moment)  : FnG P w K mg base (L2.CX P w) 4 f fd ["week", "moment"] (SpD K R_need_moment) := by
  refine cal_ofG F sc_need_moment ?_ (fun cd A ou s H E W hg hr tk po => ?_)
  rotate_left
  have hN := sc_need_moment.nd
  have hu := hr.units
  have hu65 := hr.units65
  refine ⟨_, (dss_one (ds_if (dt_not (dt_truth (d_calG C_is_moment hg (hr.mono (by omega)) (da_cons (d_var 0) (da_cons (d_var 1) da_nil))))) (dss_one ds_no) dss_nil)), ?_⟩
  · rintro xs μ Pk Ex old ⟨wk, m, rfl, rfl, hw, ok, q⟩
    refine ⟨_, rfl, _, rfl, fr_d [_, _] ⟨wk, m, rfl, rfl, hw, ok, noO, ⟨true, rfl, iteF ?_⟩⟩⟩
    exact fin_n q
  · rintro xs μ Pk Ex ⟨ps, rs, rfl, _⟩
    rfl
end
end K55

set_option Elab.async false
set_option linter.all false
set_option maxRecDepth 100000
set_option maxHeartbeats 4000000
namespace K55
open PySem PySem.Spec PyProof.Rows L2 Dl Rp
local macro_rules | `(tactic| and_intros) => `(tactic| repeat (first | refine ⟨_, rfl, ?_⟩ | refine iteT ?_ | refine iteF ?_ | refine ⟨_, _, rfl, rfl, ?_⟩ | refine add_int ?_ | refine len_tup ?_ | refine len_lst ?_ | refine tgt2 ?_ | refine tgt3 ?_ | refine ⟨[_], rfl, len1, ?_⟩ | refine ⟨[_, _], rfl, len2, ?_⟩ | refine ⟨[_, _, _], rfl, len3, ?_⟩))
section
variable {P : Program} {w : World} {K : PySem.W.Frag} {mg : Str → Option Value} {base : Heap}
theorem ok__law_behind_right {f : Addr} {fd : FuncData} (F : FunV K "_law_behind_right" "_law_behind_right" st__law_behind_right f fd) (Z : ∀ x, x ∈ blt → mg x = none) (C__law_arrivals : CalG P w K mg base "_law_arrivals" 2 R__law_arrivals) (C__law_beliefs : CalG P w K mg base "_law_beliefs" 3 R__law_beliefs) (C__law_draw : CalG P w K mg base "_law_draw" 1 R__law_draw) (C__law_one : CalG P w K mg base "_law_one" 2 R__law_one) (C__law_path : CalG P w K mg base "_law_path" 1 R__law_path) (C__law_rota : CalG P w K mg base "_law_rota" 3 R__law_rota) (C__law_some_web : CalG P w K mg base "_law_some_web" 5 R__law_some_webT) (C_beliefs : CalG P w K mg base "beliefs" 6 R_beliefsG)  : FnG P w K mg base (L2.CX P w) 7 f fd ["_law_feed_here"] (SpD K R__law_behind_right) := by
  refine cal_ofG F sc__law_behind_right ?_ (fun cd A ou s H E W hg hr tk po => ?_)
  rotate_left
  have hN := sc__law_behind_right.nd
  have hu := hr.units
  have hu65 := hr.units65
  refine ⟨_, (dss_cons (ds_set (i := 1) hN (d_calG C__law_some_web hg (hr.mono (by omega)) (da_cons (d_var 0) (da_cons d_str da_nil)))) (dss_cons (ds_set (i := 2) hN (d_calG C__law_rota hg (hr.mono (by omega)) (da_cons (d_var 0) (da_cons (d_var 1) da_nil)))) (dss_cons (ds_par (i := 3) (j := 4) rfl hN (da_cons (d_calG C__law_one hg (hr.mono (by omega)) (da_cons (d_var 0) (da_cons (dIx (d_var 1) d_int) da_nil))) (da_cons (d_calG C__law_one hg (hr.mono (by omega)) (da_cons (d_var 0) (da_cons (dIx (d_var 1) d_int) da_nil))) da_nil))) (dss_cons (ds_set (i := 5) hN (d_tup (da_cons (dAdd d_int (d_calG C__law_draw hg (hr.mono (by omega)) (da_cons (d_var 0) (da_cons d_int da_nil)))) (da_cons (d_calG C__law_draw hg (hr.mono (by omega)) (da_cons (d_var 0) (da_cons (dAdd (d_callB call_len s_lenU (da_cons (d_var 2) da_nil) (Z "len" (by decide))) d_int) da_nil))) da_nil)))) (dss_cons (ds_set (i := 6) hN (d_calG C__law_arrivals hg (hr.mono (by omega)) (da_cons (d_var 1) (da_cons (d_tup (da_cons (d_var 2) da_nil)) (da_cons (d_var 3) (da_cons (d_var 5) da_nil)))))) (dss_cons (ds_par (i := 7) (j := 8) rfl hN (da_cons (d_calG C_beliefs hg (hr.mono (by omega)) (da_cons (d_var 1) (da_cons (d_tup (da_cons (d_var 2) da_nil)) (da_cons (d_var 3) (da_cons (d_var 5) (da_cons (d_var 4) (da_cons (d_dget hu (d_var 6) (d_var 4)) da_nil))))))) (da_cons (d_calG C__law_path hg (hr.mono (by omega)) (da_cons (d_var 1) (da_cons (d_var 3) (da_cons (d_var 4) da_nil)))) da_nil))) (dss_cons (ds_for po rfl (di_enT (da_cons (dIx (d_var 1) d_int) da_nil) (Z "enumerate" (by decide))) (dg_tup (n := 2) rfl (dgs_cons (dg_name (i := 9) hN) (dgs_cons (dg_name (i := 10) hN) dgs_nil))) (dss_cons (ds_set (i := 11) hN (d_calG C__law_path hg (hr.mono (by omega)) (da_cons (d_var 1) (da_cons (d_var 3) (da_cons (d_var 10) da_nil))))) (dss_cons (ds_if (dt_w (dw_and (tEq hu (d_slice (d_var 11) do_none (do_some (d_callB call_len s_lenU (da_cons (d_var 8) da_nil) (Z "len" (by decide))))) (d_var 8)) (dw_and1 (tIsNot (dIx (d_var 7) (d_var 9)) d_non)))) (dss_one (ds_ret d_bl)) dss_nil) (dss_one (ds_if (dt_w (dw_and (tLt (d_callB call_len s_lenU (da_cons (d_var 11) da_nil) (Z "len" (by decide))) (d_callB call_len s_lenU (da_cons (d_var 8) da_nil) (Z "len" (by decide)))) (dw_and (tEq hu (d_slice (d_var 8) do_none (do_some (d_callB call_len s_lenU (da_cons (d_var 11) da_nil) (Z "len" (by decide))))) (d_var 11)) (dw_and1 (dt_w (dw_or (tIs (dIx (d_var 7) (d_var 9)) d_non) (dw_or1 (tNe hu (dIx (dIx (d_var 7) (d_var 9)) d_int) (d_dget hu (d_var 6) (d_var 10)))))))))) (dss_one (ds_ret d_bl)) dss_nil))))) (dss_one (ds_ret (dEq hu (d_callB (cr_rep hg hu) s_repU (da_cons (d_var 7) da_nil) (Z "repr" (by decide))) (d_callB (cr_rep hg hu) s_repU (da_cons (d_calG C__law_beliefs hg (hr.mono (by omega)) (da_cons (d_var 1) (da_cons (d_tup (da_cons (d_var 2) da_nil)) (da_cons (d_var 3) (da_cons (d_var 5) (da_cons (d_var 4) (da_cons (d_dget hu (d_var 6) (d_var 4)) da_nil))))))) da_nil) (Z "repr" (by decide))))))))))))), ?_⟩
  · rintro xs μ Pk Ex old ⟨o, k, rfl, rfl, hk, k1, q⟩
    have k0 := hk.pos
    refine ⟨_, rfl, fr_someT rfl hk (by omega) fun ps rs o1 ok T hk1 => ?_⟩
    have r14 := ok.r.most
    have p1 := ok.p.one
    have p10 := ok.p.most
    refine ⟨_, rfl, _, rfl, fr_rota (n := 0) rfl hk1 (by omega) r14 fun ss o2 hpm hk2 => ?_⟩
    have hr' := rota_of ok.r.nd hpm
    have hw := hr'.week
    have sl : ss.length ≤ 14 := by rw [hr'.len]; exact r14
    have slD : (ss.map PyData.str).length = ss.length := List.length_map ..
    have psl : 0 < (ps.map PyData.str).length ∧ (ps.map PyData.str).length < 10 ^ 6 := by rw [List.length_map]; omega
    refine ⟨_, rfl, _, rfl, ix_tup (j := 0) rfl (fr_one (n := 0) (ps.map .str) rfl (.inr rfl) hk2 (by omega) psl fun x o3 hx hk3 => ?_)⟩
    obtain ⟨p, hp, rfl⟩ := List.mem_map.mp hx
    refine ⟨_, rfl, _, rfl, ix_tup (j := 0) rfl (fr_one (n := 0) (ps.map .str) rfl (.inr rfl) hk3 (by omega) psl fun x o4 hx hk4 => ⟨_, _, rfl, ?_⟩)⟩
    obtain ⟨r, hq, rfl⟩ := List.mem_map.mp hx
    refine ⟨_, rfl, fr_draw (n := 0) rfl hk4 (by omega) ⟨by decide, by decide⟩ fun a o5 a0 a1 hk5 => add_int ?_⟩
    refine ⟨_, rfl, _, rfl, len_tup (add_int ?_)⟩
    rw [slD]
    refine fr_draw (n := 0) rfl hk5 (by omega) ⟨by omega, by omega⟩ fun wq o6 w0 w1 hk6 => ⟨[_, _], rfl, len2, ?_⟩
    have hm : MomOk [ss] (1 + a, wq) := .mk4 (by show 1 ≤ 1 + a; omega) (by show 1 + a ≤ 1000000; omega) w0 (by show wq ≤ ((roundAt [ss] (1 + a)).length : Int); rw [round_one]; omega)
    refine ⟨_, rfl, _, rfl, [_], rfl, len1, _, rfl, _, rfl, fr_lawArr ok hw hp hm.toMomS ?_⟩
    have inv := fin_inv (p := p) (m := (1 + a, wq)) ok hw
    obtain ⟨w', g', wl'⟩ := go_ex ok T hp hq
    have hO := go_time ok hr' hp hm.toMomS T _ w' r rfl g'
    have rin : r ∈ ks (FinS rs [ss] p (1 + a, wq)) := mem_ks.mpr ⟨_, hO⟩
    have vO : valS (FinS rs [ss] p (1 + a, wq)) r = goT ss (1 + a, wq) w' := fin_val inv.nd hO
    have sO := fin_mom hm.toMomS hO
    have bO := fin_bd ok hw hm.toMomS hO
    have bO2 : (goT ss (1 + a, wq) w').1 ≤ 1 + a + 50 := bO.2.1
    have hmO : MomOk [ss] (goT ss (1 + a, wq) w') := .mk4 sO.d1 (by omega) sO.w1 sO.w2
    have hbs := bel_shown (p := p) (q := r) ok hw hm.toMomS sO (by show 1 + a ≤ 100000000; omega) (by omega)
    refine ⟨_, rfl, _, rfl, [_], rfl, len1, _, rfl, _, rfl, _, rfl, _, rfl, _, rfl, _, _, .inr r, _, rfl, get_end, rfl, (valS_at _ r rin).1, ?_⟩
    rw [vO]
    refine fr_beliefsG ok hw hp hq hm hmO ?_
    refine ⟨_, rfl, _, rfl, _, rfl, fr_path ok T hp hq fun w g wl => ⟨_, _, rfl, ?_⟩⟩
    have hw2 := go_time ok hr' hp hm.toMomS T _ w r rfl g
    have ew : goT ss (1 + a, wq) w' = goT ss (1 + a, wq) w := fin_uniq inv.nd hO hw2
    generalize hA : FinS rs [ss] p (1 + a, wq) = A1 at inv hbs
    generalize hB1 : FinS rs [ss] r (goT ss (1 + a, wq) w') = B1 at hbs
    have wshp : SeqAt.shaped (wayD w) = true := way_shaped fun s hs => by
      obtain ⟨rd, hrd, rfl⟩ := List.mem_map.mp (g.names s hs)
      exact ok.r.nm rd hrd
    refine ⟨_, rfl, ix_tup (j := 0) rfl ⟨_, rfl, ?_⟩⟩
    refine ⟨fun i ρ μ => ∃ (u v z : Option Dl.A), ρ = [some (.c 0), some (.d (webD ps rs)), some (.d (roundD ss)), some (.d (.str p)), some (.d (.str r)), some (.d (momD (1 + a, wq))), some (.c 1), some (.d (.list (ps.map (belD A1 B1)))), some (.d (wayD w)), u, v, z] ∧ μ = [o6, .dct (stA A1)], ⟨_, _, _, rfl, rfl⟩, ?_, ?_⟩
    · rintro i y ρ2 μ2 hy ⟨u, v, z, rfl, rfl⟩
      obtain ⟨x, hx, rfl⟩ := enum_strs hy
      have hxp := List.mem_of_getElem? hx
      have hB : (ps.map (belD A1 B1))[i]? = some (belD A1 B1 x) := by rw [List.getElem?_map, hx]; rfl
      refine ⟨trivial, tgtY2 ?_⟩
      refine ⟨_, rfl, _, rfl, _, rfl, fr_path ok T hp hxp fun v gv vl => ?_⟩
      have hv2 := go_time ok hr' hp hm.toMomS T _ v x rfl gv
      rw [hA] at hv2
      have vshp : ∀ n, SeqAt.shaped (wayD (v.take n)) = true := fun n => way_shaped fun s hs => by
        obtain ⟨rd, hrd, rfl⟩ := List.mem_map.mp (gv.names s (List.mem_of_mem_take hs))
        exact ok.r.nm rd hrd
      have wshp2 : ∀ n, SeqAt.shaped (wayD (w.take n)) = true := fun n => way_shaped fun s hs => by
        obtain ⟨rd, hrd, rfl⟩ := List.mem_map.mp (g.names s (List.mem_of_mem_take hs))
        exact ok.r.nm rd hrd
      have vshp0 : SeqAt.shaped (wayD v) = true := by
        have := vshp v.length
        rwa [List.take_length] at this
      refine ⟨_, rfl, _, rfl, len_tup ⟨_, rfl, .inr (.inl ⟨_, rfl, ?_⟩)⟩⟩
      rw [show (w.map PyData.str).length = w.length from List.length_map .., wayD_cut]
      refine ⟨_, rfl, wayD (v.take w.length), wayD w, rfl, rfl, vshp _, wshp, _, rfl, ?_⟩
      rw [eqv_way]
      by_cases e : v.take w.length = w
      · have hN := behind_none ok hr' hp hq T hm.toMomS g gv e
        rw [hA, ← ew, hB1] at hN
        refine fP e ⟨_, rfl, _, rfl, ix_lstN hB ?_⟩
        rw [belD_span, hN]
        refine ⟨true, rfl, rfl, _, rfl, iteF ?_⟩
        refine ⟨_, rfl, len_tup ⟨_, rfl, len_tup ⟨_, _, rfl, rfl, _, rfl, ?_⟩⟩⟩
        have lv : ¬ (((v.map PyData.str).length : Nat) : Int) < (((w.map PyData.str).length : Nat) : Int) := by
          rw [List.length_map, List.length_map]
          have := congrArg List.length e
          rw [List.length_take] at this
          omega
        exact itQ lv (iteF ⟨_, _, _, rfl, rfl⟩)
      · refine fQ e (iteF ?_)
        refine ⟨_, rfl, len_tup ⟨_, rfl, len_tup ⟨_, _, rfl, rfl, _, rfl, ?_⟩⟩⟩
        rw [List.length_map, List.length_map]
        by_cases lv : (v.length : Int) < (w.length : Int)
        · refine itP lv ?_
          refine ⟨_, rfl, _, rfl, len_tup ⟨_, rfl, .inr (.inl ⟨_, rfl, ?_⟩)⟩⟩
          rw [show (v.map PyData.str).length = v.length from List.length_map .., wayD_cut]
          refine ⟨_, rfl, wayD (w.take v.length), wayD v, rfl, rfl, wshp2 _, vshp0, _, rfl, ?_⟩
          rw [eqv_way]
          by_cases e2 : w.take v.length = v
          · obtain ⟨un, hS⟩ := before_some ok hr' hp hq T hm.toMomS g gv e2 (by omega)
            rw [hA, ← ew, hB1] at hS
            have hD : belD A1 B1 x = spD (goT ss (1 + a, wq) v, un) := by
              rw [belD_span, hS]
              rfl
            rw [hD] at hB
            have xin : x ∈ ks A1 := mem_ks.mpr ⟨_, hv2⟩
            refine fP e2 ⟨_, rfl, _, rfl, ix_lstN hB ⟨false, rfl, rfl, _, rfl, iteF ?_⟩⟩
            refine ⟨_, rfl, _, rfl, ix_lstN hB (ix_tup (j := 0) rfl ⟨_, rfl, _, rfl, 1, _, .inr x, _, rfl, rfl, rfl, (valS_at A1 x xin).1, ?_⟩)⟩
            rw [fin_val inv.nd hv2]
            refine ⟨_, _, rfl, rfl, mom_shaped _, mom_shaped _, _, rfl, ?_⟩
            refine ifF (by rw [eqv_mom]; rfl) ?_
            exact ⟨_, _, _, rfl, rfl⟩
          · exact fQ e2 (iteF ⟨_, _, _, rfl, rfl⟩)
        · exact itQ lv (iteF ⟨_, _, _, rfl, rfl⟩)
    · rintro ρ2 μ2 ⟨u, v, z, rfl, rfl⟩
      refine ⟨trivial, ?_⟩
      have rin2 : r ∈ ks A1 := by rw [← hA]; exact rin
      refine ⟨_, rfl, repr_same hbs rfl ?_⟩
      refine ⟨_, rfl, _, rfl, [_], rfl, len1, _, rfl, _, rfl, _, rfl, _, rfl, _, rfl, 1, _, .inr r, _, rfl, rfl, rfl, (valS_at A1 r rin2).1, ?_⟩
      rw [show valS A1 r = goT ss (1 + a, wq) w' by rw [← hA]; exact vO]
      refine fr_lawBel ok hw hp hq hm.toMomS sO ?_
      rw [hA, hB1]
      refine repr_same hbs rfl ?_
      show RetD _ _ (.d (.bool (false ^^ decide _))) _
      rw [decide_eq_true rfl]
      exact feedRet hk6 (q _ (hk6.mono (by omega)))
  · rintro xs μ Pk Ex ⟨o, k, rfl, _⟩
    rfl
theorem ok__law_rota {f : Addr} {fd : FuncData} (F : FunV K "_law_rota" "_law_rota" st__law_rota f fd) (Z : ∀ x, x ∈ blt → mg x = none) (C__law_mixed : CalG P w K mg base "_law_mixed" 2 R__law_mixed)  : FnG P w K mg base (L2.CX P w) 3 f fd ["_law_feed_here", "_law_web_here"] (SpD K R__law_rota) := by
  refine cal_ofG F sc__law_rota ?_ (fun cd A ou s H E W hg hr tk po => ?_)
  rotate_left
  have hN := sc__law_rota.nd
  have hu := hr.units
  have hu65 := hr.units65
  refine ⟨_, (dss_one (ds_ret (d_callTy call_tupleN s_tuple (da_cons (d_calG C__law_mixed hg (hr.mono (by omega)) (da_cons (d_var 0) (da_cons (d_lc (own := [("_law_road", 2)]) rfl hN (di_any (dIx (d_var 1) d_int)) (blkOk_by (N := ns__law_rota) (sc := defScope st__law_rota) (by decide +kernel)) (fun _ _ _ _ _ => (dg_name (i := 2) hN)) (fun _ _ _ _ _ => dts_nil) (fun _ _ _ _ _ => (dIx (d_var 2) d_int))) da_nil))) da_nil) (Z "tuple" (by decide))))), ?_⟩
  · rintro xs μ Pk Ex old ⟨o, k, ps, rs, rfl, rfl, lz, hk, k1, q⟩
    refine ⟨_, rfl, ?_⟩
    refine ⟨_, rfl, ix_tup (j := 1) rfl ?_⟩
    refine lc_map rs rdD (fun r => .str r.1) (oneD_ones _ _) trivial (Nat.le_trans lz (by decide)) (fun x hx Q hQ => ⟨_, rfl, _, rfl, ix_tup (j := 0) rfl hQ⟩) ?_
    refine fr_mixed (fun r : Road => PyData.str r.1) rs rfl (.inl rfl) hk k1 (by omega) fun rs' o' hp hk' => ?_
    refine ⟨_, _, rfl, .inl rfl, ?_⟩
    have fd : FD (k + 14) o' := hk'.mono (by omega)
    have := q (rs'.map fun r => r.1) o' (hp.map _) fd
    unfold roundD at this
    rw [List.map_map] at this
    exact feedRet (l := []) fd this
  · rintro xs μ Pk Ex ⟨o, k, ps, rs, rfl, _⟩
    rfl
theorem ok__law_names {f : Addr} {fd : FuncData} (F : FunV K "_law_names" "_law_names" st__law_names f fd) (C__law_mixed : CalG P w K mg base "_law_mixed" 2 R__law_mixed)  : FnG P w K mg base (L2.CX P w) 3 f fd ["_law_feed_here", "_law_many"] (SpD K R__law_names) := by
  refine cal_ofG F sc__law_names ?_ (fun cd A ou s H E W hg hr tk po => ?_)
  rotate_left
  have hN := sc__law_names.nd
  have hu := hr.units
  have hu65 := hr.units65
  refine ⟨_, (dss_one (ds_ret (d_slice (d_calG C__law_mixed hg (hr.mono (by omega)) (da_cons (d_var 0) (da_cons (d_lstU (da_cons d_str (da_cons d_str (da_cons d_str (da_cons d_str (da_cons d_str (da_cons d_str (da_cons d_str (da_cons d_str (da_cons d_str (da_cons d_str (da_cons d_str (da_cons d_str (da_cons d_str (da_cons d_str da_nil))))))))))))))) da_nil))) do_none (do_some (d_var 1))))), ?_⟩
  · rintro xs μ Pk Ex old ⟨o, k, m, rfl, rfl, hk, k1, q⟩
    refine ⟨_, rfl, by show 14 ≤ sizeLine; decide, .inl ⟨names14.map PyData.str, rfl, ?_⟩⟩
    refine fr_mixed PyData.str names14 rfl (.inl rfl) hk k1 (by decide) fun ss o' hp hk' => ?_
    refine ⟨_, rfl, _, rfl, .inr (.inr (.inl ⟨_, rfl, ?_⟩))⟩
    rw [cut_map, cut_nat]
    exact feedRet (l := []) hk' (q ss o' hp hk')
  · rintro xs μ Pk Ex ⟨o, k, m, rfl, _⟩
    rfl
theorem ok_need_week {f : Addr} {fd : FuncData} (F : FunV K "need_week" "need_week" st_need_week f fd) (C_is_week : CalG P w K mg base "is_week" 2 R_is_week)  : FnG P w K mg base (L2.CX P w) 3 f fd ["web", "week"] (SpD K R_need_week) := by
  refine cal_ofG F sc_need_week ?_ (fun cd A ou s H E W hg hr tk po => ?_)
  rotate_left
  have hN := sc_need_week.nd
  have hu := hr.units
  have hu65 := hr.units65
  refine ⟨_, (dss_one (ds_if (dt_not (dt_truth (d_calG C_is_week hg (hr.mono (by omega)) (da_cons (d_var 0) (da_cons (d_var 1) da_nil))))) (dss_one ds_no) dss_nil)), ?_⟩
  · rintro xs μ Pk Ex old ⟨ps, rs, wk, rfl, rfl, lz, ok, q⟩
    refine ⟨_, rfl, _, rfl, fr_d [_, _] ⟨ps, rs, wk, rfl, rfl, lz, ok, noO, ⟨true, rfl, iteF ?_⟩⟩⟩
    exact fin_n q
  · rintro xs μ Pk Ex ⟨ps, rs, p, rfl, _⟩
    rfl
end
end K55

set_option Elab.async false
set_option linter.all false
set_option maxRecDepth 100000
set_option maxHeartbeats 4000000
namespace K55
open PySem PySem.Spec PyProof.Rows L2 Dl Rp
local macro_rules | `(tactic| and_intros) => `(tactic| repeat (first | refine ⟨_, rfl, ?_⟩ | refine iteT ?_ | refine iteF ?_ | refine ⟨_, _, rfl, rfl, ?_⟩ | refine add_int ?_ | refine len_tup ?_ | refine len_lst ?_ | refine tgt2 ?_ | refine tgt3 ?_ | refine ⟨[_], rfl, len1, ?_⟩ | refine ⟨[_, _], rfl, len2, ?_⟩ | refine ⟨[_, _, _], rfl, len3, ?_⟩))
section
variable {P : Program} {w : World} {K : PySem.W.Frag} {mg : Str → Option Value} {base : Heap}
theorem ok__law_same_place_right {f : Addr} {fd : FuncData} (F : FunV K "_law_same_place_right" "_law_same_place_right" st__law_same_place_right f fd) (Z : ∀ x, x ∈ blt → mg x = none) (C__law_arrivals : CalG P w K mg base "_law_arrivals" 2 R__law_arrivals) (C__law_draw : CalG P w K mg base "_law_draw" 1 R__law_draw) (C__law_listed : CalG P w K mg base "_law_listed" 1 R__law_listed) (C_beliefs : CalG P w K mg base "beliefs" 6 R_beliefsG) (C_last_belief : CalG P w K mg base "last_belief" 7 R_last_belief)  : FnG P w K mg base (L2.CX P w) 8 f fd ["_law_feed_here", "_law_web_here", "_law_week_here", "_law_place", "_law_moment_here"] (SpD K R__law_same_place_right) := by
  refine cal_ofG F sc__law_same_place_right ?_ (fun cd A ou s H E W hg hr tk po => ?_)
  rotate_left
  have hN := sc__law_same_place_right.nd
  have hu := hr.units
  have hu65 := hr.units65
  refine ⟨_, (dss_cons (ds_set (i := 5) hN (d_tup (da_cons (d_callB (call_max2 rfl) s_max2 (da_cons d_int (da_cons (d_sub (dIx (d_var 4) d_int) (d_calG C__law_draw hg (hr.mono (by omega)) (da_cons (d_var 0) (da_cons d_int da_nil)))) da_nil)) (Z "max" (by decide))) (da_cons d_int da_nil)))) (dss_cons (ds_for po rfl (di_any (d_lstU (da_cons (d_var 4) (da_cons (d_var 5) da_nil)))) (dg_name (i := 6) hN) (dss_cons (ds_if (tNe hu (d_calG C_beliefs hg (hr.mono (by omega)) (da_cons (d_var 1) (da_cons (d_var 2) (da_cons (d_var 3) (da_cons (d_var 4) (da_cons (d_var 3) (da_cons (d_var 6) da_nil))))))) (dMul (d_lstU (da_cons d_non da_nil)) (d_callB call_len s_lenU (da_cons (dIx (d_var 1) d_int) da_nil) (Z "len" (by decide))))) (dss_one (ds_ret d_bl)) dss_nil) (dss_one (ds_if (tNe hu (d_calG C_last_belief hg (hr.mono (by omega)) (da_cons (d_var 1) (da_cons (d_var 2) (da_cons (d_var 3) (da_cons (d_var 4) (da_cons (d_var 3) (da_cons (d_var 6) da_nil))))))) (d_callB (call_minP rfl hu) s_minP (da_cons (d_var 6) (da_cons (d_var 4) da_nil)) (Z "min" (by decide)))) (dss_one (ds_ret d_bl)) dss_nil)))) (dss_cons (ds_set (i := 7) hN (dMul (d_callB call_len s_lenU (da_cons (d_var 2) da_nil) (Z "len" (by decide))) (dAdd d_int (d_calG C__law_draw hg (hr.mono (by omega)) (da_cons (d_var 0) (da_cons d_int da_nil)))))) (dss_cons (ds_if (tGt (dAdd (dIx (d_var 4) d_int) (d_var 7)) d_int) (dss_one (ds_ret d_bl)) dss_nil) (dss_cons (ds_set (i := 8) hN (d_calG C__law_listed hg (hr.mono (by omega)) (da_cons (d_var 1) (da_cons (d_calG C__law_arrivals hg (hr.mono (by omega)) (da_cons (d_var 1) (da_cons (d_var 2) (da_cons (d_var 3) (da_cons (d_var 4) da_nil))))) da_nil)))) (dss_cons (ds_setLc (i := 9) (own := [("_law_one_here", 6)]) rfl hN (di_any (d_var 8)) (blkOk_by (N := ns__law_same_place_right) (sc := defScope st__law_same_place_right) (by decide +kernel)) (fun _ _ _ _ _ => (dg_name (i := 6) hN)) (fun _ _ _ _ _ => dts_nil) (fun _ _ _ _ _ => (d_if (tIs (d_var 6) d_non) d_non (d_tup (da_cons (d_var 6) (da_cons (d_tup (da_cons (dAdd (dIx (d_var 6) d_int) (d_var 7)) (da_cons (dIx (d_var 6) d_int) da_nil))) da_nil))))) (sw_true rfl rfl rfl rfl)) (dss_cons (ds_set (i := 10) hN (d_tup (da_cons (dAdd (dIx (d_var 4) d_int) (d_var 7)) (da_cons (dIx (d_var 4) d_int) da_nil)))) (dss_cons (ds_if (tNe hu (d_callB (cr_rep hg hu) s_repU (da_cons (d_calG C_beliefs hg (hr.mono (by omega)) (da_cons (d_var 1) (da_cons (d_var 2) (da_cons (d_var 3) (da_cons (d_var 4) (da_cons (d_var 3) (da_cons (d_var 10) da_nil))))))) da_nil) (Z "repr" (by decide))) (d_callB (cr_rep hg hu) s_repU (da_cons (d_var 9) da_nil) (Z "repr" (by decide)))) (dss_one (ds_ret d_bl)) dss_nil) (dss_one (ds_ret (dEq hu (d_calG C_last_belief hg (hr.mono (by omega)) (da_cons (d_var 1) (da_cons (d_var 2) (da_cons (d_var 3) (da_cons (d_var 4) (da_cons (d_var 3) (da_cons (d_var 10) da_nil))))))) (d_callB (call_best (mx := true) rfl hu) s_best (da_cons (d_lc (own := [("_law_row", 11)]) rfl hN (di_any (d_var 9)) (blkOk_by (N := ns__law_same_place_right) (sc := defScope st__law_same_place_right) (by decide +kernel)) (fun _ _ _ _ _ => (dg_name (i := 11) hN)) (fun _ _ _ _ _ => (dts_one (tIsNot (d_var 11) d_non))) (fun _ _ _ _ _ => (dIx (d_var 11) d_int))) da_nil) (Z "max" (by decide)))))))))))))), ?_⟩
  · rintro xs μ Pk Ex old ⟨o, k, ps, rs, wk, p, m, rfl, rfl, hk, k1, ok, hw, hp, hm, qq⟩
    have k0 := hk.pos
    have p10 := ok.p.most
    have r14 := ok.r.most
    have m1 := hm.d1
    have m2 := hm.d2
    have m3 := hm.w1
    refine ⟨_, rfl, ix_tup (j := 0) rfl ⟨_, rfl, fr_draw rfl hk (by omega) ⟨by decide, by decide⟩ fun a o1 a0 a1 hk1 => ?_⟩⟩
    refine ⟨_, _, rfl, rfl, 1, _, rfl, ?_⟩
    obtain ⟨d, hd⟩ : ∃ d, (if m.1 - a > (1 : Int) then m.1 - a else (1 : Int)) = d := ⟨_, rfl⟩
    refine ⟨[.int d, .int 0], by rw [← hd]; rfl, len2, ?_⟩
    have d1 : 1 ≤ d ∧ d ≤ m.1 := by
      subst hd
      split <;> omega
    have he : MomOk wk (d, 0) := .mk4 d1.1 (by show d ≤ 1000000; omega) (Int.le_refl _) (Int.natCast_nonneg _)
    have le : Le2 (d, 0) m := by
      show d < m.1 ∨ (d = m.1 ∧ 0 ≤ m.2)
      omega
    refine ⟨_, rfl, _, rfl, len2, .inl ⟨[momD m, momD (d, 0)], rfl, ?_⟩⟩
    refine ⟨fun i ρ μ => ∃ (l : Mu) (u b c e f g : Option Dl.A), ρ = [some (.c 0), some (.d (webD ps rs)), some (.d (weekD wk)), some (.d (.str p)), some (.d (momD m)), some (.d (momD (d, 0))), u, b, c, e, f, g] ∧ μ = o1 :: l, ⟨[], _, _, _, _, _, _, rfl, rfl⟩, ?_, ?_⟩
    · rintro i y ρ2 μ2 hy ⟨l, u, b, c, e, f, g, rfl, rfl⟩
      have hz : ∃ z, y = .one (.d (momD z)) ∧ MomOk wk z ∧ Le2 z m := by
        match i, hy with
        | 0, hy => exact ⟨m, (Option.some.inj hy).symm, hm, Le2.refl m⟩
        | 1, hy => exact ⟨(d, 0), (Option.some.inj hy).symm, he, le⟩
        | i + 2, hy => cases hy
      obtain ⟨z, rfl, hz, lz⟩ := hz
      obtain ⟨hB, hS⟩ := bel_none (bel_early (p := p) ok hw hp hm.toMomS hz.toMomS lz) ps
      refine ⟨trivial, _, rfl, ?_⟩
      refine ⟨_, rfl, _, rfl, _, rfl, _, rfl, _, rfl, _, rfl, fr_beliefsG ok hw hp hp hm hz ?_⟩
      rw [hB]
      refine ⟨len1, .inr ⟨_, rfl, ix_tup (j := 0) rfl (len_tup ?_)⟩⟩
      rw [show (ps.map PyData.str).length = ps.length from List.length_map ..]
      refine ⟨_, get_end, by omega, by omega, ?_, .inl ⟨List.replicate ps.length .none, rep_one _ _, ?_⟩⟩
      · rw [Int.toNat_natCast]
        exact Nat.le_trans (show 1 * ps.length ≤ 10 by omega) (by decide)
      refine ⟨_, _, rfl, rfl, rep_shaped _, rep_shaped _, _, rfl, ?_⟩
      refine ifF (by rw [eqv_rep]; rfl) ?_
      refine ⟨_, rfl, _, rfl, _, rfl, _, rfl, _, rfl, _, rfl, fr_last ok hw hp hp hm hz ?_⟩
      rw [hS]
      refine ⟨_, rfl, _, rfl, z, m, rfl, ?_⟩
      rw [show lastD [] m z = momD (if Dl.ltP m z then m else z) from by
        show dPair (if Dl.ltP z m then z else m) = _
        rw [min_same]
        rfl]
      have sm : Sml (momD (if Dl.ltP m z then m else z)) := by
        split
        · exact momok_sml hw r14 hm
        · exact momok_sml hw r14 hz
      refine ⟨_, _, rfl, rfl, sm.shaped, sm.shaped, _, rfl, ?_⟩
      refine ifF (by rw [show dPair (if Dl.ltP m z then m else z) = momD (if Dl.ltP m z then m else z) from rfl, eqv_mom]; rfl) ?_
      exact ⟨_, _, _, _, _, _, _, rfl, rfl⟩
    rintro ρ2 μ2 ⟨l, u, b, c, e, f, g, rfl, rfl⟩
    have w1 := hw.one
    have w4 := hw.most
    refine ⟨trivial, ?_⟩
    refine ⟨_, rfl, len_tup ⟨_, rfl, fr_draw (n := 0) rfl hk1 (by omega) ⟨by decide, by decide⟩ fun h o2 h0 h1 hk2 => add_int ?_⟩⟩
    rw [show (wk.map roundD).length = wk.length from List.length_map ..]
    refine ⟨smallL (by omega) (by omega), ?_⟩
    have wj : 0 < (wk.length : Int) * (1 + h) := Int.mul_pos (by omega) (by omega)
    refine ⟨_, rfl, ix_tup (j := 0) rfl ⟨_, rfl, add_int ⟨_, _, rfl, rfl, _, rfl, ?_⟩⟩⟩
    refine iteD (fun big => ?_) (fun small => ?_)
    · exact feedRet hk2 (qq _ (hk2.mono (by omega)))
    have hm2 := momok_weeks (j := 1 + h) hm (by omega) (by omega)
    refine ⟨_, rfl, _, rfl, _, rfl, _, rfl, _, rfl, fr_lawArr ok hw hp hm.toMomS ?_⟩
    have inv := fin_inv (p := p) (m := m) ok hw
    have hbs := bel_shown (p := p) (q := p) ok hw hm.toMomS hm2.toMomS (by omega) (by have := hm2.d2; omega)
    have hval : ∀ q, q ∈ ks (FinS rs wk p m) → belD (FinS rs wk p m) (FinS rs wk p (shM (wk.length * (1 + h)) m)) q = .tuple [momD (valS (FinS rs wk p m) q), momD (shM (wk.length * (1 + h)) (valS (FinS rs wk p m) q))] := fun q hq => by
      rw [belD_span, bel_weeks ok hw wj, if_pos hq]
      rfl
    have hno : ∀ q, q ∉ ks (FinS rs wk p m) → belD (FinS rs wk p m) (FinS rs wk p (shM (wk.length * (1 + h)) m)) q = .none := fun q hq => belD_no hq
    obtain ⟨hsp1, hsp2⟩ := weeks_spans (p := p) (m := m) ok hw hp wj
    obtain ⟨bx, bds, hsp3, hsp4⟩ := lastD_all (m := m) (m' := shM (wk.length * (1 + h)) m) hsp1 hsp2
    have hends := ends_moms hsp1
    rw [hsp3] at hends
    have hel := ends_list (FinS rs wk p m) (FinS rs wk p (shM (wk.length * (1 + h)) m)) ps
    rw [hsp3] at hel
    refine fr_listedL get_end p10 ?_
    rw [← gotD_lookD]
    obtain ⟨l2, e2⟩ : ∃ l2, ((o1 :: l).set 0 o2 ++ [O.dct (stA (FinS rs wk p m))]).set ((o1 :: l).set 0 o2).length (.dct (stA (FinS rs wk p m))) = o2 :: l2 := ⟨_, rfl⟩
    rw [e2]
    refine ⟨_, rfl, ?_⟩
    refine lc_map ps (gotD (FinS rs wk p m)) (belD (FinS rs wk p m) (FinS rs wk p (shM (wk.length * (1 + h)) m))) (oneD_ones _ _) trivial (Nat.le_trans p10 (by decide)) (fun q hq Q hQ => ?_) ?_
    · refine ⟨_, rfl, _, rfl, ?_⟩
      by_cases z : q ∈ ks (FinS rs wk p m)
      · rw [hval q z] at hQ
        rw [gotD_val z]
        exact ⟨false, rfl, rfl, _, rfl, iteF ⟨_, rfl, _, rfl, ix_tup (j := 0) rfl ⟨_, rfl, add_int ⟨_, rfl, ix_tup (j := 1) rfl ⟨[_, _], rfl, len2, [_, _], rfl, len2, hQ⟩⟩⟩⟩⟩
      · rw [hno q z] at hQ
        rw [gotD_none z]
        exact ⟨true, rfl, rfl, _, rfl, iteT hQ⟩
    refine ⟨_, rfl, ix_tup (j := 0) rfl ⟨_, rfl, add_int ⟨_, rfl, ix_tup (j := 1) rfl ⟨[_, _], rfl, len2, ?_⟩⟩⟩⟩
    refine ⟨_, rfl, _, rfl, _, rfl, _, rfl, _, rfl, _, rfl, fr_beliefsG ok hw hp hp hm hm2 ?_⟩
    refine repr_same hbs rfl ⟨_, rfl, repr_same hbs rfl ⟨_, rfl, tP rfl ?_⟩⟩
    refine ⟨_, rfl, _, rfl, _, rfl, _, rfl, _, rfl, _, rfl, fr_last ok hw hp hp hm hm2 ?_⟩
    rw [hsp4]
    generalize hLL : belD (FinS rs wk p m) (FinS rs wk p (shM (wk.length * (1 + h)) m)) = B at hel
    refine ⟨_, rfl, ?_⟩
    refine lc_filterY (ps.map B) (fun d => .one (.d d)) (fun d => .d (endP d)) (fun d => !noneD d) rfl trivial (by rw [List.length_map]; exact Nat.le_trans p10 (by decide)) (fun dd hdd Q N h1 h2 => ?_) (.inl ⟨_, hel, ?_⟩)
    · obtain ⟨x, _, rfl⟩ := List.mem_map.mp hdd
      rw [← hLL] at h1 h2 ⊢
      by_cases z : x ∈ ks (FinS rs wk p m)
      · rw [hval x z] at h1 h2 ⊢
        exact ⟨_, rfl, _, rfl, false, rfl, rfl, _, rfl, iteT ⟨_, rfl, ix_tup (j := 1) rfl (h1 rfl)⟩⟩
      · rw [hno x z] at h1 h2 ⊢
        exact ⟨_, rfl, _, rfl, true, rfl, rfl, _, rfl, iteF (h2 rfl)⟩
    refine ⟨_, bx, bds, rfl, .inl rfl, moms_alike hends, moms_depth hends, ?_⟩
    obtain ⟨bm, hbm⟩ := best_mom (mx := true) hends
    rw [hbm]
    refine ⟨_, _, rfl, rfl, mom_shaped _, mom_shaped _, ?_⟩
    rw [eqv_mom]
    exact feedRet hk2 (qq _ (hk2.mono (by omega)))
  · rintro xs μ Pk Ex ⟨o, k, ps, rs, wk, p, m, rfl, _⟩
    rfl
theorem ok__law_one {f : Addr} {fd : FuncData} (F : FunV K "_law_one" "_law_one" st__law_one f fd) (Z : ∀ x, x ∈ blt → mg x = none) (C__law_draw : CalG P w K mg base "_law_draw" 1 R__law_draw)  : FnG P w K mg base (L2.CX P w) 2 f fd ["_law_feed_here", "_law_things"] (SpD K R__law_one) := by
  refine cal_ofG F sc__law_one ?_ (fun cd A ou s H E W hg hr tk po => ?_)
  rotate_left
  have hN := sc__law_one.nd
  have hu := hr.units
  have hu65 := hr.units65
  refine ⟨_, (dss_one (ds_ret (dIx (d_var 1) (d_calG C__law_draw hg (hr.mono (by omega)) (da_cons (d_var 0) (da_cons (d_callB call_len s_lenU (da_cons (d_var 1) da_nil) (Z "len" (by decide))) da_nil)))))), ?_⟩
  · rintro xs μ Pk Ex old ⟨o, k, y, ds, rfl, rfl, hy, ⟨hz0, hz1⟩, hk, k1, q⟩
    have hs : SeqOf (.d y) [o] (ds.map Dl.A.d) := by
      rcases hy with rfl | rfl
      · exact .inl rfl
      · exact .inr ⟨_, rfl, rfl⟩
    refine ⟨_, rfl, _, rfl, _, rfl, len_of hs ?_⟩
    rw [List.length_map]
    refine fr_draw rfl hk k1 ⟨by omega, by omega⟩ fun r o' h0 h1 hk' => ?_
    obtain ⟨j, rfl⟩ := Int.eq_ofNat_of_zero_le h0
    have lt : j < ds.length := by omega
    have hs2 : SeqOf (.d y) [o'] (ds.map Dl.A.d) := by
      rcases hy with rfl | rfl
      · exact .inl rfl
      · exact .inr ⟨_, rfl, rfl⟩
    refine ix_of (x := .d ds[j]) hs2 (by rw [List.getElem?_map, List.getElem?_eq_getElem lt]; rfl) ?_
    exact feedRet (l := []) hk' (q _ o' (List.getElem_mem lt) hk')
  · rintro xs μ Pk Ex ⟨o, k, y, ds, rfl, _⟩
    rfl
theorem ok_listed {f : Addr} {fd : FuncData} (F : FunV K "listed" "listed" st_listed f fd)   : FnG P w K mg base (L2.CX P w) 1 f fd ["web", "known"] (SpD K R_listed) := by
  refine cal_ofG F sc_listed ?_ (fun cd A ou s H E W hg hr tk po => ?_)
  rotate_left
  have hN := sc_listed.nd
  have hu := hr.units
  have hu65 := hr.units65
  refine ⟨_, (dss_one (ds_ret (d_lc (own := [("place", 2)]) rfl hN (di_any (dIx (d_var 0) d_int)) (blkOk_by (N := ns_listed) (sc := defScope st_listed) (by decide +kernel)) (fun _ _ _ _ _ => (dg_name (i := 2) hN)) (fun _ _ _ _ _ => dts_nil) (fun _ _ _ _ _ => (d_dget1 hu (d_var 1) (d_var 2)))))), ?_⟩
  · rintro xs μ Pk Ex old ⟨ps, rs, st, rfl, rfl, lz, q⟩
    refine ⟨_, rfl, ix_tup (j := 0) rfl ?_⟩
    refine lc_mapL ps .str (lookD st) (oneD_ones _ _) trivial (Nat.le_trans lz (by decide)) (fun x hx Q hQ => ?_) ?_
    · refine ⟨_, rfl, _, rfl, 0, rfl, ⟨_, rfl⟩, _, rfl, _, .inr x, rfl, rfl, ?_⟩
      rw [valA_d]
      exact hQ
    · exact .inr (ret_keep (m := 1) (μ1 := [.dct (dA st)]) (j := 0) rfl old rfl (fun x hx => by obtain ⟨d, _, rfl⟩ := List.mem_map.mp hx; trivial) q)
  · rintro xs μ Pk Ex ⟨ps, rs, wk, rfl, _⟩
    rfl
theorem ok_is_whole {f : Addr} {fd : FuncData} (F : FunV K "is_whole" "is_whole" st_is_whole f fd) (Z : ∀ x, x ∈ blt → mg x = none)   : FnG P w K mg base (L2.CX P w) 1 f fd ["thing"] (SpD K R_is_whole) := by
  refine cal_ofG F sc_is_whole ?_ (fun cd A ou s H E W hg hr tk po => ?_)
  rotate_left
  have hN := sc_is_whole.nd
  have hu := hr.units
  have hu65 := hr.units65
  refine ⟨_, (dss_one (ds_ret (d_and (d_callB call_isi s_isiC (da_cons (d_var 0) (da_cons (d_ty (T := "int") (Z "int" (by decide))) da_nil)) (Z "isinstance" (by decide))) (d_one (d_not (d_callB call_isi s_isiC (da_cons (d_var 0) (da_cons (d_ty (T := "bool") (Z "bool" (by decide))) da_nil)) (Z "isinstance" (by decide)))))))), ?_⟩
  · rintro xs μ Pk Ex old ⟨i, rfl, rfl, q⟩
    refine ⟨_, rfl, _, _, _, true, rfl, .inl rfl, rfl, _, rfl, iteT ?_⟩
    refine ⟨_, rfl, _, _, _, false, rfl, .inl rfl, rfl, _, rfl, ?_⟩
    exact ret_data0 rfl old q
  · rintro xs μ Pk Ex ⟨i, rfl, _⟩
    rfl
end
end K55

set_option Elab.async false
set_option linter.all false
set_option maxRecDepth 100000
set_option maxHeartbeats 4000000
namespace K55
open PySem PySem.Spec PyProof.Rows L2 Dl Rp
local macro_rules | `(tactic| and_intros) => `(tactic| repeat (first | refine ⟨_, rfl, ?_⟩ | refine iteT ?_ | refine iteF ?_ | refine ⟨_, _, rfl, rfl, ?_⟩ | refine add_int ?_ | refine len_tup ?_ | refine len_lst ?_ | refine tgt2 ?_ | refine tgt3 ?_ | refine ⟨[_], rfl, len1, ?_⟩ | refine ⟨[_, _], rfl, len2, ?_⟩ | refine ⟨[_, _, _], rfl, len3, ?_⟩))
section
variable {P : Program} {w : World} {K : PySem.W.Frag} {mg : Str → Option Value} {base : Heap}
theorem ok__law_path {f : Addr} {fd : FuncData} (F : FunV K "_law_path" "_law_path" st__law_path f fd) (Z : ∀ x, x ∈ blt → mg x = none)   : FnG P w K mg base (L2.CX P w) 1 f fd ["_law_web_here", "_law_place", "_law_other"] (SpD K R__law_path) := by
  refine cal_ofG F sc__law_path ?_ (fun cd A ou s H E W hg hr tk po => ?_)
  rotate_left
  have hN := sc__law_path.nd
  have hu := hr.units
  have hu65 := hr.units65
  refine ⟨_, (dss_cons (ds_set (i := 3) hN (d_disp1 (d_var 1) (d_tup da_nil))) (dss_cons (ds_for po rfl (di_range1 (da_cons (d_callB call_len s_lenU (da_cons (dIx (d_var 0) d_int) da_nil) (Z "len" (by decide))) da_nil) (Z "range" (by decide))) (dg_name (i := 4) hN) (dss_one (ds_for po rfl (di_any (dIx (d_var 0) d_int)) (dg_tup (n := 3) rfl (dgs_cons (dg_name (i := 5) hN) (dgs_cons (dg_name (i := 6) hN) (dgs_cons (dg_name (i := 7) hN) dgs_nil)))) (dss_one (ds_if (dt_w (dw_and (t_din hu (d_var 6) (d_var 3)) (dw_and1 (t_dnotin hu (d_var 7) (d_var 3))))) (dss_one (ds_dput hu (d_var 3) (d_var 7) (dAdd (d_dget hu (d_var 3) (d_var 6)) (d_tup (da_cons (d_var 5) da_nil))))) (dss_one (ds_if (dt_w (dw_and (t_din hu (d_var 7) (d_var 3)) (dw_and1 (t_dnotin hu (d_var 6) (d_var 3))))) (dss_one (ds_dput hu (d_var 3) (d_var 6) (dAdd (d_dget hu (d_var 3) (d_var 7)) (d_tup (da_cons (d_var 5) da_nil))))) dss_nil))))))) (dss_one (ds_ret (d_dget1 hu (d_var 3) (d_var 2)))))), ?_⟩
  · rintro xs μ Pk Ex old ⟨ps, rs, p, q, rfl, rfl, ok, T, hp, hq, qq⟩
    obtain ⟨up, dep, R⟩ := T.rt p hp
    have nd := ok.r.nd
    have m10 := ok.p.most
    refine ⟨_, rfl, [], rfl, Nat.zero_le _, .inr p, rfl, ?_⟩
    refine ⟨_, rfl, ix_tup (j := 0) rfl (len_tup ⟨_, rfl, by omega, by rw [List.length_map]; omega, ?_⟩)⟩
    refine ⟨fun n ρ μ => ∃ a b c d, ρ = [some (.d (webD ps rs)), some (.d (.str p)), some (.d (.str q)), some (.c 0), a, b, c, d] ∧ μ = [.dct (dA (wyL (itP' rs p n)))], ⟨_, _, _, _, rfl, rfl⟩, ?_, ?_⟩
    · rintro n y ρ2 μ2 hy ⟨a, b, c, d, rfl, rfl⟩
      obtain ⟨hn, rfl⟩ := rngY_get hy
      refine ⟨trivial, _, rfl, _, rfl, ix_tup (j := 1) rfl ?_⟩
      refine ⟨fun i ρ μ => ∃ a b c d, ρ = [some (.d (webD ps rs)), some (.d (.str p)), some (.d (.str q)), some (.c 0), a, b, c, d] ∧ μ = [.dct (dA (wyL (passP (rs.take i) (itP' rs p n))))], ⟨_, _, _, _, rfl, rfl⟩, ?_, ?_⟩
      · rintro i y ρ3 μ3 hy ⟨a, b, c, d, rfl, rfl⟩
        rw [oneD_ones] at hy
        obtain ⟨r, hr, rfl⟩ := ones_get hy
        have I := WI.mid T R nd hp n i
        have e := passP_snoc (W := itP' rs p n) hr
        have hl := I.len
        generalize passP (rs.take i) (itP' rs p n) = W at I e hl
        have lz : (dA (wyL W)).length < sizeLine := by
          rw [dA_len]
          unfold wyL
          rw [List.length_map]
          exact Nat.lt_of_le_of_lt (show W.length ≤ 10 by omega) (by decide)
        have wl : ∀ a, a ∈ kw W → ((wayOf W a).map PyData.str).length + [PyData.str r.1].length ≤ sizeLine := fun a ha => by
          have : (wayOf W a).length < W.length := I.sz _ (wayOf_at ha)
          rw [List.length_map]
          exact Nat.le_trans (show (wayOf W a).length + 1 ≤ 11 by omega) (by decide)
        refine ⟨trivial, tgt3 ?_⟩
        refine ⟨_, rfl, _, rfl, 0, _, .inr r.2.1, rfl, rfl, rfl, _, rfl, ?_⟩
        rw [dA_in, kd_wy]
        by_cases h1 : r.2.1 ∈ kw W <;> by_cases h2 : r.2.2 ∈ kw W
        · refine fP h1 ⟨_, rfl, _, rfl, 0, _, .inr r.2.2, rfl, rfl, rfl, _, rfl, ?_⟩
          rw [dA_in, kd_wy]
          refine tP h2 ?_
          refine ⟨_, rfl, _, rfl, 0, _, .inr r.2.2, rfl, rfl, rfl, _, rfl, ?_⟩
          rw [dA_in, kd_wy]
          refine fP h2 ⟨_, rfl, _, rfl, 0, _, .inr r.2.1, rfl, rfl, rfl, _, rfl, ?_⟩
          rw [dA_in, kd_wy]
          refine tP h1 ⟨_, _, _, _, rfl, ?_⟩
          rw [e]
          unfold stepP
          rw [if_pos h1, if_pos h2]
        · refine fP h1 ⟨_, rfl, _, rfl, 0, _, .inr r.2.2, rfl, rfl, rfl, _, rfl, ?_⟩
          rw [dA_in, kd_wy]
          refine tQ h2 ?_
          refine ⟨_, rfl, _, rfl, 0, _, .inr r.2.1, _, rfl, rfl, rfl, wy_at I.nd h1, _, rfl, [_], rfl, len1, wl _ h1, ?_⟩
          refine ⟨_, rfl, _, rfl, 0, _, .inr r.2.2, rfl, rfl, rfl, lz, _, _, _, _, rfl, ?_⟩
          rw [e]
          unfold stepP
          rw [if_pos h1, if_neg h2, ← wy_put h2, ← wayD_snoc]
          rfl
        · refine fQ h1 (iteF ?_)
          refine ⟨_, rfl, _, rfl, 0, _, .inr r.2.2, rfl, rfl, rfl, _, rfl, ?_⟩
          rw [dA_in, kd_wy]
          refine fP h2 ⟨_, rfl, _, rfl, 0, _, .inr r.2.1, rfl, rfl, rfl, _, rfl, ?_⟩
          rw [dA_in, kd_wy]
          refine tQ h1 ?_
          refine ⟨_, rfl, _, rfl, 0, _, .inr r.2.2, _, rfl, rfl, rfl, wy_at I.nd h2, _, rfl, [_], rfl, len1, wl _ h2, ?_⟩
          refine ⟨_, rfl, _, rfl, 0, _, .inr r.2.1, rfl, rfl, rfl, lz, _, _, _, _, rfl, ?_⟩
          rw [e]
          unfold stepP
          rw [if_neg h1, if_pos h2, ← wy_put h1, ← wayD_snoc]
          rfl
        · refine fQ h1 (iteF ?_)
          refine ⟨_, rfl, _, rfl, 0, _, .inr r.2.2, rfl, rfl, rfl, _, rfl, ?_⟩
          rw [dA_in, kd_wy]
          refine fQ h2 (iteF ⟨_, _, _, _, rfl, ?_⟩)
          rw [e]
          unfold stepP
          rw [if_neg h1, if_neg h2]
      · rintro ρ3 μ3 ⟨a, b, c, d, rfl, rfl⟩
        refine ⟨trivial, _, _, _, _, rfl, ?_⟩
        rw [oneD_ones, List.length_map, List.take_length]
        rfl
    · rintro ρ2 μ2 ⟨a, b, c, d, rfl, rfl⟩
      rw [rngY_len]
      have I := WI.iter T R nd hp (ps.map PyData.str).length
      have hall := iter_all T R nd hp q hq
      rw [show ps.length = (ps.map PyData.str).length from (List.length_map ..).symm] at hall
      have w := wayOf_at hall
      have g := I.go _ w
      have l := I.sz _ w
      have l2 := I.len
      refine ⟨trivial, _, rfl, 0, rfl, ⟨_, rfl⟩, _, rfl, _, .inr q, rfl, rfl, ?_⟩
      rw [show (((ps.map PyData.str).length : Nat) : Int).toNat = (ps.map PyData.str).length from Int.toNat_natCast _, wy_at I.nd hall]
      have l3 : (wayOf (itP' rs p (ps.map PyData.str).length) q).length < (itP' rs p (ps.map PyData.str).length).length := l
      exact data0 (qq _ g (by omega))
  · rintro xs μ Pk Ex ⟨ps, rs, p, q, rfl, _⟩
    rfl
theorem ok__law_feed {f : Addr} {fd : FuncData} (F : FunV K "_law_feed" "_law_feed" st__law_feed f fd) (Z : ∀ x, x ∈ blt → mg x = none)   : FnG P w K mg base (L2.CX P w) 1 f fd ["_law_script", "_law_k"] (SpD K R__law_feed) := by
  refine cal_ofG F sc__law_feed ?_ (fun cd A ou s H E W hg hr tk po => ?_)
  rotate_left
  have hN := sc__law_feed.nd
  have hu := hr.units
  have hu65 := hr.units65
  refine ⟨_, (dss_cons (ds_set (i := 2) hN (dAdd (dMul d_int (d_var 1)) (d_callB (cr_sum rfl) s_sum (da_cons (d_slice (d_var 0) do_none (do_some d_int)) da_nil) (Z "sum" (by decide))))) (dss_cons (ds_if (tLt (d_var 1) (d_callB call_len s_lenU (da_cons (d_var 0) da_nil) (Z "len" (by decide)))) (dss_one (ds_set (i := 2) hN (dIx (d_var 0) (d_var 1)))) dss_nil) (dss_one (ds_ret (d_lstU (da_cons (d_callB (call_max2 rfl) s_max2 (da_cons d_int (da_cons (d_sub (d_var 2) (d_pow d_int d_int)) da_nil)) (Z "max" (by decide))) (da_cons (d_mod (d_callTy call_int1 s_int1 (da_cons (dAdd (dMul (d_var 2) d_int) (dMul d_int (d_var 1))) da_nil) (Z "int" (by decide))) (dAdd (d_pow d_int d_int) d_int)) (da_cons d_int da_nil)))))))), ?_⟩
  · rintro xs μ Pk Ex old ⟨ns, k, rfl, rfl, hk0, hk1, q⟩
    refine ⟨_, rfl, smallL (by decide) (by decide), ?_⟩
    refine ⟨_, rfl, _, rfl, .inr (.inr (.inl ⟨_, rfl, ?_⟩))⟩
    refine ⟨_, cut ns none (some 1), rfl, .inl (by rw [cut_map]), ?_⟩
    generalize (cut ns none (some 1)).sum = z0
    refine ⟨_, rfl, _, rfl, ?_⟩
    refine ⟨_, _, rfl, rfl, _, rfl, iteD (fun h => ?_) (fun h => ?_)⟩
    all_goals try (
      obtain ⟨j, rfl⟩ := Int.eq_ofNat_of_zero_le hk0
      have lt : j < ns.length := by
        rw [List.length_map] at h
        omega
      refine ⟨_, rfl, _, rfl, _, rfl, .inl ⟨_, .int ns[j], .inl rfl, Dl.atI_nat (by rw [List.getElem?_map, List.getElem?_eq_getElem lt]; rfl), ?_⟩⟩)
    all_goals
      refine ⟨_, rfl, _, _, rfl, rfl, ⟨by decide, by decide, by decide⟩, ?_⟩
      refine ⟨_, _, rfl, rfl, _, _, rfl, ?_⟩
      refine ⟨_, rfl, smallR (by decide) (by decide), ?_⟩
      refine ⟨_, rfl, smallL (by decide) (by decide), ?_⟩
      refine ⟨_, rfl, ?_⟩
      refine ⟨_, _, rfl, rfl, ⟨by decide, by decide, by decide⟩, ?_⟩
      refine ⟨_, _, rfl, rfl, (by show (0 : Int) < 10 ^ 39 + 23; decide), ?_⟩
      refine ⟨by show 3 ≤ sizeLine; decide, .inr ?_⟩
      refine keep0 (j := 0) rfl (oldO_data (m := 0) (by simp)) (q _ ⟨_, _, _, rfl, ?_, (Int.emod_nonneg _ (by show (10 : Int) ^ 39 + 23 ≠ 0; decide)), (Int.lt_trans (Int.emod_lt_of_pos _ (by show (0 : Int) < 10 ^ 39 + 23; decide)) (by decide)), Int.le_refl _, Int.le_refl _⟩)
      split <;> omega
  · rintro xs μ Pk Ex ⟨ns, k, rfl, _⟩
    rfl
theorem ok_are_places {f : Addr} {fd : FuncData} (F : FunV K "are_places" "are_places" st_are_places f fd) (Z : ∀ x, x ∈ blt → mg x = none) (C_is_name : CalG P w K mg base "is_name" 1 R_is_name) (c_MOST_PLACES : ∃ t, mg "MOST_PLACES" = some (.int 10 t)) : FnG P w K mg base (L2.CX P w) 2 f fd ["thing"] (SpD K R_are_places) := by
  refine cal_ofG F sc_are_places ?_ (fun cd A ou s H E W hg hr tk po => ?_)
  rotate_left
  have hN := sc_are_places.nd
  have hu := hr.units
  have hu65 := hr.units65
  refine ⟨_, (dss_cons (ds_if (dt_w (dw_or (dt_not (dt_truth (d_callB call_isi s_isiC (da_cons (d_var 0) (da_cons (d_ty (T := "tuple") (Z "tuple" (by decide))) da_nil)) (Z "isinstance" (by decide))))) (dw_or1 (dt_not (dt_chain op_le op_le s_le s_le d_int (d_callB call_len s_lenU (da_cons (d_var 0) da_nil) (Z "len" (by decide))) (d_constI c_MOST_PLACES)))))) (dss_one (ds_ret d_bl)) dss_nil) (dss_one (ds_ret (d_and (d_callB (cr_all rfl) s_all (da_cons (d_lc (own := [("place", 1)]) rfl hN (di_any (d_var 0)) (blkOk_by (N := ns_are_places) (sc := defScope st_are_places) (by decide +kernel)) (fun _ _ _ _ _ => (dg_name (i := 1) hN)) (fun _ _ _ _ _ => dts_nil) (fun _ _ _ _ _ => (d_calG C_is_name hg (hr.mono (by omega)) (da_cons (d_var 1) da_nil)))) da_nil) (Z "all" (by decide))) (d_one (dEq hu (d_lenK rfl (Z "len" (by decide)) (Z "set" (by decide)) (d_var 0)) (d_callB call_len s_lenU (da_cons (d_var 0) da_nil) (Z "len" (by decide))))))))), ?_⟩
  · rintro xs μ Pk Ex old ⟨ps, rfl, rfl, ok, q⟩
    have l1 : (1 : Int) ≤ ((ps.map PyData.str).length : Int) := by rw [List.length_map]; have := ok.one; omega
    have l2 : ((ps.map PyData.str).length : Int) ≤ 10 := by rw [List.length_map]; have := ok.most; omega
    refine ⟨_, rfl, _, _, _, true, rfl, .inl rfl, rfl, true, rfl, iteF ?_⟩
    refine ⟨_, rfl, _, _, rfl, rfl, _, rfl, itP l1 ⟨_, _, rfl, rfl, _, rfl, ?_⟩⟩
    refine nP l2 ?_
    refine ⟨_, rfl, ?_⟩
    refine lc_map ps .str (fun _ => .bool true) (oneD_ones _ _) trivial (Nat.le_trans ok.most (by decide)) (fun x hx Q hQ => ?_) ?_
    · exact ⟨_, rfl, _, rfl, fr_d [_] ⟨x, rfl, rfl, ok.nm x hx, bk hQ⟩⟩
    refine all_of (c := fun _ => true) ⟨_, rfl, bT (List.all_eq_true.mpr fun _ _ => rfl) ?_⟩
    refine ⟨_, rfl, ps.map Sum.inr, by rw [List.map_map]; rfl, by rw [List.length_map]; have := ok.most; unfold scanBound; omega, ?_⟩
    refine ⟨_, rfl, ?_⟩
    refine fin_b ?_ q
    rw [Bool.false_xor]
    refine decide_eq_true ?_
    rw [ddk_nodup (keys_nd ok.nd), List.length_map, List.length_map]
  · rintro xs μ Pk Ex ⟨s, rfl, _⟩
    rfl
theorem ok_ends_of {f : Addr} {fd : FuncData} (F : FunV K "ends_of" "ends_of" st_ends_of f fd)   : FnG P w K mg base (L2.CX P w) 1 f fd ["web"] (SpD K R_ends_of) := by
  refine cal_ofG F sc_ends_of ?_ (fun cd A ou s H E W hg hr tk po => ?_)
  rotate_left
  have hN := sc_ends_of.nd
  have hu := hr.units
  have hu65 := hr.units65
  refine ⟨_, (dss_one (ds_ret (d_dc (own := [("name", 1), ("near", 2), ("far", 3)]) rfl hN (di_any (dIx (d_var 0) d_int)) (blkOk_by (N := ns_ends_of) (sc := defScope st_ends_of) (by decide +kernel)) (fun _ _ _ _ _ => (dg_tup (n := 3) rfl (dgs_cons (dg_name (i := 1) hN) (dgs_cons (dg_name (i := 2) hN) (dgs_cons (dg_name (i := 3) hN) dgs_nil))))) (fun _ _ _ _ _ => dts_nil) (fun _ _ _ _ _ => (d_var 1)) (fun _ _ _ _ _ => (d_tup (da_cons (d_var 2) (da_cons (d_var 3) da_nil))))))), ?_⟩
  · rintro xs μ Pk Ex old ⟨ps, rs, rfl, rfl, ok, q⟩
    refine ⟨_, rfl, ix_tup (j := 1) rfl ?_⟩
    refine dc_map rs rdD (fun r => .inr r.1) (fun r => .d (endD r.2)) (oneD_ones _ _) trivial (Nat.le_trans ok.1 (by decide)) ?_ (fun x hx Q hQ => ?_) ?_
    · have e : rs.map (fun r => (Sum.inr r.1 : Key)) = (rnm rs).map Sum.inr := by rw [List.map_map]; rfl
      rw [e]
      exact keys_nd ok.2
    · exact tgt3 ⟨_, rfl, _, rfl, _, rfl, [_, _], rfl, len2, hQ⟩
    · refine keep0 (j := 0) rfl (fun x hx => ?_) q
      obtain ⟨r, _, rfl⟩ := List.mem_map.mp hx
      trivial
  · rintro xs μ Pk Ex ⟨ps, rs, rfl, _⟩
    rfl
theorem ok_is_web {f : Addr} {fd : FuncData} (F : FunV K "is_web" "is_web" st_is_web f fd) (Z : ∀ x, x ∈ blt → mg x = none) (C_are_places : CalG P w K mg base "are_places" 2 R_are_places) (C_are_roads_between : CalG P w K mg base "are_roads_between" 3 R_are_roads_between)  : FnG P w K mg base (L2.CX P w) 4 f fd ["thing"] (SpD K R_is_web) := by
  refine cal_ofG F sc_is_web ?_ (fun cd A ou s H E W hg hr tk po => ?_)
  rotate_left
  have hN := sc_is_web.nd
  have hu := hr.units
  have hu65 := hr.units65
  refine ⟨_, (dss_cons (ds_if (dt_w (dw_or (dt_not (dt_truth (d_callB call_isi s_isiC (da_cons (d_var 0) (da_cons (d_ty (T := "tuple") (Z "tuple" (by decide))) da_nil)) (Z "isinstance" (by decide))))) (dw_or1 (tNe hu (d_callB call_len s_lenU (da_cons (d_var 0) da_nil) (Z "len" (by decide))) d_int)))) (dss_one (ds_ret d_bl)) dss_nil) (dss_cons (ds_asg (d_var 0) (dg_tup (n := 2) rfl (dgs_cons (dg_name (i := 1) hN) (dgs_cons (dg_name (i := 2) hN) dgs_nil)))) (dss_one (ds_ret (d_and (d_calG C_are_places hg (hr.mono (by omega)) (da_cons (d_var 1) da_nil)) (d_one (d_calG C_are_roads_between hg (hr.mono (by omega)) (da_cons (d_var 1) (da_cons (d_var 2) da_nil))))))))), ?_⟩
  · rintro xs μ Pk Ex old ⟨ps, rs, rfl, rfl, ok, q⟩
    refine ⟨_, rfl, _, _, _, true, rfl, .inl rfl, rfl, true, rfl, iteF ?_⟩
    refine ⟨_, rfl, _, rfl, ?_⟩
    refine ⟨_, rfl, tgt2 ?_⟩
    refine ⟨_, rfl, fr_d [_] ⟨ps, rfl, rfl, ok.p, noO, ⟨_, rfl, iteT ?_⟩⟩⟩
    refine ⟨_, rfl, _, rfl, fr_d [_, _] ⟨ps, rs, rfl, rfl, ok.p.most, ok.r, noO, ?_⟩⟩
    exact fin_b rfl q
  · rintro xs μ Pk Ex ⟨ps, r, rfl, _⟩
    rfl
end
end K55

set_option Elab.async false
set_option linter.all false
set_option maxRecDepth 100000
set_option maxHeartbeats 4000000
namespace K55
open PySem PySem.Spec PyProof.Rows L2 Dl Rp
local macro_rules | `(tactic| and_intros) => `(tactic| repeat (first | refine ⟨_, rfl, ?_⟩ | refine iteT ?_ | refine iteF ?_ | refine ⟨_, _, rfl, rfl, ?_⟩ | refine add_int ?_ | refine len_tup ?_ | refine len_lst ?_ | refine tgt2 ?_ | refine tgt3 ?_ | refine ⟨[_], rfl, len1, ?_⟩ | refine ⟨[_, _], rfl, len2, ?_⟩ | refine ⟨[_, _, _], rfl, len3, ?_⟩))
section
variable {P : Program} {w : World} {K : PySem.W.Frag} {mg : Str → Option Value} {base : Heap}
theorem ok__law_week {f : Addr} {fd : FuncData} (F : FunV K "_law_week" "_law_week" st__law_week f fd) (Z : ∀ x, x ∈ blt → mg x = none) (C__law_draw : CalG P w K mg base "_law_draw" 1 R__law_draw) (C__law_mixed : CalG P w K mg base "_law_mixed" 2 R__law_mixed) (C__law_rota : CalG P w K mg base "_law_rota" 3 R__law_rota)  : FnG P w K mg base (L2.CX P w) 4 f fd ["_law_feed_here", "_law_web_here"] (SpD K R__law_week) := by
  refine cal_ofG F sc__law_week ?_ (fun cd A ou s H E W hg hr tk po => ?_)
  rotate_left
  have hN := sc__law_week.nd
  have hu := hr.units
  have hu65 := hr.units65
  refine ⟨_, (dss_cons (ds_set (i := 2) hN (d_calG C__law_rota hg (hr.mono (by omega)) (da_cons (d_var 0) (da_cons (d_var 1) da_nil)))) (dss_cons (ds_if (tEq hu (d_calG C__law_draw hg (hr.mono (by omega)) (da_cons (d_var 0) (da_cons d_int da_nil))) d_int) (dss_one (ds_ret (d_tup (da_cons (d_var 2) da_nil)))) dss_nil) (dss_cons (ds_set (i := 3) hN (d_lstU da_nil)) (dss_cons (ds_for po rfl (di_range1 (da_cons (dAdd d_int (d_calG C__law_draw hg (hr.mono (by omega)) (da_cons (d_var 0) (da_cons d_int da_nil)))) da_nil) (Z "range" (by decide))) (dg_name (i := 4) hN) (dss_cons (ds_set (i := 5) hN (d_calG C__law_mixed hg (hr.mono (by omega)) (da_cons (d_var 0) (da_cons (d_var 2) da_nil)))) (dss_one (ds_expr (d_bm PySem.F.plainAttrs_list PySem.F.slot_list_append PySem.F.type_list_append mt_append s_append (d_var 3) (da_cons (d_callTy call_tupleN s_tuple (da_cons (d_if (tEq hu (d_calG C__law_draw hg (hr.mono (by omega)) (da_cons (d_var 0) (da_cons d_int da_nil))) d_int) (d_var 5) (d_slice (d_var 5) do_none (do_some (d_calG C__law_draw hg (hr.mono (by omega)) (da_cons (d_var 0) (da_cons (dAdd (d_callB call_len s_lenU (da_cons (d_var 5) da_nil) (Z "len" (by decide))) d_int) da_nil)))))) da_nil) (Z "tuple" (by decide))) da_nil)))))) (dss_one (ds_ret (d_callTy call_tupleN s_tuple (da_cons (d_var 3) da_nil) (Z "tuple" (by decide))))))))), ?_⟩
  · rintro xs μ Pk Ex old ⟨o, k, ps, rs, rfl, rfl, lz, nd, hk, k1, q⟩
    refine ⟨_, rfl, _, rfl, fr_rota rfl hk (by omega) lz fun ss o1 hp hk1 => ?_⟩
    have k0 := hk.pos
    have ssl : ss.length = rs.length := by rw [hp.length_eq, List.length_map]
    have rok : ∀ (s2 : List Str) (j : Nat), s2.Perm ss → RoundOk rs (s2.take j) := fun s2 j h => by
      have h2 := h.trans hp
      refine ⟨(List.take_sublist j s2).nodup (h2.nodup_iff.mpr nd), fun n hn => h2.mem_iff.mp (List.mem_of_mem_take hn)⟩
    refine ⟨_, rfl, fr_draw rfl hk1 (by omega) ⟨by decide, by decide⟩ fun r o2 _ _ hk2 => ?_⟩
    refine ⟨_, rfl, iteE (fun h => ?_) (fun h => ?_)⟩
    · refine ⟨_, rfl, [roundD ss], rfl, len1, ?_⟩
      have fd : FD (k + 100) o2 := hk2.mono (by omega)
      refine feedRet (l := []) fd (q [ss] o2 ⟨by show 1 ≤ 1; omega, by show 1 ≤ 4; omega, fun r hr => ?_⟩ fd)
      rw [List.mem_singleton.mp hr]
      have := rok ss ss.length (List.Perm.refl _)
      rwa [List.take_length] at this
    refine ⟨Nat.zero_le _, .inr ?_⟩
    refine ⟨_, rfl, fr_draw rfl hk2 (by omega) ⟨by decide, by decide⟩ fun r o3 hr0 hr1 hk3 => ?_⟩
    refine ⟨_, rfl, by omega, by omega, ?_⟩
    refine ⟨fun i ρ2 μ2 => ∃ (wk : List (List Str)) (o' : O) (t u : Option Dl.A), ρ2 = [some (.c 0), some (.d (webD ps rs)), some (.d (roundD ss)), some (.c 1), t, u] ∧ μ2 = [o', .lst ((wk.map roundD).map Dl.A.d)] ∧ wk.length = i ∧ (∀ r ∈ wk, RoundOk rs r) ∧ FD (k + 16 + i * 16) o',
      ⟨[], o3, none, none, rfl, rfl, rfl, (fun r hr => nomatch hr), hk3.mono (by omega)⟩, ?_, ?_⟩
    · rintro i y' ρ2 μ2 hy' ⟨wk, o', t, u, rfl, rfl, hl, hw, hk'⟩
      obtain ⟨lt, rfl⟩ := rngY_get hy'
      have hi : i < 4 := by omega
      refine ⟨trivial, _, rfl, ?_⟩
      refine ⟨_, rfl, _, rfl, fr_mixed PyData.str ss rfl (.inr rfl) hk' (by omega) (by omega) fun s2 o4 hp2 hk4 => ?_⟩
      have s2l : s2.length = rs.length := by rw [hp2.length_eq, ssl]
      have last : ∀ (j : Nat) (o6 : O), FD (k + 16 + i * 16 + 16) o6 → wk.length < sizeLine ∧ ∃ (wk' : List (List Str)) (o' : O) (t u : Option Dl.A), [some (.c 0), some (.d (webD ps rs)), some (.d (roundD ss)), some (.c 1), some (.d (.int (0 + (i : Int)))), some (.d (.list (s2.map .str)))] = [some (.c 0), some (.d (webD ps rs)), some (.d (roundD ss)), some (.c 1), t, u] ∧
          [o6, .lst ((wk.map roundD).map Dl.A.d ++ [.d (roundD (s2.take j))])] = [o', .lst ((wk'.map roundD).map Dl.A.d)] ∧ wk'.length = i + 1 ∧ (∀ r ∈ wk', RoundOk rs r) ∧ FD (k + 16 + ((i + 1 : Nat) : Int) * 16) o' := fun j o6 hk6 => by
        refine ⟨Nat.lt_of_lt_of_le (show wk.length < 4 by omega) (by decide), wk ++ [s2.take j], o6, _, _, rfl, by rw [List.map_append, List.map_append]; rfl, by rw [List.length_append, hl]; rfl, fun r hr => ?_, hk6.mono (by omega)⟩
        rcases List.mem_append.mp hr with hr | hr
        · exact hw r hr
        · rw [List.mem_singleton.mp hr]
          exact rok s2 j hp2
      refine ⟨_, rfl, .inr (.inl ⟨rfl, .inr ⟨1, _, rfl, rfl⟩⟩), ?_⟩
      refine ⟨_, rfl, fr_draw rfl hk4 (by omega) ⟨by decide, by decide⟩ fun r2 o5 _ _ hk5 => ?_⟩
      refine ⟨_, rfl, iteE (fun h => ?_) (fun h => ?_)⟩
      · refine ⟨_, rfl, _, _, rfl, .inl rfl, ?_⟩
        obtain ⟨l1, l2⟩ := last s2.length o5 (hk5.mono (by omega))
        rw [List.take_length] at l2
        exact ⟨1, _, _, rfl, rfl, rfl, by rw [List.length_map, List.length_map]; exact l1, l2⟩
      · refine ⟨_, rfl, _, rfl, _, rfl, ?_⟩
        have sll : (s2.map PyData.str).length = s2.length := List.length_map ..
        refine len_lst (add_int ?_)
        refine fr_draw rfl hk5 (by omega) ?_ fun r3 o6 hr2 hr3 hk6 => ?_
        · constructor <;> omega
        obtain ⟨j, rfl⟩ := Int.eq_ofNat_of_zero_le hr2
        refine ⟨_, rfl, .inr (.inr (.inl ⟨_, rfl, ?_⟩))⟩
        rw [cut_map, cut_nat]
        refine ⟨_, _, rfl, .inl rfl, ?_⟩
        obtain ⟨l1, l2⟩ := last j o6 (hk6.mono (by omega))
        exact ⟨1, _, _, rfl, rfl, rfl, by rw [List.length_map, List.length_map]; exact l1, l2⟩
    · rintro ρ2 μ2 ⟨wk, o', t, u, rfl, rfl, hl, hw, hk'⟩
      rw [rngY_len] at hl hk'
      refine ⟨trivial, _, rfl, _, wk.map roundD, rfl, .inr (.inr ⟨1, rfl, rfl⟩), ?_⟩
      have fd : FD (k + 100) o' := hk'.mono (by omega)
      exact feedRet fd (q wk o' ⟨by omega, by omega, hw⟩ fd)
  · rintro xs μ Pk Ex ⟨o, k, ps, rs, rfl, _⟩
    rfl
theorem ok__law_moment {f : Addr} {fd : FuncData} (F : FunV K "_law_moment" "_law_moment" st__law_moment f fd) (Z : ∀ x, x ∈ blt → mg x = none) (C__law_draw : CalG P w K mg base "_law_draw" 1 R__law_draw) (C__law_round : CalG P w K mg base "_law_round" 1 R__law_round)  : FnG P w K mg base (L2.CX P w) 2 f fd ["_law_feed_here", "_law_week_here"] (SpD K R__law_moment) := by
  refine cal_ofG F sc__law_moment ?_ (fun cd A ou s H E W hg hr tk po => ?_)
  rotate_left
  have hN := sc__law_moment.nd
  have hu := hr.units
  have hu65 := hr.units65
  refine ⟨_, (dss_cons (ds_set (i := 2) hN (d_if (tGt (d_calG C__law_draw hg (hr.mono (by omega)) (da_cons (d_var 0) (da_cons d_int da_nil))) d_int) (dAdd d_int (d_calG C__law_draw hg (hr.mono (by omega)) (da_cons (d_var 0) (da_cons d_int da_nil)))) (dAdd d_int (d_calG C__law_draw hg (hr.mono (by omega)) (da_cons (d_var 0) (da_cons d_int da_nil)))))) (dss_one (ds_ret (d_tup (da_cons (d_var 2) (da_cons (d_calG C__law_draw hg (hr.mono (by omega)) (da_cons (d_var 0) (da_cons (dAdd (d_callB call_len s_lenU (da_cons (d_calG C__law_round hg (hr.mono (by omega)) (da_cons (d_var 1) (da_cons (d_var 2) da_nil))) da_nil) (Z "len" (by decide))) d_int) da_nil))) da_nil)))))), ?_⟩
  · rintro xs μ Pk Ex old ⟨o, k, wk, rfl, rfl, hw, h14, hk, k1, q⟩
    have k0 := hk.pos
    have fin : ∀ (d : Int) (o2 : O), 1 ≤ d → d ≤ 1000000 → FD (k + 2) o2 → dsRet (dTup (daCons (dVar 2) (daCons (dFn (FR R__law_draw) (daCons (dVar 0) (daCons (dOp rdAdd (dCall rdLenU (daCons (dFn (FR R__law_round) (daCons (dVar 1) (daCons (dVar 2) daNil))) daNil)) (dC (.d (.int 1)))) daNil))) daNil))) { nx := fun x μ' => RetD [o].length Pk (.d .none) μ', rt := RetD [o].length Pk, ex := OutD [o].length Ex } [some (.c 0), some (.d (weekD wk)), some (.d (.int d))] [o2] := fun d o2 d1 d2 hk2 => by
      refine ⟨_, rfl, _, rfl, _, rfl, _, rfl, fr_d [_, _] ⟨wk, d, rfl, rfl, hw, noO, ?_⟩⟩
      have l14 := h14 d
      have ll : ((roundAt wk d).map PyData.str).length = (roundAt wk d).length := List.length_map ..
      rw [List.append_nil]
      refine len_tup (add_int ?_)
      refine fr_draw rfl hk2 (by omega) ?_ fun r o3 h0 h1 hk3 => ?_
      · constructor <;> omega
      refine ⟨[_, _], rfl, len2, ?_⟩
      have fd : FD (k + 3) o3 := hk3.mono (by omega)
      exact feedRet (l := []) fd (q (d, r) o3 (.mk4 d1 d2 h0 (by show r ≤ ((roundAt wk d).length : Int); omega)) fd)
    refine ⟨_, rfl, fr_draw rfl hk (by omega) ⟨by decide, by decide⟩ fun r o1 h0 h1 hk1 => ?_⟩
    refine ⟨_, _, rfl, rfl, _, rfl, iteD (fun h => ?_) (fun h => ?_)⟩
    · exact ⟨_, rfl, fr_draw rfl hk1 (by omega) ⟨by decide, by decide⟩ fun r o2 h0 h1 hk2 => fin (1 + r) o2 (by omega) (by omega) (hk2.mono (by omega))⟩
    · exact ⟨_, rfl, fr_draw rfl hk1 (by omega) ⟨by decide, by decide⟩ fun r o2 h0 h1 hk2 => fin (999990 + r) o2 (by omega) (by omega) (hk2.mono (by omega))⟩
  · rintro xs μ Pk Ex ⟨o, k, wk, rfl, _⟩
    rfl
theorem ok_are_unlike_roads {f : Addr} {fd : FuncData} (F : FunV K "are_unlike_roads" "are_unlike_roads" st_are_unlike_roads f fd) (Z : ∀ x, x ∈ blt → mg x = none)   : FnG P w K mg base (L2.CX P w) 1 f fd ["web", "thing"] (SpD K R_are_unlike_roads) := by
  refine cal_ofG F sc_are_unlike_roads ?_ (fun cd A ou s H E W hg hr tk po => ?_)
  rotate_left
  have hN := sc_are_unlike_roads.nd
  have hu := hr.units
  have hu65 := hr.units65
  refine ⟨_, (dss_cons (ds_set (i := 2) hN (d_lc (own := [("road", 3)]) rfl hN (di_any (dIx (d_var 0) d_int)) (blkOk_by (N := ns_are_unlike_roads) (sc := defScope st_are_unlike_roads) (by decide +kernel)) (fun _ _ _ _ _ => (dg_name (i := 3) hN)) (fun _ _ _ _ _ => dts_nil) (fun _ _ _ _ _ => (dIx (d_var 3) d_int)))) (dss_cons (ds_if (dt_w (dw_or (dt_not (dt_truth (d_callB call_isi s_isiC (da_cons (d_var 1) (da_cons (d_ty (T := "tuple") (Z "tuple" (by decide))) da_nil)) (Z "isinstance" (by decide))))) (dw_or1 (tGt (d_callB call_len s_lenU (da_cons (d_var 1) da_nil) (Z "len" (by decide))) (d_callB call_len s_lenU (da_cons (d_var 2) da_nil) (Z "len" (by decide))))))) (dss_one (ds_ret d_bl)) dss_nil) (dss_cons (ds_if (dt_not (dt_truth (d_callB (cr_all rfl) s_all (da_cons (d_lc (own := [("name", 4)]) rfl hN (di_any (d_var 1)) (blkOk_by (N := ns_are_unlike_roads) (sc := defScope st_are_unlike_roads) (by decide +kernel)) (fun _ _ _ _ _ => (dg_name (i := 4) hN)) (fun _ _ _ _ _ => dts_nil) (fun _ _ _ _ _ => (d_and (d_callB call_isi s_isiC (da_cons (d_var 4) (da_cons (d_ty (T := "str") (Z "str" (by decide))) da_nil)) (Z "isinstance" (by decide))) (d_one (dIn (d_var 4) (d_var 2)))))) da_nil) (Z "all" (by decide))))) (dss_one (ds_ret d_bl)) dss_nil) (dss_one (ds_ret (dEq hu (d_lenK rfl (Z "len" (by decide)) (Z "set" (by decide)) (d_var 1)) (d_callB call_len s_lenU (da_cons (d_var 1) da_nil) (Z "len" (by decide))))))))), ?_⟩
  · rintro xs μ Pk Ex old ⟨ps, rs, r, rfl, rfl, lz, ok, q⟩
    have lr : r.length ≤ rs.length := nd_le ok
    refine ⟨_, rfl, ix_tup (j := 1) rfl ?_⟩
    refine lc_map rs rdD (fun r => .str r.1) (oneD_ones _ _) trivial (Nat.le_trans lz (by decide)) (fun x hx Q hQ => ⟨_, rfl, _, rfl, ix_tup (j := 0) rfl hQ⟩) ?_
    refine ⟨_, rfl, _, _, _, true, rfl, .inl rfl, rfl, true, rfl, iteF ?_⟩
    refine ⟨_, rfl, _, rfl, _, _, rfl, rfl, _, rfl, itQ (by rw [List.length_map, List.length_map]; omega) ?_⟩
    refine ⟨_, rfl, ?_⟩
    refine lc_map r .str (fun s => .bool (false ^^ decide (s ∈ rnm rs))) (oneD_ones _ _) trivial (Nat.le_trans (Nat.le_trans lr lz) (by decide)) (fun x hx Q hQ => ?_) ?_
    · refine ⟨_, rfl, _, rfl, _, _, _, true, rfl, .inl rfl, rfl, true, rfl, iteT ?_⟩
      refine ⟨_, rfl, _, rfl, ?_⟩
      rw [show rs.map (fun r => PyData.str r.1) = (rnm rs).map .str by rw [List.map_map]; rfl]
      exact in_lst hQ
    refine all_of ⟨_, rfl, nT (List.all_eq_true.mpr fun x hx => decI (ok.sub x hx)) ?_⟩
    refine ⟨_, rfl, r.map Sum.inr, by rw [List.map_map]; rfl, by rw [List.length_map]; have := lz; unfold scanBound; omega, ?_⟩
    refine ⟨_, rfl, ?_⟩
    refine fin_b (decI ?_) q
    rw [ddk_nodup (keys_nd ok.nd), List.length_map, List.length_map]
  · rintro xs μ Pk Ex ⟨ps, rs, p, rfl, _⟩
    rfl
theorem ok__law_some_web {f : Addr} {fd : FuncData} (F : FunV K "_law_some_web" "_law_some_web" st__law_some_web f fd) (C__law_big_web : CalG P w K mg base "_law_big_web" 3 R__law_webT) (C__law_draw : CalG P w K mg base "_law_draw" 1 R__law_draw) (C__law_web : CalG P w K mg base "_law_web" 4 R__law_webT)  : FnG P w K mg base (L2.CX P w) 5 f fd ["_law_feed_here", "_law_way"] (SpD K R__law_some_webT) := by
  refine cal_ofG F sc__law_some_web ?_ (fun cd A ou s H E W hg hr tk po => ?_)
  rotate_left
  have hN := sc__law_some_web.nd
  have hu := hr.units
  have hu65 := hr.units65
  refine ⟨_, (dss_one (ds_ret (d_if (tEq hu (d_calG C__law_draw hg (hr.mono (by omega)) (da_cons (d_var 0) (da_cons d_int da_nil))) d_int) (d_calG C__law_big_web hg (hr.mono (by omega)) (da_cons (d_var 0) (da_cons (d_var 1) da_nil))) (d_calG C__law_web hg (hr.mono (by omega)) (da_cons (d_var 0) (da_cons (d_var 1) da_nil)))))), ?_⟩
  · rintro xs μ Pk Ex old ⟨o, k, way, rfl, rfl, hk, k1, q⟩
    refine ⟨_, rfl, fr_draw rfl hk (by omega) ⟨by decide, by decide⟩ fun r o1 h0 h1 hk1 => ?_⟩
    refine ⟨_, rfl, iteE (fun h => ?_) (fun h => ?_)⟩
    · refine ⟨_, rfl, _, rfl, fr_webW rfl hk1 (by omega) fun ps rs o2 ok T hk2 => ?_⟩
      have fd : FD (k + 300) o2 := hk2.mono (by omega)
      exact feedRet (l := []) fd (q ps rs o2 ok T fd)
    · refine ⟨_, rfl, _, rfl, fr_webW rfl hk1 (by omega) fun ps rs o2 ok T hk2 => ?_⟩
      have fd : FD (k + 300) o2 := hk2.mono (by omega)
      exact feedRet (l := []) fd (q ps rs o2 ok T fd)
  · rintro xs μ Pk Ex ⟨o, k, ws, rfl, _⟩
    rfl
theorem ok_round_of {f : Addr} {fd : FuncData} (F : FunV K "round_of" "round_of" st_round_of f fd) (Z : ∀ x, x ∈ blt → mg x = none)   : FnG P w K mg base (L2.CX P w) 1 f fd ["week", "day"] (SpD K R_round_of) := by
  refine cal_ofG F sc_round_of ?_ (fun cd A ou s H E W hg hr tk po => ?_)
  rotate_left
  have hN := sc_round_of.nd
  have hu := hr.units
  have hu65 := hr.units65
  refine ⟨_, (dss_one (ds_ret (dIx (d_var 0) (d_mod (d_sub (d_var 1) d_int) (d_callB call_len s_lenU (da_cons (d_var 0) da_nil) (Z "len" (by decide))))))), ?_⟩
  · rintro xs μ Pk Ex old ⟨wk, day, rfl, rfl, hw, q⟩
    have hl : (wk.map roundD).length = wk.length := List.length_map ..
    refine ⟨_, rfl, _, rfl, _, _, rfl, rfl, _, rfl, _, _, rfl, rfl, by rw [hl]; omega, ?_⟩
    refine ix_tupI (z := roundD (roundAt wk day)) (by rw [hl]; exact (round_ix hw.1).1) (by rw [hl]; exact (round_ix hw.1).2) (ret_data0 rfl old q)
  · rintro xs μ Pk Ex ⟨ps, day, rfl, _⟩
    rfl
end
end K55

set_option Elab.async false
set_option linter.all false
set_option maxRecDepth 100000
set_option maxHeartbeats 4000000
namespace K55
open PySem PySem.Spec PyProof.Rows L2 Dl Rp
local macro_rules | `(tactic| and_intros) => `(tactic| repeat (first | refine ⟨_, rfl, ?_⟩ | refine iteT ?_ | refine iteF ?_ | refine ⟨_, _, rfl, rfl, ?_⟩ | refine add_int ?_ | refine len_tup ?_ | refine len_lst ?_ | refine tgt2 ?_ | refine tgt3 ?_ | refine ⟨[_], rfl, len1, ?_⟩ | refine ⟨[_, _], rfl, len2, ?_⟩ | refine ⟨[_, _, _], rfl, len3, ?_⟩))
section
variable {P : Program} {w : World} {K : PySem.W.Frag} {mg : Str → Option Value} {base : Heap}
theorem ok_beliefs {f : Addr} {fd : FuncData} (F : FunV K "beliefs" "beliefs" st_beliefs f fd) (C_listed : CalG P w K mg base "listed" 1 R_listed) (C_need_moment : CalG P w K mg base "need_moment" 4 R_need_moment) (C_need_place : CalG P w K mg base "need_place" 1 R_need_place) (C_need_web : CalG P w K mg base "need_web" 5 R_need_web) (C_need_week : CalG P w K mg base "need_week" 3 R_need_week) (CD_spread : CalG P w K mg base "spread" 2 RC_spread)  : FnG P w K mg base (L2.CX P w) 6 f fd ["web", "week", "place", "moment", "other", "later"] (SpD K R_beliefsG) := by
  refine cal_ofG F sc_beliefs ?_ (fun cd A ou s H E W hg hr tk po => ?_)
  rotate_left
  have hN := sc_beliefs.nd
  have hu := hr.units
  have hu65 := hr.units65
  refine ⟨_, (dss_cons (ds_expr (d_calG C_need_web hg (hr.mono (by omega)) (da_cons (d_var 0) da_nil))) (dss_cons (ds_expr (d_calG C_need_week hg (hr.mono (by omega)) (da_cons (d_var 0) (da_cons (d_var 1) da_nil)))) (dss_cons (ds_expr (d_calG C_need_place hg (hr.mono (by omega)) (da_cons (d_var 0) (da_cons (d_var 2) da_nil)))) (dss_cons (ds_expr (d_calG C_need_moment hg (hr.mono (by omega)) (da_cons (d_var 1) (da_cons (d_var 3) da_nil)))) (dss_cons (ds_expr (d_calG C_need_place hg (hr.mono (by omega)) (da_cons (d_var 0) (da_cons (d_var 4) da_nil)))) (dss_cons (ds_expr (d_calG C_need_moment hg (hr.mono (by omega)) (da_cons (d_var 1) (da_cons (d_var 5) da_nil)))) (dss_cons (ds_set (i := 6) hN (d_calG CD_spread hg (hr.mono (by omega)) (da_cons (d_var 0) (da_cons (d_var 1) (da_cons (d_var 2) (da_cons (d_var 3) da_nil)))))) (dss_cons (ds_set (i := 7) hN (d_calG CD_spread hg (hr.mono (by omega)) (da_cons (d_var 0) (da_cons (d_var 1) (da_cons (d_var 4) (da_cons (d_var 5) da_nil)))))) (dss_cons (ds_set (i := 8) hN d_disp0) (dss_cons (ds_lock 6 (ds_for po rfl (di_items (d_var 6)) (dg_tup (n := 2) rfl (dgs_cons (dg_name (i := 9) hN) (dgs_cons (dg_name (i := 10) hN) dgs_nil))) (dss_cons (ds_set (i := 11) hN (d_dget1 hu (d_var 7) (d_var 9))) (dss_one (ds_if (dt_w (dw_or (tIs (d_var 11) d_non) (dw_or1 (tLtT hu (d_var 10) (d_var 11))))) (dss_one (ds_dput hu (d_var 8) (d_var 9) (d_tup (da_cons (d_var 10) (da_cons (d_var 11) da_nil))))) dss_nil))))) (dss_one (ds_ret (d_calG C_listed hg (hr.mono (by omega)) (da_cons (d_var 0) (da_cons (d_var 8) da_nil))))))))))))))), ?_⟩
  · rintro xs μ Pk Ex old ⟨ps, rs, wk, p, q, m, m', rfl, rfl, ok, hw, hp, hq, hm, hm', qq⟩
    have p10 := ok.p.most
    refine ⟨_, rfl, fr_need_web ok ?_⟩
    refine ⟨_, rfl, _, rfl, fr_need_week ok hw ?_⟩
    refine ⟨_, rfl, _, rfl, fr_need_place hp ?_⟩
    refine ⟨_, rfl, _, rfl, fr_need_moment hw hm ?_⟩
    refine ⟨_, rfl, _, rfl, fr_need_place hq ?_⟩
    refine ⟨_, rfl, _, rfl, fr_need_moment hw hm' ?_⟩
    refine ⟨_, rfl, _, rfl, _, rfl, _, rfl, fr_spread ok hw hp hm.toMomS ?_⟩
    refine ⟨_, rfl, _, rfl, _, rfl, _, rfl, fr_spread ok hw hq hm'.toMomS ?_⟩
    have inv := fin_inv (p := p) (m := m) ok hw
    have stl := inv.len ok.r hp
    rw [← look_bel inv.nd] at qq
    generalize FinS rs wk p m = a at inv stl qq
    generalize FinS rs wk q m' = b at qq
    refine ⟨0, stA a, rfl, rfl, fun od vs => ?_⟩
    refine ⟨_, rfl, 0, od, vs, stA a, rfl, rfl, ?_⟩
    refine ⟨fun i ρ μ => ∃ (u v w : Option Dl.A), ρ = [some (.d (webD ps rs)), some (.d (weekD wk)), some (.d (.str p)), some (.d (momD m)), some (.d (.str q)), some (.d (momD m')), some (.c 0), some (.c 1), some (.c 2), u, v, w] ∧ μ = [.fdct od vs (stA a), .dct (stA b), .dct (dA (belG (a.take i) b))], ⟨_, _, _, rfl, rfl⟩, ?_, ?_⟩
    · rintro i y ρ3 μ3 hy ⟨u, v, w, rfl, rfl⟩
      have hy2 : ∃ x, a[i]? = some x ∧ y = .two (.d (.str x.1)) (.d (momD x.2)) := by
        unfold stA at hy
        rw [List.map_map, List.getElem?_map] at hy
        cases e : a[i]? with
        | none => rw [e] at hy; cases hy
        | some x =>
          rw [e] at hy
          exact ⟨x, rfl, (Option.some.inj hy).symm⟩
      obtain ⟨x, hx, rfl⟩ := hy2
      have lz : (dA (belG (a.take i) b)).length < sizeLine := by
        rw [dA_len]
        refine Nat.lt_of_le_of_lt (Nat.le_trans (belG_len _ _) ?_) (show 10 < sizeLine by decide)
        rw [List.length_take]
        omega
      refine ⟨rfl, tgtY2 ?_⟩
      refine ⟨_, rfl, 1, rfl, ⟨_, rfl⟩, _, rfl, _, .inr x.1, rfl, rfl, ?_⟩
      by_cases hb : x.1 ∈ ks b
      · rw [(valS_at b x.1 hb).1]
        refine ⟨_, rfl, false, rfl, rfl, _, rfl, iteF ⟨_, rfl, _, rfl, _, _, _, _, rfl, rfl, _, rfl, iteD (fun hlt => ?_) (fun hge => ?_)⟩⟩
        · have hv : belV b x = some (.tuple [momD x.2, momD (valS b x.1)]) := by
            unfold belV
            rw [if_pos hb, if_pos (show Lt2 x.2 (valS b x.1) from hlt)]
          refine ⟨_, rfl, _, rfl, [_, _], rfl, len2, _, rfl, _, rfl, 2, _, .inr x.1, rfl, rfl, rfl, lz, _, _, _, rfl, ?_⟩
          exact congrArg (fun z => [O.fdct od vs (stA a), O.dct (stA b), O.dct z]) (bel_step inv.nd hx hv)
        · have hv : belV b x = none := by
            unfold belV
            rw [if_pos hb, if_neg (show ¬ Lt2 x.2 (valS b x.1) from hge)]
          exact ⟨_, _, _, rfl, congrArg (fun z => [O.fdct od vs (stA a), O.dct (stA b), O.dct z]) (bel_skip hx hv)⟩
      · have e0 : valA (stA b) (.inr x.1) = none := by
          have := valA_in b x.1
          rw [decide_eq_false hb] at this
          cases e : valA (stA b) (.inr x.1) with
          | none => rfl
          | some z => rw [e] at this; cases this
        rw [e0]
        have hv : belV b x = some (.tuple [momD x.2, .none]) := by
          unfold belV
          rw [if_neg hb]
        refine ⟨_, rfl, true, rfl, rfl, _, rfl, iteT ?_⟩
        refine ⟨_, rfl, _, rfl, [_, _], rfl, len2, _, rfl, _, rfl, 2, _, .inr x.1, rfl, rfl, rfl, lz, _, _, _, rfl, ?_⟩
        exact congrArg (fun z => [O.fdct od vs (stA a), O.dct (stA b), O.dct z]) (bel_step inv.nd hx hv)
    · rintro ρ3 μ3 ⟨u, v, w, rfl, rfl⟩
      refine ⟨rfl, rfl, ?_⟩
      rw [List.length_map, show (stA a).length = a.length from List.length_map .., List.take_length]
      refine ⟨_, rfl, _, rfl, [2], [.d (webD ps rs), .c 0], [.dct (dA (belG a b))], pick1 rfl (dO_dA _), rfl, ?_, ?_⟩
      · rintro z hz
        rcases List.mem_cons.mp hz with rfl | hz
        · trivial
        · rw [List.mem_singleton.mp hz]
          exact Nat.zero_lt_one
      refine ⟨ps, rs, _, rfl, rfl, p10, fun u hu => ?_, ?_⟩
      · rcases List.mem_cons.mp hu with rfl | hu
        · exact dO_dA _
        · rw [List.mem_singleton.mp hu]
          exact fun x hx => by obtain ⟨d, _, rfl⟩ := List.mem_map.mp hx; exact ⟨_, rfl⟩
      exact frz0 (j := 3) rfl qq
  · rintro xs μ Pk Ex ⟨ps, rs, wk, p, q, m, m', rfl, _⟩
    rfl
theorem ok_last_belief {f : Addr} {fd : FuncData} (F : FunV K "last_belief" "last_belief" st_last_belief f fd) (Z : ∀ x, x ∈ blt → mg x = none) (C_beliefs : CalG P w K mg base "beliefs" 6 R_beliefsG)  : FnG P w K mg base (L2.CX P w) 7 f fd ["web", "week", "place", "moment", "other", "later"] (SpD K R_last_belief) := by
  refine cal_ofG F sc_last_belief ?_ (fun cd A ou s H E W hg hr tk po => ?_)
  rotate_left
  have hN := sc_last_belief.nd
  have hu := hr.units
  have hu65 := hr.units65
  refine ⟨_, (dss_cons (ds_setLc (i := 6) (own := [("span", 8)]) rfl hN (di_any (d_calG C_beliefs hg (hr.mono (by omega)) (da_cons (d_var 0) (da_cons (d_var 1) (da_cons (d_var 2) (da_cons (d_var 3) (da_cons (d_var 4) (da_cons (d_var 5) da_nil)))))))) (blkOk_by (N := ns_last_belief) (sc := defScope st_last_belief) (by decide +kernel)) (fun _ _ _ _ _ => (dg_name (i := 8) hN)) (fun _ _ _ _ _ => (dts_one (tIsNot (d_var 8) d_non))) (fun _ _ _ _ _ => (d_var 8)) (sw_true rfl rfl rfl rfl)) (dss_cons (ds_setLc (i := 7) (own := [("_", 9), ("until", 10)]) rfl hN (di_any (d_var 6)) (blkOk_by (N := ns_last_belief) (sc := defScope st_last_belief) (by decide +kernel)) (fun _ _ _ _ _ => (dg_tup (n := 2) rfl (dgs_cons (dg_name (i := 9) hN) (dgs_cons (dg_name (i := 10) hN) dgs_nil)))) (fun _ _ _ _ _ => dts_nil) (fun _ _ _ _ _ => (d_var 10)) (sw_true rfl rfl rfl rfl)) (dss_cons (ds_if (tInT hu65 d_non (d_var 7)) (dss_one (ds_ret d_non)) dss_nil) (dss_one (ds_ret (d_bestD (mx := true) rfl hu (da_cons (d_var 7) da_nil) (dk_cons (d_callB (call_minP rfl hu) s_minP (da_cons (d_var 3) (da_cons (d_var 5) da_nil)) (Z "min" (by decide))) dk_nil) (Z "max" (by decide)) (by decide +kernel))))))), ?_⟩
  · rintro xs μ Pk Ex old ⟨ps, rs, wk, p, q, m, m', rfl, rfl, ok, hw, hp, hq, hm, hm', qq⟩
    have p10 := ok.p.most
    refine ⟨_, rfl, _, rfl, _, rfl, _, rfl, _, rfl, _, rfl, fr_beliefsG ok hw hp hq hm hm' ?_⟩
    generalize FinS rs wk p m = a at qq
    generalize FinS rs wk q m' = b at qq
    refine lc_filterY (ps.map (belD a b)) (fun d => .one (.d d)) Dl.A.d (fun d => !noneD d) rfl trivial (by rw [List.length_map]; exact Nat.le_trans p10 (by decide)) (fun d hd Q N h1 h2 => ?_) (.inl ⟨(ps.map (belD a b)).filter (fun d => !noneD d), rfl, ?_⟩)
    · obtain ⟨x, _, rfl⟩ := List.mem_map.mp hd
      refine ⟨_, rfl, _, rfl, _, noneA_bel a b x, rfl, _, rfl, ?_⟩
      cases e : noneD (belD a b x) with
      | true => exact iteF (h2 (by rw [e]; rfl))
      | false => exact iteT ⟨_, rfl, h1 (by rw [e]; rfl)⟩
    rw [spans_list]
    generalize hsp : spans a b ps = sp at qq
    have spl : sp.length ≤ 10 := by
      rw [← hsp]
      exact Nat.le_trans (spans_len a b ps) p10
    refine ⟨_, rfl, ?_⟩
    refine lc_mapY sp (fun s => .one (.d (spD s))) (fun s => .d (oD s.2)) (oneD_ones _ _) trivial (Nat.le_trans spl (by decide)) (fun s hs Q hQ => tgt2 ⟨_, rfl, hQ⟩) (.inl ⟨sp.map (fun s => oD s.2), by rw [List.map_map]; rfl, ?_⟩)
    have shp : SeqAt.shaped (.tuple (sp.map fun s => oD s.2)) = true := oD_shaped sp
    refine ⟨_, rfl, .none, _, rfl, .inr rfl, rfl, shp, _, rfl, ?_⟩
    rw [any_none]
    unfold lastD at qq
    by_cases z : none ∈ sp.map fun s => s.2
    · rw [if_pos z] at qq
      exact fP z (data0 qq)
    · rw [if_neg z] at qq
      refine fQ z ?_
      have mm := ends_moms z
      refine ⟨_, rfl, _, rfl, _, rfl, m, m', rfl, _, _, _, rfl, rfl, .inl rfl, moms_alike mm, moms_depth mm, ?_⟩
      generalize sp.map (fun s => oD s.2) = es at qq
      cases es with
      | nil => exact data0 qq
      | cons e es => exact data0 qq
  · rintro xs μ Pk Ex ⟨ps, rs, wk, p, q, m, m', rfl, _⟩
    rfl
theorem ok_are_roads_between {f : Addr} {fd : FuncData} (F : FunV K "are_roads_between" "are_roads_between" st_are_roads_between f fd) (Z : ∀ x, x ∈ blt → mg x = none) (C_is_road_between : CalG P w K mg base "is_road_between" 2 R_is_road_between) (c_MOST_ROADS : ∃ t, mg "MOST_ROADS" = some (.int 14 t)) : FnG P w K mg base (L2.CX P w) 3 f fd ["places", "thing"] (SpD K R_are_roads_between) := by
  refine cal_ofG F sc_are_roads_between ?_ (fun cd A ou s H E W hg hr tk po => ?_)
  rotate_left
  have hN := sc_are_roads_between.nd
  have hu := hr.units
  have hu65 := hr.units65
  refine ⟨_, (dss_cons (ds_if (dt_w (dw_or (dt_not (dt_truth (d_callB call_isi s_isiC (da_cons (d_var 1) (da_cons (d_ty (T := "tuple") (Z "tuple" (by decide))) da_nil)) (Z "isinstance" (by decide))))) (dw_or1 (tGt (d_callB call_len s_lenU (da_cons (d_var 1) da_nil) (Z "len" (by decide))) (d_constI c_MOST_ROADS))))) (dss_one (ds_ret d_bl)) dss_nil) (dss_cons (ds_if (dt_not (dt_truth (d_callB (cr_all rfl) s_all (da_cons (d_lc (own := [("road", 2)]) rfl hN (di_any (d_var 1)) (blkOk_by (N := ns_are_roads_between) (sc := defScope st_are_roads_between) (by decide +kernel)) (fun _ _ _ _ _ => (dg_name (i := 2) hN)) (fun _ _ _ _ _ => dts_nil) (fun _ _ _ _ _ => (d_calG C_is_road_between hg (hr.mono (by omega)) (da_cons (d_var 0) (da_cons (d_var 2) da_nil))))) da_nil) (Z "all" (by decide))))) (dss_one (ds_ret d_bl)) dss_nil) (dss_one (ds_ret (dEq hu (d_lenSk (own := [("road", 2)]) (Z "len" (by decide)) rfl hN (di_any (d_var 1)) (blkOk_by (N := ns_are_roads_between) (sc := defScope st_are_roads_between) (by decide +kernel)) (fun _ _ _ _ _ => (dg_name (i := 2) hN)) (fun _ _ _ _ _ => dts_nil) (fun _ _ _ _ _ => (dIx (d_var 2) d_int))) (d_callB call_len s_lenU (da_cons (d_var 1) da_nil) (Z "len" (by decide)))))))), ?_⟩
  · rintro xs μ Pk Ex old ⟨ps, rs, rfl, rfl, lz, ok, q⟩
    have l2 : ¬ (14 : Int) < ((rs.map rdD).length : Int) := by rw [List.length_map]; have := ok.most; omega
    refine ⟨_, rfl, _, _, _, true, rfl, .inl rfl, rfl, true, rfl, iteF ?_⟩
    refine ⟨_, rfl, _, _, rfl, rfl, _, rfl, itQ l2 ?_⟩
    refine ⟨_, rfl, ?_⟩
    refine lc_map rs rdD (fun _ => .bool true) (oneD_ones _ _) trivial (Nat.le_trans ok.most (by decide)) (fun x hx Q hQ => ?_) ?_
    · exact ⟨_, rfl, _, rfl, _, rfl, fr_d [_, _] ⟨ps, x, rfl, rfl, lz, ok.nm x hx, ok.a x hx, ok.b x hx, ok.ne x hx, bk hQ⟩⟩
    refine all_of (c := fun _ => true) ⟨_, rfl, nT (List.all_eq_true.mpr fun _ _ => rfl) ?_⟩
    refine ⟨_, rfl, ?_⟩
    refine sc_map rs rdD (fun r => .inr r.1) (oneD_ones _ _) trivial (Nat.lt_of_le_of_lt (Nat.succ_le_succ ok.most) (by decide)) (fun x hx Q hQ => ⟨_, rfl, _, rfl, ix_tup (j := 0) rfl hQ⟩) ?_
    refine ⟨_, rfl, ?_⟩
    refine fin_b (decI ?_) q
    have e : rs.map (fun r => (Sum.inr r.1 : Key)) = (rnm rs).map Sum.inr := by rw [List.map_map]; rfl
    rw [e, ddk_nodup (keys_nd ok.nd), List.length_map, List.length_map, List.length_map]
  · rintro xs μ Pk Ex ⟨ps, r, rfl, _⟩
    rfl
theorem ok_is_moment {f : Addr} {fd : FuncData} (F : FunV K "is_moment" "is_moment" st_is_moment f fd) (Z : ∀ x, x ∈ blt → mg x = none) (C_is_count : CalG P w K mg base "is_count" 2 R_is_count) (C_round_of : CalG P w K mg base "round_of" 1 R_round_of) (c_LAST_DAY : ∃ t, mg "LAST_DAY" = some (.int 1000000 t)) : FnG P w K mg base (L2.CX P w) 3 f fd ["week", "thing"] (SpD K R_is_moment) := by
  refine cal_ofG F sc_is_moment ?_ (fun cd A ou s H E W hg hr tk po => ?_)
  rotate_left
  have hN := sc_is_moment.nd
  have hu := hr.units
  have hu65 := hr.units65
  refine ⟨_, (dss_cons (ds_if (dt_w (dw_or (dt_not (dt_truth (d_callB call_isi s_isiC (da_cons (d_var 1) (da_cons (d_ty (T := "tuple") (Z "tuple" (by decide))) da_nil)) (Z "isinstance" (by decide))))) (dw_or1 (tNe hu (d_callB call_len s_lenU (da_cons (d_var 1) da_nil) (Z "len" (by decide))) d_int)))) (dss_one (ds_ret d_bl)) dss_nil) (dss_cons (ds_asg (d_var 1) (dg_tup (n := 2) rfl (dgs_cons (dg_name (i := 2) hN) (dgs_cons (dg_name (i := 3) hN) dgs_nil)))) (dss_one (ds_ret (d_and (d_calG C_is_count hg (hr.mono (by omega)) (da_cons (d_var 2) (da_cons d_int (da_cons (d_constI c_LAST_DAY) da_nil)))) (d_one (d_calG C_is_count hg (hr.mono (by omega)) (da_cons (d_var 3) (da_cons d_int (da_cons (d_callB call_len s_lenU (da_cons (d_calG C_round_of hg (hr.mono (by omega)) (da_cons (d_var 0) (da_cons (d_var 2) da_nil))) da_nil) (Z "len" (by decide))) da_nil)))))))))), ?_⟩
  · rintro xs μ Pk Ex old ⟨wk, m, rfl, rfl, hw, ok, q⟩
    refine ⟨_, rfl, _, _, _, true, rfl, .inl rfl, rfl, true, rfl, iteF ?_⟩
    refine ⟨_, rfl, _, rfl, ?_⟩
    refine ⟨_, rfl, tgt2 ?_⟩
    refine ⟨_, rfl, fr_d [_, _, _] ⟨m.1, 1, 1000000, rfl, rfl, ok.d1, ok.d2, noO, ⟨_, rfl, iteT ?_⟩⟩⟩
    refine ⟨_, rfl, ?_⟩
    refine ⟨_, rfl, _, rfl, fr_d [_, _] ⟨wk, m.1, rfl, rfl, hw, noO, ?_⟩⟩
    refine fr_d [_, _, _] ⟨m.2, 0, (((roundAt wk m.1).map PyData.str).length : Int), rfl, rfl, ok.w1, by rw [List.length_map]; exact ok.w2, noO, ?_⟩
    exact fin_b rfl q
  · rintro xs μ Pk Ex ⟨ps, rs, rfl, _⟩
    rfl
theorem ok_need_place {f : Addr} {fd : FuncData} (F : FunV K "need_place" "need_place" st_need_place f fd) (Z : ∀ x, x ∈ blt → mg x = none)   : FnG P w K mg base (L2.CX P w) 1 f fd ["web", "place"] (SpD K R_need_place) := by
  refine cal_ofG F sc_need_place ?_ (fun cd A ou s H E W hg hr tk po => ?_)
  rotate_left
  have hN := sc_need_place.nd
  have hu := hr.units
  have hu65 := hr.units65
  refine ⟨_, (dss_one (ds_if (dt_w (dw_or (dt_not (dt_truth (d_callB call_isi s_isiC (da_cons (d_var 1) (da_cons (d_ty (T := "str") (Z "str" (by decide))) da_nil)) (Z "isinstance" (by decide))))) (dw_or1 (tNotIn (d_var 1) (dIx (d_var 0) d_int))))) (dss_one ds_no) dss_nil)), ?_⟩
  · rintro xs μ Pk Ex old ⟨ps, rs, p, rfl, rfl, hp, q⟩
    refine ⟨_, rfl, _, _, _, true, rfl, .inl rfl, rfl, true, rfl, iteF ?_⟩
    refine ⟨_, rfl, _, rfl, ix_tup (j := 0) rfl (in_strs ⟨_, rfl, tP hp ?_⟩)⟩
    exact fin_n q
  · rintro xs μ Pk Ex ⟨ps, rs, p, rfl, _⟩
    rfl
theorem ok_need_web {f : Addr} {fd : FuncData} (F : FunV K "need_web" "need_web" st_need_web f fd) (C_is_web : CalG P w K mg base "is_web" 4 R_is_web)  : FnG P w K mg base (L2.CX P w) 5 f fd ["web"] (SpD K R_need_web) := by
  refine cal_ofG F sc_need_web ?_ (fun cd A ou s H E W hg hr tk po => ?_)
  rotate_left
  have hN := sc_need_web.nd
  have hu := hr.units
  have hu65 := hr.units65
  refine ⟨_, (dss_one (ds_if (dt_not (dt_truth (d_calG C_is_web hg (hr.mono (by omega)) (da_cons (d_var 0) da_nil)))) (dss_one ds_no) dss_nil)), ?_⟩
  · rintro xs μ Pk Ex old ⟨ps, rs, rfl, rfl, ok, q⟩
    refine ⟨_, rfl, fr_d [_] ⟨ps, rs, rfl, rfl, ok, noO, ⟨true, rfl, iteF ?_⟩⟩⟩
    exact fin_n q
  · rintro xs μ Pk Ex ⟨ps, r, rfl, _⟩
    rfl
end
end K55

set_option Elab.async false
set_option linter.all false
set_option maxRecDepth 100000
set_option maxHeartbeats 4000000
namespace K55
open PySem PySem.Spec PyProof.Rows L2 Dl Rp
local macro_rules | `(tactic| and_intros) => `(tactic| repeat (first | refine ⟨_, rfl, ?_⟩ | refine iteT ?_ | refine iteF ?_ | refine ⟨_, _, rfl, rfl, ?_⟩ | refine add_int ?_ | refine len_tup ?_ | refine len_lst ?_ | refine tgt2 ?_ | refine tgt3 ?_ | refine ⟨[_], rfl, len1, ?_⟩ | refine ⟨[_, _], rfl, len2, ?_⟩ | refine ⟨[_, _, _], rfl, len3, ?_⟩))
section
variable {P : Program} {w : World} {K : PySem.W.Frag} {mg : Str → Option Value} {base : Heap}
theorem ok__law_beliefs {f : Addr} {fd : FuncData} (F : FunV K "_law_beliefs" "_law_beliefs" st__law_beliefs f fd) (C__law_arrivals : CalG P w K mg base "_law_arrivals" 2 R__law_arrivals)  : FnG P w K mg base (L2.CX P w) 3 f fd ["_law_web_here", "_law_week_here", "_law_place", "_law_moment_here", "_law_other", "_law_later"] (SpD K R__law_beliefs) := by
  refine cal_ofG F sc__law_beliefs ?_ (fun cd A ou s H E W hg hr tk po => ?_)
  rotate_left
  have hN := sc__law_beliefs.nd
  have hu := hr.units
  have hu65 := hr.units65
  refine ⟨_, (dss_cons (ds_par3 (i := 6) (j := 7) (l := 8) rfl hN (da_cons (d_calG C__law_arrivals hg (hr.mono (by omega)) (da_cons (d_var 0) (da_cons (d_var 1) (da_cons (d_var 2) (da_cons (d_var 3) da_nil))))) (da_cons (d_calG C__law_arrivals hg (hr.mono (by omega)) (da_cons (d_var 0) (da_cons (d_var 1) (da_cons (d_var 4) (da_cons (d_var 5) da_nil))))) (da_cons (d_lstU da_nil) da_nil)))) (dss_cons (ds_for po rfl (di_any (dIx (d_var 0) d_int)) (dg_name (i := 9) hN) (dss_cons (ds_par (i := 10) (j := 11) rfl hN (da_cons (d_dget1 hu (d_var 6) (d_var 9)) (da_cons (d_dget1 hu (d_var 7) (d_var 9)) da_nil))) (dss_one (ds_expr (d_bm PySem.F.plainAttrs_list PySem.F.slot_list_append PySem.F.type_list_append mt_append s_append (d_var 8) (da_cons (d_if (dt_w (dw_or (tIs (d_var 10) d_non) (dw_or1 (dt_w (dw_and (tIsNot (d_var 11) d_non) (dw_and1 (tLeT hu (d_var 11) (d_var 10)))))))) d_non (d_tup (da_cons (d_var 10) (da_cons (d_var 11) da_nil)))) da_nil)))))) (dss_one (ds_ret (d_var 8))))), ?_⟩
  · rintro xs μ Pk Ex old ⟨ps, rs, wk, p, q, m, m', rfl, rfl, ok, hw, hp, hq, hm, hm', qq⟩
    have p10 := ok.p.most
    refine ⟨_, rfl, _, rfl, _, rfl, _, rfl, fr_lawArr ok hw hp hm ?_⟩
    refine ⟨_, rfl, _, rfl, _, rfl, _, rfl, fr_lawArr ok hw hq hm' ?_⟩
    have inv := fin_inv (p := p) (m := m) ok hw
    generalize FinS rs wk p m = a at inv qq
    generalize FinS rs wk q m' = b at qq
    refine ⟨by decide, .inr ⟨_, _, _, rfl, ?_⟩⟩
    refine ⟨_, rfl, ix_tup (j := 0) rfl ?_⟩
    refine ⟨fun i ρ μ => ∃ (u v w : Option Dl.A), ρ = [some (.d (webD ps rs)), some (.d (weekD wk)), some (.d (.str p)), some (.d (momD m)), some (.d (.str q)), some (.d (momD m')), some (.c 0), some (.c 1), some (.c 2), u, v, w] ∧ μ = [.dct (stA a), .dct (stA b), .lst (((ps.take i).map (belD a b)).map Dl.A.d)], ⟨_, _, _, rfl, rfl⟩, ?_, ?_⟩
    · rintro i y ρ3 μ3 hy ⟨u, v, w, rfl, rfl⟩
      rw [oneD_ones] at hy
      obtain ⟨x, hx, rfl⟩ := ones_get hy
      have lt := (List.getElem?_eq_some_iff.mp hx).1
      have lz : (((ps.take i).map (belD a b)).map Dl.A.d).length < sizeLine := by
        rw [List.length_map, List.length_map, List.length_take]
        exact Nat.lt_of_le_of_lt (show min i ps.length ≤ 10 by omega) (by decide)
      have done : ∀ d, d = belD a b x → ([O.dct (stA a), .dct (stA b), .lst (((ps.take i).map (belD a b)).map Dl.A.d)] : Mu).set 2 (.lst (((ps.take i).map (belD a b)).map Dl.A.d ++ [.d d])) = [O.dct (stA a), .dct (stA b), .lst (((ps.take (i + 1)).map (belD a b)).map Dl.A.d)] := fun d e => by
        rw [e, take_get hx, List.map_append, List.map_append]
        rfl
      refine ⟨trivial, _, rfl, ?_⟩
      refine ⟨_, rfl, 0, rfl, ⟨_, rfl⟩, _, rfl, _, .inr x, rfl, rfl, ?_⟩
      refine ⟨_, rfl, 1, rfl, ⟨_, rfl⟩, _, rfl, _, .inr x, rfl, rfl, _, _, rfl, ?_⟩
      refine ⟨_, rfl, .inr (.inl ⟨rfl, .inr ⟨2, _, rfl, rfl⟩⟩), ?_⟩
      rw [valA_st, valA_st]
      by_cases ha : x ∈ ks a
      · rw [gotD_val ha]
        have hB := belD_val (b := b) ha
        by_cases hb : x ∈ ks b
        · rw [gotD_val hb]
          refine ⟨_, rfl, false, rfl, rfl, _, rfl, iteF ⟨_, rfl, false, rfl, rfl, _, rfl, iteT ⟨_, rfl, _, rfl, _, _, _, _, rfl, rfl, _, rfl, iteD (fun hle => ?_) (fun hgt => ?_)⟩⟩⟩
          · have hv : belV b (x, valS a x) = none := by
              unfold belV
              rw [if_pos hb, if_neg (show ¬ Lt2 (valS a x) (valS b x) from Le2.not hle)]
            rw [hv] at hB
            exact ⟨2, _, _, rfl, rfl, rfl, lz, _, _, _, rfl, done _ hB.symm⟩
          · have hv : belV b (x, valS a x) = some (.tuple [momD (valS a x), momD (valS b x)]) := by
              unfold belV
              rw [if_pos hb, if_pos]
              have h' : ¬ Le2 (valS b x) (valS a x) := hgt
              show Lt2 (valS a x) (valS b x)
              unfold Le2 at h'
              unfold Lt2
              omega
            rw [hv] at hB
            exact ⟨_, rfl, _, rfl, [_, _], rfl, len2, 2, _, _, rfl, rfl, rfl, lz, _, _, _, rfl, done _ hB.symm⟩
        · rw [gotD_none hb]
          have hv : belV b (x, valS a x) = some (.tuple [momD (valS a x), .none]) := by
            unfold belV
            rw [if_neg hb]
          rw [hv] at hB
          refine ⟨_, rfl, false, rfl, rfl, _, rfl, iteF ⟨_, rfl, true, rfl, rfl, _, rfl, iteF (iteF ?_)⟩⟩
          exact ⟨_, rfl, _, rfl, [_, _], rfl, len2, 2, _, _, rfl, rfl, rfl, lz, _, _, _, rfl, done _ hB.symm⟩
      · rw [gotD_none ha]
        refine ⟨_, rfl, true, rfl, rfl, _, rfl, iteT (iteT ?_)⟩
        exact ⟨2, _, _, rfl, rfl, rfl, lz, _, _, _, rfl, done _ (belD_no ha).symm⟩
    · rintro ρ3 μ3 ⟨u, v, w, rfl, rfl⟩
      refine ⟨trivial, _, rfl, ?_⟩
      refine frz0 (j := 2) rfl ?_
      rw [show (oneD (ps.map PyData.str)).length = ps.length by unfold oneD; rw [List.length_map, List.length_map], List.take_length]
      exact qq
  · rintro xs μ Pk Ex ⟨ps, rs, wk, p, q, m, m', rfl, _⟩
    rfl
theorem ok__law_mixed {f : Addr} {fd : FuncData} (F : FunV K "_law_mixed" "_law_mixed" st__law_mixed f fd) (Z : ∀ x, x ∈ blt → mg x = none) (C__law_draw : CalG P w K mg base "_law_draw" 1 R__law_draw)  : FnG P w K mg base (L2.CX P w) 2 f fd ["_law_feed_here", "_law_things"] (SpD K R__law_mixed) := by
  refine cal_ofG F sc__law_mixed ?_ (fun cd A ou s H E W hg hr tk po => ?_)
  rotate_left
  have hN := sc__law_mixed.nd
  have hu := hr.units
  have hu65 := hr.units65
  refine ⟨_, (dss_cons (ds_par (i := 2) (j := 3) rfl hN (da_cons (d_callTy call_list_of s_listU (da_cons (d_var 1) da_nil) (Z "list" (by decide))) (da_cons (d_lstU da_nil) da_nil))) (dss_cons (ds_for po rfl (di_range1 (da_cons (d_callB call_len s_lenU (da_cons (d_var 1) da_nil) (Z "len" (by decide))) da_nil) (Z "range" (by decide))) (dg_name (i := 4) hN) (dss_one (ds_expr (d_bm PySem.F.plainAttrs_list PySem.F.slot_list_append PySem.F.type_list_append mt_append s_append (d_var 3) (da_cons (d_bm PySem.F.plainAttrs_list PySem.F.slot_list_pop PySem.F.type_list_pop mt_popAt s_popAt (d_var 2) (da_cons (d_calG C__law_draw hg (hr.mono (by omega)) (da_cons (d_var 0) (da_cons (d_callB call_len s_lenU (da_cons (d_var 2) da_nil) (Z "len" (by decide))) da_nil))) da_nil)) da_nil))))) (dss_one (ds_ret (d_var 3))))), ?_⟩
  · rintro xs μ Pk Ex old ⟨o, k, y, ds, rfl, rfl, hy, hz, hk, k1, q⟩
    have hs : ∀ μ, SeqOf (.d y) μ (ds.map Dl.A.d) := fun μ => by
      rcases hy with rfl | rfl
      · exact .inl rfl
      · exact .inr ⟨_, rfl, rfl⟩
    refine ⟨_, rfl, _, ds.map Dl.A.d, rfl, ?_, .inr ⟨Nat.zero_le _, .inr ⟨_, _, rfl, ?_⟩⟩⟩
    · rcases hy with rfl | rfl
      · exact .inl rfl
      · exact .inr ⟨_, rfl, rfl⟩
    refine ⟨_, rfl, len_of (hs _) ⟨_, rfl, by rw [List.length_map]; omega, by rw [List.length_map]; omega, ?_⟩⟩
    rw [Int.toNat_natCast, List.length_map]
    refine ⟨fun i ρ2 μ2 => ∃ pool got o' t, ρ2 = [some (.c 0), some (.d y), some (.c 1), some (.c 2), t] ∧ μ2 = [o', .lst (pool.map Dl.A.d), .lst (got.map Dl.A.d)] ∧ (got ++ pool).Perm ds ∧ pool.length + i = ds.length ∧ FD (k + i) o',
      ⟨ds, [], o, none, rfl, rfl, List.Perm.refl _, by omega, hk.mono (by omega)⟩, ?_, ?_⟩
    · rintro i y' ρ2 μ2 hy' ⟨pool, got, o', t, rfl, rfl, hp, hl, hk'⟩
      obtain ⟨lt, rfl⟩ := rngY_get hy'
      refine ⟨trivial, _, rfl, ?_⟩
      refine ⟨_, rfl, .inr (.inl ⟨rfl, .inr ⟨2, _, rfl, rfl⟩⟩), ?_⟩
      refine ⟨_, rfl, .inr (.inl ⟨rfl, .inr ⟨1, _, rfl, rfl⟩⟩), ?_⟩
      refine ⟨_, rfl, _, rfl, _, rfl, ?_⟩
      rw [List.length_map]
      refine fr_draw rfl hk' (by omega) ⟨by omega, by omega⟩ fun r o2 h0 h1 hk2 => ?_
      obtain ⟨j, rfl⟩ := Int.eq_ofNat_of_zero_le h0
      have ltj : j < pool.length := by omega
      refine ⟨1, pool.map Dl.A.d, (j : Int), j, .d pool[j], rfl, rfl, rfl, rfl, by omega, by rw [List.getElem?_map, List.getElem?_eq_getElem ltj]; rfl, ?_⟩
      refine ⟨2, got.map Dl.A.d, .d pool[j], rfl, rfl, rfl, ?_, ?_⟩
      · have := hp.length_eq
        rw [List.length_append] at this
        rw [List.length_map]
        exact Nat.lt_of_lt_of_le (show got.length < 1000 by omega) (by decide)
      refine ⟨pool.eraseIdx j, got ++ [pool[j]], o2, _, rfl, ?_, ?_, ?_, hk2.mono (by omega)⟩
      · rw [List.map_append, ← erase_map]
        rfl
      · rw [List.append_assoc]
        refine List.Perm.trans ?_ hp
        refine List.Perm.append_left got ?_
        exact erase_perm ltj
      · rw [List.length_eraseIdx_of_lt ltj]
        omega
    · rintro ρ2 μ2 ⟨pool, got, o', t, rfl, rfl, hp, hl, hk'⟩
      rw [rngY_len] at hl hk'
      have : pool = [] := List.length_eq_zero_iff.mp (by omega)
      subst this
      rw [List.append_nil] at hp
      refine ⟨trivial, _, rfl, ?_⟩
      exact feedFrz (j := 1) hk' rfl (q got o' hp hk')
  · rintro xs μ Pk Ex ⟨o, k, y, ds, rfl, _⟩
    rfl
theorem ok_is_name {f : Addr} {fd : FuncData} (F : FunV K "is_name" "is_name" st_is_name f fd) (Z : ∀ x, x ∈ blt → mg x = none)  (c_MOST_SIGNS : ∃ t, mg "MOST_SIGNS" = some (.int 8 t)) : FnG P w K mg base (L2.CX P w) 1 f fd ["thing"] (SpD K R_is_name) := by
  refine cal_ofG F sc_is_name ?_ (fun cd A ou s H E W hg hr tk po => ?_)
  rotate_left
  have hN := sc_is_name.nd
  have hu := hr.units
  have hu65 := hr.units65
  refine ⟨_, (dss_cons (ds_if (dt_w (dw_or (dt_not (dt_truth (d_callB call_isi s_isiC (da_cons (d_var 0) (da_cons (d_ty (T := "str") (Z "str" (by decide))) da_nil)) (Z "isinstance" (by decide))))) (dw_or1 (dt_not (dt_chain op_le op_le s_le s_le d_int (d_callB call_len s_lenU (da_cons (d_var 0) da_nil) (Z "len" (by decide))) (d_constI c_MOST_SIGNS)))))) (dss_one (ds_ret d_bl)) dss_nil) (dss_one (ds_ret (d_and (d_bm0 PySem.F.plainAttrs_str PySem.F.slot_str_isascii PySem.F.type_str_isascii mt_isascii (s_strB Txt.isascii) (d_var 0)) (d_and (d_bm0 PySem.F.plainAttrs_str PySem.F.slot_str_isalnum PySem.F.type_str_isalnum mt_isalnum (s_strB Txt.isalnum) (d_var 0)) (d_and (d_bm0 PySem.F.plainAttrs_str PySem.F.slot_str_islower PySem.F.type_str_islower mt_islower (s_strB Txt.islower) (d_var 0)) (d_one (d_bm0 PySem.F.plainAttrs_str PySem.F.slot_str_isalpha PySem.F.type_str_isalpha mt_isalpha (s_strB Txt.isalpha) (dIx (d_var 0) d_int))))))))), ?_⟩
  · rintro xs μ Pk Ex old ⟨s, rfl, rfl, ok, q⟩
    obtain ⟨c, hc, hl⟩ := ok.first
    have lz : s.length ≤ sizeLine := Nat.le_trans ok.most (by decide)
    have l1 : (1 : Int) ≤ (s.length : Int) := by have := ok.one; omega
    have l2 : (s.length : Int) ≤ 8 := by have := ok.most; omega
    refine ⟨_, rfl, _, _, _, true, rfl, .inl rfl, rfl, true, rfl, iteF ?_⟩
    refine ⟨_, rfl, lz, _, _, rfl, rfl, _, rfl, itP l1 ⟨_, _, rfl, rfl, _, rfl, ?_⟩⟩
    refine nP l2 ?_
    refine ⟨_, rfl, .inl ⟨rfl, _, rfl⟩, _, rfl, rfl, _, rfl, bT (name_ascii ok) ?_⟩
    refine ⟨_, rfl, .inl ⟨rfl, _, rfl⟩, _, rfl, rfl, _, rfl, bT (name_alnum ok) ?_⟩
    refine ⟨_, rfl, .inl ⟨rfl, _, rfl⟩, _, rfl, rfl, _, rfl, bT (name_lower ok) ?_⟩
    refine ⟨_, rfl, 0, rfl, .inr (.inr ⟨s, c, rfl, lz, Dl.atI_nat hc, .inl ⟨rfl, _, rfl⟩, _, rfl, rfl, ?_⟩)⟩
    exact fin_b (char_alpha hl) q
  · rintro xs μ Pk Ex ⟨s, rfl, _⟩
    rfl
theorem ok_is_road_between {f : Addr} {fd : FuncData} (F : FunV K "is_road_between" "is_road_between" st_is_road_between f fd) (Z : ∀ x, x ∈ blt → mg x = none) (C_is_name : CalG P w K mg base "is_name" 1 R_is_name)  : FnG P w K mg base (L2.CX P w) 2 f fd ["places", "thing"] (SpD K R_is_road_between) := by
  refine cal_ofG F sc_is_road_between ?_ (fun cd A ou s H E W hg hr tk po => ?_)
  rotate_left
  have hN := sc_is_road_between.nd
  have hu := hr.units
  have hu65 := hr.units65
  refine ⟨_, (dss_cons (ds_if (dt_w (dw_or (dt_not (dt_truth (d_callB call_isi s_isiC (da_cons (d_var 1) (da_cons (d_ty (T := "tuple") (Z "tuple" (by decide))) da_nil)) (Z "isinstance" (by decide))))) (dw_or1 (tNe hu (d_callB call_len s_lenU (da_cons (d_var 1) da_nil) (Z "len" (by decide))) d_int)))) (dss_one (ds_ret d_bl)) dss_nil) (dss_cons (ds_asg (d_var 1) (dg_tup (n := 3) rfl (dgs_cons (dg_name (i := 2) hN) (dgs_cons (dg_name (i := 3) hN) (dgs_cons (dg_name (i := 4) hN) dgs_nil))))) (dss_cons (ds_if (dt_w (dw_or (dt_not (dt_truth (d_callB call_isi s_isiC (da_cons (d_var 3) (da_cons (d_ty (T := "str") (Z "str" (by decide))) da_nil)) (Z "isinstance" (by decide))))) (dw_or1 (dt_not (dt_truth (d_callB call_isi s_isiC (da_cons (d_var 4) (da_cons (d_ty (T := "str") (Z "str" (by decide))) da_nil)) (Z "isinstance" (by decide)))))))) (dss_one (ds_ret d_bl)) dss_nil) (dss_one (ds_ret (d_and (d_calG C_is_name hg (hr.mono (by omega)) (da_cons (d_var 2) da_nil)) (d_and (dIn (d_var 3) (d_var 0)) (d_and (dIn (d_var 4) (d_var 0)) (d_one (dNe hu (d_var 3) (d_var 4))))))))))), ?_⟩
  · rintro xs μ Pk Ex old ⟨ps, r, rfl, rfl, lz, nm, ha, hb, ne, q⟩
    refine ⟨_, rfl, _, _, _, true, rfl, .inl rfl, rfl, true, rfl, iteF ?_⟩
    refine ⟨_, rfl, _, rfl, ?_⟩
    refine ⟨_, rfl, tgt3 ?_⟩
    refine ⟨_, rfl, _, _, _, true, rfl, .inl rfl, rfl, true, rfl, iteF ?_⟩
    refine ⟨_, rfl, _, _, _, true, rfl, .inl rfl, rfl, true, rfl, iteF ?_⟩
    refine ⟨_, rfl, fr_d [_] ⟨r.1, rfl, rfl, nm, noO, ⟨_, rfl, iteT ?_⟩⟩⟩
    refine ⟨_, rfl, _, rfl, in_strs ⟨_, rfl, fP ha ?_⟩⟩
    refine ⟨_, rfl, _, rfl, in_strs ⟨_, rfl, fP hb ?_⟩⟩
    refine ⟨_, rfl, _, rfl, ?_⟩
    refine fin_b ?_ q
    rw [decide_eq_false ne]
    rfl
  · rintro xs μ Pk Ex ⟨ps, r, rfl, _⟩
    rfl
theorem ok__law_listed {f : Addr} {fd : FuncData} (F : FunV K "_law_listed" "_law_listed" st__law_listed f fd)   : FnG P w K mg base (L2.CX P w) 1 f fd ["_law_web_here", "_law_got"] (SpD K R__law_listed) := by
  refine cal_ofG F sc__law_listed ?_ (fun cd A ou s H E W hg hr tk po => ?_)
  rotate_left
  have hN := sc__law_listed.nd
  have hu := hr.units
  have hu65 := hr.units65
  refine ⟨_, (dss_one (ds_ret (d_lc (own := [("_law_place", 2)]) rfl hN (di_any (dIx (d_var 0) d_int)) (blkOk_by (N := ns__law_listed) (sc := defScope st__law_listed) (by decide +kernel)) (fun _ _ _ _ _ => (dg_name (i := 2) hN)) (fun _ _ _ _ _ => dts_nil) (fun _ _ _ _ _ => (d_dget1 hu (d_var 1) (d_var 2)))))), ?_⟩
  · rintro xs μ Pk Ex old ⟨ps, rs, st, rfl, rfl, lz, q⟩
    refine ⟨_, rfl, ix_tup (j := 0) rfl ?_⟩
    refine lc_map ps .str (lookD st) (oneD_ones _ _) trivial (Nat.le_trans lz (by decide)) (fun x hx Q hQ => ?_) ?_
    · refine ⟨_, rfl, _, rfl, 0, rfl, ⟨_, rfl⟩, _, rfl, _, .inr x, rfl, rfl, ?_⟩
      rw [valA_d]
      exact hQ
    · exact ret_data0 rfl old q
  · rintro xs μ Pk Ex ⟨ps, rs, wk, rfl, _⟩
    rfl
end
end K55

set_option Elab.async false
set_option linter.all false
set_option maxRecDepth 100000
set_option maxHeartbeats 4000000
namespace K55
open PySem PySem.Spec PyProof.Rows L2 Dl Rp
local macro_rules | `(tactic| and_intros) => `(tactic| repeat (first | refine ⟨_, rfl, ?_⟩ | refine iteT ?_ | refine iteF ?_ | refine ⟨_, _, rfl, rfl, ?_⟩ | refine add_int ?_ | refine len_tup ?_ | refine len_lst ?_ | refine tgt2 ?_ | refine tgt3 ?_ | refine ⟨[_], rfl, len1, ?_⟩ | refine ⟨[_, _], rfl, len2, ?_⟩ | refine ⟨[_, _, _], rfl, len3, ?_⟩))
section
variable {P : Program} {w : World} {K : PySem.W.Frag} {mg : Str → Option Value} {base : Heap}
theorem ok__law_right {f : Addr} {fd : FuncData} (F : FunV K "_law_right" "_law_right" st__law_right f fd) (Z : ∀ x, x ∈ blt → mg x = none) (C__law_any_web : CalG P w K mg base "_law_any_web" 6 R__law_any_web) (C__law_arrivals : CalG P w K mg base "_law_arrivals" 2 R__law_arrivals) (C__law_behind_right : CalG P w K mg base "_law_behind_right" 7 R__law_behind_right) (C__law_moment : CalG P w K mg base "_law_moment" 2 R__law_moment) (C__law_one : CalG P w K mg base "_law_one" 2 R__law_one) (C__law_same_place_right : CalG P w K mg base "_law_same_place_right" 8 R__law_same_place_right) (C__law_week : CalG P w K mg base "_law_week" 4 R__law_week) (C_beliefs : CalG P w K mg base "beliefs" 6 R_beliefsG)  : FnG P w K mg base (L2.CX P w) 9 f fd ["_law_feed_here"] (SpD K R__law_right2) := by
  refine cal_ofG F sc__law_right ?_ (fun cd A ou s H E W hg hr tk po => ?_)
  rotate_left
  have hN := sc__law_right.nd
  have hu := hr.units
  have hu65 := hr.units65
  refine ⟨_, (dss_cons (ds_set (i := 1) hN (d_calG C__law_any_web hg (hr.mono (by omega)) (da_cons (d_var 0) da_nil))) (dss_cons (ds_set (i := 2) hN (d_calG C__law_week hg (hr.mono (by omega)) (da_cons (d_var 0) (da_cons (d_var 1) da_nil)))) (dss_cons (ds_par (i := 3) (j := 4) rfl hN (da_cons (d_calG C__law_one hg (hr.mono (by omega)) (da_cons (d_var 0) (da_cons (dIx (d_var 1) d_int) da_nil))) (da_cons (d_calG C__law_one hg (hr.mono (by omega)) (da_cons (d_var 0) (da_cons (dIx (d_var 1) d_int) da_nil))) da_nil))) (dss_cons (ds_set (i := 5) hN (d_calG C__law_moment hg (hr.mono (by omega)) (da_cons (d_var 0) (da_cons (d_var 2) da_nil)))) (dss_cons (ds_if (dt_not (dt_truth (d_calG C__law_same_place_right hg (hr.mono (by omega)) (da_cons (d_var 0) (da_cons (d_var 1) (da_cons (d_var 2) (da_cons (d_var 3) (da_cons (d_var 5) da_nil)))))))) (dss_one (ds_ret d_bl)) dss_nil) (dss_cons (ds_par (i := 6) (j := 7) rfl hN (da_cons (d_calG C__law_arrivals hg (hr.mono (by omega)) (da_cons (d_var 1) (da_cons (d_var 2) (da_cons (d_var 3) (da_cons (d_var 5) da_nil))))) (da_cons (d_calG C__law_arrivals hg (hr.mono (by omega)) (da_cons (d_var 1) (da_cons (d_var 2) (da_cons (d_var 4) (da_cons (d_var 5) da_nil))))) da_nil))) (dss_cons (ds_set (i := 8) hN (d_calG C_beliefs hg (hr.mono (by omega)) (da_cons (d_var 1) (da_cons (d_var 2) (da_cons (d_var 3) (da_cons (d_var 5) (da_cons (d_var 4) (da_cons (d_var 5) da_nil)))))))) (dss_cons (ds_for po rfl (di_enT (da_cons (dIx (d_var 1) d_int) da_nil) (Z "enumerate" (by decide))) (dg_tup (n := 2) rfl (dgs_cons (dg_name (i := 9) hN) (dgs_cons (dg_name (i := 10) hN) dgs_nil))) (dss_cons (ds_if (dt_w (dw_and (t_din hu (d_var 10) (d_var 6)) (dw_and (t_dnotin hu (d_var 10) (d_var 7)) (dw_and1 (tNe hu (dIx (d_var 8) (d_var 9)) (d_tup (da_cons (d_dget hu (d_var 6) (d_var 10)) (da_cons d_non da_nil)))))))) (dss_one (ds_ret d_bl)) dss_nil) (dss_one (ds_if (dt_w (dw_and (t_dnotin hu (d_var 10) (d_var 6)) (dw_and1 (tIsNot (dIx (d_var 8) (d_var 9)) d_non)))) (dss_one (ds_ret d_bl)) dss_nil)))) (dss_one (ds_ret (d_calG C__law_behind_right hg (hr.mono (by omega)) (da_cons (d_var 0) da_nil)))))))))))), ?_⟩
  · rintro xs μ Pk Ex old ⟨o, k, rfl, rfl, hk, k1, q⟩
    have k0 := hk.pos
    refine ⟨_, rfl, fr_any rfl hk (by omega) fun ps rs o1 ok hk1 => ?_⟩
    have r14 := ok.r.most
    have p1 := ok.p.one
    have p10 := ok.p.most
    refine ⟨_, rfl, _, rfl, fr_week (n := 0) rfl hk1 (by omega) r14 ok.r.nd fun wk o2 hw hk2 => ?_⟩
    have psl : 0 < (ps.map PyData.str).length ∧ (ps.map PyData.str).length < 10 ^ 6 := by rw [List.length_map]; omega
    refine ⟨_, rfl, _, rfl, ix_tup (j := 0) rfl (fr_one (ps.map .str) rfl (.inr rfl) hk2 (by omega) psl fun x o3 hx hk3 => ?_)⟩
    obtain ⟨p, hp, rfl⟩ := List.mem_map.mp hx
    refine ⟨_, rfl, _, rfl, ix_tup (j := 0) rfl (fr_one (ps.map .str) rfl (.inr rfl) hk3 (by omega) psl fun x o4 hx hk4 => ⟨_, _, rfl, ?_⟩)⟩
    obtain ⟨r, hr, rfl⟩ := List.mem_map.mp hx
    refine ⟨_, rfl, _, rfl, fr_moment (n := 0) rfl hk4 (by omega) ⟨hw.one, hw.most⟩ (fun d => Nat.le_trans (round_len hw d) r14) fun m o5 hm hk5 => ?_⟩
    refine ⟨_, rfl, _, rfl, _, rfl, _, rfl, _, rfl, fr_samePl (n := 0) rfl hk5 (by omega) ok hw hp hm fun o6 hk6 => ⟨true, rfl, iteF ?_⟩⟩
    refine ⟨_, rfl, _, rfl, _, rfl, _, rfl, fr_lawArr ok hw hp hm.toMomS ?_⟩
    refine ⟨_, rfl, _, rfl, _, rfl, _, rfl, fr_lawArr ok hw hr hm.toMomS ⟨_, _, rfl, ?_⟩⟩
    refine ⟨_, rfl, _, rfl, _, rfl, _, rfl, _, rfl, _, rfl, fr_beliefsG ok hw hp hr hm hm ?_⟩
    have inv := fin_inv (p := p) (m := m) ok hw
    generalize FinS rs wk p m = a at inv
    generalize FinS rs wk r m = b
    refine ⟨_, rfl, ix_tup (j := 0) rfl ?_⟩
    refine ⟨_, rfl, ?_⟩
    refine ⟨fun i ρ μ => ∃ (u v : Option Dl.A), ρ = [some (.c 0), some (.d (webD ps rs)), some (.d (weekD wk)), some (.d (.str p)), some (.d (.str r)), some (.d (momD m)), some (.c 1), some (.c 2), some (.d (.list (ps.map (belD a b)))), u, v] ∧ μ = [o6, .dct (stA a), .dct (stA b)], ⟨_, _, rfl, rfl⟩, ?_, ?_⟩
    · rintro i y ρ2 μ2 hy ⟨u, v, rfl, rfl⟩
      obtain ⟨x, hx, rfl⟩ := enum_strs hy
      have hB : (ps.map (belD a b))[i]? = some (belD a b x) := by rw [List.getElem?_map, hx]; rfl
      refine ⟨trivial, tgtY2 ?_⟩
      refine ⟨_, rfl, _, rfl, 1, _, .inr x, rfl, rfl, rfl, _, rfl, ?_⟩
      rw [valA_in]
      by_cases ha : x ∈ ks a
      · refine fP ha ⟨_, rfl, _, rfl, 2, _, .inr x, rfl, rfl, rfl, _, rfl, ?_⟩
        rw [valA_in]
        by_cases hb : x ∈ ks b
        · refine tP hb (iteF ?_)
          refine ⟨_, rfl, _, rfl, 1, _, .inr x, rfl, rfl, rfl, _, rfl, ?_⟩
          rw [valA_in]
          exact tP ha (iteF ⟨_, _, rfl, rfl⟩)
        · refine tQ hb ⟨_, rfl, _, rfl, ix_lstN hB ⟨_, rfl, _, rfl, 1, _, .inr x, _, rfl, rfl, rfl, (valS_at a x ha).1, [_, _], rfl, len2, ?_⟩⟩
          rw [belD_val ha, show belV b (x, valS a x) = some (.tuple [momD (valS a x), .none]) by unfold belV; rw [if_neg hb]]
          refine ⟨_, _, rfl, rfl, mn_shaped _, mn_shaped _, _, rfl, ?_⟩
          refine ifF (by rw [show (some (PyData.tuple [momD (valS a x), .none])).getD .none = .tuple [momD (valS a x), .none] from rfl, eqv_mn]; rfl) ?_
          refine ⟨_, rfl, _, rfl, 1, _, .inr x, rfl, rfl, rfl, _, rfl, ?_⟩
          rw [valA_in]
          exact tP ha (iteF ⟨_, _, rfl, rfl⟩)
      · refine fQ ha (iteF ?_)
        refine ⟨_, rfl, _, rfl, 1, _, .inr x, rfl, rfl, rfl, _, rfl, ?_⟩
        rw [valA_in]
        refine tQ ha ⟨_, rfl, _, rfl, ix_lstN hB ?_⟩
        rw [belD_no ha]
        exact ⟨true, rfl, rfl, _, rfl, iteF ⟨_, _, rfl, rfl⟩⟩
    · rintro ρ2 μ2 ⟨u, v, rfl, rfl⟩
      refine ⟨trivial, _, rfl, ?_⟩
      refine fr_behind (n := 0) rfl hk6 (by omega) fun o7 hk7 => ?_
      exact feedRet hk7 (q _ (hk7.mono (by omega)))
  · rintro xs μ Pk Ex ⟨o, k, rfl, _⟩
    rfl
theorem ok__law_draw {f : Addr} {fd : FuncData} (F : FunV K "_law_draw" "_law_draw" st__law_draw f fd) (Z : ∀ x, x ∈ blt → mg x = none)   : FnG P w K mg base (L2.CX P w) 1 f fd ["_law_feed_here", "_law_many"] (SpD K R__law_draw) := by
  refine cal_ofG F sc__law_draw ?_ (fun cd A ou s H E W hg hr tk po => ?_)
  rotate_left
  have hN := sc__law_draw.nd
  have hu := hr.units
  have hu65 := hr.units65
  refine ⟨_, (dss_cons (ds_if (tGt (dIx (d_var 0) d_int) d_int) (dss_cons (ds_set (i := 2) hN (dDiv (dIx (d_var 0) d_int) (d_var 1))) (dss_cons (ds_set (i := 3) hN (d_sub (dIx (d_var 0) d_int) (dMul (d_var 2) (d_var 1)))) (dss_cons (ds_asg (d_var 2) (dg_sub (d_var 0) d_int)) (dss_one (ds_ret (d_var 3)))))) dss_nil) (dss_cons (ds_asg (dAdd (dIx (d_var 0) d_int) d_int) (dg_sub (d_var 0) d_int)) (dss_cons (ds_set (i := 4) hN (dAdd (dIx (d_var 0) d_int) (dMul d_int (dIx (d_var 0) d_int)))) (dss_cons (ds_set (i := 4) hN (d_mod (d_callTy call_int1 s_int1 (da_cons (dAdd (dMul (dMul (d_var 4) (d_var 4)) (d_var 4)) (dMul d_int (dIx (d_var 0) d_int))) da_nil) (Z "int" (by decide))) (dAdd (d_pow d_int d_int) d_int))) (dss_cons (ds_set (i := 4) hN (d_mod (d_callTy call_int1 s_int1 (da_cons (dAdd (dMul (d_var 4) (d_var 4)) d_int) da_nil) (Z "int" (by decide))) (dAdd (d_pow d_int d_int) d_int))) (dss_one (ds_ret (d_mod (d_callTy call_int1 s_int1 (da_cons (dDiv (d_var 4) (d_pow d_int d_int)) da_nil) (Z "int" (by decide))) (d_var 1))))))))), ?_⟩
  · rintro xs μ Pk Ex old ⟨o, k, m, rfl, rfl, ⟨a, b, c, rfl, ha, hb, hb2, hc0, hc1⟩, hk, ⟨hm0, hm1⟩, q⟩
    refine ⟨_, rfl, 0, rfl, .inr (.inl ⟨0, _, .d (.int a), rfl, rfl, rfl, ?_⟩)⟩
    refine ⟨a, 0, rfl, rfl, _, rfl, iteD (fun h => ?_) (fun h => ?_)⟩
    · refine ⟨_, rfl, 0, rfl, .inr (.inl ⟨0, _, .d (.int a), rfl, rfl, rfl, ?_⟩)⟩
      refine ⟨_, rfl, a, m, rfl, rfl, divS hm0 (by omega), ?_⟩
      refine ⟨_, rfl, 0, rfl, .inr (.inl ⟨0, _, .d (.int a), rfl, rfl, rfl, ?_⟩)⟩
      refine ⟨_, rfl, _, rfl, smallR (by omega) (by omega), ?_⟩
      refine ⟨_, _, rfl, rfl, ?_⟩
      refine ⟨_, rfl, _, rfl, _, rfl, 0, _, 0, 0, rfl, rfl, rfl, rfl, ?_⟩
      refine ⟨_, rfl, ?_⟩
      have h0 : 0 ≤ a / m := Int.ediv_nonneg ha (by omega)
      have h1 : a - a / m * m = a % m := by
        have := Int.emod_add_mul_ediv a m
        rw [Int.mul_comm]
        omega
      have h2 := Int.emod_nonneg a (show m ≠ 0 by omega)
      have h3 := Int.emod_lt_of_pos a hm0
      have fd : FD (k + 1) (fcell (a / m) b c) := ⟨_, _, _, rfl, h0, hb, hb2, hc0, by omega⟩
      exact feedRet (l := []) fd (q (a - a / m * m) _ (by rw [h1]; exact h2) (by rw [h1]; exact h3) fd)
    · refine ⟨_, rfl, 2, rfl, .inr (.inl ⟨0, _, .d (.int c), rfl, rfl, rfl, ?_⟩)⟩
      refine ⟨_, rfl, _, rfl, 0, _, 2, 2, rfl, rfl, rfl, rfl, ?_⟩
      change dsSeq _ _ _ _ [fcell a b (c + 1)]
      refine ⟨_, rfl, 1, rfl, .inr (.inl ⟨0, _, .d (.int b), rfl, rfl, rfl, ?_⟩)⟩
      refine ⟨_, rfl, 2, rfl, .inr (.inl ⟨0, _, .d (.int (c + 1)), rfl, rfl, rfl, ?_⟩)⟩
      refine ⟨smallL (by decide) (by decide), ?_⟩
      have hs : (b + 6700417 * (c + 1)).natAbs < 2 ^ 140 := by omega
      refine ⟨_, rfl, _, rfl, wideI (a := 140) (b := 140) hs hs, ?_⟩
      have hs2 := wide_lt hs hs
      refine ⟨_, rfl, wideI (a := 140 + 140) (b := 140) hs2 hs, ?_⟩
      refine ⟨_, rfl, 2, rfl, .inr (.inl ⟨0, _, .d (.int (c + 1)), rfl, rfl, rfl, ?_⟩)⟩
      refine ⟨smallL (by decide) (by decide), ?_⟩
      refine ⟨_, rfl, ?_⟩
      refine ⟨_, _, rfl, rfl, ⟨by decide, by decide, by decide⟩, ?_⟩
      refine ⟨_, _, rfl, rfl, (by show (0 : Int) < 10 ^ 43 + 57; decide), ?_⟩
      refine ⟨_, rfl, _, rfl, wideI (a := 150) (b := 150) (mod_bd (by decide) (by decide)) (mod_bd (by decide) (by decide)), ?_⟩
      refine ⟨_, rfl, ?_⟩
      refine ⟨_, _, rfl, rfl, ⟨by decide, by decide, by decide⟩, ?_⟩
      refine ⟨_, _, rfl, rfl, (by show (0 : Int) < 10 ^ 38 + 133; decide), ?_⟩
      refine ⟨_, rfl, ?_⟩
      refine ⟨_, _, rfl, rfl, ⟨by decide, by decide, by decide⟩, ?_⟩
      refine ⟨_, _, rfl, rfl, divS (by decide) (by decide), ?_⟩
      refine ⟨_, rfl, ?_⟩
      refine ⟨_, rfl, _, _, rfl, rfl, hm0, ?_⟩
      have fd : FD (k + 1) (fcell a b (c + 1)) := ⟨_, _, _, rfl, ha, hb, hb2, by omega, by omega⟩
      exact feedRet fd (q _ _ (Int.emod_nonneg _ (by omega)) (Int.emod_lt_of_pos _ hm0) fd)
  · rintro xs μ Pk Ex ⟨o, k, m, rfl, _⟩
    rfl
theorem ok_is_week {f : Addr} {fd : FuncData} (F : FunV K "is_week" "is_week" st_is_week f fd) (Z : ∀ x, x ∈ blt → mg x = none) (C_are_unlike_roads : CalG P w K mg base "are_unlike_roads" 1 R_are_unlike_roads) (c_MOST_ROUNDS : ∃ t, mg "MOST_ROUNDS" = some (.int 4 t)) : FnG P w K mg base (L2.CX P w) 2 f fd ["web", "thing"] (SpD K R_is_week) := by
  refine cal_ofG F sc_is_week ?_ (fun cd A ou s H E W hg hr tk po => ?_)
  rotate_left
  have hN := sc_is_week.nd
  have hu := hr.units
  have hu65 := hr.units65
  refine ⟨_, (dss_cons (ds_if (dt_w (dw_or (dt_not (dt_truth (d_callB call_isi s_isiC (da_cons (d_var 1) (da_cons (d_ty (T := "tuple") (Z "tuple" (by decide))) da_nil)) (Z "isinstance" (by decide))))) (dw_or1 (dt_not (dt_chain op_le op_le s_le s_le d_int (d_callB call_len s_lenU (da_cons (d_var 1) da_nil) (Z "len" (by decide))) (d_constI c_MOST_ROUNDS)))))) (dss_one (ds_ret d_bl)) dss_nil) (dss_one (ds_ret (d_callB (cr_all rfl) s_all (da_cons (d_lc (own := [("names", 2)]) rfl hN (di_any (d_var 1)) (blkOk_by (N := ns_is_week) (sc := defScope st_is_week) (by decide +kernel)) (fun _ _ _ _ _ => (dg_name (i := 2) hN)) (fun _ _ _ _ _ => dts_nil) (fun _ _ _ _ _ => (d_calG C_are_unlike_roads hg (hr.mono (by omega)) (da_cons (d_var 0) (da_cons (d_var 2) da_nil))))) da_nil) (Z "all" (by decide)))))), ?_⟩
  · rintro xs μ Pk Ex old ⟨ps, rs, wk, rfl, rfl, lz, ok, q⟩
    have l1 : (1 : Int) ≤ ((wk.map roundD).length : Int) := by rw [List.length_map]; have := ok.one; omega
    have l2 : ((wk.map roundD).length : Int) ≤ 4 := by rw [List.length_map]; have := ok.most; omega
    refine ⟨_, rfl, _, _, _, true, rfl, .inl rfl, rfl, true, rfl, iteF ?_⟩
    refine ⟨_, rfl, _, _, rfl, rfl, _, rfl, itP l1 ⟨_, _, rfl, rfl, _, rfl, ?_⟩⟩
    refine nP l2 ?_
    refine ⟨_, rfl, ?_⟩
    refine lc_map wk roundD (fun _ => .bool true) (oneD_ones _ _) trivial (Nat.le_trans ok.most (by decide)) (fun x hx Q hQ => ?_) ?_
    · exact ⟨_, rfl, _, rfl, _, rfl, fr_d [_, _] ⟨ps, rs, x, rfl, rfl, lz, ok.rd x hx, bk hQ⟩⟩
    refine all_of (c := fun _ => true) (fin_b (List.all_eq_true.mpr fun _ _ => rfl) q)
  · rintro xs μ Pk Ex ⟨ps, rs, p, rfl, _⟩
    rfl
theorem ok__law_any_web {f : Addr} {fd : FuncData} (F : FunV K "_law_any_web" "_law_any_web" st__law_any_web f fd) (C__law_one : CalG P w K mg base "_law_one" 2 R__law_one) (C__law_some_web : CalG P w K mg base "_law_some_web" 5 R__law_some_webT)  : FnG P w K mg base (L2.CX P w) 6 f fd ["_law_feed_here"] (SpD K R__law_any_web) := by
  refine cal_ofG F sc__law_any_web ?_ (fun cd A ou s H E W hg hr tk po => ?_)
  rotate_left
  have hN := sc__law_any_web.nd
  have hu := hr.units
  have hu65 := hr.units65
  refine ⟨_, (dss_one (ds_ret (d_calG C__law_some_web hg (hr.mono (by omega)) (da_cons (d_var 0) (da_cons (d_calG C__law_one hg (hr.mono (by omega)) (da_cons (d_var 0) (da_cons (d_lstU (da_cons d_str (da_cons d_str (da_cons d_str da_nil)))) da_nil))) da_nil))))), ?_⟩
  · rintro xs μ Pk Ex old ⟨o, k, rfl, rfl, hk, k1, q⟩
    refine ⟨_, rfl, _, rfl, by show 3 ≤ sizeLine; decide, .inl ⟨(["tree", "whole", "any"] : List Str).map PyData.str, rfl, ?_⟩⟩
    refine fr_one (([] : List PyData) ++ (["tree", "whole", "any"] : List Str).map PyData.str) rfl (.inl rfl) hk (by omega) (by decide) fun x o2 hx hk2 => ?_
    obtain ⟨way, _, rfl⟩ := List.mem_map.mp hx
    refine fr_someW' rfl hk2 (by omega) fun ps rs o3 ok _ hk3 => ?_
    have fd : FD (k + 400) o3 := hk3.mono (by omega)
    exact feedRet (l := []) fd (q ps rs o3 ok fd)
  · rintro xs μ Pk Ex ⟨o, k, rfl, _⟩
    rfl
theorem ok_is_count {f : Addr} {fd : FuncData} (F : FunV K "is_count" "is_count" st_is_count f fd) (C_is_whole : CalG P w K mg base "is_whole" 1 R_is_whole)  : FnG P w K mg base (L2.CX P w) 2 f fd ["thing", "least", "most"] (SpD K R_is_count) := by
  refine cal_ofG F sc_is_count ?_ (fun cd A ou s H E W hg hr tk po => ?_)
  rotate_left
  have hN := sc_is_count.nd
  have hu := hr.units
  have hu65 := hr.units65
  refine ⟨_, (dss_one (ds_ret (d_and (d_calG C_is_whole hg (hr.mono (by omega)) (da_cons (d_var 0) da_nil)) (d_one (d_chain op_le op_le s_le s_le (d_var 1) (d_var 0) (d_var 2)))))), ?_⟩
  · rintro xs μ Pk Ex old ⟨i, a, b, rfl, rfl, h1, h2, q⟩
    refine ⟨_, rfl, fr_d [_] ⟨i, rfl, rfl, noO, ?_⟩⟩
    refine ⟨_, rfl, iteT ?_⟩
    refine ⟨_, rfl, _, rfl, _, _, rfl, rfl, _, rfl, ?_⟩
    rw [decide_eq_true h1]
    refine iteT ⟨_, rfl, _, _, rfl, rfl, ?_⟩
    exact fin_b (decide_eq_true h2) q
  · rintro xs μ Pk Ex ⟨i, a, b, rfl, _⟩
    rfl
end
end K55

set_option Elab.async false
set_option linter.all false
set_option maxRecDepth 100000
set_option maxHeartbeats 4000000
namespace K55
open PySem PySem.Spec PyProof.Rows L2 Dl Rp
local macro_rules | `(tactic| and_intros) => `(tactic| repeat (first | refine ⟨_, rfl, ?_⟩ | refine iteT ?_ | refine iteF ?_ | refine ⟨_, _, rfl, rfl, ?_⟩ | refine add_int ?_ | refine len_tup ?_ | refine len_lst ?_ | refine tgt2 ?_ | refine tgt3 ?_ | refine ⟨[_], rfl, len1, ?_⟩ | refine ⟨[_, _], rfl, len2, ?_⟩ | refine ⟨[_, _, _], rfl, len3, ?_⟩))
theorem calG_of {P : Program} {w : World} {K : PySem.W.Frag} {mg : Str → Option Value} {base : Heap} {x : Str} {f : Addr} {fd : FuncData} {ps : List Str} {k : Nat} {R : DR} (mx : mg x = some (.ref f)) (kp : PySem.W.keepIn K (.ref f) = true) (b : Binds K fd ps []) (G : FnG P w K mg base (L2.CX P w) k f fd ps (SpD K R)) : CalG P w K mg base x k R :=
  ⟨f, fd, ps, [], [], [], R, mx, kp, b, .nil, fun _ => .nil, G, fun xs μ Pk Ex h => by rw [List.map_nil, List.append_nil]; exact h⟩
theorem ints_dp {K : PySem.W.Frag} {F : Hp} : ∀ ns : List Int, Dl.DpAll K F (ns.map V.int) (ns.map .int)
  | [] => .nil
  | _ :: ns => .cons (.int _) (ints_dp ns)
theorem law_prom {K : PySem.W.Frag} {H : Hp} {a : Addr} {ns : List Int} (hl : ns.length ≤ 63) (hS : SqL K H a (ns.map V.int)) : SpD K R_law [.ref a] H (fun v _ => v = .bl true) fun _ _ _ => False := by
  refine ⟨[.d (.list (ns.map .int))], [], fun x _ => x = .d (.bool true), noX, H, [], ⟨fun _ _ e => e, List.nodup_nil, rfl, fun i a o e => by simp at e⟩, .cons (.lst hS (ints_dp ns)) .nil, ⟨ns, rfl, rfl, hl, rfl⟩, fun v x μ' F' al' H' e g S ab => ?_, fun C o μ' F' al' H' d h => h.elim⟩
  subst e
  exact dp_bl ab
theorem law_noex {P : Program} {w : World} {H : Hp} {s s' : Shared} {e : Value} (h : L2.CX P w [] H s (fun _ _ _ => False) e s') : False := by
  obtain ⟨_, _, _, _, _, _, _, _, _, _, _, _, h⟩ := h
  exact h
section
variable {K : PySem.W.Frag} {mg : Str → Option Value} {h : Heap}
theorem all_mk {l : PySem.W.OpenLaw} {w : World} (X : K.In h) (G : h.Ns mainGlobals mg) {fa : Addr} {f0 : Addr} {od0 an0 : Option Addr} {sl0 : Array (Option Value)} {oc0 kV0 dc0 pm0 cd0 ct0 : Value} {f1 : Addr} {od1 an1 : Option Addr} {sl1 : Array (Option Value)} {oc1 kV1 dc1 pm1 cd1 ct1 : Value} {f2 : Addr} {od2 an2 : Option Addr} {sl2 : Array (Option Value)} {oc2 kV2 dc2 pm2 cd2 ct2 : Value} {f3 : Addr} {od3 an3 : Option Addr} {sl3 : Array (Option Value)} {oc3 kV3 dc3 pm3 cd3 ct3 : Value} {f4 : Addr} {od4 an4 : Option Addr} {sl4 : Array (Option Value)} {oc4 kV4 dc4 pm4 cd4 ct4 : Value} {f5 : Addr} {od5 an5 : Option Addr} {sl5 : Array (Option Value)} {oc5 kV5 dc5 pm5 cd5 ct5 : Value} {f6 : Addr} {od6 an6 : Option Addr} {sl6 : Array (Option Value)} {oc6 kV6 dc6 pm6 cd6 ct6 : Value} {f7 : Addr} {od7 an7 : Option Addr} {sl7 : Array (Option Value)} {oc7 kV7 dc7 pm7 cd7 ct7 : Value} {f8 : Addr} {od8 an8 : Option Addr} {sl8 : Array (Option Value)} {oc8 kV8 dc8 pm8 cd8 ct8 : Value} {f9 : Addr} {od9 an9 : Option Addr} {sl9 : Array (Option Value)} {oc9 kV9 dc9 pm9 cd9 ct9 : Value} {f10 : Addr} {od10 an10 : Option Addr} {sl10 : Array (Option Value)} {oc10 kV10 dc10 pm10 cd10 ct10 : Value} {f11 : Addr} {od11 an11 : Option Addr} {sl11 : Array (Option Value)} {oc11 kV11 dc11 pm11 cd11 ct11 : Value} {f12 : Addr} {od12 an12 : Option Addr} {sl12 : Array (Option Value)} {oc12 kV12 dc12 pm12 cd12 ct12 : Value} {f13 : Addr} {od13 an13 : Option Addr} {sl13 : Array (Option Value)} {oc13 kV13 dc13 pm13 cd13 ct13 : Value} {f14 : Addr} {od14 an14 : Option Addr} {sl14 : Array (Option Value)} {oc14 kV14 dc14 pm14 cd14 ct14 : Value} {f15 : Addr} {od15 an15 : Option Addr} {sl15 : Array (Option Value)} {oc15 kV15 dc15 pm15 cd15 ct15 : Value} {f16 : Addr} {od16 an16 : Option Addr} {sl16 : Array (Option Value)} {oc16 kV16 dc16 pm16 cd16 ct16 : Value} {eT16 eE16 : Addr} {oT16 : Option Addr} {nT16 nE16 : Nat} {sT16 sE16 : Array (Option Value)} {f17 : Addr} {od17 an17 : Option Addr} {sl17 : Array (Option Value)} {oc17 kV17 dc17 pm17 cd17 ct17 : Value} {f18 : Addr} {od18 an18 : Option Addr} {sl18 : Array (Option Value)} {oc18 kV18 dc18 pm18 cd18 ct18 : Value} {f19 : Addr} {od19 an19 : Option Addr} {sl19 : Array (Option Value)} {oc19 kV19 dc19 pm19 cd19 ct19 : Value} {f20 : Addr} {od20 an20 : Option Addr} {sl20 : Array (Option Value)} {oc20 kV20 dc20 pm20 cd20 ct20 : Value} {f21 : Addr} {od21 an21 : Option Addr} {sl21 : Array (Option Value)} {oc21 kV21 dc21 pm21 cd21 ct21 : Value} {f22 : Addr} {od22 an22 : Option Addr} {sl22 : Array (Option Value)} {oc22 kV22 dc22 pm22 cd22 ct22 : Value} {f23 : Addr} {od23 an23 : Option Addr} {sl23 : Array (Option Value)} {oc23 kV23 dc23 pm23 cd23 ct23 : Value} {f24 : Addr} {od24 an24 : Option Addr} {sl24 : Array (Option Value)} {oc24 kV24 dc24 pm24 cd24 ct24 : Value} {f25 : Addr} {od25 an25 : Option Addr} {sl25 : Array (Option Value)} {oc25 kV25 dc25 pm25 cd25 ct25 : Value} {f26 : Addr} {od26 an26 : Option Addr} {sl26 : Array (Option Value)} {oc26 kV26 dc26 pm26 cd26 ct26 : Value} {f27 : Addr} {od27 an27 : Option Addr} {sl27 : Array (Option Value)} {oc27 kV27 dc27 pm27 cd27 ct27 : Value} {f28 : Addr} {od28 an28 : Option Addr} {sl28 : Array (Option Value)} {oc28 kV28 dc28 pm28 cd28 ct28 : Value} {f29 : Addr} {od29 an29 : Option Addr} {sl29 : Array (Option Value)} {oc29 kV29 dc29 pm29 cd29 ct29 : Value} {f30 : Addr} {od30 an30 : Option Addr} {sl30 : Array (Option Value)} {oc30 kV30 dc30 pm30 cd30 ct30 : Value} {f31 : Addr} {od31 an31 : Option Addr} {sl31 : Array (Option Value)} {oc31 kV31 dc31 pm31 cd31 ct31 : Value} {f32 : Addr} {od32 an32 : Option Addr} {sl32 : Array (Option Value)} {oc32 kV32 dc32 pm32 cd32 ct32 : Value} {f33 : Addr} {od33 an33 : Option Addr} {sl33 : Array (Option Value)} {oc33 kV33 dc33 pm33 cd33 ct33 : Value} {f34 : Addr} {od34 an34 : Option Addr} {sl34 : Array (Option Value)} {oc34 kV34 dc34 pm34 cd34 ct34 : Value} {f35 : Addr} {od35 an35 : Option Addr} {sl35 : Array (Option Value)} {oc35 kV35 dc35 pm35 cd35 ct35 : Value} {f36 : Addr} {od36 an36 : Option Addr} {sl36 : Array (Option Value)} {oc36 kV36 dc36 pm36 cd36 ct36 : Value} {f37 : Addr} {od37 an37 : Option Addr} {sl37 : Array (Option Value)} {oc37 kV37 dc37 pm37 cd37 ct37 : Value} {f38 : Addr} {od38 an38 : Option Addr} {sl38 : Array (Option Value)} {oc38 kV38 dc38 pm38 cd38 ct38 : Value} {f39 : Addr} {od39 an39 : Option Addr} {sl39 : Array (Option Value)} {oc39 kV39 dc39 pm39 cd39 ct39 : Value} {f40 : Addr} {od40 an40 : Option Addr} {sl40 : Array (Option Value)} {oc40 kV40 dc40 pm40 cd40 ct40 : Value} {t_LAST_DAY : Tok} {t_MOST_PLACES : Tok} {t_MOST_ROADS : Tok} {t_MOST_ROUNDS : Tok} {t_MOST_SIGNS : Tok} (hfa : mg "law" = some (.ref fa))
    (a0 : PySem.W.nsIn K mainGlobals "is_whole" = some (some (.ref f0))) (l0 : K.lookup f0 = some ⟨oc0, od0, .func (PySem.W.fnOf "is_whole" "is_whole" (defArgs st_is_whole) (defBody st_is_whole) (defScope st_is_whole) .none kV0 dc0 pm0 an0 cd0 ct0), sl0⟩) (c0 : PySem.W.codeIn K cd0 "is_whole" = true) (k0 : PySem.W.keepIn K (.ref f0) = true)
    (a1 : PySem.W.nsIn K mainGlobals "is_count" = some (some (.ref f1))) (l1 : K.lookup f1 = some ⟨oc1, od1, .func (PySem.W.fnOf "is_count" "is_count" (defArgs st_is_count) (defBody st_is_count) (defScope st_is_count) .none kV1 dc1 pm1 an1 cd1 ct1), sl1⟩) (c1 : PySem.W.codeIn K cd1 "is_count" = true) (k1 : PySem.W.keepIn K (.ref f1) = true)
    (a2 : PySem.W.nsIn K mainGlobals "is_name" = some (some (.ref f2))) (l2 : K.lookup f2 = some ⟨oc2, od2, .func (PySem.W.fnOf "is_name" "is_name" (defArgs st_is_name) (defBody st_is_name) (defScope st_is_name) .none kV2 dc2 pm2 an2 cd2 ct2), sl2⟩) (c2 : PySem.W.codeIn K cd2 "is_name" = true) (k2 : PySem.W.keepIn K (.ref f2) = true)
    (a3 : PySem.W.nsIn K mainGlobals "are_places" = some (some (.ref f3))) (l3 : K.lookup f3 = some ⟨oc3, od3, .func (PySem.W.fnOf "are_places" "are_places" (defArgs st_are_places) (defBody st_are_places) (defScope st_are_places) .none kV3 dc3 pm3 an3 cd3 ct3), sl3⟩) (c3 : PySem.W.codeIn K cd3 "are_places" = true) (k3 : PySem.W.keepIn K (.ref f3) = true)
    (a4 : PySem.W.nsIn K mainGlobals "is_road_between" = some (some (.ref f4))) (l4 : K.lookup f4 = some ⟨oc4, od4, .func (PySem.W.fnOf "is_road_between" "is_road_between" (defArgs st_is_road_between) (defBody st_is_road_between) (defScope st_is_road_between) .none kV4 dc4 pm4 an4 cd4 ct4), sl4⟩) (c4 : PySem.W.codeIn K cd4 "is_road_between" = true) (k4 : PySem.W.keepIn K (.ref f4) = true)
    (a5 : PySem.W.nsIn K mainGlobals "are_roads_between" = some (some (.ref f5))) (l5 : K.lookup f5 = some ⟨oc5, od5, .func (PySem.W.fnOf "are_roads_between" "are_roads_between" (defArgs st_are_roads_between) (defBody st_are_roads_between) (defScope st_are_roads_between) .none kV5 dc5 pm5 an5 cd5 ct5), sl5⟩) (c5 : PySem.W.codeIn K cd5 "are_roads_between" = true) (k5 : PySem.W.keepIn K (.ref f5) = true)
    (a6 : PySem.W.nsIn K mainGlobals "is_web" = some (some (.ref f6))) (l6 : K.lookup f6 = some ⟨oc6, od6, .func (PySem.W.fnOf "is_web" "is_web" (defArgs st_is_web) (defBody st_is_web) (defScope st_is_web) .none kV6 dc6 pm6 an6 cd6 ct6), sl6⟩) (c6 : PySem.W.codeIn K cd6 "is_web" = true) (k6 : PySem.W.keepIn K (.ref f6) = true)
    (a7 : PySem.W.nsIn K mainGlobals "need_web" = some (some (.ref f7))) (l7 : K.lookup f7 = some ⟨oc7, od7, .func (PySem.W.fnOf "need_web" "need_web" (defArgs st_need_web) (defBody st_need_web) (defScope st_need_web) .none kV7 dc7 pm7 an7 cd7 ct7), sl7⟩) (c7 : PySem.W.codeIn K cd7 "need_web" = true) (k7 : PySem.W.keepIn K (.ref f7) = true)
    (a8 : PySem.W.nsIn K mainGlobals "need_place" = some (some (.ref f8))) (l8 : K.lookup f8 = some ⟨oc8, od8, .func (PySem.W.fnOf "need_place" "need_place" (defArgs st_need_place) (defBody st_need_place) (defScope st_need_place) .none kV8 dc8 pm8 an8 cd8 ct8), sl8⟩) (c8 : PySem.W.codeIn K cd8 "need_place" = true) (k8 : PySem.W.keepIn K (.ref f8) = true)
    (a9 : PySem.W.nsIn K mainGlobals "are_unlike_roads" = some (some (.ref f9))) (l9 : K.lookup f9 = some ⟨oc9, od9, .func (PySem.W.fnOf "are_unlike_roads" "are_unlike_roads" (defArgs st_are_unlike_roads) (defBody st_are_unlike_roads) (defScope st_are_unlike_roads) .none kV9 dc9 pm9 an9 cd9 ct9), sl9⟩) (c9 : PySem.W.codeIn K cd9 "are_unlike_roads" = true) (k9 : PySem.W.keepIn K (.ref f9) = true)
    (a10 : PySem.W.nsIn K mainGlobals "ends_of" = some (some (.ref f10))) (l10 : K.lookup f10 = some ⟨oc10, od10, .func (PySem.W.fnOf "ends_of" "ends_of" (defArgs st_ends_of) (defBody st_ends_of) (defScope st_ends_of) .none kV10 dc10 pm10 an10 cd10 ct10), sl10⟩) (c10 : PySem.W.codeIn K cd10 "ends_of" = true) (k10 : PySem.W.keepIn K (.ref f10) = true)
    (a11 : PySem.W.nsIn K mainGlobals "is_week" = some (some (.ref f11))) (l11 : K.lookup f11 = some ⟨oc11, od11, .func (PySem.W.fnOf "is_week" "is_week" (defArgs st_is_week) (defBody st_is_week) (defScope st_is_week) .none kV11 dc11 pm11 an11 cd11 ct11), sl11⟩) (c11 : PySem.W.codeIn K cd11 "is_week" = true) (k11 : PySem.W.keepIn K (.ref f11) = true)
    (a12 : PySem.W.nsIn K mainGlobals "need_week" = some (some (.ref f12))) (l12 : K.lookup f12 = some ⟨oc12, od12, .func (PySem.W.fnOf "need_week" "need_week" (defArgs st_need_week) (defBody st_need_week) (defScope st_need_week) .none kV12 dc12 pm12 an12 cd12 ct12), sl12⟩) (c12 : PySem.W.codeIn K cd12 "need_week" = true) (k12 : PySem.W.keepIn K (.ref f12) = true)
    (a13 : PySem.W.nsIn K mainGlobals "round_of" = some (some (.ref f13))) (l13 : K.lookup f13 = some ⟨oc13, od13, .func (PySem.W.fnOf "round_of" "round_of" (defArgs st_round_of) (defBody st_round_of) (defScope st_round_of) .none kV13 dc13 pm13 an13 cd13 ct13), sl13⟩) (c13 : PySem.W.codeIn K cd13 "round_of" = true) (k13 : PySem.W.keepIn K (.ref f13) = true)
    (a14 : PySem.W.nsIn K mainGlobals "is_moment" = some (some (.ref f14))) (l14 : K.lookup f14 = some ⟨oc14, od14, .func (PySem.W.fnOf "is_moment" "is_moment" (defArgs st_is_moment) (defBody st_is_moment) (defScope st_is_moment) .none kV14 dc14 pm14 an14 cd14 ct14), sl14⟩) (c14 : PySem.W.codeIn K cd14 "is_moment" = true) (k14 : PySem.W.keepIn K (.ref f14) = true)
    (a15 : PySem.W.nsIn K mainGlobals "need_moment" = some (some (.ref f15))) (l15 : K.lookup f15 = some ⟨oc15, od15, .func (PySem.W.fnOf "need_moment" "need_moment" (defArgs st_need_moment) (defBody st_need_moment) (defScope st_need_moment) .none kV15 dc15 pm15 an15 cd15 ct15), sl15⟩) (c15 : PySem.W.codeIn K cd15 "need_moment" = true) (k15 : PySem.W.keepIn K (.ref f15) = true)
    (a16 : PySem.W.nsIn K mainGlobals "spread" = some (some (.ref f16))) (l16 : K.lookup f16 = some ⟨oc16, od16, .func (PySem.W.fnOf "spread" "spread" (defArgs st_spread) (defBody st_spread) (defScope st_spread) (.ref eT16) kV16 dc16 pm16 an16 cd16 ct16), sl16⟩) (c16 : PySem.W.codeIn K cd16 "spread" = true) (k16 : PySem.W.keepIn K (.ref f16) = true)
    (lT16 : K.lookup eT16 = some ⟨.type "tuple", oT16, .seq #[.ref eE16] nT16, sT16⟩) (lE16 : K.lookup eE16 = some ⟨.type "tuple", none, .seq #[] nE16, sE16⟩)
    (a17 : PySem.W.nsIn K mainGlobals "listed" = some (some (.ref f17))) (l17 : K.lookup f17 = some ⟨oc17, od17, .func (PySem.W.fnOf "listed" "listed" (defArgs st_listed) (defBody st_listed) (defScope st_listed) .none kV17 dc17 pm17 an17 cd17 ct17), sl17⟩) (c17 : PySem.W.codeIn K cd17 "listed" = true) (k17 : PySem.W.keepIn K (.ref f17) = true)
    (a18 : PySem.W.nsIn K mainGlobals "beliefs" = some (some (.ref f18))) (l18 : K.lookup f18 = some ⟨oc18, od18, .func (PySem.W.fnOf "beliefs" "beliefs" (defArgs st_beliefs) (defBody st_beliefs) (defScope st_beliefs) .none kV18 dc18 pm18 an18 cd18 ct18), sl18⟩) (c18 : PySem.W.codeIn K cd18 "beliefs" = true) (k18 : PySem.W.keepIn K (.ref f18) = true)
    (a19 : PySem.W.nsIn K mainGlobals "last_belief" = some (some (.ref f19))) (l19 : K.lookup f19 = some ⟨oc19, od19, .func (PySem.W.fnOf "last_belief" "last_belief" (defArgs st_last_belief) (defBody st_last_belief) (defScope st_last_belief) .none kV19 dc19 pm19 an19 cd19 ct19), sl19⟩) (c19 : PySem.W.codeIn K cd19 "last_belief" = true) (k19 : PySem.W.keepIn K (.ref f19) = true)
    (a20 : PySem.W.nsIn K mainGlobals "_law_feed" = some (some (.ref f20))) (l20 : K.lookup f20 = some ⟨oc20, od20, .func (PySem.W.fnOf "_law_feed" "_law_feed" (defArgs st__law_feed) (defBody st__law_feed) (defScope st__law_feed) .none kV20 dc20 pm20 an20 cd20 ct20), sl20⟩) (c20 : PySem.W.codeIn K cd20 "_law_feed" = true) (k20 : PySem.W.keepIn K (.ref f20) = true)
    (a21 : PySem.W.nsIn K mainGlobals "_law_draw" = some (some (.ref f21))) (l21 : K.lookup f21 = some ⟨oc21, od21, .func (PySem.W.fnOf "_law_draw" "_law_draw" (defArgs st__law_draw) (defBody st__law_draw) (defScope st__law_draw) .none kV21 dc21 pm21 an21 cd21 ct21), sl21⟩) (c21 : PySem.W.codeIn K cd21 "_law_draw" = true) (k21 : PySem.W.keepIn K (.ref f21) = true)
    (a22 : PySem.W.nsIn K mainGlobals "_law_one" = some (some (.ref f22))) (l22 : K.lookup f22 = some ⟨oc22, od22, .func (PySem.W.fnOf "_law_one" "_law_one" (defArgs st__law_one) (defBody st__law_one) (defScope st__law_one) .none kV22 dc22 pm22 an22 cd22 ct22), sl22⟩) (c22 : PySem.W.codeIn K cd22 "_law_one" = true) (k22 : PySem.W.keepIn K (.ref f22) = true)
    (a23 : PySem.W.nsIn K mainGlobals "_law_mixed" = some (some (.ref f23))) (l23 : K.lookup f23 = some ⟨oc23, od23, .func (PySem.W.fnOf "_law_mixed" "_law_mixed" (defArgs st__law_mixed) (defBody st__law_mixed) (defScope st__law_mixed) .none kV23 dc23 pm23 an23 cd23 ct23), sl23⟩) (c23 : PySem.W.codeIn K cd23 "_law_mixed" = true) (k23 : PySem.W.keepIn K (.ref f23) = true)
    (a24 : PySem.W.nsIn K mainGlobals "_law_names" = some (some (.ref f24))) (l24 : K.lookup f24 = some ⟨oc24, od24, .func (PySem.W.fnOf "_law_names" "_law_names" (defArgs st__law_names) (defBody st__law_names) (defScope st__law_names) .none kV24 dc24 pm24 an24 cd24 ct24), sl24⟩) (c24 : PySem.W.codeIn K cd24 "_law_names" = true) (k24 : PySem.W.keepIn K (.ref f24) = true)
    (a25 : PySem.W.nsIn K mainGlobals "_law_web" = some (some (.ref f25))) (l25 : K.lookup f25 = some ⟨oc25, od25, .func (PySem.W.fnOf "_law_web" "_law_web" (defArgs st__law_web) (defBody st__law_web) (defScope st__law_web) .none kV25 dc25 pm25 an25 cd25 ct25), sl25⟩) (c25 : PySem.W.codeIn K cd25 "_law_web" = true) (k25 : PySem.W.keepIn K (.ref f25) = true)
    (a26 : PySem.W.nsIn K mainGlobals "_law_rota" = some (some (.ref f26))) (l26 : K.lookup f26 = some ⟨oc26, od26, .func (PySem.W.fnOf "_law_rota" "_law_rota" (defArgs st__law_rota) (defBody st__law_rota) (defScope st__law_rota) .none kV26 dc26 pm26 an26 cd26 ct26), sl26⟩) (c26 : PySem.W.codeIn K cd26 "_law_rota" = true) (k26 : PySem.W.keepIn K (.ref f26) = true)
    (a27 : PySem.W.nsIn K mainGlobals "_law_week" = some (some (.ref f27))) (l27 : K.lookup f27 = some ⟨oc27, od27, .func (PySem.W.fnOf "_law_week" "_law_week" (defArgs st__law_week) (defBody st__law_week) (defScope st__law_week) .none kV27 dc27 pm27 an27 cd27 ct27), sl27⟩) (c27 : PySem.W.codeIn K cd27 "_law_week" = true) (k27 : PySem.W.keepIn K (.ref f27) = true)
    (a28 : PySem.W.nsIn K mainGlobals "_law_round" = some (some (.ref f28))) (l28 : K.lookup f28 = some ⟨oc28, od28, .func (PySem.W.fnOf "_law_round" "_law_round" (defArgs st__law_round) (defBody st__law_round) (defScope st__law_round) .none kV28 dc28 pm28 an28 cd28 ct28), sl28⟩) (c28 : PySem.W.codeIn K cd28 "_law_round" = true) (k28 : PySem.W.keepIn K (.ref f28) = true)
    (a29 : PySem.W.nsIn K mainGlobals "_law_moment" = some (some (.ref f29))) (l29 : K.lookup f29 = some ⟨oc29, od29, .func (PySem.W.fnOf "_law_moment" "_law_moment" (defArgs st__law_moment) (defBody st__law_moment) (defScope st__law_moment) .none kV29 dc29 pm29 an29 cd29 ct29), sl29⟩) (c29 : PySem.W.codeIn K cd29 "_law_moment" = true) (k29 : PySem.W.keepIn K (.ref f29) = true)
    (a30 : PySem.W.nsIn K mainGlobals "_law_arrivals" = some (some (.ref f30))) (l30 : K.lookup f30 = some ⟨oc30, od30, .func (PySem.W.fnOf "_law_arrivals" "_law_arrivals" (defArgs st__law_arrivals) (defBody st__law_arrivals) (defScope st__law_arrivals) .none kV30 dc30 pm30 an30 cd30 ct30), sl30⟩) (c30 : PySem.W.codeIn K cd30 "_law_arrivals" = true) (k30 : PySem.W.keepIn K (.ref f30) = true)
    (a31 : PySem.W.nsIn K mainGlobals "_law_path" = some (some (.ref f31))) (l31 : K.lookup f31 = some ⟨oc31, od31, .func (PySem.W.fnOf "_law_path" "_law_path" (defArgs st__law_path) (defBody st__law_path) (defScope st__law_path) .none kV31 dc31 pm31 an31 cd31 ct31), sl31⟩) (c31 : PySem.W.codeIn K cd31 "_law_path" = true) (k31 : PySem.W.keepIn K (.ref f31) = true)
    (a32 : PySem.W.nsIn K mainGlobals "_law_big_web" = some (some (.ref f32))) (l32 : K.lookup f32 = some ⟨oc32, od32, .func (PySem.W.fnOf "_law_big_web" "_law_big_web" (defArgs st__law_big_web) (defBody st__law_big_web) (defScope st__law_big_web) .none kV32 dc32 pm32 an32 cd32 ct32), sl32⟩) (c32 : PySem.W.codeIn K cd32 "_law_big_web" = true) (k32 : PySem.W.keepIn K (.ref f32) = true)
    (a33 : PySem.W.nsIn K mainGlobals "_law_some_web" = some (some (.ref f33))) (l33 : K.lookup f33 = some ⟨oc33, od33, .func (PySem.W.fnOf "_law_some_web" "_law_some_web" (defArgs st__law_some_web) (defBody st__law_some_web) (defScope st__law_some_web) .none kV33 dc33 pm33 an33 cd33 ct33), sl33⟩) (c33 : PySem.W.codeIn K cd33 "_law_some_web" = true) (k33 : PySem.W.keepIn K (.ref f33) = true)
    (a34 : PySem.W.nsIn K mainGlobals "_law_any_web" = some (some (.ref f34))) (l34 : K.lookup f34 = some ⟨oc34, od34, .func (PySem.W.fnOf "_law_any_web" "_law_any_web" (defArgs st__law_any_web) (defBody st__law_any_web) (defScope st__law_any_web) .none kV34 dc34 pm34 an34 cd34 ct34), sl34⟩) (c34 : PySem.W.codeIn K cd34 "_law_any_web" = true) (k34 : PySem.W.keepIn K (.ref f34) = true)
    (a35 : PySem.W.nsIn K mainGlobals "_law_listed" = some (some (.ref f35))) (l35 : K.lookup f35 = some ⟨oc35, od35, .func (PySem.W.fnOf "_law_listed" "_law_listed" (defArgs st__law_listed) (defBody st__law_listed) (defScope st__law_listed) .none kV35 dc35 pm35 an35 cd35 ct35), sl35⟩) (c35 : PySem.W.codeIn K cd35 "_law_listed" = true) (k35 : PySem.W.keepIn K (.ref f35) = true)
    (a36 : PySem.W.nsIn K mainGlobals "_law_beliefs" = some (some (.ref f36))) (l36 : K.lookup f36 = some ⟨oc36, od36, .func (PySem.W.fnOf "_law_beliefs" "_law_beliefs" (defArgs st__law_beliefs) (defBody st__law_beliefs) (defScope st__law_beliefs) .none kV36 dc36 pm36 an36 cd36 ct36), sl36⟩) (c36 : PySem.W.codeIn K cd36 "_law_beliefs" = true) (k36 : PySem.W.keepIn K (.ref f36) = true)
    (a37 : PySem.W.nsIn K mainGlobals "_law_same_place_right" = some (some (.ref f37))) (l37 : K.lookup f37 = some ⟨oc37, od37, .func (PySem.W.fnOf "_law_same_place_right" "_law_same_place_right" (defArgs st__law_same_place_right) (defBody st__law_same_place_right) (defScope st__law_same_place_right) .none kV37 dc37 pm37 an37 cd37 ct37), sl37⟩) (c37 : PySem.W.codeIn K cd37 "_law_same_place_right" = true) (k37 : PySem.W.keepIn K (.ref f37) = true)
    (a38 : PySem.W.nsIn K mainGlobals "_law_behind_right" = some (some (.ref f38))) (l38 : K.lookup f38 = some ⟨oc38, od38, .func (PySem.W.fnOf "_law_behind_right" "_law_behind_right" (defArgs st__law_behind_right) (defBody st__law_behind_right) (defScope st__law_behind_right) .none kV38 dc38 pm38 an38 cd38 ct38), sl38⟩) (c38 : PySem.W.codeIn K cd38 "_law_behind_right" = true) (k38 : PySem.W.keepIn K (.ref f38) = true)
    (a39 : PySem.W.nsIn K mainGlobals "_law_right" = some (some (.ref f39))) (l39 : K.lookup f39 = some ⟨oc39, od39, .func (PySem.W.fnOf "_law_right" "_law_right" (defArgs st__law_right) (defBody st__law_right) (defScope st__law_right) .none kV39 dc39 pm39 an39 cd39 ct39), sl39⟩) (c39 : PySem.W.codeIn K cd39 "_law_right" = true) (k39 : PySem.W.keepIn K (.ref f39) = true)
    (a40 : PySem.W.nsIn K mainGlobals "law" = some (some (.ref f40))) (l40 : K.lookup f40 = some ⟨oc40, od40, .func (PySem.W.fnOf "law" "law" (defArgs st_law) (defBody st_law) (defScope st_law) .none kV40 dc40 pm40 an40 cd40 ct40), sl40⟩) (c40 : PySem.W.codeIn K cd40 "law" = true) (k40 : PySem.W.keepIn K (.ref f40) = true)
    (g_LAST_DAY : PySem.W.nsIn K mainGlobals "LAST_DAY" = some (some (.int 1000000 t_LAST_DAY)))
    (g_MOST_PLACES : PySem.W.nsIn K mainGlobals "MOST_PLACES" = some (some (.int 10 t_MOST_PLACES)))
    (g_MOST_ROADS : PySem.W.nsIn K mainGlobals "MOST_ROADS" = some (some (.int 14 t_MOST_ROADS)))
    (g_MOST_ROUNDS : PySem.W.nsIn K mainGlobals "MOST_ROUNDS" = some (some (.int 4 t_MOST_ROUNDS)))
    (g_MOST_SIGNS : PySem.W.nsIn K mainGlobals "MOST_SIGNS" = some (some (.int 8 t_MOST_SIGNS)))
    (z0 : PySem.W.nsIn K mainGlobals "len" = some none)
    (z1 : PySem.W.nsIn K mainGlobals "max" = some none)
    (z2 : PySem.W.nsIn K mainGlobals "min" = some none)
    (z3 : PySem.W.nsIn K mainGlobals "int" = some none)
    (z4 : PySem.W.nsIn K mainGlobals "sum" = some none)
    (z5 : PySem.W.nsIn K mainGlobals "list" = some none)
    (z6 : PySem.W.nsIn K mainGlobals "tuple" = some none)
    (z7 : PySem.W.nsIn K mainGlobals "range" = some none)
    (z8 : PySem.W.nsIn K mainGlobals "enumerate" = some none)
    (z9 : PySem.W.nsIn K mainGlobals "zip" = some none)
    (z10 : PySem.W.nsIn K mainGlobals "all" = some none)
    (z11 : PySem.W.nsIn K mainGlobals "any" = some none)
    (z12 : PySem.W.nsIn K mainGlobals "isinstance" = some none)
    (z13 : PySem.W.nsIn K mainGlobals "str" = some none)
    (z14 : PySem.W.nsIn K mainGlobals "bool" = some none)
    (z15 : PySem.W.nsIn K mainGlobals "repr" = some none)
    (z16 : PySem.W.nsIn K mainGlobals "set" = some none)
    (z17 : PySem.W.nsIn K mainGlobals "sorted" = some none)
    (z18 : PySem.W.nsIn K mainGlobals "dict" = some none) :
    ∃ fd : FuncData, (∀ (s : Shared) (v : Value), BindsTo s fd ⟨[v], []⟩ [("_law_script", v)]) ∧ ∀ base : Heap, K.In base → base.Ns mainGlobals mg → FnG l.prog w K mg base (L2.CX l.prog w) 10 fa fd ["_law_script"] (SpD K R_law) := by
  have e := hfa.symm.trans (PySem.W.mg_of X G a40)
  cases e
  have Z : ∀ x, x ∈ blt → mg x = none := fun x hx => by
    unfold blt at hx
    simp only [List.mem_cons, List.not_mem_nil, or_false] at hx
    rcases hx with rfl | rfl | rfl | rfl | rfl | rfl | rfl | rfl | rfl | rfl | rfl | rfl | rfl | rfl | rfl | rfl | rfl | rfl | rfl
    · exact PySem.W.mg_none_of X G z0
    · exact PySem.W.mg_none_of X G z1
    · exact PySem.W.mg_none_of X G z2
    · exact PySem.W.mg_none_of X G z3
    · exact PySem.W.mg_none_of X G z4
    · exact PySem.W.mg_none_of X G z5
    · exact PySem.W.mg_none_of X G z6
    · exact PySem.W.mg_none_of X G z7
    · exact PySem.W.mg_none_of X G z8
    · exact PySem.W.mg_none_of X G z9
    · exact PySem.W.mg_none_of X G z10
    · exact PySem.W.mg_none_of X G z11
    · exact PySem.W.mg_none_of X G z12
    · exact PySem.W.mg_none_of X G z13
    · exact PySem.W.mg_none_of X G z14
    · exact PySem.W.mg_none_of X G z15
    · exact PySem.W.mg_none_of X G z16
    · exact PySem.W.mg_none_of X G z17
    · exact PySem.W.mg_none_of X G z18
  refine ⟨PySem.W.fnOf "law" "law" (defArgs st_law) (defBody st_law) (defScope st_law) .none kV40 dc40 pm40 an40 cd40 ct40, fun s v => .of_eq rfl, fun base _ _ => ?_⟩
  have F0 := fun_mk (st := st_is_whole) l0 c0 k0
  have v0 := FunV.of F0
  have K0 := ok_is_whole (P := l.prog) (w := w) (mg := mg) (base := base) v0 Z
  have b0 := F0.binds (ps := ["thing"]) fun _ _ _ _ _ _ us hl => match us, hl with | [_], _ => rfl
  have C0 : CalG l.prog w K mg base "is_whole" 1 R_is_whole := calG_of (PySem.W.mg_of X G a0) k0 b0 K0
  have F1 := fun_mk (st := st_is_count) l1 c1 k1
  have v1 := FunV.of F1
  have K1 := ok_is_count (P := l.prog) (w := w) (mg := mg) (base := base) v1 C0
  have b1 := F1.binds (ps := ["thing", "least", "most"]) fun _ _ _ _ _ _ us hl => match us, hl with | [_, _, _], _ => rfl
  have C1 : CalG l.prog w K mg base "is_count" 2 R_is_count := calG_of (PySem.W.mg_of X G a1) k1 b1 K1
  have F2 := fun_mk (st := st_is_name) l2 c2 k2
  have v2 := FunV.of F2
  have K2 := ok_is_name (P := l.prog) (w := w) (mg := mg) (base := base) v2 Z ⟨_, PySem.W.mg_of X G g_MOST_SIGNS⟩
  have b2 := F2.binds (ps := ["thing"]) fun _ _ _ _ _ _ us hl => match us, hl with | [_], _ => rfl
  have C2 : CalG l.prog w K mg base "is_name" 1 R_is_name := calG_of (PySem.W.mg_of X G a2) k2 b2 K2
  have F3 := fun_mk (st := st_are_places) l3 c3 k3
  have v3 := FunV.of F3
  have K3 := ok_are_places (P := l.prog) (w := w) (mg := mg) (base := base) v3 Z C2 ⟨_, PySem.W.mg_of X G g_MOST_PLACES⟩
  have b3 := F3.binds (ps := ["thing"]) fun _ _ _ _ _ _ us hl => match us, hl with | [_], _ => rfl
  have C3 : CalG l.prog w K mg base "are_places" 2 R_are_places := calG_of (PySem.W.mg_of X G a3) k3 b3 K3
  have F4 := fun_mk (st := st_is_road_between) l4 c4 k4
  have v4 := FunV.of F4
  have K4 := ok_is_road_between (P := l.prog) (w := w) (mg := mg) (base := base) v4 Z C2
  have b4 := F4.binds (ps := ["places", "thing"]) fun _ _ _ _ _ _ us hl => match us, hl with | [_, _], _ => rfl
  have C4 : CalG l.prog w K mg base "is_road_between" 2 R_is_road_between := calG_of (PySem.W.mg_of X G a4) k4 b4 K4
  have F5 := fun_mk (st := st_are_roads_between) l5 c5 k5
  have v5 := FunV.of F5
  have K5 := ok_are_roads_between (P := l.prog) (w := w) (mg := mg) (base := base) v5 Z C4 ⟨_, PySem.W.mg_of X G g_MOST_ROADS⟩
  have b5 := F5.binds (ps := ["places", "thing"]) fun _ _ _ _ _ _ us hl => match us, hl with | [_, _], _ => rfl
  have C5 : CalG l.prog w K mg base "are_roads_between" 3 R_are_roads_between := calG_of (PySem.W.mg_of X G a5) k5 b5 K5
  have F6 := fun_mk (st := st_is_web) l6 c6 k6
  have v6 := FunV.of F6
  have K6 := ok_is_web (P := l.prog) (w := w) (mg := mg) (base := base) v6 Z C3 C5
  have b6 := F6.binds (ps := ["thing"]) fun _ _ _ _ _ _ us hl => match us, hl with | [_], _ => rfl
  have C6 : CalG l.prog w K mg base "is_web" 4 R_is_web := calG_of (PySem.W.mg_of X G a6) k6 b6 K6
  have F7 := fun_mk (st := st_need_web) l7 c7 k7
  have v7 := FunV.of F7
  have K7 := ok_need_web (P := l.prog) (w := w) (mg := mg) (base := base) v7 C6
  have b7 := F7.binds (ps := ["web"]) fun _ _ _ _ _ _ us hl => match us, hl with | [_], _ => rfl
  have C7 : CalG l.prog w K mg base "need_web" 5 R_need_web := calG_of (PySem.W.mg_of X G a7) k7 b7 K7
  have F8 := fun_mk (st := st_need_place) l8 c8 k8
  have v8 := FunV.of F8
  have K8 := ok_need_place (P := l.prog) (w := w) (mg := mg) (base := base) v8 Z
  have b8 := F8.binds (ps := ["web", "place"]) fun _ _ _ _ _ _ us hl => match us, hl with | [_, _], _ => rfl
  have C8 : CalG l.prog w K mg base "need_place" 1 R_need_place := calG_of (PySem.W.mg_of X G a8) k8 b8 K8
  have F9 := fun_mk (st := st_are_unlike_roads) l9 c9 k9
  have v9 := FunV.of F9
  have K9 := ok_are_unlike_roads (P := l.prog) (w := w) (mg := mg) (base := base) v9 Z
  have b9 := F9.binds (ps := ["web", "thing"]) fun _ _ _ _ _ _ us hl => match us, hl with | [_, _], _ => rfl
  have C9 : CalG l.prog w K mg base "are_unlike_roads" 1 R_are_unlike_roads := calG_of (PySem.W.mg_of X G a9) k9 b9 K9
  have F10 := fun_mk (st := st_ends_of) l10 c10 k10
  have v10 := FunV.of F10
  have K10 := ok_ends_of (P := l.prog) (w := w) (mg := mg) (base := base) v10
  have b10 := F10.binds (ps := ["web"]) fun _ _ _ _ _ _ us hl => match us, hl with | [_], _ => rfl
  have C10 : CalG l.prog w K mg base "ends_of" 1 R_ends_of := calG_of (PySem.W.mg_of X G a10) k10 b10 K10
  have F11 := fun_mk (st := st_is_week) l11 c11 k11
  have v11 := FunV.of F11
  have K11 := ok_is_week (P := l.prog) (w := w) (mg := mg) (base := base) v11 Z C9 ⟨_, PySem.W.mg_of X G g_MOST_ROUNDS⟩
  have b11 := F11.binds (ps := ["web", "thing"]) fun _ _ _ _ _ _ us hl => match us, hl with | [_, _], _ => rfl
  have C11 : CalG l.prog w K mg base "is_week" 2 R_is_week := calG_of (PySem.W.mg_of X G a11) k11 b11 K11
  have F12 := fun_mk (st := st_need_week) l12 c12 k12
  have v12 := FunV.of F12
  have K12 := ok_need_week (P := l.prog) (w := w) (mg := mg) (base := base) v12 C11
  have b12 := F12.binds (ps := ["web", "week"]) fun _ _ _ _ _ _ us hl => match us, hl with | [_, _], _ => rfl
  have C12 : CalG l.prog w K mg base "need_week" 3 R_need_week := calG_of (PySem.W.mg_of X G a12) k12 b12 K12
  have F13 := fun_mk (st := st_round_of) l13 c13 k13
  have v13 := FunV.of F13
  have K13 := ok_round_of (P := l.prog) (w := w) (mg := mg) (base := base) v13 Z
  have b13 := F13.binds (ps := ["week", "day"]) fun _ _ _ _ _ _ us hl => match us, hl with | [_, _], _ => rfl
  have C13 : CalG l.prog w K mg base "round_of" 1 R_round_of := calG_of (PySem.W.mg_of X G a13) k13 b13 K13
  have F14 := fun_mk (st := st_is_moment) l14 c14 k14
  have v14 := FunV.of F14
  have K14 := ok_is_moment (P := l.prog) (w := w) (mg := mg) (base := base) v14 Z C1 C13 ⟨_, PySem.W.mg_of X G g_LAST_DAY⟩
  have b14 := F14.binds (ps := ["week", "thing"]) fun _ _ _ _ _ _ us hl => match us, hl with | [_, _], _ => rfl
  have C14 : CalG l.prog w K mg base "is_moment" 3 R_is_moment := calG_of (PySem.W.mg_of X G a14) k14 b14 K14
  have F15 := fun_mk (st := st_need_moment) l15 c15 k15
  have v15 := FunV.of F15
  have K15 := ok_need_moment (P := l.prog) (w := w) (mg := mg) (base := base) v15 C14
  have b15 := F15.binds (ps := ["week", "moment"]) fun _ _ _ _ _ _ us hl => match us, hl with | [_, _], _ => rfl
  have C15 : CalG l.prog w K mg base "need_moment" 4 R_need_moment := calG_of (PySem.W.mg_of X G a15) k15 b15 K15
  have F16 : FunD K "spread" "spread" (defArgs st_spread) (defBody st_spread) (defScope st_spread) [V.ref eE16] [] f16 _ := ⟨⟨_, _, _, _, _, _, _, _, _, _, rfl, l16, c16, .inr ⟨by simp, eT16, _, [.ref eE16], _, rfl, lT16, rfl, .cons rfl .nil⟩, .inl rfl⟩, k16⟩
  have v16 : FunV K "spread" "spread" st_spread f16 _ := ⟨⟨_, _, _, _, _, _, _, _, _, _, rfl, l16, c16⟩, k16⟩
  have K16 := ok_spread (P := l.prog) (w := w) (mg := mg) (base := base) v16 Z C10 C13
  obtain ⟨ds16, dv16, bd16⟩ := F16.binds1 (ps := ["web", "week", "place", "moment", "fallen"]) 4 0 (by simp) rfl fun _ _ _ _ _ _ _ us its h1 h2 => match us, its, h1, h2 with | [_, _, _, _], [_], _, _ => ⟨_, rfl, rfl⟩
  have CD16 : CalG l.prog w K mg base "spread" 2 RC_spread := ⟨_, _, _, ds16, _, [.tuple []], R_spread, PySem.W.mg_of X G a16, k16, bd16, dv16, fun F => .cons (.tup (.inr ⟨_, _, _, lE16, rfl, rfl, rfl, Nat.zero_le _, .nil⟩) .nil) .nil, K16, fun xs μ Pk Ex hx => hx.2⟩
  have F17 := fun_mk (st := st_listed) l17 c17 k17
  have v17 := FunV.of F17
  have K17 := ok_listed (P := l.prog) (w := w) (mg := mg) (base := base) v17
  have b17 := F17.binds (ps := ["web", "known"]) fun _ _ _ _ _ _ us hl => match us, hl with | [_, _], _ => rfl
  have C17 : CalG l.prog w K mg base "listed" 1 R_listed := calG_of (PySem.W.mg_of X G a17) k17 b17 K17
  have F18 := fun_mk (st := st_beliefs) l18 c18 k18
  have v18 := FunV.of F18
  have K18 := ok_beliefs (P := l.prog) (w := w) (mg := mg) (base := base) v18 C17 C15 C8 C7 C12 CD16
  have b18 := F18.binds (ps := ["web", "week", "place", "moment", "other", "later"]) fun _ _ _ _ _ _ us hl => match us, hl with | [_, _, _, _, _, _], _ => rfl
  have C18 : CalG l.prog w K mg base "beliefs" 6 R_beliefsG := calG_of (PySem.W.mg_of X G a18) k18 b18 K18
  have F19 := fun_mk (st := st_last_belief) l19 c19 k19
  have v19 := FunV.of F19
  have K19 := ok_last_belief (P := l.prog) (w := w) (mg := mg) (base := base) v19 Z C18
  have b19 := F19.binds (ps := ["web", "week", "place", "moment", "other", "later"]) fun _ _ _ _ _ _ us hl => match us, hl with | [_, _, _, _, _, _], _ => rfl
  have C19 : CalG l.prog w K mg base "last_belief" 7 R_last_belief := calG_of (PySem.W.mg_of X G a19) k19 b19 K19
  have F20 := fun_mk (st := st__law_feed) l20 c20 k20
  have v20 := FunV.of F20
  have K20 := ok__law_feed (P := l.prog) (w := w) (mg := mg) (base := base) v20 Z
  have b20 := F20.binds (ps := ["_law_script", "_law_k"]) fun _ _ _ _ _ _ us hl => match us, hl with | [_, _], _ => rfl
  have C20 : CalG l.prog w K mg base "_law_feed" 1 R__law_feed := calG_of (PySem.W.mg_of X G a20) k20 b20 K20
  have F21 := fun_mk (st := st__law_draw) l21 c21 k21
  have v21 := FunV.of F21
  have K21 := ok__law_draw (P := l.prog) (w := w) (mg := mg) (base := base) v21 Z
  have b21 := F21.binds (ps := ["_law_feed_here", "_law_many"]) fun _ _ _ _ _ _ us hl => match us, hl with | [_, _], _ => rfl
  have C21 : CalG l.prog w K mg base "_law_draw" 1 R__law_draw := calG_of (PySem.W.mg_of X G a21) k21 b21 K21
  have F22 := fun_mk (st := st__law_one) l22 c22 k22
  have v22 := FunV.of F22
  have K22 := ok__law_one (P := l.prog) (w := w) (mg := mg) (base := base) v22 Z C21
  have b22 := F22.binds (ps := ["_law_feed_here", "_law_things"]) fun _ _ _ _ _ _ us hl => match us, hl with | [_, _], _ => rfl
  have C22 : CalG l.prog w K mg base "_law_one" 2 R__law_one := calG_of (PySem.W.mg_of X G a22) k22 b22 K22
  have F23 := fun_mk (st := st__law_mixed) l23 c23 k23
  have v23 := FunV.of F23
  have K23 := ok__law_mixed (P := l.prog) (w := w) (mg := mg) (base := base) v23 Z C21
  have b23 := F23.binds (ps := ["_law_feed_here", "_law_things"]) fun _ _ _ _ _ _ us hl => match us, hl with | [_, _], _ => rfl
  have C23 : CalG l.prog w K mg base "_law_mixed" 2 R__law_mixed := calG_of (PySem.W.mg_of X G a23) k23 b23 K23
  have F24 := fun_mk (st := st__law_names) l24 c24 k24
  have v24 := FunV.of F24
  have K24 := ok__law_names (P := l.prog) (w := w) (mg := mg) (base := base) v24 C23
  have b24 := F24.binds (ps := ["_law_feed_here", "_law_many"]) fun _ _ _ _ _ _ us hl => match us, hl with | [_, _], _ => rfl
  have C24 : CalG l.prog w K mg base "_law_names" 3 R__law_names := calG_of (PySem.W.mg_of X G a24) k24 b24 K24
  have F25 := fun_mk (st := st__law_web) l25 c25 k25
  have v25 := FunV.of F25
  have K25 := ok__law_web (P := l.prog) (w := w) (mg := mg) (base := base) v25 Z C21 C23 C24 C22
  have b25 := F25.binds (ps := ["_law_feed_here", "_law_way"]) fun _ _ _ _ _ _ us hl => match us, hl with | [_, _], _ => rfl
  have C25 : CalG l.prog w K mg base "_law_web" 4 R__law_webT := calG_of (PySem.W.mg_of X G a25) k25 b25 K25
  have F26 := fun_mk (st := st__law_rota) l26 c26 k26
  have v26 := FunV.of F26
  have K26 := ok__law_rota (P := l.prog) (w := w) (mg := mg) (base := base) v26 Z C23
  have b26 := F26.binds (ps := ["_law_feed_here", "_law_web_here"]) fun _ _ _ _ _ _ us hl => match us, hl with | [_, _], _ => rfl
  have C26 : CalG l.prog w K mg base "_law_rota" 3 R__law_rota := calG_of (PySem.W.mg_of X G a26) k26 b26 K26
  have F27 := fun_mk (st := st__law_week) l27 c27 k27
  have v27 := FunV.of F27
  have K27 := ok__law_week (P := l.prog) (w := w) (mg := mg) (base := base) v27 Z C21 C23 C26
  have b27 := F27.binds (ps := ["_law_feed_here", "_law_web_here"]) fun _ _ _ _ _ _ us hl => match us, hl with | [_, _], _ => rfl
  have C27 : CalG l.prog w K mg base "_law_week" 4 R__law_week := calG_of (PySem.W.mg_of X G a27) k27 b27 K27
  have F28 := fun_mk (st := st__law_round) l28 c28 k28
  have v28 := FunV.of F28
  have K28 := ok__law_round (P := l.prog) (w := w) (mg := mg) (base := base) v28 Z
  have b28 := F28.binds (ps := ["_law_week_here", "_law_day"]) fun _ _ _ _ _ _ us hl => match us, hl with | [_, _], _ => rfl
  have C28 : CalG l.prog w K mg base "_law_round" 1 R__law_round := calG_of (PySem.W.mg_of X G a28) k28 b28 K28
  have F29 := fun_mk (st := st__law_moment) l29 c29 k29
  have v29 := FunV.of F29
  have K29 := ok__law_moment (P := l.prog) (w := w) (mg := mg) (base := base) v29 Z C21 C28
  have b29 := F29.binds (ps := ["_law_feed_here", "_law_week_here"]) fun _ _ _ _ _ _ us hl => match us, hl with | [_, _], _ => rfl
  have C29 : CalG l.prog w K mg base "_law_moment" 2 R__law_moment := calG_of (PySem.W.mg_of X G a29) k29 b29 K29
  have F30 := fun_mk (st := st__law_arrivals) l30 c30 k30
  have v30 := FunV.of F30
  have K30 := ok__law_arrivals (P := l.prog) (w := w) (mg := mg) (base := base) v30 Z C28
  have b30 := F30.binds (ps := ["_law_web_here", "_law_week_here", "_law_place", "_law_moment_here"]) fun _ _ _ _ _ _ us hl => match us, hl with | [_, _, _, _], _ => rfl
  have C30 : CalG l.prog w K mg base "_law_arrivals" 2 R__law_arrivals := calG_of (PySem.W.mg_of X G a30) k30 b30 K30
  have F31 := fun_mk (st := st__law_path) l31 c31 k31
  have v31 := FunV.of F31
  have K31 := ok__law_path (P := l.prog) (w := w) (mg := mg) (base := base) v31 Z
  have b31 := F31.binds (ps := ["_law_web_here", "_law_place", "_law_other"]) fun _ _ _ _ _ _ us hl => match us, hl with | [_, _, _], _ => rfl
  have C31 : CalG l.prog w K mg base "_law_path" 1 R__law_path := calG_of (PySem.W.mg_of X G a31) k31 b31 K31
  have F32 := fun_mk (st := st__law_big_web) l32 c32 k32
  have v32 := FunV.of F32
  have K32 := ok__law_big_web (P := l.prog) (w := w) (mg := mg) (base := base) v32 Z C21 C23 C22
  have b32 := F32.binds (ps := ["_law_feed_here", "_law_way"]) fun _ _ _ _ _ _ us hl => match us, hl with | [_, _], _ => rfl
  have C32 : CalG l.prog w K mg base "_law_big_web" 3 R__law_webT := calG_of (PySem.W.mg_of X G a32) k32 b32 K32
  have F33 := fun_mk (st := st__law_some_web) l33 c33 k33
  have v33 := FunV.of F33
  have K33 := ok__law_some_web (P := l.prog) (w := w) (mg := mg) (base := base) v33 C32 C21 C25
  have b33 := F33.binds (ps := ["_law_feed_here", "_law_way"]) fun _ _ _ _ _ _ us hl => match us, hl with | [_, _], _ => rfl
  have C33 : CalG l.prog w K mg base "_law_some_web" 5 R__law_some_webT := calG_of (PySem.W.mg_of X G a33) k33 b33 K33
  have F34 := fun_mk (st := st__law_any_web) l34 c34 k34
  have v34 := FunV.of F34
  have K34 := ok__law_any_web (P := l.prog) (w := w) (mg := mg) (base := base) v34 C22 C33
  have b34 := F34.binds (ps := ["_law_feed_here"]) fun _ _ _ _ _ _ us hl => match us, hl with | [_], _ => rfl
  have C34 : CalG l.prog w K mg base "_law_any_web" 6 R__law_any_web := calG_of (PySem.W.mg_of X G a34) k34 b34 K34
  have F35 := fun_mk (st := st__law_listed) l35 c35 k35
  have v35 := FunV.of F35
  have K35 := ok__law_listed (P := l.prog) (w := w) (mg := mg) (base := base) v35
  have b35 := F35.binds (ps := ["_law_web_here", "_law_got"]) fun _ _ _ _ _ _ us hl => match us, hl with | [_, _], _ => rfl
  have C35 : CalG l.prog w K mg base "_law_listed" 1 R__law_listed := calG_of (PySem.W.mg_of X G a35) k35 b35 K35
  have F36 := fun_mk (st := st__law_beliefs) l36 c36 k36
  have v36 := FunV.of F36
  have K36 := ok__law_beliefs (P := l.prog) (w := w) (mg := mg) (base := base) v36 C30
  have b36 := F36.binds (ps := ["_law_web_here", "_law_week_here", "_law_place", "_law_moment_here", "_law_other", "_law_later"]) fun _ _ _ _ _ _ us hl => match us, hl with | [_, _, _, _, _, _], _ => rfl
  have C36 : CalG l.prog w K mg base "_law_beliefs" 3 R__law_beliefs := calG_of (PySem.W.mg_of X G a36) k36 b36 K36
  have F37 := fun_mk (st := st__law_same_place_right) l37 c37 k37
  have v37 := FunV.of F37
  have K37 := ok__law_same_place_right (P := l.prog) (w := w) (mg := mg) (base := base) v37 Z C30 C21 C35 C18 C19
  have b37 := F37.binds (ps := ["_law_feed_here", "_law_web_here", "_law_week_here", "_law_place", "_law_moment_here"]) fun _ _ _ _ _ _ us hl => match us, hl with | [_, _, _, _, _], _ => rfl
  have C37 : CalG l.prog w K mg base "_law_same_place_right" 8 R__law_same_place_right := calG_of (PySem.W.mg_of X G a37) k37 b37 K37
  have F38 := fun_mk (st := st__law_behind_right) l38 c38 k38
  have v38 := FunV.of F38
  have K38 := ok__law_behind_right (P := l.prog) (w := w) (mg := mg) (base := base) v38 Z C30 C36 C21 C22 C31 C26 C33 C18
  have b38 := F38.binds (ps := ["_law_feed_here"]) fun _ _ _ _ _ _ us hl => match us, hl with | [_], _ => rfl
  have C38 : CalG l.prog w K mg base "_law_behind_right" 7 R__law_behind_right := calG_of (PySem.W.mg_of X G a38) k38 b38 K38
  have F39 := fun_mk (st := st__law_right) l39 c39 k39
  have v39 := FunV.of F39
  have K39 := ok__law_right (P := l.prog) (w := w) (mg := mg) (base := base) v39 Z C34 C30 C38 C29 C22 C37 C27 C18
  have b39 := F39.binds (ps := ["_law_feed_here"]) fun _ _ _ _ _ _ us hl => match us, hl with | [_], _ => rfl
  have C39 : CalG l.prog w K mg base "_law_right" 9 R__law_right2 := calG_of (PySem.W.mg_of X G a39) k39 b39 K39
  have F40 := fun_mk (st := st_law) l40 c40 k40
  have v40 := FunV.of F40
  exact ok_law v40 Z C20 C39
end
end K55

open PySem PySem.W PyProof.Rows
set_option maxRecDepth 100000 in
set_option maxHeartbeats 0 in
theorem PySem.Challenge.cw_roundpost_k55_denials_as_early_as_the_ne_holds : PySem.Challenge.rw_roundpost_k55_denials_as_early_as_the_ne.Holds := by
  w_on; o_law; k_head; (case hw => w_witness2)
  k_fill
  refine Dl.walkG (l := PySem.Challenge.rw_roundpost_k55_denials_as_early_as_the_ne) (n := 63) (k := 10) (x := "_law_script") (C := fun w => L2.CX PySem.Challenge.rw_roundpost_k55_denials_as_early_as_the_ne.prog w) (sp := fun w => Dl.SpD _ Rp.R_law) rfl (by decide) rfl ⟨rfl, by decide, by decide⟩ (fun w h Y => PySem.W.kIn_of Y) ?F (fun _ _ a ns hl on hS => K55.law_prom hl hS) (fun _ _ _ _ _ h => K55.law_noex h)
  case F =>
    intro w mg fa h KX G hmg
    refine' K55.all_mk KX G hmg ?a0 ?l0 ?c0 ?k0 ?a1 ?l1 ?c1 ?k1 ?a2 ?l2 ?c2 ?k2 ?a3 ?l3 ?c3 ?k3 ?a4 ?l4 ?c4 ?k4 ?a5 ?l5 ?c5 ?k5 ?a6 ?l6 ?c6 ?k6 ?a7 ?l7 ?c7 ?k7 ?a8 ?l8 ?c8 ?k8 ?a9 ?l9 ?c9 ?k9 ?a10 ?l10 ?c10 ?k10 ?a11 ?l11 ?c11 ?k11 ?a12 ?l12 ?c12 ?k12 ?a13 ?l13 ?c13 ?k13 ?a14 ?l14 ?c14 ?k14 ?a15 ?l15 ?c15 ?k15 ?a16 ?l16 ?c16 ?k16 ?lT16 ?lE16 ?a17 ?l17 ?c17 ?k17 ?a18 ?l18 ?c18 ?k18 ?a19 ?l19 ?c19 ?k19 ?a20 ?l20 ?c20 ?k20 ?a21 ?l21 ?c21 ?k21 ?a22 ?l22 ?c22 ?k22 ?a23 ?l23 ?c23 ?k23 ?a24 ?l24 ?c24 ?k24 ?a25 ?l25 ?c25 ?k25 ?a26 ?l26 ?c26 ?k26 ?a27 ?l27 ?c27 ?k27 ?a28 ?l28 ?c28 ?k28 ?a29 ?l29 ?c29 ?k29 ?a30 ?l30 ?c30 ?k30 ?a31 ?l31 ?c31 ?k31 ?a32 ?l32 ?c32 ?k32 ?a33 ?l33 ?c33 ?k33 ?a34 ?l34 ?c34 ?k34 ?a35 ?l35 ?c35 ?k35 ?a36 ?l36 ?c36 ?k36 ?a37 ?l37 ?c37 ?k37 ?a38 ?l38 ?c38 ?k38 ?a39 ?l39 ?c39 ?k39 ?a40 ?l40 ?c40 ?k40 ?g_LAST_DAY ?g_MOST_PLACES ?g_MOST_ROADS ?g_MOST_ROUNDS ?g_MOST_SIGNS ?z0 ?z1 ?z2 ?z3 ?z4 ?z5 ?z6 ?z7 ?z8 ?z9 ?z10 ?z11 ?z12 ?z13 ?z14 ?z15 ?z16 ?z17 ?z18
    (case a0 => k_is)
    (case l0 => k_is)
    (case c0 => k_is)
    (case k0 => k_is)
    (case a1 => k_is)
    (case l1 => k_is)
    (case c1 => k_is)
    (case k1 => k_is)
    (case a2 => k_is)
    (case l2 => k_is)
    (case c2 => k_is)
    (case k2 => k_is)
    (case a3 => k_is)
    (case l3 => k_is)
    (case c3 => k_is)
    (case k3 => k_is)
    (case a4 => k_is)
    (case l4 => k_is)
    (case c4 => k_is)
    (case k4 => k_is)
    (case a5 => k_is)
    (case l5 => k_is)
    (case c5 => k_is)
    (case k5 => k_is)
    (case a6 => k_is)
    (case l6 => k_is)
    (case c6 => k_is)
    (case k6 => k_is)
    (case a7 => k_is)
    (case l7 => k_is)
    (case c7 => k_is)
    (case k7 => k_is)
    (case a8 => k_is)
    (case l8 => k_is)
    (case c8 => k_is)
    (case k8 => k_is)
    (case a9 => k_is)
    (case l9 => k_is)
    (case c9 => k_is)
    (case k9 => k_is)
    (case a10 => k_is)
    (case l10 => k_is)
    (case c10 => k_is)
    (case k10 => k_is)
    (case a11 => k_is)
    (case l11 => k_is)
    (case c11 => k_is)
    (case k11 => k_is)
    (case a12 => k_is)
    (case l12 => k_is)
    (case c12 => k_is)
    (case k12 => k_is)
    (case a13 => k_is)
    (case l13 => k_is)
    (case c13 => k_is)
    (case k13 => k_is)
    (case a14 => k_is)
    (case l14 => k_is)
    (case c14 => k_is)
    (case k14 => k_is)
    (case a15 => k_is)
    (case l15 => k_is)
    (case c15 => k_is)
    (case k15 => k_is)
    (case a16 => k_is)
    (case l16 => k_is)
    (case c16 => k_is)
    (case k16 => k_is)
    (case lT16 => k_is)
    (case lE16 => k_is)
    (case a17 => k_is)
    (case l17 => k_is)
    (case c17 => k_is)
    (case k17 => k_is)
    (case a18 => k_is)
    (case l18 => k_is)
    (case c18 => k_is)
    (case k18 => k_is)
    (case a19 => k_is)
    (case l19 => k_is)
    (case c19 => k_is)
    (case k19 => k_is)
    (case a20 => k_is)
    (case l20 => k_is)
    (case c20 => k_is)
    (case k20 => k_is)
    (case a21 => k_is)
    (case l21 => k_is)
    (case c21 => k_is)
    (case k21 => k_is)
    (case a22 => k_is)
    (case l22 => k_is)
    (case c22 => k_is)
    (case k22 => k_is)
    (case a23 => k_is)
    (case l23 => k_is)
    (case c23 => k_is)
    (case k23 => k_is)
    (case a24 => k_is)
    (case l24 => k_is)
    (case c24 => k_is)
    (case k24 => k_is)
    (case a25 => k_is)
    (case l25 => k_is)
    (case c25 => k_is)
    (case k25 => k_is)
    (case a26 => k_is)
    (case l26 => k_is)
    (case c26 => k_is)
    (case k26 => k_is)
    (case a27 => k_is)
    (case l27 => k_is)
    (case c27 => k_is)
    (case k27 => k_is)
    (case a28 => k_is)
    (case l28 => k_is)
    (case c28 => k_is)
    (case k28 => k_is)
    (case a29 => k_is)
    (case l29 => k_is)
    (case c29 => k_is)
    (case k29 => k_is)
    (case a30 => k_is)
    (case l30 => k_is)
    (case c30 => k_is)
    (case k30 => k_is)
    (case a31 => k_is)
    (case l31 => k_is)
    (case c31 => k_is)
    (case k31 => k_is)
    (case a32 => k_is)
    (case l32 => k_is)
    (case c32 => k_is)
    (case k32 => k_is)
    (case a33 => k_is)
    (case l33 => k_is)
    (case c33 => k_is)
    (case k33 => k_is)
    (case a34 => k_is)
    (case l34 => k_is)
    (case c34 => k_is)
    (case k34 => k_is)
    (case a35 => k_is)
    (case l35 => k_is)
    (case c35 => k_is)
    (case k35 => k_is)
    (case a36 => k_is)
    (case l36 => k_is)
    (case c36 => k_is)
    (case k36 => k_is)
    (case a37 => k_is)
    (case l37 => k_is)
    (case c37 => k_is)
    (case k37 => k_is)
    (case a38 => k_is)
    (case l38 => k_is)
    (case c38 => k_is)
    (case k38 => k_is)
    (case a39 => k_is)
    (case l39 => k_is)
    (case c39 => k_is)
    (case k39 => k_is)
    (case a40 => k_is)
    (case l40 => k_is)
    (case c40 => k_is)
    (case k40 => k_is)
    (case g_LAST_DAY => k_is)
    (case g_MOST_PLACES => k_is)
    (case g_MOST_ROADS => k_is)
    (case g_MOST_ROUNDS => k_is)
    (case g_MOST_SIGNS => k_is)
    (case z0 => k_is)
    (case z1 => k_is)
    (case z2 => k_is)
    (case z3 => k_is)
    (case z4 => k_is)
    (case z5 => k_is)
    (case z6 => k_is)
    (case z7 => k_is)
    (case z8 => k_is)
    (case z9 => k_is)
    (case z10 => k_is)
    (case z11 => k_is)
    (case z12 => k_is)
    (case z13 => k_is)
    (case z14 => k_is)
    (case z15 => k_is)
    (case z16 => k_is)
    (case z17 => k_is)
    (case z18 => k_is)
