import PyProof.Rows.All
import Wide.All
import OpenK.AllK
import Wide.FinOn
import HandS.ForMost
import HandS.ForExc
import HandS.Evl
import HandS.Zip
import HandS.TupAny
import HandS.SetFor
import HandS.Conv
import HandS.IsInst
import HandS.SortInts
import HandS.Strs
import HandS.RevRange
import PyProof.SeqIndex
import HandS.Deep
import KE.KDictDisplayH
import KE.SortData
import HandS.Style
import KE.GoesEnum
import HandS.Walk
import HandS.Star
import KE.DataMinMax
import HandS.DictComp
import HandS.TupMul
import KE.KUnpack
import HandS.TryOnly
import HandS.Gcd
import HandS.SortKw
import HandS.Rev
import PySem.Challenge.RW_placewords_k52_times
set_option Elab.async false
set_option linter.all false
set_option maxRecDepth 100000
namespace Hq
open PySem L2
abbrev Ex := Evl.Ex
structure MP where
  p : Hp → V → Prop
  mono : ∀ {F F' : Hp} {v : V}, Ex F F' → p F v → p F' v
structure MO where
  p : Hp → HO → Prop
  mono : ∀ {F F' : Hp} {o : HO}, Ex F F' → p F o → p F' o
abbrev Ms := List (Addr × MO)
abbrev Gm := List (Option MP)
def keys (M : Ms) : List Addr := M.map (·.1)
structure Wd (F : Hp) (M : Ms) (H : Hp) : Prop where
  ex : Ex F H
  nd : (keys M).Nodup
  own : ∀ q ∈ M, F q.1 = none ∧ ∃ o, H q.1 = some o ∧ q.2.p F o
structure Gr (ks : List Addr) (F H F' H' : Hp) : Prop where
  ex : Ex F F'
  keep : ∀ a o, a ∉ ks → H a = some o → H' a = some o
  off : ∀ a, F a = none → H a ≠ none → F' a = none
  stay : ∀ a, H a ≠ none → H' a ≠ none
structure Ent where
  F : Hp
  H : Hp
  ks : List Addr
structure Pt (E : Ent) (F : Hp) (M : Ms) (H : Hp) : Prop where
  gr : Gr E.ks E.F E.H F H
  wd : Wd F M H
  fr : ∀ q ∈ M, q.1 ∈ E.ks ∨ E.H q.1 = none
theorem Gr.refl {ks F H} : Gr ks F H F H := ⟨Evl.Ex.refl _, fun _ _ _ h => h, fun _ h _ => h, fun _ h => h⟩
theorem Pt.start {F M H} (w : Wd F M H) : Pt ⟨F, H, keys M⟩ F M H := ⟨Gr.refl, w, fun q hq => .inl (List.mem_map_of_mem hq)⟩
theorem Pt.enter {E F M H} (h : Pt E F M H) : Pt ⟨F, H, keys M⟩ F M H := Pt.start h.wd
theorem Pt.back {E F M H F' M' H'} (h : Pt E F M H) (g : Pt ⟨F, H, keys M⟩ F' M' H') : Pt E F' M' H' := by
  have notin : ∀ a o, a ∉ E.ks → E.H a = some o → a ∉ keys M := by
    intro a o h1 h2 h3
    obtain ⟨q, hq, rfl⟩ := List.mem_map.mp h3
    rcases h.fr q hq with h4 | h4
    · exact h1 h4
    · rw [h4] at h2; cases h2
  refine ⟨⟨h.gr.ex.trans g.gr.ex, fun a o h1 h2 => ?_, fun a h1 h2 => ?_, fun a h1 => ?_⟩, g.wd, fun q hq => ?_⟩
  · exact g.gr.keep a o (notin a o h1 h2) (h.gr.keep a o h1 h2)
  · exact g.gr.off a (h.gr.off a h1 h2) (h.gr.stay a h2)
  · exact g.gr.stay a (h.gr.stay a h1)
  · rcases g.fr q hq with h1 | h1
    · obtain ⟨r, hr, e⟩ := List.mem_map.mp h1
      rw [← e]
      exact h.fr r hr
    · right
      refine Classical.byContradiction fun h2 => ?_
      exact h.gr.stay _ h2 h1
structure Le (E' E : Ent) : Prop where
  to : ∀ F M H, Pt E' F M H → Pt E F M H
  new : ∀ a, E'.H a = none → E.H a = none
theorem Pt.le {E F M H} (h : Pt E F M H) : Le ⟨F, H, keys M⟩ E := ⟨fun _ _ _ g => h.back g, fun a e => Classical.byContradiction fun n => h.gr.stay a n e⟩
theorem Le.refl {E : Ent} : Le E E := ⟨fun _ _ _ h => h, fun _ h => h⟩
theorem Le.trans {E1 E2 E3 : Ent} (a : Le E1 E2) (b : Le E2 E3) : Le E1 E3 := ⟨fun _ _ _ h => b.to _ _ _ (a.to _ _ _ h), fun x h => b.new x (a.new x h)⟩
def EnvOk (F : Hp) (σ : St) (Γ : Gm) : Prop := Paired (fun (s : Option V) (g : Option MP) => ∀ P, g = some P → ∃ v, s = some v ∧ P.p F v) σ Γ
theorem EnvOk.mono {F F' σ Γ} (e : Ex F F') (h : EnvOk F σ Γ) : EnvOk F' σ Γ :=
  Paired.mapP h fun _ _ k P hP => let ⟨v, a, b⟩ := k P hP; ⟨v, a, P.mono e b⟩
theorem paired_get {α β : Type} {R : α → β → Prop} : ∀ {xs : List α} {ys : List β} {i : Nat} {y : β}, Paired R xs ys → ys[i]? = some y → ∃ x, xs[i]? = some x ∧ R x y
  | _, _, _, _, .nil, h => by simp at h
  | _, _, 0, _, .cons a _, h => by
    have e := Option.some.inj h
    subst e
    exact ⟨_, rfl, a⟩
  | _, _, i + 1, y, .cons _ t, h => paired_get (i := i) t h
theorem paired_get' {α β : Type} {R : α → β → Prop} : ∀ {xs : List α} {ys : List β} {i : Nat} {x : α}, Paired R xs ys → xs[i]? = some x → ∃ y, ys[i]? = some y ∧ R x y
  | _, _, _, _, .nil, h => by simp at h
  | _, _, 0, _, .cons a _, h => by
    have e := Option.some.inj h
    subst e
    exact ⟨_, rfl, a⟩
  | _, _, i + 1, y, .cons _ t, h => paired_get' (i := i) t h
theorem paired_set {α β : Type} {R : α → β → Prop} {x : α} {y : β} (r : R x y) : ∀ {xs : List α} {ys : List β} (i : Nat), Paired R xs ys → Paired R (xs.set i x) (ys.set i y)
  | _, _, _, .nil => .nil
  | _, _, 0, .cons _ t => .cons r t
  | _, _, i + 1, .cons a t => .cons a (paired_set r i t)
theorem paired_len {α β : Type} {R : α → β → Prop} : ∀ {xs : List α} {ys : List β}, Paired R xs ys → xs.length = ys.length
  | _, _, .nil => rfl
  | _, _, .cons _ t => by rw [List.length_cons, List.length_cons, paired_len t]
theorem paired_app {α β : Type} {R : α → β → Prop} : ∀ {xs xs' : List α} {ys ys' : List β}, Paired R xs ys → Paired R xs' ys' → Paired R (xs ++ xs') (ys ++ ys')
  | _, _, _, _, .nil, h => h
  | _, _, _, _, .cons a t, h => .cons a (paired_app t h)
theorem EnvOk.set {F σ} {Γ : Gm} {P : MP} {v : V} (i : Nat) (h : EnvOk F σ Γ) (hv : P.p F v) : EnvOk F (σ.set i (some v)) (Γ.set i (some P)) :=
  paired_set (fun Q hQ => by cases hQ; exact ⟨v, rfl, hv⟩) i h
theorem EnvOk.forget {F σ} {Γ : Gm} (i : Nat) (h : EnvOk F σ Γ) : EnvOk F (σ.set i none) (Γ.set i none) := paired_set (fun Q hQ => by cases hQ) i h
theorem EnvOk.get {F σ} {Γ : Gm} {i : Nat} {P : MP} (h : EnvOk F σ Γ) (e : Γ[i]? = some (some P)) : ∃ v, σ[i]? = some (some v) ∧ P.p F v := by
  obtain ⟨s, hs, k⟩ := paired_get h e
  obtain ⟨v, rfl, hv⟩ := k P rfl
  exact ⟨v, hs, hv⟩
def At (E : Ent) (Γ : Gm) (M : Ms) (σ : St) (H : Hp) : Prop := ∃ F, Pt E F M H ∧ EnvOk F σ Γ
def Nx (E : Ent) (Γ : Gm) (M : Ms) (f : St → Hp → Prop) : Prop := ∀ σ H, At E Γ M σ H → f σ H
def Rt (E : Ent) (M : Ms) (P : MP) (f : VK) : Prop := ∀ v F H, Pt E F M H → P.p F v → f v H
theorem At.le {E E' Γ M σ H} (l : Le E' E) (h : At E' Γ M σ H) : At E Γ M σ H := let ⟨F, a, b⟩ := h; ⟨F, l.to _ _ _ a, b⟩
theorem Nx.le {E E' Γ M f} (l : Le E' E) (h : Nx E Γ M f) : Nx E' Γ M f := fun σ H a => h σ H (a.le l)
theorem Rt.le {E E' M P f} (l : Le E' E) (h : Rt E M P f) : Rt E' M P f := fun v F H a b => h v F H (l.to _ _ _ a) b
def Ev (te : TE) (Γ : Gm) (M : Ms) (P : MP) (M' : Ms) : Prop := ∀ E F σ H, Pt E F M H → EnvOk F σ Γ → ∀ Q : VK, (∀ v F' H', Ex F F' → Pt E F' M' H' → P.p F' v → Q v H') → te σ H Q
def EvT (t : TT) (Γ : Gm) (M : Ms) (B : Bool → Prop) (M' : Ms) : Prop := ∀ E F σ H, Pt E F M H → EnvOk F σ Γ → ∀ Q : Bool → Hp → Prop, (∀ b F' H', Ex F F' → Pt E F' M' H' → B b → Q b H') → t σ H Q
/-- arguments: their predicates -/
def Ps (F : Hp) (vs : List V) (ps : List MP) : Prop := Paired (fun (v : V) (P : MP) => P.p F v) vs ps
theorem Ps.mono {F F' vs ps} (e : Ex F F') (h : Ps F vs ps) : Ps F' vs ps := Paired.mapP h fun _ P k => P.mono e k
def EvA (ta : TA) (Γ : Gm) (M : Ms) (ps : List MP) (M' : Ms) : Prop := ∀ E F σ H, Pt E F M H → EnvOk F σ Γ → ∀ Q : List V → Hp → Prop, (∀ vs F' H', Ex F F' → Pt E F' M' H' → Ps F' vs ps → Q vs H') → ta σ H Q
def MP.le (P P' : MP) : Prop := ∀ F v, P.p F v → P'.p F v
theorem Ev.weak {te Γ M P P' M'} (h : Ev te Γ M P M') (l : P.le P') : Ev te Γ M P' M' := fun E F σ H a b Q k => h E F σ H a b Q fun v F' H' e p q => k v F' H' e p (l _ _ q)
theorem EvT.is {t Γ M M'} {b b' : Bool} (h : EvT t Γ M (· = b) M') (e : b = b') : EvT t Γ M (· = b') M' := by rw [← e]; exact h
/-! ### data -/
mutual
theorem Dp.mono {K : PySem.W.Frag} {F F' : Hp} (e : Ex F F') : ∀ {v d}, Dp K F v d → Dp K F' v d
  | _, _, .non => .non
  | _, _, .bl b => .bl b
  | _, _, .int i => .int i
  | _, _, .str x => .str x
  | _, _, .lst h a => .lst (Evl.ex_l e h) (DpAll.mono e a)
  | _, _, .tup h a => .tup (Evl.ex_t e h) (DpAll.mono e a)
theorem DpAll.mono {K : PySem.W.Frag} {F F' : Hp} (e : Ex F F') : ∀ {vs ds}, DpAll K F vs ds → DpAll K F' vs ds
  | _, _, .nil => .nil
  | _, _, .cons a t => .cons (Dp.mono e a) (DpAll.mono e t)
end
def D (K : PySem.W.Frag) (d : PyData) : MP := ⟨fun F v => Dp K F v d, fun e h => Dp.mono e h⟩
theorem dp_int {K F v i} (h : Dp K F v (.int i)) : v = .int i := by cases h; rfl
theorem dp_bl {K F v b} (h : Dp K F v (.bool b)) : v = .bl b := by cases h; rfl
theorem dp_non {K F v} (h : Dp K F v .none) : v = .non := by cases h; rfl
theorem dp_lst {K F v ds} (h : Dp K F v (.list ds)) : ∃ a xs, v = .ref a ∧ SqL K F a xs ∧ DpAll K F xs ds := by cases h with | lst a b => exact ⟨_, _, rfl, a, b⟩
theorem dp_tup {K F v ds} (h : Dp K F v (.tuple ds)) : ∃ a xs, v = .ref a ∧ SqT K F a xs ∧ DpAll K F xs ds := by cases h with | tup a b => exact ⟨_, _, rfl, a, b⟩
theorem all_ps {K F} : ∀ {vs ds}, DpAll K F vs ds → Ps F vs (ds.map (D K))
  | _, _, .nil => .nil
  | _, _, .cons a t => .cons a (all_ps t)
theorem ps_all {K F} : ∀ {ds : List PyData} {vs}, Ps F vs (ds.map (D K)) → DpAll K F vs ds
  | [], _, h => by cases h; exact .nil
  | d :: ds, _, h => by cases h with | cons a t => exact .cons a (ps_all t)
/-- a list, a tuple that stands, of predicates -/
def PLi (K : PySem.W.Frag) (ps : List MP) : MP := ⟨fun F v => ∃ a vs, v = .ref a ∧ SqL K F a vs ∧ Ps F vs ps, fun e ⟨a, vs, h, s, q⟩ => ⟨a, vs, h, Evl.ex_l e s, q.mono e⟩⟩
def PTu (K : PySem.W.Frag) (ps : List MP) : MP := ⟨fun F v => ∃ a vs, v = .ref a ∧ SqT K F a vs ∧ Ps F vs ps, fun e ⟨a, vs, h, s, q⟩ => ⟨a, vs, h, Evl.ex_t e s, q.mono e⟩⟩
theorem D_PLi {K ds} : MP.le (D K (.list ds)) (PLi K (ds.map (D K))) := fun F v h => let ⟨a, xs, e, s, q⟩ := dp_lst h; ⟨a, xs, e, s, all_ps q⟩
theorem D_PTu {K ds} : MP.le (D K (.tuple ds)) (PTu K (ds.map (D K))) := fun F v h => let ⟨a, xs, e, s, q⟩ := dp_tup h; ⟨a, xs, e, s, all_ps q⟩
theorem PLi_D {K ds} : MP.le (PLi K (ds.map (D K))) (D K (.list ds)) := fun F v ⟨a, xs, e, s, q⟩ => by subst e; exact .lst s (ps_all q)
theorem PTu_D {K ds} : MP.le (PTu K (ds.map (D K))) (D K (.tuple ds)) := fun F v ⟨a, xs, e, s, q⟩ => by subst e; exact .tup s (ps_all q)
/-- some -/
def PEx {α : Type} (P : α → MP) : MP := ⟨fun F v => ∃ x, (P x).p F v, fun e ⟨x, h⟩ => ⟨x, (P x).mono e h⟩⟩
/-- with a fact -/
def PAn (φ : Prop) (P : MP) : MP := ⟨fun F v => φ ∧ P.p F v, fun e h => ⟨h.1, P.mono e h.2⟩⟩
def Own (q : Addr) : MP := ⟨fun _ v => v = .ref q, fun _ h => h⟩
/-- an own list of items -/
def ML (ps : List MP) : MO := ⟨fun F o => ∃ vs, o = .lst vs ∧ Ps F vs ps, fun e ⟨vs, h, q⟩ => ⟨vs, h, q.mono e⟩⟩
def MX {α : Type} (P : α → MO) : MO := ⟨fun F v => ∃ x, (P x).p F v, fun e ⟨x, h⟩ => ⟨x, (P x).mono e h⟩⟩
def MA (φ : Prop) (P : MO) : MO := ⟨fun F v => φ ∧ P.p F v, fun e h => ⟨h.1, P.mono e h.2⟩⟩
end Hq
namespace Hq
open PySem L2
/-! ### steps of a point -/
theorem keys_set {M : Ms} {j : Nat} {q : Addr} {O O' : MO} : M[j]? = some (q, O) → keys (M.set j (q, O')) = keys M := by
  induction M generalizing j with
  | nil => intro h; simp at h
  | cons m M ih =>
    intro h
    cases j with
    | zero =>
      have e : m = (q, O) := Option.some.inj h
      subst e
      rfl
    | succ j =>
      have h' : M[j]? = some (q, O) := h
      show m.1 :: keys (M.set j (q, O')) = m.1 :: keys M
      rw [ih h']
theorem mem_set_ne {M : Ms} {j : Nat} {q : Addr} {O O' : MO} (nd : (keys M).Nodup) : M[j]? = some (q, O) → ∀ r ∈ M.set j (q, O'), r = (q, O') ∨ (r ∈ M ∧ r.1 ≠ q) := by
  induction M generalizing j with
  | nil => intro h; simp at h
  | cons m M ih =>
    intro h r hr
    have nd' := List.nodup_cons.mp (show (m.1 :: keys M).Nodup from nd)
    cases j with
    | zero =>
      have e : m = (q, O) := Option.some.inj h
      subst e
      have hr' : r ∈ (q, O') :: M := hr
      rcases List.mem_cons.mp hr' with e | hm
      · exact .inl e
      · exact .inr ⟨List.mem_cons_of_mem _ hm, fun e => nd'.1 (by rw [← e]; exact List.mem_map_of_mem (f := (·.1)) hm)⟩
    | succ j =>
      have h' : M[j]? = some (q, O) := h
      have hr' : r ∈ m :: M.set j (q, O') := hr
      have hq : q ∈ keys M := List.mem_map_of_mem (f := (·.1)) (List.mem_of_getElem? h')
      rcases List.mem_cons.mp hr' with e | hm
      · subst e
        exact .inr ⟨List.mem_cons_self, fun e => nd'.1 (by rw [e]; exact hq)⟩
      · rcases ih nd'.2 h' r hm with e | ⟨e, e2⟩
        · exact .inl e
        · exact .inr ⟨List.mem_cons_of_mem _ e, e2⟩
section
variable {K : PySem.W.Frag} {E E' : Ent} {F F' H H' : Hp} {M M' M1 M2 M3 : Ms} {Γ Γ' : Gm} {P P' P1 P2 : MP} {O O' : MO} {q : Addr} {σ : St} {o o' : HO} {j : Nat}
theorem Pt.at (h : Pt E F M H) (e : M[j]? = some (q, O)) : F q = none ∧ ∃ o, H q = some o ∧ O.p F o := h.wd.own _ (List.mem_of_getElem? e)
theorem Pt.ex (h : Pt E F M H) : Ex F H := h.wd.ex
theorem Pt.fresh (h : Pt E F M H) (hp : H q = none) : E.H q = none := Classical.byContradiction fun n => h.gr.stay _ n hp
theorem Pt.new (h : Pt E F M H) (hp : H q = none) (ho : O.p F o) : Pt E F ((q, O) :: M) (upd H q o) := by
  have ne : ∀ {a u}, H a = some u → a ≠ q := fun e => ne_of_none e hp
  refine ⟨⟨h.gr.ex, fun a u h1 h2 => ?_, h.gr.off, fun a h1 => ?_⟩, ⟨h.wd.ex.trans (Evl.Ex.new hp), ?_, fun r hr => ?_⟩, fun r hr => ?_⟩
  · have := h.gr.keep a u h1 h2
    rw [upd_ne (ne this)]; exact this
  · by_cases e : a = q
    · subst e; rw [upd_same]; exact fun z => by cases z
    · rw [upd_ne e]; exact h.gr.stay a h1
  · refine List.nodup_cons.mpr ⟨fun hm => ?_, h.wd.nd⟩
    obtain ⟨r, hr, e⟩ := List.mem_map.mp hm
    obtain ⟨_, u, hu, _⟩ := h.wd.own r hr
    exact ne hu e
  · rcases List.mem_cons.mp hr with e | hm
    · subst e; exact ⟨Evl.fresh_back h.wd.ex hp, o, upd_same, ho⟩
    · obtain ⟨a, u, hu, b⟩ := h.wd.own r hm
      exact ⟨a, u, by rw [upd_ne (ne hu)]; exact hu, b⟩
  · rcases List.mem_cons.mp hr with e | hm
    · subst e; exact .inr (h.fresh hp)
    · exact h.fr r hm
theorem Pt.laid (h : Pt E F M H) (hp : H q = none) : Pt E (upd F q o) M (upd H q o) := by
  have ne : ∀ {a u}, H a = some u → a ≠ q := fun e => ne_of_none e hp
  have fq : F q = none := Evl.fresh_back h.wd.ex hp
  refine ⟨⟨h.gr.ex.trans (Evl.Ex.new fq), fun a u h1 h2 => ?_, fun a h1 h2 => ?_, fun a h1 => ?_⟩, ⟨fun a u e => ?_, h.wd.nd, fun r hr => ?_⟩, h.fr⟩
  · have := h.gr.keep a u h1 h2
    rw [upd_ne (ne this)]; exact this
  · have n : a ≠ q := fun e => h2 (by rw [e]; exact h.fresh hp)
    rw [upd_ne n]; exact h.gr.off a h1 h2
  · by_cases e : a = q
    · subst e; rw [upd_same]; exact fun z => by cases z
    · rw [upd_ne e]; exact h.gr.stay a h1
  · by_cases e2 : a = q
    · subst e2; rw [upd_same] at e ⊢; exact e
    · rw [upd_ne e2] at e ⊢; exact h.wd.ex a u e
  · obtain ⟨a, u, hu, b⟩ := h.wd.own r hr
    have n : r.1 ≠ q := ne hu
    exact ⟨by rw [upd_ne n]; exact a, u, by rw [upd_ne n]; exact hu, r.2.mono (Evl.Ex.new fq) b⟩
theorem Pt.freeze (h : Pt E F M H) (e : M[j]? = some (q, O)) (hq : E.H q = none) (ho : H q = some o) : Pt E (upd F q o) (M.eraseIdx j) H := by
  obtain ⟨fq, _⟩ := h.at e
  have nd : ∀ r ∈ M.eraseIdx j, r.1 ≠ q := by
    have key : ∀ {M : Ms} {j : Nat}, (keys M).Nodup → M[j]? = some (q, O) → ∀ r ∈ M.eraseIdx j, r.1 ≠ q := by
      intro M
      induction M with
      | nil => intro j _ h; simp at h
      | cons m M ih =>
        intro j nd e r hr
        have nd' := List.nodup_cons.mp (show (m.1 :: keys M).Nodup from nd)
        cases j with
        | zero =>
          have e1 : m = (q, O) := Option.some.inj e
          subst e1
          have hr : r ∈ M := hr
          exact fun z => nd'.1 (by rw [← z]; exact List.mem_map_of_mem (f := (·.1)) hr)
        | succ j =>
          have e1 : M[j]? = some (q, O) := e
          have hr : r ∈ m :: M.eraseIdx j := hr
          have hq : q ∈ keys M := List.mem_map_of_mem (f := (·.1)) (List.mem_of_getElem? e1)
          rcases List.mem_cons.mp hr with z | z
          · subst z; exact fun z => nd'.1 (by rw [z]; exact hq)
          · exact ih nd'.2 e1 r z
    exact key h.wd.nd e
  refine ⟨⟨h.gr.ex.trans (Evl.Ex.new fq), h.gr.keep, fun a h1 h2 => ?_, h.gr.stay⟩, ⟨fun a u z => ?_, ?_, fun r hr => ?_⟩, fun r hr => h.fr r (List.mem_of_mem_eraseIdx hr)⟩
  · have n : a ≠ q := fun z => h2 (by rw [z]; exact hq)
    rw [upd_ne n]; exact h.gr.off a h1 h2
  · by_cases e2 : a = q
    · subst e2; rw [upd_same] at z; rw [ho]; exact z
    · rw [upd_ne e2] at z; exact h.wd.ex a u z
  · exact h.wd.nd.sublist ((List.eraseIdx_sublist _ _).map _)
  · obtain ⟨a, u, hu, b⟩ := h.wd.own r (List.mem_of_mem_eraseIdx hr)
    exact ⟨by rw [upd_ne (nd r hr)]; exact a, u, hu, r.2.mono (Evl.Ex.new fq) b⟩
theorem Pt.mut (h : Pt E F M H) (e : M[j]? = some (q, O)) (ho : O'.p F o') : Pt E F (M.set j (q, O')) (upd H q o') := by
  have hm := List.mem_of_getElem? e
  obtain ⟨fq, u0, hu0, _⟩ := h.at e
  refine ⟨⟨h.gr.ex, fun a u h1 h2 => ?_, h.gr.off, fun a h1 => ?_⟩, ⟨fun a u z => ?_, by rw [keys_set e]; exact h.wd.nd, fun r hr => ?_⟩, fun r hr => ?_⟩
  · have n : a ≠ q := fun z => by
      subst z
      rcases h.fr _ hm with f | f
      · exact h1 f
      · rw [show E.H a = none from f] at h2; cases h2
    rw [upd_ne n]; exact h.gr.keep a u h1 h2
  · by_cases z : a = q
    · subst z; rw [upd_same]; exact fun z => by cases z
    · rw [upd_ne z]; exact h.gr.stay a h1
  · rw [upd_ne (ne_of_none z fq)]; exact h.wd.ex a u z
  · rcases mem_set_ne h.wd.nd e r hr with z | ⟨z, n⟩
    · subst z; exact ⟨fq, o', upd_same, ho⟩
    · obtain ⟨a, u, hu, b⟩ := h.wd.own r z
      exact ⟨a, u, by rw [upd_ne n]; exact hu, b⟩
  · rcases mem_set_ne h.wd.nd e r hr with z | ⟨z, n⟩
    · subst z; exact (show q ∈ E.ks ∨ E.H q = none from h.fr (q, O) hm)
    · exact h.fr r z
theorem Pt.drop (h : Pt E F M H) (s : List.Sublist M' M) : Pt E F M' H :=
  ⟨h.gr, ⟨h.wd.ex, h.wd.nd.sublist (s.map _), fun r hr => h.wd.own r (s.subset hr)⟩, fun r hr => h.fr r (s.subset hr)⟩
theorem Pt.to (h : Pt E F M H) (l : ∀ F o, O.p F o → O'.p F o) (e : M[j]? = some (q, O)) : Pt E F (M.set j (q, O')) H := by
  obtain ⟨fq, u0, hu0, hO⟩ := h.at e
  have := h.mut (o' := u0) (O' := O') e (l _ _ hO)
  have e2 : upd H q u0 = H := by
    funext a
    by_cases z : a = q
    · subst z; rw [upd_same, hu0]
    · rw [upd_ne z]
  rw [e2] at this
  exact this
/-! ### changes of what is known -/
theorem Nx.imp {f} (h : Nx E Γ' M' f) (i : ∀ σ H, At E Γ M σ H → At E Γ' M' σ H) : Nx E Γ M f := fun σ H a => h σ H (i σ H a)
theorem EnvOk.upd {i : Nat} (h : EnvOk F σ Γ) (e : Γ[i]? = some (some P)) (l : ∀ v, P.p F v → P'.p F v) : EnvOk F σ (Γ.set i (some P')) := by
  have key : ∀ {σ : St} {Γ : Gm} {i : Nat}, EnvOk F σ Γ → Γ[i]? = some (some P) → EnvOk F σ (Γ.set i (some P')) := by
    intro σ Γ
    induction Γ generalizing σ with
    | nil => intro i _ h; simp at h
    | cons g Γ ih =>
      intro i h e
      cases h with
      | cons a t =>
        cases i with
        | zero =>
          have e : g = some P := Option.some.inj e
          refine .cons (fun Q hQ => ?_) t
          cases hQ
          obtain ⟨v, hv, k⟩ := a P e
          exact ⟨v, hv, l v k⟩
        | succ i => exact .cons a (ih t e)
  exact key h e
theorem nx_le {f} {i : Nat} (e : Γ[i]? = some (some P)) (l : P.le P') (h : Nx E (Γ.set i (some P')) M f) : Nx E Γ M f :=
  h.imp fun _ _ ⟨F, a, b⟩ => ⟨F, a, b.upd e (l F)⟩
theorem nx_ex {α : Type} {f} {i : Nat} {R : α → MP} (e : Γ[i]? = some (some (PEx R))) (h : ∀ x, Nx E (Γ.set i (some (R x))) M f) : Nx E Γ M f := by
  rintro σ H ⟨F, a, b⟩
  obtain ⟨v, hv, x, k⟩ := b.get e
  refine h x σ H ⟨F, a, ?_⟩
  have : EnvOk F (σ.set i (some v)) (Γ.set i (some (R x))) := b.set i k
  have e2 : σ.set i (some v) = σ := by
    have hi := (List.getElem?_eq_some_iff.mp hv)
    obtain ⟨hi, hv⟩ := hi
    rw [← hv, List.set_getElem_self]
  rw [e2] at this
  exact this
theorem nx_an {φ : Prop} {f} {i : Nat} {R : MP} (e : Γ[i]? = some (some (PAn φ R))) (h : φ → Nx E (Γ.set i (some R)) M f) : Nx E Γ M f := by
  rintro σ H ⟨F, a, b⟩
  obtain ⟨v, hv, k1, k2⟩ := b.get e
  refine h k1 σ H ⟨F, a, b.upd e fun v q => q.2⟩
/-- an own list is given away: it stands from now on -/
theorem nx_freeze {f} {i : Nat} {ps : List MP} (j : Nat) (e : M[j]? = some (q, ML ps)) (hq : E.H q = none) (hg : Γ[i]? = some (some (Own q))) (h : Nx E (Γ.set i (some (PLi K ps))) (M.eraseIdx j) f) : Nx E Γ M f := by
  rintro σ H ⟨F, a, b⟩
  obtain ⟨fq, o, ho, vs, rfl, hp⟩ := a.at e
  have ex : Ex F (upd F q (.lst vs)) := Evl.Ex.new fq
  refine h σ H ⟨_, a.freeze e hq ho, (b.mono ex).upd hg fun v hv => ⟨q, vs, hv, .inl (.inl upd_same), hp.mono ex⟩⟩
theorem nx_forget {f} (i : Nat) (h : Nx E (Γ.set i none) M f) : Nx E Γ M f := h.imp fun σ H ⟨F, a, b⟩ => ⟨F, a, by
  have key : ∀ {σ : St} {Γ : Gm} {i : Nat}, EnvOk F σ Γ → EnvOk F σ (Γ.set i none) := by
    intro σ Γ
    induction Γ generalizing σ with
    | nil => intro i h; exact h
    | cons g Γ ih =>
      intro i h
      cases h with
      | cons a t => cases i with
        | zero => exact .cons (fun Q hQ => by cases hQ) t
        | succ i => exact .cons a (ih t)
  exact key b⟩
theorem nx_drop {f} (s : List.Sublist M' M) (h : Nx E Γ M' f) : Nx E Γ M f := h.imp fun σ H ⟨F, a, b⟩ => ⟨F, a.drop s, b⟩
/-! ### expressions -/
variable {te ta tb tc tl : TE} {t u : TT} {r : R2}
theorem ev_var {i : Nat} (e : Γ[i]? = some (some P)) : Ev (tVar i) Γ M P M := fun E F σ H a b Q k => by
  obtain ⟨v, hv, hp⟩ := b.get e
  exact ⟨v, hv, k v F H (Evl.Ex.refl _) a hp⟩
theorem ev_cv {v : V} (h : ∀ F, P.p F v) : Ev (tC v) Γ M P M := fun E F σ H a b Q k => k v F H (Evl.Ex.refl _) a (h F)
theorem ev_int {i : Int} : Ev (tC (.int i)) Γ M (D K (.int i)) M := ev_cv fun _ => .int i
theorem ev_bl {b : Bool} : Ev (tC (.bl b)) Γ M (D K (.bool b)) M := ev_cv fun _ => .bl b
theorem ev_non : Ev (tC .non) Γ M (D K .none) M := ev_cv fun _ => .non
def Cont (E : Ent) (F : Hp) (M : Ms) (P : MP) (Q : VK) : Prop := ∀ v F' H', Ex F F' → Pt E F' M H' → P.p F' v → Q v H'
def RV (r : R2) (P1 P2 : MP) (M : Ms) (P : MP) (M' : Ms) : Prop := ∀ E F H x y, Pt E F M H → P1.p F x → P2.p F y → ∀ Q : VK, Cont E F M' P Q → r x y H Q
theorem ev_op (ha : Ev ta Γ M P1 M1) (hb : Ev tb Γ M1 P2 M2) (hr : RV r P1 P2 M2 P M3) : Ev (tOp r ta tb) Γ M P M3 := fun E F σ H a b Q k =>
  ha E F σ H a b _ fun x F1 H1 e1 a1 p1 => hb E F1 σ H1 a1 (b.mono e1) _ fun y F2 H2 e2 a2 p2 =>
    hr E F2 H2 x y a2 (P1.mono e2 p1) p2 Q fun v F3 H3 e3 a3 p3 => k v F3 H3 ((e1.trans e2).trans e3) a3 p3
theorem RV.ex1 {α : Type} {R : α → MP} (h : ∀ x, RV r (R x) P2 M P M') : RV r (PEx R) P2 M P M' := fun E F H x y a ⟨z, p1⟩ p2 Q k => h z E F H x y a p1 p2 Q k
theorem RV.ex2 {α : Type} {R : α → MP} (h : ∀ x, RV r P1 (R x) M P M') : RV r P1 (PEx R) M P M' := fun E F H x y a p1 ⟨z, p2⟩ Q k => h z E F H x y a p1 p2 Q k
theorem RV.an1 {φ : Prop} {R : MP} (h : φ → RV r R P2 M P M') : RV r (PAn φ R) P2 M P M' := fun E F H x y a p1 p2 Q k => h p1.1 E F H x y a p1.2 p2 Q k
theorem RV.an2 {φ : Prop} {R : MP} (h : φ → RV r P1 R M P M') : RV r P1 (PAn φ R) M P M' := fun E F H x y a p1 p2 Q k => h p2.1 E F H x y a p1 p2.2 Q k
theorem RV.weak (h : RV r P1 P2 M P M') (l : P.le P') : RV r P1 P2 M P' M' := fun E F H x y a p1 p2 Q k => h E F H x y a p1 p2 Q fun v F' H' e g p => k v F' H' e g (l _ _ p)
theorem PEx.in {α : Type} {R : α → MP} (x : α) : (R x).le (PEx R) := fun _ _ h => ⟨x, h⟩
theorem PAn.in {φ : Prop} {R : MP} (h : φ) : R.le (PAn φ R) := fun _ _ k => ⟨h, k⟩
theorem MP.le_trans {A B C : MP} (h : A.le B) (k : B.le C) : A.le C := fun F v q => k F v (h F v q)
theorem rv_val {z : V} (hz : ∀ F, P.p F z) (h : ∀ F H x y, P1.p F x → P2.p F y → Ex F H → ∀ Q : VK, Q z H → r x y H Q) : RV r P1 P2 M P M := fun E F H x y a p1 p2 Q k =>
  h F H x y p1 p2 a.ex Q (k z F H (Evl.Ex.refl _) a (hz F))
theorem rv_i0 {g : Int → Int → Int} {i j : Int} : RV (rI0 fun i j => .int (g i j)) (D K (.int i)) (D K (.int j)) M (D K (.int (g i j))) M := rv_val (z := .int (g i j)) (fun _ => .int _) fun F H x y p1 p2 _ Q q => by
  cases dp_int p1; cases dp_int p2
  exact ⟨i, j, rfl, rfl, q⟩
theorem rv_b0 {g : Int → Int → Bool} {i j : Int} : RV (rI0 fun i j => .bl (g i j)) (D K (.int i)) (D K (.int j)) M (D K (.bool (g i j))) M := rv_val (z := .bl (g i j)) (fun _ => .bl _) fun F H x y p1 p2 _ Q q => by
  cases dp_int p1; cases dp_int p2
  exact ⟨i, j, rfl, rfl, q⟩
theorem rv_ic {C : Int → Int → Prop} {g : Int → Int → Int} {i j : Int} (hc : C i j) : RV (rI C fun i j => .int (g i j)) (D K (.int i)) (D K (.int j)) M (D K (.int (g i j))) M := rv_val (z := .int (g i j)) (fun _ => .int _) fun F H x y p1 p2 _ Q q => by
  cases dp_int p1; cases dp_int p2
  exact ⟨i, j, rfl, rfl, hc, q⟩
theorem rv_eqD {d e : PyData} (hd : SeqAt.shaped d = true) (he : SeqAt.shaped e = true) : RV (rEqD K) (D K d) (D K e) M (D K (.bool (PyData.eqv d e))) M := rv_val (z := .bl _) (fun _ => .bl _) fun F H x y p1 p2 ex Q q =>
  ⟨d, e, Dp.mono ex p1, Dp.mono ex p2, hd, he, q⟩
theorem rv_neD {d e : PyData} (hd : SeqAt.shaped d = true) (he : SeqAt.shaped e = true) : RV (rNeD K) (D K d) (D K e) M (D K (.bool (!PyData.eqv d e))) M := rv_val (z := .bl _) (fun _ => .bl _) fun F H x y p1 p2 ex Q q =>
  ⟨d, e, Dp.mono ex p1, Dp.mono ex p2, hd, he, q⟩
theorem atI_of {xs : List V} {i : Int} {v : V} (h0 : 0 ≤ i) (h : xs[i.toNat]? = some v) : atI xs i = some v := by
  have hl := (List.getElem?_eq_some_iff.mp h).1
  obtain ⟨n, rfl⟩ := Int.eq_ofNat_of_zero_le h0
  unfold atI
  rw [Evl.ixN_nat (by simpa using hl)]
  simpa using h
theorem rv_ixL {ps : List MP} {i : Int} (h0 : 0 ≤ i) (h : ps[i.toNat]? = some P) : RV (rIx K) (PLi K ps) (D K (.int i)) M P M := fun E F H x y a p1 p2 Q k => by
  cases dp_int p2
  obtain ⟨b, vs, rfl, s, q⟩ := p1
  obtain ⟨v, hv, hp⟩ := paired_get q h
  exact .inl ⟨b, vs, i, v, rfl, rfl, Evl.ex_l a.ex s, atI_of h0 hv, k v F H (Evl.Ex.refl _) a hp⟩
theorem rv_ixT {ps : List MP} {i : Int} (h0 : 0 ≤ i) (h : ps[i.toNat]? = some P) : RV (rIx K) (PTu K ps) (D K (.int i)) M P M := fun E F H x y a p1 p2 Q k => by
  cases dp_int p2
  obtain ⟨b, vs, rfl, s, q⟩ := p1
  obtain ⟨v, hv, hp⟩ := paired_get q h
  exact .inr (.inl ⟨b, vs, i, v, rfl, rfl, Evl.ex_t a.ex s, atI_of h0 hv, k v F H (Evl.Ex.refl _) a hp⟩)
theorem rv_ixDL {ds : List PyData} {i : Int} {d : PyData} (h0 : 0 ≤ i) (h : ds[i.toNat]? = some d) : RV (rIx K) (D K (.list ds)) (D K (.int i)) M (D K d) M := fun E F H x y a p1 p2 Q k =>
  rv_ixL (K := K) (ps := ds.map (D K)) h0 (by rw [List.getElem?_map, h]; rfl) E F H x y a (D_PLi _ _ p1) p2 Q k
theorem rv_ixDT {ds : List PyData} {i : Int} {d : PyData} (h0 : 0 ≤ i) (h : ds[i.toNat]? = some d) : RV (rIx K) (D K (.tuple ds)) (D K (.int i)) M (D K d) M := fun E F H x y a p1 p2 Q k =>
  rv_ixT (K := K) (ps := ds.map (D K)) h0 (by rw [List.getElem?_map, h]; rfl) E F H x y a (D_PTu _ _ p1) p2 Q k
theorem rv_ixO {ps : List MP} {i : Int} {j : Nat} (e : M[j]? = some (q, ML ps)) (h0 : 0 ≤ i) (h : ps[i.toNat]? = some P) : RV (rIx K) (Own q) (D K (.int i)) M P M := fun E F H x y a p1 p2 Q k => by
  cases dp_int p2
  have p1 : x = .ref q := p1
  subst p1
  obtain ⟨fq, o, ho, vs, rfl, s⟩ := a.at e
  obtain ⟨v, hv, hp⟩ := paired_get s h
  exact .inl ⟨q, vs, i, v, rfl, rfl, SqL.of ho, atI_of h0 hv, k v F H (Evl.Ex.refl _) a hp⟩
theorem flat_ints : ∀ {F : Hp} {xs : List V} {ns : List Int}, DpAll K F xs (ns.map PyData.int) → xs = ns.map V.int
  | _, _, [], h => by cases h; rfl
  | _, _, n :: ns, h => by cases h with | cons a t => rw [List.map_cons, ← flat_ints t, dp_int a]
theorem flat_all (ns : List Int) : (ns.map V.int).all flatV = true := by
  rw [List.all_eq_true]
  intro x hx
  obtain ⟨n, _, rfl⟩ := List.mem_map.mp hx
  rfl
theorem inV_ints (i : Int) (ns : List Int) : inV (.int i) (ns.map V.int) = decide (i ∈ ns) := by
  induction ns with
  | nil => rfl
  | cons n ns ih =>
    show (eqV (.int n) (.int i) || inV (.int i) (ns.map V.int)) = _
    rw [ih]
    show (decide (n = i) || decide (i ∈ ns)) = _
    by_cases h : i = n
    · subst h; simp
    · have h2 : ¬ n = i := fun e => h e.symm
      simp [h, h2]
theorem rv_inT {i : Int} {ns : List Int} {neg : Bool} : RV (rIn K neg) (D K (.int i)) (D K (.tuple (ns.map .int))) M (D K (.bool (if neg then !decide (i ∈ ns) else decide (i ∈ ns)))) M := rv_val (z := .bl _) (fun _ => .bl _) fun F H x y p1 p2 ex Q k => by
  cases dp_int p1
  obtain ⟨b, vs, rfl, s, q⟩ := dp_tup p2
  cases flat_ints q
  refine ⟨b, _, rfl, .inr (Evl.ex_t ex s), rfl, flat_all ns, ?_⟩
  rw [inV_ints]
  exact k
theorem rv_inL {i : Int} {ns : List Int} {neg : Bool} : RV (rIn K neg) (D K (.int i)) (D K (.list (ns.map .int))) M (D K (.bool (if neg then !decide (i ∈ ns) else decide (i ∈ ns)))) M := rv_val (z := .bl _) (fun _ => .bl _) fun F H x y p1 p2 ex Q k => by
  cases dp_int p1
  obtain ⟨b, vs, rfl, s, q⟩ := dp_lst p2
  cases flat_ints q
  refine ⟨b, _, rfl, .inl (Evl.ex_l ex s), rfl, flat_all ns, ?_⟩
  rw [inV_ints]
  exact k
/-! ### arguments, calls -/
theorem ea_nil : EvA tNil Γ M [] M := fun E F σ H a b Q k => k [] F H (Evl.Ex.refl _) a .nil
theorem ea_cons {tr : TA} {ps : List MP} (h : Ev te Γ M P M1) (hr : EvA tr Γ M1 ps M2) : EvA (tCons te tr) Γ M (P :: ps) M2 := fun E F σ H a b Q k =>
  h E F σ H a b _ fun x F1 H1 e1 a1 p1 => hr E F1 σ H1 a1 (b.mono e1) _ fun vs F2 H2 e2 a2 p2 => k (x :: vs) F2 H2 (e1.trans e2) a2 (.cons (P.mono e2 p1) p2)
def RC (rc : List V → Hp → VK → Prop) (ps : List MP) (M : Ms) (P : MP) (M' : Ms) : Prop := ∀ E F H vs, Pt E F M H → Ps F vs ps → ∀ Q : VK, Cont E F M' P Q → rc vs H Q
theorem ev_cb {rc : List V → Hp → VK → Prop} {tr : TA} {ps : List MP} (h : EvA tr Γ M ps M1) (hr : RC rc ps M1 P M2) : Ev (tCB rc tr) Γ M P M2 := fun E F σ H a b Q k =>
  h E F σ H a b _ fun vs F1 H1 e1 a1 p1 => hr E F1 H1 vs a1 p1 Q fun v F2 H2 e2 a2 p2 => k v F2 H2 (e1.trans e2) a2 p2
theorem ev_call {sp : Sp} {dvs : List V} {X : XK} {tr : TA} {ps : List MP} (h : EvA tr Γ M ps M1) (hr : RC (fun vs H Q => sp (vs ++ dvs) H Q X) ps M1 P M2) : Ev (tCall sp dvs X tr) Γ M P M2 := fun E F σ H a b Q k =>
  h E F σ H a b _ fun vs F1 H1 e1 a1 p1 => hr E F1 H1 vs a1 p1 Q fun v F2 H2 e2 a2 p2 => k v F2 H2 (e1.trans e2) a2 p2
theorem RC.weak {rc : List V → Hp → VK → Prop} {ps : List MP} (h : RC rc ps M P M') (l : P.le P') : RC rc ps M P' M' := fun E F H vs a p Q k => h E F H vs a p Q fun v F' H' e g p => k v F' H' e g (l _ _ p)
theorem rc_len {ps : List MP} : RC (fun xs H Q => ∃ p ys, xs = [.ref p] ∧ (SqL K H p ys ∨ SqT K H p ys) ∧ Q (.int ys.length) H) [PLi K ps] M (D K (.int ps.length)) M := fun E F H vs a p Q k => by
  cases p with
  | cons p t =>
    cases t
    obtain ⟨b, ys, rfl, s, q⟩ := p
    refine ⟨b, ys, rfl, .inl (Evl.ex_l a.ex s), k _ F H (Evl.Ex.refl _) a ?_⟩
    rw [← paired_len q]
    exact .int _
theorem rc_lenT {ps : List MP} : RC (fun xs H Q => ∃ p ys, xs = [.ref p] ∧ (SqL K H p ys ∨ SqT K H p ys) ∧ Q (.int ys.length) H) [PTu K ps] M (D K (.int ps.length)) M := fun E F H vs a p Q k => by
  cases p with
  | cons p t =>
    cases t
    obtain ⟨b, ys, rfl, s, q⟩ := p
    refine ⟨b, ys, rfl, .inr (Evl.ex_t a.ex s), k _ F H (Evl.Ex.refl _) a ?_⟩
    rw [← paired_len q]
    exact .int _
theorem rc_lenO {ps : List MP} {j : Nat} (e : M[j]? = some (q, ML ps)) : RC (fun xs H Q => ∃ p ys, xs = [.ref p] ∧ (SqL K H p ys ∨ SqT K H p ys) ∧ Q (.int ys.length) H) [Own q] M (D K (.int ps.length)) M := fun E F H vs a p Q k => by
  cases p with
  | cons p t =>
    cases t
    have p : _ = V.ref q := p
    subst p
    obtain ⟨fq, o, ho, vs, rfl, s⟩ := a.at e
    refine ⟨q, vs, rfl, .inl (SqL.of ho), k _ F H (Evl.Ex.refl _) a ?_⟩
    rw [← paired_len s]
    exact .int _
theorem le_L {ds : List PyData} : (D K (.list ds)).le (PLi K (ds.map (D K))) := D_PLi
theorem le_T {ds : List PyData} : (D K (.tuple ds)).le (PTu K (ds.map (D K))) := D_PTu
theorem rc_lenD {ds : List PyData} : RC (fun xs H Q => ∃ p ys, xs = [.ref p] ∧ (SqL K H p ys ∨ SqT K H p ys) ∧ Q (.int ys.length) H) [D K (.list ds)] M (D K (.int ds.length)) M := fun E F H vs a p Q k => by
  cases p with
  | cons p t =>
    cases t
    have := rc_len (K := K) (ps := ds.map (D K)) E F H [_] a (.cons (D_PLi _ _ p) .nil) Q (M := M)
    rw [List.length_map] at this
    exact this k
theorem rc_lenDT {ds : List PyData} : RC (fun xs H Q => ∃ p ys, xs = [.ref p] ∧ (SqL K H p ys ∨ SqT K H p ys) ∧ Q (.int ys.length) H) [D K (.tuple ds)] M (D K (.int ds.length)) M := fun E F H vs a p Q k => by
  cases p with
  | cons p t =>
    cases t
    have := rc_lenT (K := K) (ps := ds.map (D K)) E F H [_] a (.cons (D_PTu _ _ p) .nil) Q (M := M)
    rw [List.length_map] at this
    exact this k
end
end Hq
namespace Hq
open PySem L2
section
variable {K : PySem.W.Frag} {E E' : Ent} {F F' H H' : Hp} {M M' M1 M2 M3 : Ms} {Γ Γ' : Gm} {P P' P1 P2 : MP} {O O' : MO} {q : Addr} {σ : St} {o o' : HO} {j : Nat}
variable {te ta tb tc tl : TE} {t u : TT} {r : R2} {D1 : Ends} {tu tw : TS}
/-! ### new objects -/
def ContN (E : Ent) (F : Hp) (O : MO) (M : Ms) (Q : VK) : Prop := ∀ q F' H', E.H q = none → Ex F F' → Pt E F' ((q, O) :: M) H' → Q (.ref q) H'
def EvN (te : TE) (Γ : Gm) (M : Ms) (O : MO) (M' : Ms) : Prop := ∀ E F σ H, Pt E F M H → EnvOk F σ Γ → ∀ Q : VK, ContN E F O M' Q → te σ H Q
def RCN (rc : List V → Hp → VK → Prop) (ps : List MP) (M : Ms) (O : MO) (M' : Ms) : Prop := ∀ E F H vs, Pt E F M H → Ps F vs ps → ∀ Q : VK, ContN E F O M' Q → rc vs H Q
/-- an object that stands -/
def Fr (O : MO) : MP := ⟨fun F v => ∃ q o, v = .ref q ∧ F q = some o ∧ O.p F o, fun e ⟨q, o, a, b, c⟩ => ⟨q, o, a, e _ _ b, O.mono e c⟩⟩
theorem fr_L {ps : List MP} : (Fr (ML ps)).le (PLi K ps) := fun F v ⟨q, o, a, b, vs, e, h⟩ => by subst e; exact ⟨q, vs, a, SqL.of b, h⟩
theorem fr_X {α : Type} {R : α → MO} : (Fr (MX R)).le (PEx fun x => Fr (R x)) := fun F v ⟨q, o, a, b, x, h⟩ => ⟨x, q, o, a, b, h⟩
theorem fr_A {φ : Prop} {R : MO} : (Fr (MA φ R)).le (PAn φ (Fr R)) := fun F v ⟨q, o, a, b, x, h⟩ => ⟨x, q, o, a, b, h⟩
theorem PEx.le {α : Type} {R R' : α → MP} (h : ∀ x, (R x).le (R' x)) : (PEx R).le (PEx R') := fun F v ⟨x, k⟩ => ⟨x, h x F v k⟩
theorem PAn.le {φ : Prop} {R R' : MP} (h : φ → R.le R') : (PAn φ R).le (PAn φ R') := fun F v k => ⟨k.1, h k.1 F v k.2⟩
theorem ev_fr (h : EvN te Γ M O M') : Ev te Γ M (Fr O) M' := fun E F σ H a b Q k => h E F σ H a b Q fun q F' H' f e g => by
  obtain ⟨fq, o, ho, hO⟩ := g.at (j := 0) rfl
  have ex : Ex F' (upd F' q o) := Evl.Ex.new fq
  exact k _ _ _ (e.trans ex) (g.freeze (j := 0) rfl f ho) ⟨q, o, rfl, upd_same, O.mono ex hO⟩
theorem ev_newL {ps : List MP} (h : EvN te Γ M (ML ps) M') : Ev te Γ M (PLi K ps) M' := (ev_fr h).weak fr_L
theorem EvN.weak (h : EvN te Γ M O M') (l : ∀ F o, O.p F o → O'.p F o) : EvN te Γ M O' M' := fun E F σ H a b Q k => h E F σ H a b Q fun q F' H' f e g => k q F' H' f e (by
  have := g.to (j := 0) (O' := O') l rfl
  exact this)
theorem EvN.is {O2 : MO} (h : EvN te Γ M O M') (e : O = O2) : EvN te Γ M O2 M' := e ▸ h
theorem Ev.is (h : Ev te Γ M P M') (e : P = P') : Ev te Γ M P' M' := e ▸ h
theorem sz_of {n : Nat} (h : n ≤ 100000) : n ≤ sizeLine := Nat.le_trans h (by decide)
theorem sz_lt {n : Nat} (h : n < 100000) : n < sizeLine := Nat.lt_of_lt_of_le h (by decide)
theorem evn_lst {tr : TA} {ps : List MP} (h : EvA tr Γ M ps M1) (hl : ps.length ≤ 100000) : EvN (tLst tr) Γ M (ML ps) M1 := fun E F σ H a b Q k =>
  h E F σ H a b _ fun vs F1 H1 e1 a1 p1 => ⟨sz_of (by rw [paired_len p1]; exact hl), fun p hp => k p F1 _ (a1.fresh hp) e1 (a1.new hp ⟨vs, rfl, p1⟩)⟩
theorem ev_tup {tr : TA} {ps : List MP} (h : EvA tr Γ M ps M1) (hl : ps.length ≤ 100000) : Ev (tTup tr) Γ M (PTu K ps) M1 := fun E F σ H a b Q k =>
  h E F σ H a b _ fun vs F1 H1 e1 a1 p1 => ⟨sz_of (by rw [paired_len p1]; exact hl), fun p hp => k _ _ _ (e1.trans (Evl.Ex.new (Evl.fresh_back a1.ex hp))) (a1.laid hp)
    ⟨p, vs, rfl, SqT.of upd_same, p1.mono (Evl.Ex.new (Evl.fresh_back a1.ex hp))⟩⟩
theorem evn_cb {rc : List V → Hp → VK → Prop} {tr : TA} {ps : List MP} (h : EvA tr Γ M ps M1) (hr : RCN rc ps M1 O M2) : EvN (tCB rc tr) Γ M O M2 := fun E F σ H a b Q k =>
  h E F σ H a b _ fun vs F1 H1 e1 a1 p1 => hr E F1 H1 vs a1 p1 Q fun q F2 H2 f e2 a2 => k q F2 H2 f (e1.trans e2) a2
theorem ps1 {F : Hp} {vs : List V} {P : MP} (h : Ps F vs [P]) : ∃ v, vs = [v] ∧ P.p F v := by cases h with | cons a t => cases t; exact ⟨_, rfl, a⟩
theorem ps2 {F : Hp} {vs : List V} {P P' : MP} (h : Ps F vs [P, P']) : ∃ v w, vs = [v, w] ∧ P.p F v ∧ P'.p F w := by cases h with | cons a t => obtain ⟨w, rfl, b⟩ := ps1 t; exact ⟨_, w, rfl, a, b⟩
theorem ps3 {F : Hp} {vs : List V} {P P' P2 : MP} (h : Ps F vs [P, P', P2]) : ∃ v w x, vs = [v, w, x] ∧ P.p F v ∧ P'.p F w ∧ P2.p F x := by cases h with | cons a t => obtain ⟨w, x, rfl, b, c⟩ := ps2 t; exact ⟨_, w, x, rfl, a, b, c⟩
/-- list(x) -/
abbrev rList (K : PySem.W.Frag) : List V → Hp → VK → Prop := fun xs H Q => ∃ p ys, xs = [.ref p] ∧ (SqL K H p ys ∨ SqT K H p ys) ∧ ∀ l, H l = none → Q (.ref l) (upd H l (.lst ys))
theorem rcn_listL {ps : List MP} : RCN (rList K) [PLi K ps] M (ML ps) M := fun E F H vs a h Q k => by
  obtain ⟨v, rfl, b, ws, rfl, s, p⟩ := ps1 h
  exact ⟨b, ws, rfl, .inl (Evl.ex_l a.ex s), fun l hl => k l F _ (a.fresh hl) (Evl.Ex.refl _) (a.new hl ⟨ws, rfl, p⟩)⟩
theorem rcn_listT {ps : List MP} : RCN (rList K) [PTu K ps] M (ML ps) M := fun E F H vs a h Q k => by
  obtain ⟨v, rfl, b, ws, rfl, s, p⟩ := ps1 h
  exact ⟨b, ws, rfl, .inr (Evl.ex_t a.ex s), fun l hl => k l F _ (a.fresh hl) (Evl.Ex.refl _) (a.new hl ⟨ws, rfl, p⟩)⟩
theorem rcn_listO {ps : List MP} (e : M[j]? = some (q, ML ps)) : RCN (rList K) [Own q] M (ML ps) M := fun E F H vs a h Q k => by
  obtain ⟨v, rfl, hv⟩ := ps1 h
  have hv : v = .ref q := hv
  subst hv
  obtain ⟨_, o, ho, ws, rfl, p⟩ := a.at e
  exact ⟨q, ws, rfl, .inl (SqL.of ho), fun l hl => k l F _ (a.fresh hl) (Evl.Ex.refl _) (a.new hl ⟨ws, rfl, p⟩)⟩
/-- tuple(x) -/
abbrev rTuple (K : PySem.W.Frag) : List V → Hp → VK → Prop := fun xs H Q => ∃ p ys, xs = [.ref p] ∧ ((SqL K H p ys ∧ ∀ l, H l = none → Q (.ref l) (upd H l (.tup ys))) ∨ (SqT K H p ys ∧ Q (.ref p) H))
theorem rc_tupleL {ps : List MP} : RC (rTuple K) [PLi K ps] M (PTu K ps) M := fun E F H vs a h Q k => by
  obtain ⟨v, rfl, b, ws, rfl, s, p⟩ := ps1 h
  refine ⟨b, ws, rfl, .inl ⟨Evl.ex_l a.ex s, fun l hl => ?_⟩⟩
  have ex : Ex F (upd F l (.tup ws)) := Evl.Ex.new (Evl.fresh_back a.ex hl)
  exact k _ _ _ ex (a.laid hl) ⟨l, ws, rfl, SqT.of upd_same, p.mono ex⟩
theorem rc_tupleT {ps : List MP} : RC (rTuple K) [PTu K ps] M (PTu K ps) M := fun E F H vs a h Q k => by
  obtain ⟨v, rfl, b, ws, rfl, s, p⟩ := ps1 h
  exact ⟨b, ws, rfl, .inr ⟨Evl.ex_t a.ex s, k _ F H (Evl.Ex.refl _) a ⟨b, ws, rfl, s, p⟩⟩⟩
theorem rc_tupleO {ps : List MP} (e : M[j]? = some (q, ML ps)) : RC (rTuple K) [Own q] M (PTu K ps) M := fun E F H vs a h Q k => by
  obtain ⟨v, rfl, hv⟩ := ps1 h
  have hv : v = .ref q := hv
  subst hv
  obtain ⟨_, o, ho, ws, rfl, p⟩ := a.at e
  refine ⟨q, ws, rfl, .inl ⟨SqL.of ho, fun l hl => ?_⟩⟩
  have ex : Ex F (upd F l (.tup ws)) := Evl.Ex.new (Evl.fresh_back a.ex hl)
  exact k _ _ _ ex (a.laid hl) ⟨l, ws, rfl, SqT.of upd_same, p.mono ex⟩
abbrev rInt : List V → Hp → VK → Prop := fun xs H Q => (∃ i, xs = [.int i] ∧ Q (.int i) H) ∨ ∃ k, xs = [.bl k] ∧ Q (.int (if k then 1 else 0)) H
theorem rc_int {i : Int} : RC rInt [D K (.int i)] M (D K (.int i)) M := fun E F H vs a h Q k => by
  obtain ⟨v, rfl, hv⟩ := ps1 h
  cases dp_int hv
  exact .inl ⟨i, rfl, k _ F H (Evl.Ex.refl _) a (.int i)⟩
theorem RC.ex1 {α : Type} {rc : List V → Hp → VK → Prop} {R : α → MP} {ps : List MP} (h : ∀ x, RC rc (R x :: ps) M P M') : RC rc (PEx R :: ps) M P M' := fun E F H vs a p Q k => by
  cases p with
  | cons b t => obtain ⟨x, b⟩ := b; exact h x E F H _ a (.cons b t) Q k
theorem RC.an1 {φ : Prop} {rc : List V → Hp → VK → Prop} {R : MP} {ps : List MP} (h : φ → RC rc (R :: ps) M P M') : RC rc (PAn φ R :: ps) M P M' := fun E F H vs a p Q k => by
  cases p with
  | cons b t => exact h b.1 E F H _ a (.cons b.2 t) Q k
theorem RCN.ex1 {α : Type} {rc : List V → Hp → VK → Prop} {R : α → MP} {ps : List MP} (h : ∀ x, RCN rc (R x :: ps) M O M') : RCN rc (PEx R :: ps) M O M' := fun E F H vs a p Q k => by
  cases p with
  | cons b t => obtain ⟨x, b⟩ := b; exact h x E F H _ a (.cons b t) Q k
theorem RCN.an1 {φ : Prop} {rc : List V → Hp → VK → Prop} {R : MP} {ps : List MP} (h : φ → RCN rc (R :: ps) M O M') : RCN rc (PAn φ R :: ps) M O M' := fun E F H vs a p Q k => by
  cases p with
  | cons b t => exact h b.1 E F H _ a (.cons b.2 t) Q k
theorem RC.in1 {rc : List V → Hp → VK → Prop} {R R' : MP} {ps : List MP} (l : R.le R') (h : RC rc (R' :: ps) M P M') : RC rc (R :: ps) M P M' := fun E F H vs a p Q k => by
  cases p with
  | cons b t => exact h E F H _ a (.cons (l _ _ b) t) Q k
theorem RCN.in1 {rc : List V → Hp → VK → Prop} {R R' : MP} {ps : List MP} (l : R.le R') (h : RCN rc (R' :: ps) M O M') : RCN rc (R :: ps) M O M' := fun E F H vs a p Q k => by
  cases p with
  | cons b t => exact h E F H _ a (.cons (l _ _ b) t) Q k
theorem RC.ex0 {α : Type} {rc : List V → Hp → VK → Prop} {R : α → MP} {ps : List MP} (x : α) (h : RC rc ps M (R x) M') : RC rc ps M (PEx R) M' := h.weak (PEx.in x)
theorem RCN.weak {rc : List V → Hp → VK → Prop} {ps : List MP} (h : RCN rc ps M O M') (l : ∀ F o, O.p F o → O'.p F o) : RCN rc ps M O' M' := fun E F H vs a p Q k => h E F H vs a p Q fun q F' H' f e g => k q F' H' f e (g.to (j := 0) (O' := O') l rfl)
theorem MX.in {α : Type} {R : α → MO} (x : α) : ∀ F o, (R x).p F o → (MX R).p F o := fun _ _ h => ⟨x, h⟩
/-! ### tests -/
theorem et_val {b : Bool} (h : Ev te Γ M (D K (.bool b)) M') : EvT (tB te) Γ M (· = b) M' := fun E F σ H a c Q k => h E F σ H a c _ fun v F' H' e g p => by
  cases dp_bl p; exact ⟨b, rfl, k b F' H' e g rfl⟩
theorem et_test {b : Bool} (h : Ev te Γ M (D K (.bool b)) M') : EvT (tTest te) Γ M (· = b) M' := fun E F σ H a c Q k => h E F σ H a c _ fun v F' H' e g p => by
  cases dp_bl p; exact ⟨b, rfl, k b F' H' e g rfl⟩
theorem et_testX {φ : Bool → Prop} (h : Ev te Γ M (PEx fun b => PAn (φ b) (D K (.bool b))) M') : EvT (tTest te) Γ M φ M' := fun E F σ H a c Q k => h E F σ H a c _ fun v F' H' e g ⟨b, hb, p⟩ => by
  cases dp_bl p; exact ⟨b, rfl, k b F' H' e g hb⟩
theorem et_and {a b : Bool} (h1 : EvT t Γ M (· = a) M1) (h2 : a = true → EvT u Γ M1 (· = b) M1) : EvT (tAnd t u) Γ M (· = (a && b)) M1 := fun E F σ H x c Q k => h1 E F σ H x c _ fun z F1 H1 e1 g1 hz => by
  subst hz
  cases z with
  | true => exact h2 rfl E F1 σ H1 g1 (c.mono e1) _ fun z F2 H2 e2 g2 hz => k z F2 H2 (e1.trans e2) g2 hz
  | false => exact k false F1 H1 e1 g1 rfl
theorem et_or {a b : Bool} (h1 : EvT t Γ M (· = a) M1) (h2 : a = false → EvT u Γ M1 (· = b) M1) : EvT (tOr t u) Γ M (· = (a || b)) M1 := fun E F σ H x c Q k => h1 E F σ H x c _ fun z F1 H1 e1 g1 hz => by
  subst hz
  cases z with
  | true => exact k true F1 H1 e1 g1 rfl
  | false => exact h2 rfl E F1 σ H1 g1 (c.mono e1) _ fun z F2 H2 e2 g2 hz => k z F2 H2 (e1.trans e2) g2 hz
theorem et_not {a : Bool} (h : EvT t Γ M (· = a) M') : EvT (tNot t) Γ M (· = !a) M' := fun E F σ H x c Q k => h E F σ H x c _ fun z F1 H1 e1 g1 hz => k _ F1 H1 e1 g1 (by rw [hz])
theorem ev_andV {a b : Bool} (h1 : Ev ta Γ M (D K (.bool a)) M1) (h2 : a = true → Ev tb Γ M1 (D K (.bool b)) M1) : Ev (tAndV ta tb) Γ M (D K (.bool (a && b))) M1 := fun E F σ H x c Q k => h1 E F σ H x c _ fun z F1 H1 e1 g1 hz => by
  cases dp_bl hz
  refine ⟨a, rfl, ?_⟩
  cases a with
  | true => exact h2 rfl E F1 σ H1 g1 (c.mono e1) _ fun z F2 H2 e2 g2 hz => k z F2 H2 (e1.trans e2) g2 hz
  | false => exact k _ F1 H1 e1 g1 (.bl false)
theorem ev_orV {a b : Bool} (h1 : Ev ta Γ M (D K (.bool a)) M1) (h2 : a = false → Ev tb Γ M1 (D K (.bool b)) M1) : Ev (tOrV ta tb) Γ M (D K (.bool (a || b))) M1 := fun E F σ H x c Q k => h1 E F σ H x c _ fun z F1 H1 e1 g1 hz => by
  cases dp_bl hz
  refine ⟨a, rfl, ?_⟩
  cases a with
  | true => exact k _ F1 H1 e1 g1 (.bl true)
  | false => exact h2 rfl E F1 σ H1 g1 (c.mono e1) _ fun z F2 H2 e2 g2 hz => k z F2 H2 (e1.trans e2) g2 hz
theorem ev_notV {a : Bool} (h1 : Ev ta Γ M (D K (.bool a)) M1) : Ev (tNotV ta) Γ M (D K (.bool !a)) M1 := fun E F σ H x c Q k => h1 E F σ H x c _ fun z F1 H1 e1 g1 hz => by
  cases dp_bl hz
  exact ⟨a, rfl, k _ F1 H1 e1 g1 (.bl _)⟩
theorem ev_chain {r' : R2} {a b : Bool} {P3 : MP} (ha : Ev ta Γ M P1 M) (hb : Ev tb Γ M P2 M) (hr : RV r P1 P2 M (D K (.bool a)) M) (hc : a = true → Ev tc Γ M P3 M) (hr' : RV r' P2 P3 M (D K (.bool b)) M) : Ev (tChain r r' ta tb tc) Γ M (D K (.bool (a && b))) M := fun E F σ H x c Q k =>
  ha E F σ H x c _ fun v F1 H1 e1 g1 p1 => hb E F1 σ H1 g1 (c.mono e1) _ fun w F2 H2 e2 g2 p2 => hr E F2 H2 v w g2 (P1.mono e2 p1) p2 _ fun z F3 H3 e3 g3 p3 => by
    cases dp_bl p3
    refine ⟨a, rfl, ?_⟩
    cases a with
    | true => exact hc rfl E F3 σ H3 g3 (c.mono ((e1.trans e2).trans e3)) _ fun y F4 H4 e4 g4 p4 => hr' E F4 H4 w y g4 (P2.mono (e3.trans e4) p2) p4 Q fun y F5 H5 e5 g5 p5 => k y F5 H5 ((((e1.trans e2).trans e3).trans e4).trans e5) g5 p5
    | false => exact k _ F3 H3 ((e1.trans e2).trans e3) g3 (.bl false)
theorem ev_if {b : Bool} (h : EvT t Γ M (· = b) M1) (h1 : b = true → Ev ta Γ M1 P M2) (h2 : b = false → Ev tb Γ M1 P M2) : Ev (tIf t ta tb) Γ M P M2 := fun E F σ H x c Q k => h E F σ H x c _ fun z F1 H1 e1 g1 hz => by
  subst hz
  cases z with
  | true => exact h1 rfl E F1 σ H1 g1 (c.mono e1) _ fun v F2 H2 e2 g2 p => k v F2 H2 (e1.trans e2) g2 p
  | false => exact h2 rfl E F1 σ H1 g1 (c.mono e1) _ fun v F2 H2 e2 g2 p => k v F2 H2 (e1.trans e2) g2 p
/-! ### statements -/
theorem go_seq (h : Nx E Γ M (tu { D1 with nx := tw D1 })) : Nx E Γ M (tSeq tu tw D1) := h
theorem go_asg {i : Nat} (h : Ev te Γ M P M1) (k : Nx E (Γ.set i (some P)) M1 D1.nx) : Nx E Γ M (tAsg te (gName i) D1) := fun σ H ⟨F, a, b⟩ =>
  h E F σ H a b _ fun v F' H' e g p => k _ _ ⟨F', g, (b.mono e).set i p⟩
theorem go_asgN {i : Nat} (h : EvN te Γ M O M1) (k : ∀ q, E.H q = none → Nx E (Γ.set i (some (Own q))) ((q, O) :: M1) D1.nx) : Nx E Γ M (tAsg te (gName i) D1) := fun σ H ⟨F, a, b⟩ =>
  h E F σ H a b _ fun q F' H' f e g => k q f _ _ ⟨F', g, (b.mono e).set i (P := Own q) rfl⟩
theorem go_drop (h : Ev te Γ M P M1) (k : Nx E Γ M1 D1.nx) : Nx E Γ M (tDrop te D1) := fun σ H ⟨F, a, b⟩ => h E F σ H a b _ fun v F' H' e g p => k _ _ ⟨F', g, b.mono e⟩
theorem go_if {B : Bool → Prop} (h : EvT t Γ M B M1) (h1 : B true → Nx E Γ M1 (tu D1)) (h2 : B false → Nx E Γ M1 (tw D1)) : Nx E Γ M (tIfS t tu tw D1) := fun σ H ⟨F, a, b⟩ => h E F σ H a b _ fun z F' H' e g hz => by
  cases z with
  | true => exact h1 hz σ H' ⟨F', g, b.mono e⟩
  | false => exact h2 hz σ H' ⟨F', g, b.mono e⟩
theorem go_ret {E0 : Ent} (l : Le E E0) (h : Ev te Γ M P M1) (k : Rt E0 M1 P D1.rt) : Nx E Γ M (tRet te D1) := fun σ H ⟨F, a, b⟩ => h E F σ H a b _ fun v F' H' e g p => k v F' H' (l.to _ _ _ g) p
theorem go_next (k : Nx E Γ M D1.nx) : Nx E Γ M (tNext D1) := k
theorem Rt.drop {f : VK} (s : List.Sublist M M') (h : Rt E M P f) : Rt E M' P f := fun v F H a p => h v F H (a.drop s) p
theorem Rt.weak {f : VK} (l : P.le P') (h : Rt E M P' f) : Rt E M P f := fun v F H a p => h v F H a (l _ _ p)
/-- xs.append(e) -/
theorem go_app {ps : List MP} (ho : Ev ta Γ M (Own q) M) (h : Ev te Γ M P M1) (e0 : M[j]? = some (q, ML ps)) (e : M1[j]? = some (q, ML ps)) (hz : ps.length < 100000) (k : Nx E Γ (M1.set j (q, ML (ps ++ [P]))) D1.nx) :
    Nx E Γ M (tDrop (tBM K "list" rAppend ta (tCons te tNil)) D1) := fun σ H ⟨F, a, b⟩ => ho E F σ H a b _ fun v F1 H1 e1 g1 p1 => by
  have p1 : v = .ref q := p1
  subst p1
  obtain ⟨_, o, ho1, ws0, rfl, _⟩ := g1.at e0
  refine ⟨.inl ⟨rfl, ws0, SqL.of ho1⟩, ?_⟩
  refine h E F1 σ H1 g1 (b.mono e1) _ fun w F2 H2 e2 g2 p2 => ?_
  obtain ⟨_, o, ho2, ws, rfl, s⟩ := g2.at e
  refine ⟨q, ws, w, rfl, rfl, ho2, sz_lt (by rw [paired_len s]; exact hz), ?_⟩
  exact k _ _ ⟨F2, g2.mut e ⟨_, rfl, paired_app s (.cons p2 .nil)⟩, b.mono (e1.trans e2)⟩
/-- xs[i] = e -/
theorem go_setL {ps : List MP} {i : Int} (h : Ev te Γ M P M1) (ho : Ev ta Γ M1 (Own q) M1) (hi : Ev tb Γ M1 (D K (.int i)) M2) (e : M2[j]? = some (q, ML ps)) (h0 : 0 ≤ i) (h1 : i.toNat < ps.length) (k : Nx E Γ (M2.set j (q, ML (ps.set i.toNat P))) D1.nx) :
    Nx E Γ M (tAsg te (gSub ta tb rSetL) D1) := fun σ H ⟨F, a, b⟩ => h E F σ H a b _ fun w F0 H0 e0 g0 p0 => ho E F0 σ H0 g0 (b.mono e0) _ fun v F1 H1 e1 g1 p1 => by
  have p1 : v = .ref q := p1
  subst p1
  refine hi E F1 σ H1 g1 (b.mono (e0.trans e1)) _ fun x F2 H2 e2 g2 p2 => ?_
  cases dp_int p2
  obtain ⟨_, o, ho2, ws, rfl, s⟩ := g2.at e
  obtain ⟨n, rfl⟩ := Int.eq_ofNat_of_zero_le h0
  have hn : n < ws.length := by rw [paired_len s]; exact h1
  refine ⟨q, ws, n, n, rfl, rfl, ho2, Evl.ixN_nat hn, ?_⟩
  exact k _ _ ⟨F2, g2.mut e ⟨_, rfl, paired_set (R := fun (v : V) (P : MP) => P.p F2 v) (P.mono (e1.trans e2) p0) n s⟩, b.mono ((e0.trans e1).trans e2)⟩
/-- xs.reverse() -/
theorem go_rev {ps : List MP} (ho : Ev ta Γ M (Own q) M) (e : M[j]? = some (q, ML ps)) (k : Nx E Γ (M.set j (q, ML ps.reverse)) D1.nx) : Nx E Γ M (tDrop (tBM0 K "list" rReverse ta) D1) := fun σ H ⟨F, a, b⟩ => ho E F σ H a b _ fun v F1 H1 e1 g1 p1 => by
  have p1 : v = .ref q := p1
  subst p1
  obtain ⟨_, o, ho1, ws, rfl, s⟩ := g1.at e
  refine ⟨.inl ⟨rfl, ws, SqL.of ho1⟩, q, ws, rfl, rfl, ho1, ?_⟩
  have srev : ∀ {ws : List V} {ps : List MP}, Ps F1 ws ps → Ps F1 ws.reverse ps.reverse := by
    intro ws ps s
    induction s with
    | nil => exact .nil
    | cons a t ih => rw [List.reverse_cons, List.reverse_cons]; exact paired_app ih (.cons a .nil)
  exact k _ _ ⟨F1, g1.mut e ⟨_, rfl, srev s⟩, b.mono e1⟩
/-- name += e -/
theorem go_aug {i : Nat} {f : Int → Int → Int} {x y : Int} (hx : Γ[i]? = some (some (D K (.int x)))) (h : Ev te Γ M (D K (.int y)) M1) (k : Nx E (Γ.set i (some (D K (.int (f x y))))) M1 D1.nx) : Nx E Γ M (tAug i te (ipI f) D1) := fun σ H ⟨F, a, b⟩ => by
  obtain ⟨v, hv, p⟩ := b.get hx
  cases dp_int p
  refine ⟨_, hv, h E F σ H a b _ fun w F1 H1 e1 g1 p1 => ?_⟩
  cases dp_int p1
  exact ⟨x, y, rfl, rfl, k _ _ ⟨F1, g1, (b.mono e1).set i (P := D K (.int (f x y))) (.int _)⟩⟩
/-! ### loops -/
def JA (E : Ent) (J : Gm → Ms → Prop) (σ : St) (H : Hp) : Prop := ∃ Γ M, J Γ M ∧ At E Γ M σ H
theorem JA.of {J : Gm → Ms → Prop} (h : J Γ M) : Nx E Γ M (JA E J) := fun σ H a => ⟨Γ, M, h, a⟩
theorem go_forL {ps : List MP} {i : Nat} (h : Ev tl Γ M (PLi K ps) M1) (J : Nat → Gm → Ms → Prop) (h0 : J 0 Γ M1)
    (hs : ∀ E', Le E' E → ∀ n P, ps[n]? = some P → ∀ Γ' M', J n Γ' M' → Nx E' (Γ'.set i (some P)) M' (tu { D1 with nx := JA E' (J (n + 1)), ct := JA E' (J (n + 1)), bk := D1.nx }))
    (hd : ∀ Γ' M', J ps.length Γ' M' → Nx E Γ' M' D1.nx) : Nx E Γ M (tFor (iList K tl) (gName i) tu D1) := fun σ H ⟨F, a, b⟩ => h E F σ H a b _ fun v F1 H1 e1 g1 ⟨p, vs, hp, s, q⟩ => by
  refine ⟨p, hp, ⟨vs, Evl.ex_l g1.ex s⟩, for_list (xs := vs) (fun n σ H => JA ⟨F1, H1, keys M1⟩ (J n) σ H) ⟨Γ, M1, h0, F1, g1.enter, b.mono e1⟩ (fun n σ2 H2 _ ⟨Γ', M', _, F2, g2, _⟩ => Evl.ex_l (g2.gr.ex.trans g2.ex) s)
    (fun n x σ2 H2 hx ⟨Γ', M', hJ, F2, g2, b2⟩ => ?_) (fun σ2 H2 hJ => ?_)⟩
  · obtain ⟨P, hP, hx2⟩ := paired_get' q hx
    exact hs ⟨F1, H1, keys M1⟩ g1.le n P hP Γ' M' hJ _ _ ⟨F2, g2, b2.set i (P.mono g2.gr.ex hx2)⟩
  · rw [paired_len q] at hJ
    obtain ⟨Γ', M', hJ, at2⟩ := hJ
    exact hd Γ' M' hJ _ _ (at2.le g1.le)
theorem go_forT {ps : List MP} {i : Nat} (h : Ev tl Γ M (PTu K ps) M1) (J : Nat → Gm → Ms → Prop) (h0 : J 0 Γ M1)
    (hs : ∀ E', Le E' E → ∀ n P, ps[n]? = some P → ∀ Γ' M', J n Γ' M' → Nx E' (Γ'.set i (some P)) M' (tu { D1 with nx := JA E' (J (n + 1)), ct := JA E' (J (n + 1)), bk := D1.nx }))
    (hd : ∀ Γ' M', J ps.length Γ' M' → Nx E Γ' M' D1.nx) : Nx E Γ M (tFor (iTup K tl) (gName i) tu D1) := fun σ H ⟨F, a, b⟩ => h E F σ H a b _ fun v F1 H1 e1 g1 ⟨p, vs, hp, s, q⟩ => by
  refine ⟨p, hp, ⟨vs, Evl.ex_t g1.ex s⟩, for_tup (xs := vs) (fun n σ H => JA ⟨F1, H1, keys M1⟩ (J n) σ H) ⟨Γ, M1, h0, F1, g1.enter, b.mono e1⟩ (fun n σ2 H2 _ ⟨Γ', M', _, F2, g2, _⟩ => Evl.ex_t (g2.gr.ex.trans g2.ex) s)
    (fun n x σ2 H2 hx ⟨Γ', M', hJ, F2, g2, b2⟩ => ?_) (fun σ2 H2 hJ => ?_)⟩
  · obtain ⟨P, hP, hx2⟩ := paired_get' q hx
    exact hs ⟨F1, H1, keys M1⟩ g1.le n P hP Γ' M' hJ _ _ ⟨F2, g2, b2.set i (P.mono g2.gr.ex hx2)⟩
  · rw [paired_len q] at hJ
    obtain ⟨Γ', M', hJ, at2⟩ := hJ
    exact hd Γ' M' hJ _ _ (at2.le g1.le)
theorem go_forR {tr : TA} {z : Int} {i : Nat} (h : EvA tr Γ M [D K (.int z)] M1) (hz : z ≤ 1000000) (hz2 : -1000000 ≤ z) (J : Nat → Gm → Ms → Prop) (h0 : J 0 Γ M1)
    (hs : ∀ n : Nat, (n : Int) < z → ∀ Γ' M', J n Γ' M' → Nx E (Γ'.set i (some (D K (.int n)))) M' (tu { D1 with nx := JA E (J (n + 1)), ct := JA E (J (n + 1)), bk := D1.nx }))
    (hd : ∀ Γ' M', J z.toNat Γ' M' → Nx E Γ' M' D1.nx) : Nx E Γ M (tFor (iRng1 tr) (gName i) tu D1) := fun σ H ⟨F, a, b⟩ => h E F σ H a b _ fun vs F1 H1 e1 g1 p => by
  obtain ⟨v, rfl, hv⟩ := ps1 p
  cases dp_int hv
  refine ⟨z, rfl, by omega, by omega, for_range (lo := 0) (n := z.toNat) (fun n σ H => JA E (J n) σ H) ⟨Γ, M1, h0, F1, g1, b.mono e1⟩ (fun n σ2 H2 hn ⟨Γ', M', hJ, F2, g2, b2⟩ => ?_) (fun σ2 H2 ⟨Γ', M', hJ, at2⟩ => hd Γ' M' hJ _ _ at2)⟩
  refine hs n (by omega) Γ' M' hJ _ _ ⟨F2, g2, b2.set i ?_⟩
  have e0 : (0 : Int) + (n : Int) = (n : Int) := Int.zero_add _
  rw [e0]
  exact .int _
theorem go_forR2 {tr : TA} {lo z : Int} {i : Nat} (h : EvA tr Γ M [D K (.int lo), D K (.int z)] M1) (hz : z ≤ 1000000 ∧ -1000000 ≤ z ∧ lo ≤ 1000000 ∧ -1000000 ≤ lo) (J : Nat → Gm → Ms → Prop) (h0 : J 0 Γ M1)
    (hs : ∀ n : Nat, lo + (n : Int) < z → ∀ Γ' M', J n Γ' M' → Nx E (Γ'.set i (some (D K (.int (lo + n))))) M' (tu { D1 with nx := JA E (J (n + 1)), ct := JA E (J (n + 1)), bk := D1.nx }))
    (hd : ∀ Γ' M', J (z - lo).toNat Γ' M' → Nx E Γ' M' D1.nx) : Nx E Γ M (tFor (iRng2 tr) (gName i) tu D1) := fun σ H ⟨F, a, b⟩ => h E F σ H a b _ fun vs F1 H1 e1 g1 p => by
  obtain ⟨v, w, rfl, hv, hw⟩ := ps2 p
  cases dp_int hv; cases dp_int hw
  refine ⟨lo, z, rfl, ⟨by omega, by omega, by omega, by omega⟩, for_range (lo := lo) (n := (z - lo).toNat) (fun n σ H => JA E (J n) σ H) ⟨Γ, M1, h0, F1, g1, b.mono e1⟩ (fun n σ2 H2 hn ⟨Γ', M', hJ, F2, g2, b2⟩ => ?_) (fun σ2 H2 ⟨Γ', M', hJ, at2⟩ => hd Γ' M' hJ _ _ at2)⟩
  exact hs n (by omega) Γ' M' hJ _ _ ⟨F2, g2, b2.set i (P := D K (.int (lo + n))) (.int _)⟩
theorem go_while (J : Nat → Gm → Ms → Prop) (m0 : Nat) (h0 : J m0 Γ M)
    (hs : ∀ m Γ' M', J m Γ' M' → ∃ B M1, EvT t Γ' M' B M1 ∧ (B true → Nx E Γ' M1 (tu { D1 with nx := JA E (fun Γ M => ∃ m', m' < m ∧ J m' Γ M), ct := JA E (fun Γ M => ∃ m', m' < m ∧ J m' Γ M), bk := D1.nx })) ∧ (B false → Nx E Γ' M1 D1.nx)) : Nx E Γ M (tWhile t tu D1) := fun σ H a =>
  ⟨fun m σ H => JA E (J m) σ H, ⟨m0, Γ, M, h0, a⟩, fun m σ2 H2 ⟨Γ', M', hJ, F2, g2, b2⟩ => by
    obtain ⟨B, M1, hb, h1, h2⟩ := hs m Γ' M' hJ
    refine hb E F2 σ2 H2 g2 b2 _ fun z F3 H3 e3 g3 hz => ?_
    cases z with
    | true => exact ⟨JA E (fun Γ M => ∃ m', m' < m ∧ J m' Γ M), fun σ4 H4 ⟨Γ4, M4, ⟨m', hm, hJ4⟩, a4⟩ => ⟨m', hm, Γ4, M4, hJ4, a4⟩, h1 hz σ2 H3 ⟨F3, g3, b2.mono e3⟩⟩
    | false => exact h2 hz σ2 H3 ⟨F3, g3, b2.mono e3⟩⟩
/-! ### comprehensions -/
theorem wipe_one {σ : St} {i : Nat} {x : V} : wipe ((wipe σ [i]).set i (some x)) [i] = wipe σ [i] := by
  show ((σ.set i none).set i (some x)).set i none = σ.set i none
  rw [List.set_set, List.set_set]
theorem env_wipe {i : Nat} (h : EnvOk F σ Γ) : EnvOk F (wipe σ [i]) (Γ.set i none) := h.forget i
/-- one turn of a comprehension -/
theorem lc_turn {Γ2 : Gm} {σ2 : St} {D2 : Addr} {ps : List MP} {b : Bool} {F1 H1 : Hp} (g1 : Pt E F1 ((D2, ML ps) :: M) H1) (bo : EnvOk F1 σ2 Γ2) (ht : EvT t Γ2 M (· = b) M) (he : b = true → Ev te Γ2 M P M) (hz : ps.length < 100000) (Nxt : Hp → Prop)
    (hN : ∀ F2 H2, Ex F1 F2 → Pt E F2 ((D2, ML (if b = true then ps ++ [P] else ps)) :: M) H2 → Nxt H2) : t σ2 H1 fun c H3 => if c = true then te σ2 H3 fun y H4 => ∃ acc, H4 D2 = some (.lst acc) ∧ acc.length < sizeLine ∧ Nxt (upd H4 D2 (.lst (acc ++ [y]))) else Nxt H3 := by
  have gM : Pt ⟨F1, H1, keys M⟩ F1 M H1 := Pt.start (g1.drop (List.sublist_cons_self _ _)).wd
  have nk : D2 ∉ keys M := (List.nodup_cons.mp (show (D2 :: keys M).Nodup from g1.wd.nd)).1
  obtain ⟨fD, o, hD, ws, rfl, s⟩ := g1.at (j := 0) rfl
  -- a point of M alone, the list beside it
  have up : ∀ {F' H'}, Pt ⟨F1, H1, keys M⟩ F' M H' → Pt E F' ((D2, ML ps) :: M) H' := fun {F' H'} g => by
    have hh : F' D2 = none := g.gr.off D2 fD (show H1 D2 ≠ none by rw [hD]; exact fun z => by cases z)
    have hd : H' D2 = some (.lst ws) := g.gr.keep D2 _ nk hD
    have big : Pt ⟨F1, H1, keys ((D2, ML ps) :: M)⟩ F' ((D2, ML ps) :: M) H' := by
      refine ⟨⟨g.gr.ex, fun a u h1 h2 => g.gr.keep a u (fun z => h1 (List.mem_cons_of_mem _ z)) h2, g.gr.off, g.gr.stay⟩, ⟨g.wd.ex, List.nodup_cons.mpr ⟨nk, g.wd.nd⟩, fun r hr => ?_⟩, fun r hr => ?_⟩
      · rcases List.mem_cons.mp hr with e | hm
        · subst e; exact ⟨hh, _, hd, ws, rfl, s.mono g.gr.ex⟩
        · exact g.wd.own r hm
      · rcases List.mem_cons.mp hr with e | hm
        · subst e; exact .inl List.mem_cons_self
        · rcases g.fr r hm with z | z
          · exact .inl (List.mem_cons_of_mem _ z)
          · exact .inr z
    exact g1.back big
  refine ht _ F1 σ2 H1 gM bo _ fun c F3 H3 e3 g3 hc => ?_
  subst hc
  cases c with
  | true =>
    refine he rfl _ F3 σ2 H3 g3 (bo.mono e3) _ fun y F4 H4 e4 g4 p4 => ?_
    have g5 := up g4
    obtain ⟨_, o5, h5, ws5, rfl, s5⟩ := g5.at (j := 0) rfl
    refine ⟨ws5, h5, sz_lt (by rw [paired_len s5]; exact hz), ?_⟩
    exact hN F4 _ (e3.trans e4) (g5.mut (j := 0) (O' := ML (ps ++ [P])) rfl ⟨_, rfl, paired_app s5 (.cons p4 .nil)⟩)
  | false => exact hN F3 _ e3 (up g3)
theorem take_filter {α : Type} (xs : List α) (f : α → Bool) (n : Nat) (x : α) (h : xs[n]? = some x) : (xs.take (n + 1)).filter f = (xs.take n).filter f ++ (if f x = true then [x] else []) := by
  rw [List.take_add_one, h, List.filter_append]
  congr 1
  cases hf : f x <;> simp [hf]
theorem evn_lcL {α : Type} {xs : List α} {R G : α → MP} {i : Nat} (f : α → Bool) (h : Ev tl Γ M (PLi K (xs.map R)) M1) (hz : xs.length ≤ 50000)
    (ht : ∀ x ∈ xs, EvT t ((Γ.set i none).set i (some (R x))) M1 (· = f x) M1) (he : ∀ x ∈ xs, f x = true → Ev te ((Γ.set i none).set i (some (R x))) M1 (G x) M1) :
    EvN (tLc (iList K tl) (gName i) t te [i]) Γ M (ML ((xs.filter f).map G)) M1 := fun E F σ H a b Q k => h E F σ H a b _ fun v F1 H1 e1 g1 ⟨p, vs, hp, s, q⟩ => by
  refine ⟨p, hp, ⟨vs, Evl.ex_l g1.ex s⟩, fun D2 hD => ?_⟩
  have gn : Pt ⟨F1, H1, keys M1⟩ F1 ((D2, ML []) :: M1) (upd H1 D2 (.lst [])) := g1.enter.new hD ⟨[], rfl, .nil⟩
  refine lc_list (xs := vs) (fun n H' => ∃ F', Pt ⟨F1, H1, keys M1⟩ F' ((D2, ML (((xs.take n).filter f).map G)) :: M1) H') ⟨F1, gn⟩ (fun n H2 _ ⟨F2, g2⟩ => Evl.ex_l (g2.gr.ex.trans g2.ex) s) (fun n x H2 hx ⟨F2, g2⟩ => ⟨wipe_one, ?_⟩) (fun H2 ⟨F2, g2⟩ => ?_)
  · obtain ⟨P, hP, hx2⟩ := paired_get' q hx
    rw [List.getElem?_map] at hP
    cases hy : xs[n]? with
    | none => rw [hy] at hP; cases hP
    | some y =>
      rw [hy] at hP
      have hP : R y = P := Option.some.inj hP
      subst hP
      have hm := List.mem_of_getElem? hy
      refine lc_turn g2 ((env_wipe (b.mono (e1.trans g2.gr.ex))).set i ((R y).mono g2.gr.ex hx2)) (ht y hm) (he y hm) ?_ _ fun F3 H3 e3 g3 => ⟨F3, ?_⟩
      · rw [List.length_map]
        exact Nat.lt_of_le_of_lt (Nat.le_trans (List.length_filter_le _ _) (by rw [List.length_take]; omega)) (by omega : xs.length < 100000)
      · rw [take_filter xs f n y hy, List.map_append]
        cases hf : f y
        · rw [hf] at g3; simpa using g3
        · rw [hf] at g3; simpa using g3
  · rw [paired_len q, List.length_map, List.take_length] at g2
    exact k D2 F2 H2 (g1.fresh hD) (e1.trans g2.gr.ex) (g1.back g2)
theorem evn_lcT {α : Type} {xs : List α} {R G : α → MP} {i : Nat} (f : α → Bool) (h : Ev tl Γ M (PTu K (xs.map R)) M1) (hz : xs.length ≤ 50000)
    (ht : ∀ x ∈ xs, EvT t ((Γ.set i none).set i (some (R x))) M1 (· = f x) M1) (he : ∀ x ∈ xs, f x = true → Ev te ((Γ.set i none).set i (some (R x))) M1 (G x) M1) :
    EvN (tLc (iTup K tl) (gName i) t te [i]) Γ M (ML ((xs.filter f).map G)) M1 := fun E F σ H a b Q k => h E F σ H a b _ fun v F1 H1 e1 g1 ⟨p, vs, hp, s, q⟩ => by
  refine ⟨p, hp, ⟨vs, Evl.ex_t g1.ex s⟩, fun D2 hD => ?_⟩
  have gn : Pt ⟨F1, H1, keys M1⟩ F1 ((D2, ML []) :: M1) (upd H1 D2 (.lst [])) := g1.enter.new hD ⟨[], rfl, .nil⟩
  refine lc_tup (xs := vs) (fun n H' => ∃ F', Pt ⟨F1, H1, keys M1⟩ F' ((D2, ML (((xs.take n).filter f).map G)) :: M1) H') ⟨F1, gn⟩ (fun n H2 _ ⟨F2, g2⟩ => Evl.ex_t (g2.gr.ex.trans g2.ex) s) (fun n x H2 hx ⟨F2, g2⟩ => ⟨wipe_one, ?_⟩) (fun H2 ⟨F2, g2⟩ => ?_)
  · obtain ⟨P, hP, hx2⟩ := paired_get' q hx
    rw [List.getElem?_map] at hP
    cases hy : xs[n]? with
    | none => rw [hy] at hP; cases hP
    | some y =>
      rw [hy] at hP
      have hP : R y = P := Option.some.inj hP
      subst hP
      have hm := List.mem_of_getElem? hy
      refine lc_turn g2 ((env_wipe (b.mono (e1.trans g2.gr.ex))).set i ((R y).mono g2.gr.ex hx2)) (ht y hm) (he y hm) ?_ _ fun F3 H3 e3 g3 => ⟨F3, ?_⟩
      · rw [List.length_map]
        exact Nat.lt_of_le_of_lt (Nat.le_trans (List.length_filter_le _ _) (by rw [List.length_take]; omega)) (by omega : xs.length < 100000)
      · rw [take_filter xs f n y hy, List.map_append]
        cases hf : f y
        · rw [hf] at g3; simpa using g3
        · rw [hf] at g3; simpa using g3
  · rw [paired_len q, List.length_map, List.take_length] at g2
    exact k D2 F2 H2 (g1.fresh hD) (e1.trans g2.gr.ex) (g1.back g2)
theorem evn_lcR {tr : TA} {z : Int} {i : Nat} {G : Nat → MP} (f : Nat → Bool) (h : EvA tr Γ M [D K (.int z)] M1) (hz : z ≤ 50000 ∧ -50000 ≤ z)
    (ht : ∀ x : Nat, (x : Int) < z → EvT t ((Γ.set i none).set i (some (D K (.int x)))) M1 (· = f x) M1) (he : ∀ x : Nat, (x : Int) < z → f x = true → Ev te ((Γ.set i none).set i (some (D K (.int x)))) M1 (G x) M1) :
    EvN (tLc (iRng1 tr) (gName i) t te [i]) Γ M (ML (((List.range z.toNat).filter f).map G)) M1 := fun E F σ H a b Q k => h E F σ H a b _ fun vs F1 H1 e1 g1 p => by
  obtain ⟨v, rfl, hv⟩ := ps1 p
  cases dp_int hv
  refine ⟨z, rfl, by omega, by omega, fun D2 hD => ?_⟩
  have gn : Pt ⟨F1, H1, keys M1⟩ F1 ((D2, ML []) :: M1) (upd H1 D2 (.lst [])) := g1.enter.new hD ⟨[], rfl, .nil⟩
  refine lc_range (lo := 0) (n := z.toNat) (fun n H' => ∃ F', Pt ⟨F1, H1, keys M1⟩ F' ((D2, ML (((List.range n).filter f).map G)) :: M1) H') ⟨F1, gn⟩ (fun n H2 hn ⟨F2, g2⟩ => ⟨wipe_one, ?_⟩) (fun H2 ⟨F2, g2⟩ => ?_)
  · have e0 : (0 : Int) + (n : Int) = (n : Int) := Int.zero_add _
    rw [e0]
    have hn2 : (n : Int) < z := by omega
    refine lc_turn g2 ((env_wipe (b.mono (e1.trans g2.gr.ex))).set i (P := D K (.int n)) (.int _)) (ht n hn2) (he n hn2) ?_ _ fun F3 H3 e3 g3 => ⟨F3, ?_⟩
    · rw [List.length_map]
      exact Nat.lt_of_le_of_lt (List.length_filter_le _ _) (by rw [List.length_range]; omega)
    · rw [List.range_succ, List.filter_append, List.map_append]
      cases hf : f n
      · rw [hf] at g3; simpa [hf] using g3
      · rw [hf] at g3; simpa [hf] using g3
  · exact k D2 F2 H2 (g1.fresh hD) (e1.trans g2.gr.ex) (g1.back g2)
theorem et_yes : EvT tYes Γ M (· = true) M := fun E F σ H a b Q k => k true F H (Evl.Ex.refl _) a rfl
end
end Hq
/-! set(x) of a list of ints, told with the order of its table -/
namespace Hq
open PySem PySem.Spec PyProof.Rows L2
/-- the set as it is made -/
abbrev bareSet (w : World) : Obj := { cls := .type "set", dict := none, data := .set #[] 0 (.fresh 0 0 (!w.params.followText "set-order")) }
section
variable {P : Program} {w : World} {A : Around} {E : Value → Shared → Prop} {s : Shared}
set_option maxHeartbeats 3200000 in
theorem setL_call {l : Addr} {its : Array Value} (ns : List Int) {Q : Value → Shared → Prop} (calm : A.handled = none) (hl : s.heap.IsList l its) (hn : IntsAre its.toList ns) (few : ns.length + 1 < scanBound)
    (fin : ∀ (g : Heap) (tk c : Nat), SetR w g s.heap.objs.size (fun j => decide (j ∈ ns)) c → c ≤ ns.length → (∀ b o, s.heap.get? b = some o → g.get? b = some o) → Q (.ref s.heap.objs.size) { s with heap := g, toks := tk }) :
    wpAny (model P w) A (call (.type "set") [.ref l]) Q E s := by
  have same : its.size = ns.length := by simpa using IntsAre.length hn
  obtain ⟨c0, r0, walk0⟩ := F.called_set.mro
  have fact1 := F.called_set.made; have fact2 := F.called_set.sub
  apply wpAny_call; apply codeAny_of_tree
  show wpAny _ _ (callAny (.type "set") ⟨_, _⟩) _ _ _
  apply wpAny_pure; refine ⟨Code.quiet_builtin _ (by decide +kernel), ?_⟩; apply codeAny_builtin F.entry_type_call
  rw [show _ = _ from Around.under_plain (weight_type_call_type "set" [Value.ref l] []) rfl]
  have fact3 := F.called_set.notType; have fact4 := F.called_set.canCreate
  have fact5 := F.typeCall_set_1 (Value.ref l)
  repeat any_goals (first | assumption | wp_step)
  apply codeAny_mono (code_set_led1 (P := P) (w := w) (s := s) (.ref l) (E := E) (Q₁ := fun v z => v = .ref s.heap.objs.size ∧ z = { s with heap := s.heap.push (bareSet w) }) ⟨rfl, rfl⟩)
  intro res z hz
  match res, hz with
  | .error _, hz => exact hz
  | .ok fl, hz => ?_
  cases fl with
  | ret v =>
    obtain ⟨rfl, rfl⟩ := hz
    have at0 : (s.heap.push (bareSet w)).get? s.heap.objs.size = some (bareSet w) := Heap.get?_push_size _ rfl
    have ty0 : Shared.TypeIs { s with heap := s.heap.push (bareSet w) } (.ref s.heap.objs.size) "set" := ⟨bareSet w, at0, rfl⟩
    have fact6 := F.called_set.init.lookup
    have fact7 := F.called_set.init.bind (Value.ref s.heap.objs.size)
    repeat any_goals (first | assumption | wp_step)
    apply codeAny_mono (codeAny_call_builtin (R := wants (fun v z => v = Value.none ∧ ∃ g tk c, z = { s with heap := g, toks := tk } ∧ SetR w g s.heap.objs.size (fun j => decide (j ∈ ns)) c ∧ c ≤ ns.length ∧
      ∀ b o, s.heap.get? b = some o → g.get? b = some o) E) F.called_set.init.plain F.entry_set_init (check_set_init_1 ty0 ?first))
    case first =>
      obtain ⟨ob, hob, hcls, cnt, hdat⟩ := hl
      obtain ⟨k1, k2, k3, k4⟩ := ob
      dsimp only at hcls hdat; subst hcls hdat
      have at1 : (s.heap.push (bareSet w)).get? l = some ⟨.type "list", k2, .seq its cnt, k4⟩ := Heap.get?_push_of_some _ hob
      have n1 := F.sub_list_set; have n2 := F.sub_list_frozenset
      have n3 : (Value.type "list" == Value.type "dict") = false := by decide
      have l1 : (s.heap.push (bareSet w)).IsList l its := ⟨_, at1, rfl, cnt, rfl⟩
      unfold Builtin.«set.__init__» Builtin.Frozenset.updateFrom noKeywords
      generalize iter_is : pyIter = walkers
      wp_walk
      subst iter_is
      apply wpAny_pyIter_list l1
      apply wpAny_bind; apply wpAny_runValue
      have lt0 : l < s.heap.objs.size := Heap.lt_size hob
      have sz1 : (s.heap.push (bareSet w)).objs.size = s.heap.objs.size + 1 := Heap.size_push ..
      have off1 : l ≠ (s.heap.push (bareSet w)).objs.size := by rw [sz1]; exact Nat.ne_of_lt (Nat.lt_succ_of_lt lt0)
      have off2 : s.heap.objs.size ∉ [(s.heap.push (bareSet w)).objs.size, l] := by
        rw [sz1]; intro m
        rcases List.mem_cons.mp m with e | m
        · exact Nat.ne_of_lt (Nat.lt_succ_self _) e
        · exact Nat.ne_of_gt lt0 (List.mem_singleton.mp m)
      have vals : ∀ (i : Nat) (v : Value), its[i]? = some v → ∃ k t, ns[i]? = some k ∧ v = .int k t := by
        intro i v hv
        obtain ⟨h1, h2⟩ := Array.getElem?_eq_some_iff.mp hv
        have h3 : i < ns.length := same ▸ h1
        obtain ⟨t, e⟩ := IntsAre.int_at hn i v (by simpa using hv)
        refine ⟨ns[i], t, List.getElem?_eq_getElem h3, e.trans ?_⟩
        rw [List.getD_eq_getElem?_getD, List.getElem?_eq_getElem h3]; rfl
      apply set_update_ints ((Walks.list (show A.in1.in1.in1.handled = none by simp [calm]) _ l off1 its).toS) s.heap.objs.size off2 ns same few vals (its.size - 0) 0 _ (by omega) (Nat.zero_le _)
        ⟨⟨_, Heap.get?_push_size _ rfl, rfl, rfl⟩, l1.push _⟩
      · exact ⟨0, Nat.le_refl 0, setR_new_at (Heap.get?_push_of_some _ at0)⟩
      · rintro ⟨g, g2, g3, g4, g5⟩ c moved hc hS
        obtain rfl : g2 = s.gens := moved.gens
        obtain rfl : g3 = s.drawn := moved.drawn
        obtain rfl : g5 = s.os := moved.os
        show wpAny _ _ (pure _) _ _ _
        apply wpAny_pure
        show wpAny _ _ (ret Value.none) _ _ _
        refine wpAny_pure ⟨rfl, g, g4, c, rfl, hS, same ▸ hc, fun b o e => ?_⟩
        have lt1 : b < s.heap.objs.size := Heap.lt_size e
        refine moved.heap b o (fun m => ?_) (Heap.get?_push_of_some _ (Heap.get?_push_of_some _ e))
        rcases List.mem_cons.mp m with e | m
        · exact Nat.ne_of_lt lt1 e
        · rw [sz1] at m; exact Nat.ne_of_lt (Nat.lt_succ_of_lt lt1) (List.mem_singleton.mp m)
    · intro res z hz
      match res, hz with
      | .error _, hz => exact hz
      | .ok fl, hz => ?_
      cases fl with
      | ret v =>
        obtain ⟨rfl, g, tk, c, rfl, hS, hc, stood⟩ := hz
        repeat any_goals (first | assumption | wp_step)
        exact fin g tk c hS hc stood
      | _ => exact hz.elim
  | _ => exact hz.elim
end
end Hq
namespace Hq
open PySem L2
/-! ### promises -/
def Prom (ps : List MP) (M : Ms) (P : MP) (M' : Ms) (vs : List V) (H : Hp) (Q : VK) : Prop := ∃ F, Wd F M H ∧ Ps F vs ps ∧ Rt ⟨F, H, keys M⟩ M' P Q
section
variable {K : PySem.W.Frag} {E E' : Ent} {F F' H H' : Hp} {M M' Mc Mc' M1 M2 M3 : Ms} {Γ Γ' : Gm} {P P' P1 P2 : MP} {O O' : MO} {q : Addr} {σ : St} {o o' : HO} {j : Nat}
variable {te ta tb tc tl : TE} {t u : TT} {r : R2} {D1 : Ends} {tu tw : TS} {ps : List MP} {sp : Sp} {X : XK} {tr : TA} {C : Addr} {fps : List (Str × MP)}
theorem Pt.frame {ks : List Addr} (h : Pt E F M H) (g : Pt ⟨F, H, ks⟩ F' Mc H') (hk : ∀ a ∈ ks, a ∈ keys M) (hM : keys M' = keys M) (hr : ∀ r ∈ M', (r.1 ∉ ks ∧ r ∈ M) ∨ r ∈ Mc) : Pt E F' M' H' := by
  refine h.back ⟨⟨g.gr.ex, fun a u h1 h2 => g.gr.keep a u (fun z => h1 (hk a z)) h2, g.gr.off, g.gr.stay⟩, ⟨g.wd.ex, by rw [hM]; exact h.wd.nd, fun r hm => ?_⟩, fun r hm => .inl ?_⟩
  · rcases hr r hm with ⟨n, hm2⟩ | hm2
    · obtain ⟨a, u, hu, b⟩ := h.wd.own r hm2
      exact ⟨g.gr.off _ a (show H r.1 ≠ none by rw [hu]; exact fun z => by cases z), u, g.gr.keep _ _ n hu, r.2.mono g.gr.ex b⟩
    · exact g.wd.own r hm2
  · show r.1 ∈ keys M
    rw [← hM]
    exact List.mem_map_of_mem (f := (·.1)) hm
theorem set_same {α : Type} {l : List α} {j : Nat} {x : α} (e : l[j]? = some x) : l.set j x = l := by
  obtain ⟨h, e⟩ := List.getElem?_eq_some_iff.mp e
  rw [← e, List.set_getElem_self]
theorem rc_prom0 {dvs : List V} (hs : ∀ vs H Q, Prom ps [] P [] vs H Q → sp (vs ++ dvs) H Q X) : RC (fun vs H Q => sp (vs ++ dvs) H Q X) ps M P M := fun E F H vs a p Q k =>
  hs vs H Q ⟨F, ⟨a.ex, List.nodup_nil, fun r hr => by cases hr⟩, p, fun v F' H' g hp => k v F' H' g.gr.ex (a.frame g (fun _ z => by cases z) rfl fun r hr => .inl ⟨by simp [keys], hr⟩) hp⟩
theorem rc_prom1 {dvs : List V} (e : M[j]? = some (q, O)) (hs : ∀ vs H Q, Prom ps [(q, O)] P [(q, O')] vs H Q → sp (vs ++ dvs) H Q X) : RC (fun vs H Q => sp (vs ++ dvs) H Q X) ps M P (M.set j (q, O')) := fun E F H vs a p Q k => by
  have hm := List.mem_of_getElem? e
  refine hs vs H Q ⟨F, ⟨a.ex, by simp [keys], fun r hr => ?_⟩, p, fun v F' H' g hp => k v F' H' g.gr.ex (a.frame g (fun z hz => ?_) (keys_set e) fun r hr => ?_) hp⟩
  · rw [List.mem_singleton.mp hr]; exact a.wd.own _ hm
  · rw [List.mem_singleton.mp hz]; exact List.mem_map_of_mem (f := (·.1)) hm
  · rcases mem_set_ne a.wd.nd e r hr with z | ⟨z, n⟩
    · rw [z]; exact .inr List.mem_cons_self
    · exact .inl ⟨fun w => n (List.mem_singleton.mp w), z⟩
theorem rc_prom1s {dvs : List V} (e : M[j]? = some (q, O)) (hs : ∀ vs H Q, Prom ps [(q, O)] P [(q, O)] vs H Q → sp (vs ++ dvs) H Q X) : RC (fun vs H Q => sp (vs ++ dvs) H Q X) ps M P M := by
  have := rc_prom1 (O' := O) e hs
  rw [set_same e] at this
  exact this
/-- calls -/
theorem ev_call0 (h : EvA tr Γ M ps M1) (hs : ∀ vs H Q, Prom ps [] P [] vs H Q → sp (vs ++ []) H Q X) : Ev (tCall sp [] X tr) Γ M P M1 := ev_call h (rc_prom0 hs)
theorem ev_call1 (h : EvA tr Γ M ps M1) (e : M1[j]? = some (q, O)) (hs : ∀ vs H Q, Prom ps [(q, O)] P [(q, O)] vs H Q → sp (vs ++ []) H Q X) : Ev (tCall sp [] X tr) Γ M P M1 := ev_call h (rc_prom1s e hs)
/-- the beginning of a def -/
theorem go_start {N : List Str} {vs : List V} {f : St → Hp → Prop} (w : Wd F M H) (p : Ps F vs ps) (hΓ : Γ = ps.map some ++ List.replicate (N.length - ps.length) none) (h : Nx ⟨F, H, keys M⟩ Γ M f) : f (L2.start N vs) H := by
  refine h _ _ ⟨F, Pt.start w, ?_⟩
  subst hΓ
  unfold L2.start
  rw [paired_len p]
  have base : ∀ {vs : List V} {ps : List MP}, Ps F vs ps → EnvOk F (vs.map some) (ps.map some) := by
    intro vs ps p
    induction p with
    | nil => exact .nil
    | cons a t ih => exact .cons (fun Q hQ => by cases hQ; exact ⟨_, rfl, a⟩) ih
  refine paired_app (base p) ?_
  · generalize N.length - ps.length = n
    induction n with
    | zero => exact .nil
    | succ n ih => exact .cons (fun Q hQ => by cases hQ) ih
theorem nx_exM {α : Type} {R : α → MO} {f} (e : M[j]? = some (q, MX R)) (h : ∀ x, Nx E Γ (M.set j (q, R x)) f) : Nx E Γ M f := by
  rintro σ H ⟨F, a, b⟩
  obtain ⟨fq, u, hu, x, hx⟩ := a.at e
  refine h x σ H ⟨F, ?_, b⟩
  have g := a.mut (o' := u) (O' := R x) e hx
  have e2 : upd H q u = H := by
    funext z
    by_cases y : z = q
    · subst y; rw [upd_same, hu]
    · rw [upd_ne y]
  rw [e2] at g
  exact g
theorem nx_anM {φ : Prop} {R : MO} {f} (e : M[j]? = some (q, MA φ R)) (h : φ → Nx E Γ (M.set j (q, R)) f) : Nx E Γ M f := by
  rintro σ H ⟨F, a, b⟩
  obtain ⟨fq, u, hu, hx⟩ := a.at e
  exact h hx.1 σ H ⟨F, a.to (O := MA φ R) (O' := R) (fun _ _ z => z.2) e, b⟩
theorem Rt.to {f : VK} (h : Rt E M' P f) (e : M[j]? = some (q, O)) (l : ∀ F o, O.p F o → O'.p F o) (hM : M' = M.set j (q, O')) : Rt E M P f := fun v F H a p => h v F H (by rw [hM]; exact a.to l e) p
/-- xs.pop() -/
theorem ev_pop (ho : Ev ta Γ M (Own q) M) (e : M[j]? = some (q, ML ps)) (hp : ps[ps.length - 1]? = some P) : Ev (tBM0 K "list" rPop ta) Γ M P (M.set j (q, ML ps.dropLast)) := fun E F σ H a b Q k => ho E F σ H a b _ fun v F1 H1 e1 g1 p1 => by
  have p1 : v = .ref q := p1
  subst p1
  obtain ⟨_, o, ho1, ws, rfl, s⟩ := g1.at e
  obtain ⟨x, hx, px⟩ := paired_get s hp
  refine ⟨.inl ⟨rfl, ws, SqL.of ho1⟩, q, ws, x, rfl, rfl, ho1, by rw [paired_len s]; exact hx, ?_⟩
  have sd : ∀ {ws : List V} {ps : List MP}, Ps F1 ws ps → Ps F1 ws.dropLast ps.dropLast := by
    intro ws ps s
    induction s with
    | nil => exact .nil
    | cons a t ih =>
      cases t with
      | nil => exact .nil
      | cons a2 t2 => exact .cons a ih
  exact k x F1 _ e1 (g1.mut e ⟨_, rfl, sd s⟩) px
/-! ### instances -/
def PIns (C : Addr) (fps : List (Str × MP)) : MP := ⟨fun F v => ∃ a dx fs, v = .ref a ∧ F a = some (.ins C dx fs) ∧ ∀ f ∈ fps, ∃ x, fs.lookup f.1 = some x ∧ f.2.p F x,
  fun e ⟨a, dx, fs, h1, h2, h3⟩ => ⟨a, dx, fs, h1, e _ _ h2, fun f hf => let ⟨x, y, z⟩ := h3 f hf; ⟨x, y, f.2.mono e z⟩⟩⟩
def MIns (C : Addr) (n : Nat) (fps : List (Str × MP)) : MO := ⟨fun F o => ∃ dx fs, o = .ins C dx fs ∧ fs.length ≤ n ∧ ∀ f ∈ fps, ∃ x, fs.lookup f.1 = some x ∧ f.2.p F x,
  fun e ⟨dx, fs, h1, h2, h3⟩ => ⟨dx, fs, h1, h2, fun f hf => let ⟨x, y, z⟩ := h3 f hf; ⟨x, y, f.2.mono e z⟩⟩⟩
theorem fr_Ins {n : Nat} : (Fr (MIns C n fps)).le (PIns C fps) := fun F v ⟨q, o, a, b, dx, fs, e, h⟩ => by subst e; exact ⟨q, dx, fs, a, b, h.2⟩
theorem ev_fld {f : Str} (h : Ev ta Γ M (PIns C fps) M1) (hf : (f, P) ∈ fps) (hc : Cls K C) (hn : NoAttr K C f) : Ev (tFld K ta f) Γ M P M1 := fun E F σ H a b Q k => h E F σ H a b _ fun v F1 H1 e1 g1 ⟨p, dx, fs, h1, h2, h3⟩ => by
  obtain ⟨x, hx, px⟩ := h3 _ hf
  exact ⟨p, C, dx, fs, x, h1, g1.ex _ _ h2, hc, hn, hx, k x F1 H1 e1 g1 px⟩
theorem putF_le (f : Str) (v : V) : ∀ fs : List (Str × V), (putF f v fs).length ≤ fs.length + 1
  | [] => Nat.le_refl _
  | (g, x) :: r => by
    unfold putF
    split
    · exact Nat.le_succ _
    · exact Nat.succ_le_succ (putF_le f v r)
theorem go_fld {f : Str} {n : Nat} (hv : Ev tb Γ M P M1) (ho : Ev ta Γ M1 (Own q) M1) (e : M1[j]? = some (q, MIns C n fps)) (hz : n < 999) (hf : ∀ g ∈ fps, g.1 ≠ f) (hc : Cls K C) (hn : NoAttr K C f) (k : Nx E Γ (M1.set j (q, MIns C (n + 1) ((f, P) :: fps))) D1.nx) :
    Nx E Γ M (sFld K ta tb f D1) := fun σ H ⟨F, a, b⟩ => hv E F σ H a b _ fun y F1 H1 e1 g1 p1 => ho E F1 σ H1 g1 (b.mono e1) _ fun v F2 H2 e2 g2 p2 => by
  have p2 : v = .ref q := p2
  subst p2
  obtain ⟨_, o, ho1, dx, fs, rfl, hl, h3⟩ := g2.at e
  refine ⟨q, C, dx, fs, rfl, ho1, hc, hn, by omega, ?_⟩
  refine k _ _ ⟨F2, g2.mut e ⟨dx, _, rfl, Nat.le_trans (putF_le f y fs) (by omega), fun g hg => ?_⟩, b.mono (e1.trans e2)⟩
  rcases List.mem_cons.mp hg with z | z
  · subst z
    exact ⟨y, by rw [lookup_putF, if_pos rfl], P.mono e2 p1⟩
  · obtain ⟨x, hx, px⟩ := h3 g z
    exact ⟨x, by rw [lookup_putF, if_neg (hf g z)]; exact hx, px⟩
theorem Pt.junk (h : Pt E F M H) (hp : H q = none) : Pt E F M (upd H q o) := by
  have ne : ∀ {a u}, H a = some u → a ≠ q := fun e => ne_of_none e hp
  refine ⟨⟨h.gr.ex, fun a u h1 h2 => ?_, h.gr.off, fun a h1 => ?_⟩, ⟨h.wd.ex.trans (Evl.Ex.new hp), h.wd.nd, fun r hr => ?_⟩, h.fr⟩
  · have := h.gr.keep a u h1 h2
    rw [upd_ne (ne this)]; exact this
  · by_cases e : a = q
    · subst e; rw [upd_same]; exact fun z => by cases z
    · rw [upd_ne e]; exact h.gr.stay a h1
  · obtain ⟨a, u, hu, b⟩ := h.wd.own r hr
    exact ⟨a, u, by rw [upd_ne (ne hu)]; exact hu, b⟩
theorem evn_make (h : EvA tr Γ M ps M1) (hs : ∀ x vs H Q, Prom (Own x :: ps) [(x, MIns C 0 [])] (D K .none) [(x, O)] vs H Q → sp (vs ++ []) H Q X) : EvN (tMake C sp [] X tr) Γ M O M1 := fun E F σ H a b Q k =>
  h E F σ H a b _ fun vs F1 H1 e1 g1 p1 => fun x dx hx hdx hne => by
    have hx2 : upd H1 dx (.own x) x = none := by rw [upd_ne hne.symm]; exact hx
    have g2 : Pt E F1 ((x, MIns C 0 []) :: M1) (upd (upd H1 dx (.own x)) x (.ins C dx [])) := (g1.junk hdx).new hx2 ⟨dx, [], rfl, Nat.le_refl _, fun f hf => by cases hf⟩
    refine hs x (.ref x :: vs) _ _ ⟨F1, ⟨g2.ex, by simp [keys], fun r hr => ?_⟩, .cons rfl p1, fun v F' H' g hv => ⟨dp_non hv, ?_⟩⟩
    · rw [List.mem_singleton.mp hr]; exact g2.wd.own _ List.mem_cons_self
    · refine k x F' H' (g1.fresh hx) (e1.trans g.gr.ex) (g2.frame g (fun z hz => ?_) rfl fun r hr => ?_)
      · rw [List.mem_singleton.mp hz]; exact List.mem_cons_self
      · rcases List.mem_cons.mp hr with z | z
        · rw [z]; exact .inr List.mem_cons_self
        · exact .inl ⟨fun w => (List.nodup_cons.mp (show (x :: keys M1).Nodup from g2.wd.nd)).1 (by rw [show x = r.1 from (List.mem_singleton.mp w).symm]; exact List.mem_map_of_mem (f := (·.1)) z), List.mem_cons_of_mem _ z⟩
/-! ### isinstance of data -/
def PV (v : V) : MP := ⟨fun _ x => x = v, fun _ h => h⟩
theorem ev_pv {v : V} : Ev (tC v) Γ M (PV v) M := ev_cv fun _ => rfl
def tyName : PyData → String
  | .none => "NoneType" | .bool _ => "bool" | .int _ => "int" | .str _ => "str" | .list _ => "list" | .tuple _ => "tuple" | .dict _ => "dict"
theorem sql_ty {a : Addr} {xs : List V} (h : SqL K H a xs) : TyX K H (.ref a) (.type "list") := by
  rcases h with (h | ⟨o, h⟩) | ⟨o, its, n, h1, h2, _⟩
  · exact .base (.lst h)
  · exact .base (.frz h)
  · exact .kList h1 h2
theorem sqt_ty {a : Addr} {xs : List V} (h : SqT K H a xs) : TyX K H (.ref a) (.type "tuple") := by
  rcases h with (h | ⟨o, h⟩) | ⟨o, its, n, h1, h2, _⟩
  · exact .base (.tup h)
  · exact .fTuple h
  · exact .kTuple h1 h2
theorem dp_ty {v : V} {d : PyData} (h : Dp K H v d) : TyX K H v (.type (tyName d)) := by
  cases h with
  | non => exact .base .non
  | bl b => exact .base (.bl b)
  | int i => exact .base (.int i)
  | str x => exact .base (.str x)
  | lst s _ => exact sql_ty s
  | tup s _ => exact sqt_ty s
theorem rc_isi {d : PyData} {T : String} {b : Bool} (hb : kitB (tyName d) T = some b) : RC (rIsi K) [D K d, PV (.ty T)] M (D K (.bool b)) M := fun E F H vs a h Q k => by
  obtain ⟨v, w, rfl, hv, hw⟩ := ps2 h
  have hw : w = .ty T := hw
  subst hw
  exact ⟨v, .ty T, .type (tyName d), .type T, b, rfl, .ty T, dp_ty (Dp.mono a.ex hv), kit_ty hb, k _ F H (Evl.Ex.refl _) a (.bl b)⟩
/-! ### sorted -/
theorem ints_map {ns : List Int} {vs : List V} (h : Ps F vs (ns.map fun n => D K (.int n))) : vs = ns.map V.int := by
  have := ps_all (K := K) (ds := ns.map PyData.int) (by rw [List.map_map]; exact h)
  exact flat_ints this
theorem map_ints (ns : List Int) : Ps F (ns.map V.int) (ns.map fun n => D K (.int n)) := by
  induction ns with
  | nil => exact .nil
  | cons n ns ih => exact .cons (.int n) ih
abbrev MInts (K : PySem.W.Frag) (ns : List Int) : MO := ML (ns.map fun n => D K (.int n))
theorem rcn_sortedI {ns : List Int} : RCN (rSortedI K) [PLi K (ns.map fun n => D K (.int n))] M (MX fun ns' : List Int => MA (ns'.Perm ns ∧ ns'.Pairwise (· ≤ ·)) (MInts K ns')) M := fun E F H vs a h Q k => by
  obtain ⟨v, rfl, b, ws, rfl, s, p⟩ := ps1 h
  cases ints_map p
  exact ⟨b, ns, rfl, Evl.ex_l a.ex s, fun ns' l h1 h2 hl => k l F _ (a.fresh hl) (Evl.Ex.refl _) (a.new hl ⟨ns', ⟨h1, h2⟩, _, rfl, map_ints ns'⟩)⟩
/-- set(x): a list or tuple of ints -/
def rSetI (K : PySem.W.Frag) (w : World) : List V → Hp → VK → Prop := fun xs H Q => ∃ (a : Addr) (ns : List Int), xs = [V.ref a] ∧ (SqL K H a (ns.map V.int) ∨ SqT K H a (ns.map V.int)) ∧ ns.length < 63 ∧
  ∀ p c, H p = none → c ≤ ns.length → Q (.ref p) (upd H p (SetO w p (fun j => decide (j ∈ ns)) c))
theorem vals_ints {ns : List Int} {us : List Value} (r : Vals (ns.map V.int) us) : PyProof.Rows.IntsAre us ns := by
  induction ns generalizing us with
  | nil => cases r; exact .nil
  | cons n ns ih =>
    cases r with
    | cons a t =>
      obtain ⟨tk, rfl⟩ := a
      exact .cons n tk (ih t)
theorem cr_setI {X : Cx} (hc : X.calm = true) : CallR X (.type "set") (rSetI X.K X.w) := by
  intro pins s σ H xs us Q I r h
  obtain ⟨a, ns, rfl, hs, few, q⟩ := h
  have few2 : ns.length + 1 < scanBound := Nat.lt_trans (by omega : ns.length + 1 < 64) (by decide)
  rw [Vals.ref1 r]
  have fin : ∀ (g : Heap) (tk c : Nat), SetR X.w g s.heap.objs.size (fun j => decide (j ∈ ns)) c → c ≤ ns.length → (∀ b o, s.heap.get? b = some o → g.get? b = some o) → EP X pins σ Q (.ref s.heap.objs.size) { s with heap := g, toks := tk } := by
    intro g tk c hS hc k
    exact ⟨.ref _, upd H s.heap.objs.size (SetO X.w s.heap.objs.size (fun j => decide (j ∈ ns)) c), I.laid (t' := tk) k (Nat.le_refl _) (setO_new hS), rfl, q _ c (I.hok.fresh (Nat.le_refl _)) hc⟩
  rcases hs with hs | hs
  · obtain ⟨its, rv, hl, _⟩ := I.list hs
    exact setL_call ns (I.ok.hd hc) hl.isList (by simpa using vals_ints rv) few2 fin
  · obtain ⟨its, rv, hl, _⟩ := I.tuple hs
    exact call_set_tupI ns (I.ok.hd hc) hl (by simpa using vals_ints rv) few2 fin
theorem evn_sortedSet {w : World} {ns : List Int} (h : Ev te Γ M P M1) (hP : ∀ E F H v, Pt E F M1 H → P.p F v → ∃ a, v = .ref a ∧ (SqL K H a (ns.map V.int) ∨ SqT K H a (ns.map V.int))) (hn : ns.length < 63) :
    EvN (tCB (rSortedSet w) (tCons (tCB (rSetI K w) (tCons te tNil)) tNil)) Γ M (MX fun ns' : List Int => MA (ns'.Pairwise (· < ·) ∧ ∀ k, k ∈ ns' ↔ k ∈ ns) (MInts K ns')) M1 := fun E F σ H a b Q k => h E F σ H a b _ fun v F1 H1 e1 g1 p1 => by
  obtain ⟨x, rfl, hs⟩ := hP _ _ _ _ g1 p1
  refine ⟨x, ns, rfl, hs, hn, fun p c hp hc => ⟨p, _, c, rfl, upd_same, by omega, fun ns' l h1 h2 h3 hl => ?_⟩⟩
  have g2 : Pt E F1 M1 (upd H1 p (SetO w p (fun j => decide (j ∈ ns)) c)) := g1.junk hp
  exact k l F1 _ (g2.fresh hl) e1 (g2.new hl ⟨ns', ⟨h1, fun k => by rw [h2]; exact decide_eq_true_iff⟩, _, rfl, map_ints ns'⟩)
theorem pli_ints {ns : List Int} : ∀ E F H v, Pt E F M1 H → (PLi K (ns.map fun n => D K (.int n))).p F v → ∃ a, v = .ref a ∧ (SqL K H a (ns.map V.int) ∨ SqT K H a (ns.map V.int)) := fun E F H v g ⟨a, vs, e, s, p⟩ => by cases ints_map p; exact ⟨a, e, .inl (Evl.ex_l g.ex s)⟩
theorem own_ints {ns : List Int} (h : M1[j]? = some (q, MInts K ns)) : ∀ E F H v, Pt E F M1 H → (Own q).p F v → ∃ a, v = .ref a ∧ (SqL K H a (ns.map V.int) ∨ SqT K H a (ns.map V.int)) := fun E F H v g p => by
  obtain ⟨_, o, ho, vs, rfl, s⟩ := g.at h
  cases ints_map s
  exact ⟨q, p, .inl (SqL.of ho)⟩
theorem dtup_ints {ns : List Int} : ∀ E F H v, Pt E F M1 H → (D K (.tuple (ns.map PyData.int))).p F v → ∃ a, v = .ref a ∧ (SqL K H a (ns.map V.int) ∨ SqT K H a (ns.map V.int)) := fun E F H v g h => by
  obtain ⟨a, xs, e, s, p⟩ := dp_tup h
  cases flat_ints p
  exact ⟨a, e, .inr (Evl.ex_t g.ex s)⟩
/-! ### the draws -/
def MDr (K : PySem.W.Frag) : MO := MX fun ns : List Int => MA (ns.length ≤ 1000) (MInts K ns)
abbrev PIn (K : PySem.W.Frag) (lo hi : Int) : MP := PEx fun x : Int => PAn (lo ≤ x ∧ x < hi) (D K (.int x))
end
end Hq
namespace Hq
open PySem L2
section
variable {K : PySem.W.Frag} {E E' : Ent} {F F' H H' : Hp} {M M' Mc Mc' M1 M2 M3 : Ms} {Γ Γ' : Gm} {P P' P1 P2 : MP} {O O' : MO} {q : Addr} {σ : St} {o o' : HO} {j : Nat}
variable {te ta tb tc tl : TE} {t u : TT} {r : R2} {D1 : Ends} {tu tw : TS} {ps : List MP} {sp : Sp} {X : XK} {tr : TA} {C : Addr} {fps : List (Str × MP)}
theorem Prom.len {vs : List V} {Q : VK} (h : Prom ps M P M' vs H Q) : vs.length = ps.length := by obtain ⟨F, _, p, _⟩ := h; exact paired_len p
theorem rv_eqI {i k : Int} : RV rEq (D K (.int i)) (D K (.int k)) M (D K (.bool (decide (i = k)))) M := rv_val (z := .bl _) (fun _ => .bl _) fun F H x y p1 p2 _ Q q => by
  cases dp_int p1; cases dp_int p2
  refine ⟨rfl, ?_⟩
  have e : decide (V.int i = V.int k) = decide (i = k) := by simp
  rw [e]; exact q
theorem rv_neI {i k : Int} : RV rNe (D K (.int i)) (D K (.int k)) M (D K (.bool (!decide (i = k)))) M := rv_val (z := .bl _) (fun _ => .bl _) fun F H x y p1 p2 _ Q q => by
  cases dp_int p1; cases dp_int p2
  refine ⟨rfl, ?_⟩
  have e : decide (V.int i = V.int k) = decide (i = k) := by simp
  rw [e]; exact q
theorem ev_neg {i : Int} (h : Ev ta Γ M (D K (.int i)) M1) : Ev (tUn (rU fun i => .int (-i)) ta) Γ M (D K (.int (-i))) M1 := fun E F σ H a b Q k => h E F σ H a b _ fun v F1 H1 e1 g1 p1 => by
  cases dp_int p1
  exact ⟨i, rfl, k _ F1 H1 e1 g1 (.int _)⟩
theorem call0 (h : EvA tr Γ M ps M1) (hs : ∀ vs H Q, Prom ps [] P [] vs H Q → sp vs H Q X) : Ev (tCall sp [] X tr) Γ M P M1 := ev_call0 h fun vs H Q z => by rw [List.append_nil]; exact hs vs H Q z
theorem call1 (h : EvA tr Γ M ps M1) (e : M1[j]? = some (q, O)) (hs : ∀ vs H Q, Prom ps [(q, O)] P [(q, O)] vs H Q → sp vs H Q X) : Ev (tCall sp [] X tr) Γ M P M1 := ev_call1 h e fun vs H Q z => by rw [List.append_nil]; exact hs vs H Q z
theorem make0 (h : EvA tr Γ M ps M1) (hs : ∀ x vs H Q, Prom (Own x :: ps) [(x, MIns C 0 [])] (D K .none) [(x, O)] vs H Q → sp vs H Q X) : EvN (tMake C sp [] X tr) Γ M O M1 := evn_make h fun x vs H Q z => by rw [List.append_nil]; exact hs x vs H Q z
theorem EvA.ex1 : True := True.intro
/-- the first argument named -/
theorem ev_cbX {α : Type} {R : α → MP} {rc : List V → Hp → VK → Prop} (h : Ev te Γ M (PEx R) M1) (hr : ∀ x, RC rc [R x] M1 P M2) : Ev (tCB rc (tCons te tNil)) Γ M P M2 := ev_cb (ea_cons h ea_nil) (RC.ex1 hr)
theorem go_forX : True := True.intro
/-- something that is there, named ahead of what follows -/
theorem nx_anyE {α : Type} {R : α → MP} {tu : TE → TS} (h : True) : True := True.intro
theorem EvA.in1 {R R' : MP} (l : R.le R') (h : EvA tr Γ M (R :: ps) M1) : EvA tr Γ M (R' :: ps) M1 := fun E F σ H a b Q k => h E F σ H a b Q fun vs F' H' e g p => k vs F' H' e g (by
  cases p with
  | cons z t => exact .cons (l _ _ z) t)
/-- arguments with something to name -/
def EvAX {α : Type} (ta : TA) (Γ : Gm) (M : Ms) (ps : α → List MP) (M' : Ms) : Prop := ∀ E F σ H, Pt E F M H → EnvOk F σ Γ → ∀ Q : List V → Hp → Prop, (∀ x vs F' H', Ex F F' → Pt E F' M' H' → Ps F' vs (ps x) → Q vs H') → ta σ H Q
theorem eax1 {α : Type} {R : α → MP} (h : Ev te Γ M (PEx R) M1) : EvAX (tCons te tNil) Γ M (fun x => [R x]) M1 := fun E F σ H a b Q k => h E F σ H a b _ fun v F1 H1 e1 g1 ⟨x, p1⟩ => k x _ F1 H1 e1 g1 (.cons p1 .nil)
/-- range(e), e within known bounds -/
theorem go_forRX {i : Nat} {φ : Int → Prop} (h : Ev te Γ M (PEx fun z : Int => PAn (φ z) (D K (.int z))) M1) (hb : ∀ z, φ z → z ≤ 1000000 ∧ -1000000 ≤ z)
    (k : ∀ z, φ z → ∀ tr', EvA tr' Γ M1 [D K (.int z)] M1 → Nx E Γ M1 (tFor (iRng1 tr') (gName i) tu D1)) : Nx E Γ M (tFor (iRng1 (tCons te tNil)) (gName i) tu D1) := fun σ H ⟨F, a, b⟩ => h E F σ H a b _ fun v F1 H1 e1 g1 ⟨z, hz, p1⟩ => by
  cases dp_int p1
  have := k z hz (tCons (tC (.int z)) tNil) (ea_cons ev_int ea_nil) σ H1 ⟨F1, g1, b.mono e1⟩
  exact this
theorem evn_lcRX {i : Nat} {φ : Int → Prop} (h : Ev te Γ M (PEx fun z : Int => PAn (φ z) (D K (.int z))) M1) (k : ∀ z, φ z → EvN (tLc (iRng1 (tCons (tC (.int z)) tNil)) (gName i) t tb [i]) Γ M1 O M1) : EvN (tLc (iRng1 (tCons te tNil)) (gName i) t tb [i]) Γ M O M1 := fun E F σ H a b Q kk => h E F σ H a b _ fun v F1 H1 e1 g1 ⟨z, hz, p1⟩ => by
  cases dp_int p1
  exact k z hz E F1 σ H1 g1 (b.mono e1) Q fun q F' H' f e g => kk q F' H' f (e1.trans e) g
/-- a list of items each of which is some x with φ x -/
theorem ps_name {α : Type} {φ : α → Prop} {R : α → MP} : ∀ {n : Nat} {vs : List V}, Ps F vs (List.replicate n (PEx fun x => PAn (φ x) (R x))) → ∃ xs : List α, xs.length = n ∧ (∀ x ∈ xs, φ x) ∧ Ps F vs (xs.map R)
  | 0, _, h => by cases h; exact ⟨[], rfl, fun _ h => (by cases h), .nil⟩
  | n + 1, _, h => by
    cases h with
    | cons a t =>
      obtain ⟨x, hx, p⟩ := a
      obtain ⟨xs, h1, h2, h3⟩ := ps_name t
      exact ⟨x :: xs, by rw [List.length_cons, h1], fun y hy => by
        rcases List.mem_cons.mp hy with e | e
        · rw [e]; exact hx
        · exact h2 y e, .cons p h3⟩
/-- the same as an own list -/
theorem ml_name {α : Type} {φ : α → Prop} {R : α → MP} {n : Nat} : ∀ F o, (ML (List.replicate n (PEx fun x => PAn (φ x) (R x)))).p F o → (MX fun xs : List α => MA (xs.length = n ∧ ∀ x ∈ xs, φ x) (ML (xs.map R))).p F o := fun F o ⟨vs, e, p⟩ => by
  obtain ⟨xs, h1, h2, h3⟩ := ps_name p
  exact ⟨xs, ⟨h1, h2⟩, vs, e, h3⟩
theorem map_const {α β : Type} (l : List α) (b : β) : l.map (fun _ => b) = List.replicate l.length b := by
  induction l with
  | nil => rfl
  | cons a l ih => rw [List.map_cons, ih]; rfl
theorem filter_true {α : Type} (l : List α) : l.filter (fun _ => true) = l := by simp
end
end Hq
namespace Hq
open PySem L2
section
variable {K : PySem.W.Frag} {E E' : Ent} {F F' H H' : Hp} {M M' Mc Mc' M1 M2 M3 : Ms} {Γ Γ' : Gm} {P P' P1 P2 : MP} {O O' : MO} {q : Addr} {σ : St} {o o' : HO} {j : Nat}
variable {te ta tb tc tl : TE} {t u : TT} {r : R2} {D1 : Ends} {tu tw : TS} {ps : List MP} {sp : Sp} {X : XK} {tr : TA} {C : Addr} {fps : List (Str × MP)}
variable {tz : TS}
theorem q_asg {i : Nat} (h : Ev te Γ M P M1) (k : Nx E (Γ.set i (some P)) M1 (tz D1)) : Nx E Γ M (tSeq (tAsg te (gName i)) tz D1) :=
  go_asg (D1 := { D1 with nx := tz D1 }) h k
theorem q_asgN {i : Nat} (h : EvN te Γ M O M1) (k : ∀ q, E.H q = none → Nx E (Γ.set i (some (Own q))) ((q, O) :: M1) (tz D1)) : Nx E Γ M (tSeq (tAsg te (gName i)) tz D1) :=
  go_asgN (D1 := { D1 with nx := tz D1 }) h k
theorem q_drop (h : Ev te Γ M P M1) (k : Nx E Γ M1 (tz D1)) : Nx E Γ M (tSeq (tDrop te) tz D1) :=
  go_drop (D1 := { D1 with nx := tz D1 }) h k
theorem q_if {B : Bool → Prop} (h : EvT t Γ M B M1) (h1 : B true → Nx E Γ M1 (tu { D1 with nx := tz D1 })) (h2 : B false → Nx E Γ M1 (tw { D1 with nx := tz D1 })) : Nx E Γ M (tSeq (tIfS t tu tw) tz D1) :=
  go_if (D1 := { D1 with nx := tz D1 }) h h1 h2
theorem q_app {ps : List MP} (ho : Ev ta Γ M (Own q) M) (h : Ev te Γ M P M1) (e0 : M[j]? = some (q, ML ps)) (e : M1[j]? = some (q, ML ps)) (hz : ps.length < 100000) (k : Nx E Γ (M1.set j (q, ML (ps ++ [P]))) (tz D1)) :
    Nx E Γ M (tSeq (tDrop (tBM K "list" rAppend ta (tCons te tNil))) tz D1) :=
  go_app (D1 := { D1 with nx := tz D1 }) ho h e0 e hz k
theorem q_setL {ps : List MP} {i : Int} (h : Ev te Γ M P M1) (ho : Ev ta Γ M1 (Own q) M1) (hi : Ev tb Γ M1 (D K (.int i)) M2) (e : M2[j]? = some (q, ML ps)) (h0 : 0 ≤ i) (h1 : i.toNat < ps.length) (k : Nx E Γ (M2.set j (q, ML (ps.set i.toNat P))) (tz D1)) :
    Nx E Γ M (tSeq (tAsg te (gSub ta tb rSetL)) tz D1) :=
  go_setL (D1 := { D1 with nx := tz D1 }) h ho hi e h0 h1 k
theorem q_rev {ps : List MP} (ho : Ev ta Γ M (Own q) M) (e : M[j]? = some (q, ML ps)) (k : Nx E Γ (M.set j (q, ML ps.reverse)) (tz D1)) : Nx E Γ M (tSeq (tDrop (tBM0 K "list" rReverse ta)) tz D1) :=
  go_rev (D1 := { D1 with nx := tz D1 }) ho e k
theorem q_aug {i : Nat} {f : Int → Int → Int} {x y : Int} (hx : Γ[i]? = some (some (D K (.int x)))) (h : Ev te Γ M (D K (.int y)) M1) (k : Nx E (Γ.set i (some (D K (.int (f x y))))) M1 (tz D1)) : Nx E Γ M (tSeq (tAug i te (ipI f)) tz D1) :=
  go_aug (D1 := { D1 with nx := tz D1 }) hx h k
theorem q_forL {ps : List MP} {i : Nat} (h : Ev tl Γ M (PLi K ps) M1) (J : Nat → Gm → Ms → Prop) (h0 : J 0 Γ M1)
    (hs : ∀ E', Le E' E → ∀ n P, ps[n]? = some P → ∀ Γ' M', J n Γ' M' → Nx E' (Γ'.set i (some P)) M' (tu { D1 with nx := JA E' (J (n + 1)), ct := JA E' (J (n + 1)), bk := tz D1 }))
    (hd : ∀ Γ' M', J ps.length Γ' M' → Nx E Γ' M' (tz D1)) : Nx E Γ M (tSeq (tFor (iList K tl) (gName i) tu) tz D1) :=
  go_forL (D1 := { D1 with nx := tz D1 }) h J h0 hs hd
theorem q_forT {ps : List MP} {i : Nat} (h : Ev tl Γ M (PTu K ps) M1) (J : Nat → Gm → Ms → Prop) (h0 : J 0 Γ M1)
    (hs : ∀ E', Le E' E → ∀ n P, ps[n]? = some P → ∀ Γ' M', J n Γ' M' → Nx E' (Γ'.set i (some P)) M' (tu { D1 with nx := JA E' (J (n + 1)), ct := JA E' (J (n + 1)), bk := tz D1 }))
    (hd : ∀ Γ' M', J ps.length Γ' M' → Nx E Γ' M' (tz D1)) : Nx E Γ M (tSeq (tFor (iTup K tl) (gName i) tu) tz D1) :=
  go_forT (D1 := { D1 with nx := tz D1 }) h J h0 hs hd
theorem q_forR {tr : TA} {z : Int} {i : Nat} (h : EvA tr Γ M [D K (.int z)] M1) (hz : z ≤ 1000000) (hz2 : -1000000 ≤ z) (J : Nat → Gm → Ms → Prop) (h0 : J 0 Γ M1)
    (hs : ∀ n : Nat, (n : Int) < z → ∀ Γ' M', J n Γ' M' → Nx E (Γ'.set i (some (D K (.int n)))) M' (tu { D1 with nx := JA E (J (n + 1)), ct := JA E (J (n + 1)), bk := tz D1 }))
    (hd : ∀ Γ' M', J z.toNat Γ' M' → Nx E Γ' M' (tz D1)) : Nx E Γ M (tSeq (tFor (iRng1 tr) (gName i) tu) tz D1) :=
  go_forR (D1 := { D1 with nx := tz D1 }) h hz hz2 J h0 hs hd
theorem q_forR2 {tr : TA} {lo z : Int} {i : Nat} (h : EvA tr Γ M [D K (.int lo), D K (.int z)] M1) (hz : z ≤ 1000000 ∧ -1000000 ≤ z ∧ lo ≤ 1000000 ∧ -1000000 ≤ lo) (J : Nat → Gm → Ms → Prop) (h0 : J 0 Γ M1)
    (hs : ∀ n : Nat, lo + (n : Int) < z → ∀ Γ' M', J n Γ' M' → Nx E (Γ'.set i (some (D K (.int (lo + n))))) M' (tu { D1 with nx := JA E (J (n + 1)), ct := JA E (J (n + 1)), bk := tz D1 }))
    (hd : ∀ Γ' M', J (z - lo).toNat Γ' M' → Nx E Γ' M' (tz D1)) : Nx E Γ M (tSeq (tFor (iRng2 tr) (gName i) tu) tz D1) :=
  go_forR2 (D1 := { D1 with nx := tz D1 }) h hz J h0 hs hd
theorem q_while (J : Nat → Gm → Ms → Prop) (m0 : Nat) (h0 : J m0 Γ M)
    (hs : ∀ m Γ' M', J m Γ' M' → ∃ B M1, EvT t Γ' M' B M1 ∧ (B true → Nx E Γ' M1 (tu { D1 with nx := JA E (fun Γ M => ∃ m', m' < m ∧ J m' Γ M), ct := JA E (fun Γ M => ∃ m', m' < m ∧ J m' Γ M), bk := tz D1 })) ∧ (B false → Nx E Γ' M1 (tz D1))) : Nx E Γ M (tSeq (tWhile t tu) tz D1) :=
  go_while (D1 := { D1 with nx := tz D1 }) J m0 h0 hs
/-- hands back an object of the caller's own -/
def RtN (E : Ent) (M : Ms) (O : MO) (f : VK) : Prop := ∀ q F H, E.H q = none → Pt E F ((q, O) :: M) H → f (.ref q) H
def PromN (ps : List MP) (M : Ms) (O : MO) (M' : Ms) (vs : List V) (H : Hp) (Q : VK) : Prop := ∃ F, Wd F M H ∧ Ps F vs ps ∧ RtN ⟨F, H, keys M⟩ M' O Q
theorem PromN.len {vs : List V} {Q : VK} (h : PromN ps M O M' vs H Q) : vs.length = ps.length := by obtain ⟨F, _, p, _⟩ := h; exact paired_len p
theorem Pt.frameN {ks : List Addr} (h : Pt E F M H) (hq : H q = none) (g : Pt ⟨F, H, ks⟩ F' ((q, O) :: Mc) H') (hk : ∀ a ∈ ks, a ∈ keys M) (hM : keys M' = keys M) (hr : ∀ r ∈ M', (r.1 ∉ ks ∧ r ∈ M) ∨ r ∈ Mc) : Pt E F' ((q, O) :: M') H' := by
  have nq : q ∉ keys M := fun z => by
    obtain ⟨r, hr, e⟩ := List.mem_map.mp z
    obtain ⟨_, u, hu, _⟩ := h.wd.own r hr
    rw [e, hq] at hu; cases hu
  refine h.back ⟨⟨g.gr.ex, fun a u h1 h2 => g.gr.keep a u (fun z => h1 (hk a z)) h2, g.gr.off, g.gr.stay⟩, ⟨g.wd.ex, List.nodup_cons.mpr ⟨by rw [show List.map _ M' = keys M from hM]; exact nq, by rw [show List.map _ M' = keys M from hM]; exact h.wd.nd⟩, fun r hm => ?_⟩, fun r hm => ?_⟩
  · rcases List.mem_cons.mp hm with z | hm
    · rw [z]; exact g.wd.own _ List.mem_cons_self
    · rcases hr r hm with ⟨n, hm2⟩ | hm2
      · obtain ⟨a, u, hu, b⟩ := h.wd.own r hm2
        exact ⟨g.gr.off _ a (show H r.1 ≠ none by rw [hu]; exact fun z => by cases z), u, g.gr.keep _ _ n hu, r.2.mono g.gr.ex b⟩
      · exact g.wd.own r (List.mem_cons_of_mem _ hm2)
  · rcases List.mem_cons.mp hm with z | hm
    · rw [z]; exact .inr hq
    · refine .inl ?_
      show r.1 ∈ keys M
      rw [← hM]
      exact List.mem_map_of_mem (f := (·.1)) hm
theorem calln0 (h : EvA tr Γ M ps M1) (hs : ∀ vs H Q, PromN ps [] O [] vs H Q → sp vs H Q X) : EvN (tCall sp [] X tr) Γ M O M1 := fun E F σ H a b Q k =>
  h E F σ H a b _ fun vs F1 H1 e1 a1 p1 => by
    show sp (vs ++ []) H1 Q X
    rw [List.append_nil]
    exact hs vs H1 Q ⟨F1, ⟨a1.ex, List.nodup_nil, fun r hr => by cases hr⟩, p1, fun q F' H' hq g => k q F' H' (a1.fresh hq) (e1.trans g.gr.ex) (a1.frameN hq g (fun _ z => by cases z) rfl fun r hr => .inl ⟨by simp [keys], hr⟩)⟩
theorem calln1 (h : EvA tr Γ M ps M1) {d : Addr} {O2 : MO} (e : M1[j]? = some (d, O2)) (hs : ∀ vs H Q, PromN ps [(d, O2)] O [(d, O2)] vs H Q → sp vs H Q X) : EvN (tCall sp [] X tr) Γ M O M1 := fun E F σ H a b Q k =>
  h E F σ H a b _ fun vs F1 H1 e1 a1 p1 => by
    show sp (vs ++ []) H1 Q X
    rw [List.append_nil]
    have hm := List.mem_of_getElem? e
    refine hs vs H1 Q ⟨F1, ⟨a1.ex, by simp [keys], fun r hr => by rw [List.mem_singleton.mp hr]; exact a1.wd.own _ hm⟩, p1, fun q F' H' hq g => k q F' H' (a1.fresh hq) (e1.trans g.gr.ex) (a1.frameN hq g (fun z hz => ?_) rfl fun r hr => ?_)⟩
    · rw [List.mem_singleton.mp hz]; exact List.mem_map_of_mem (f := (·.1)) hm
    · have hr2 : r ∈ M1.set j (d, O2) := by rw [set_same e]; exact hr
      rcases mem_set_ne a1.wd.nd e r hr2 with z | ⟨z, n⟩
      · rw [z]; exact .inr List.mem_cons_self
      · exact .inl ⟨fun w => n (List.mem_singleton.mp w), z⟩
theorem go_retO {E0 : Ent} (l : Le E E0) (h : Ev te Γ M (Own q) M1) (hq : E0.H q = none) (hM : M1 = (q, O) :: M2) (k : RtN E0 M2 O D1.rt) : Nx E Γ M (tRet te D1) := fun σ H ⟨F, a, b⟩ => h E F σ H a b _ fun v F' H' e g p => by
  have p : v = .ref q := p
  subst p
  subst hM
  exact k q F' H' hq (l.to _ _ _ g)
theorem go_retN {E0 : Ent} (l : Le E E0) (h : EvN te Γ M O M1) (k : RtN E0 M1 O D1.rt) : Nx E Γ M (tRet te D1) := fun σ H ⟨F, a, b⟩ => by
  refine h ⟨F, H, keys M⟩ F σ H a.enter b _ fun q F' H' f e g => ?_
  have gE := (a.le.trans l).to _ _ _ g
  exact k q F' H' ((l.to _ _ _ a).fresh f) gE
theorem RtN.to {f : VK} (h : RtN E M O' f) (l : ∀ F o, O.p F o → O'.p F o) : RtN E M O f := fun q F H hq a => h q F H hq (a.to (j := 0) (O' := O') l rfl)
theorem RtN.drop {f : VK} (h : RtN E M O f) (s : List.Sublist M M') : RtN E M' O f := fun q F H hq a => h q F H hq (a.drop (s.cons₂ _))
theorem nx_perm0 {f} {a b : Addr × MO} (h : Nx E Γ [a, b] f) : Nx E Γ [b, a] f := h.imp fun σ H ⟨F, x, y⟩ => ⟨F, ⟨x.gr, ⟨x.wd.ex, by
    have := x.wd.nd
    simp [keys] at this ⊢
    exact fun z => this z.symm, fun r hr => x.wd.own r (by
      rcases List.mem_cons.mp hr with e | e
      · rw [e]; exact List.mem_cons_of_mem _ List.mem_cons_self
      · rw [List.mem_singleton.mp e]; exact List.mem_cons_self)⟩, fun r hr => x.fr r (by
      rcases List.mem_cons.mp hr with e | e
      · rw [e]; exact List.mem_cons_of_mem _ List.mem_cons_self
      · rw [List.mem_singleton.mp e]; exact List.mem_cons_self)⟩, y⟩
theorem go_cut (J : Gm → Ms → Prop) (h1 : Nx E Γ M (tu { D1 with nx := JA E J })) (h2 : ∀ Γ' M', J Γ' M' → Nx E Γ' M' (tw D1)) : Nx E Γ M (Evl.tCut tu tw D1) := fun σ H a =>
  ⟨JA E J, h1 σ H a, fun σ' H' ⟨Γ', M', hJ, a'⟩ => h2 Γ' M' hJ σ' H' a'⟩
end
end Hq
namespace Hq
open PySem L2
def dT (l : List Int) : PyData := .tuple (l.map .int)
def dL (l : List Int) : PyData := .list (l.map .int)
def dTT (ls : List (List Int)) : PyData := .tuple (ls.map dT)
def dLT (ls : List (List Int)) : PyData := .list (ls.map dT)
section
variable {K : PySem.W.Frag} {E E' : Ent} {F F' H H' : Hp} {M M' Mc Mc' M1 M2 M3 : Ms} {Γ Γ' : Gm} {P P' P1 P2 : MP} {O O' : MO} {q : Addr} {σ : St} {o o' : HO} {j : Nat}
variable {te ta tb tc tl : TE} {t u : TT} {r : R2} {D1 : Ends} {tu tw tz : TS} {ps : List MP} {sp : Sp} {X : XK} {tr : TA} {C : Addr} {fps : List (Str × MP)}
theorem le_dT {l : List Int} : (D K (dT l)).le (PTu K (l.map fun n => D K (.int n))) := fun F v h => by
  have := D_PTu (K := K) (ds := l.map PyData.int) F v h
  rw [List.map_map] at this
  exact this
theorem dT_le {l : List Int} : (PTu K (l.map fun n => D K (.int n))).le (D K (dT l)) := fun F v h => PTu_D (K := K) (ds := l.map PyData.int) F v (by rw [List.map_map]; exact h)
theorem le_dL {l : List Int} : (D K (dL l)).le (PLi K (l.map fun n => D K (.int n))) := fun F v h => by
  have := D_PLi (K := K) (ds := l.map PyData.int) F v h
  rw [List.map_map] at this
  exact this
theorem dL_le {l : List Int} : (PLi K (l.map fun n => D K (.int n))).le (D K (dL l)) := fun F v h => PLi_D (K := K) (ds := l.map PyData.int) F v (by rw [List.map_map]; exact h)
theorem le_Lm {α : Type} {f : α → PyData} {l : List α} : (D K (.list (l.map f))).le (PLi K (l.map fun n => D K (f n))) := fun F v h => by
  have := D_PLi (K := K) (ds := l.map f) F v h
  rw [List.map_map] at this
  exact this
theorem Lm_le {α : Type} {f : α → PyData} {l : List α} : (PLi K (l.map fun n => D K (f n))).le (D K (.list (l.map f))) := fun F v h => PLi_D (K := K) (ds := l.map f) F v (by rw [List.map_map]; exact h)
theorem le_Tm {α : Type} {f : α → PyData} {l : List α} : (D K (.tuple (l.map f))).le (PTu K (l.map fun n => D K (f n))) := fun F v h => by
  have := D_PTu (K := K) (ds := l.map f) F v h
  rw [List.map_map] at this
  exact this
theorem Tm_le {α : Type} {f : α → PyData} {l : List α} : (PTu K (l.map fun n => D K (f n))).le (D K (.tuple (l.map f))) := fun F v h => PTu_D (K := K) (ds := l.map f) F v (by rw [List.map_map]; exact h)
theorem rv_addIn {a lo hi : Int} : RV (rI0 fun i j => .int (i + j)) (D K (.int a)) (PIn K lo hi) M (PIn K (a + lo) (a + hi)) M :=
  RV.ex2 fun x => RV.an2 fun hx => rv_i0.weak (MP.le_trans (PAn.in (φ := a + lo ≤ a + x ∧ a + x < a + hi) (by omega)) (PEx.in (R := fun z : Int => PAn (a + lo ≤ z ∧ z < a + hi) (D K (.int z))) (a + x)))
theorem q_forRX {i : Nat} {φ : Int → Prop} (h : Ev te Γ M (PEx fun z : Int => PAn (φ z) (D K (.int z))) M1) (k : ∀ z, φ z → ∀ tr', EvA tr' Γ M1 [D K (.int z)] M1 → Nx E Γ M1 (tSeq (tFor (iRng1 tr') (gName i) tu) tz D1)) : Nx E Γ M (tSeq (tFor (iRng1 (tCons te tNil)) (gName i) tu) tz D1) := fun σ H ⟨F, a, b⟩ => h E F σ H a b _ fun v F1 H1 e1 g1 ⟨z, hz, p1⟩ => by
  cases dp_int p1
  exact k z hz (tCons (tC (.int z)) tNil) (ea_cons ev_int ea_nil) σ H1 ⟨F1, g1, b.mono e1⟩
theorem ev_tupOf {φ : List Int → Prop} (h : EvN te Γ M (MX fun ns : List Int => MA (φ ns) (MInts K ns)) M1) : Ev (tCB (rTuple K) (tCons te tNil)) Γ M (PEx fun ns : List Int => PAn (φ ns) (D K (dT ns))) M1 :=
  ev_cb (ea_cons ((ev_fr h).weak (MP.le_trans fr_X (PEx.le fun x => MP.le_trans fr_A (PAn.le fun _ => fr_L (K := K))))) ea_nil) (RC.ex1 fun ns => RC.an1 fun hφ => rc_tupleL.weak (MP.le_trans dT_le (MP.le_trans (PAn.in hφ) (PEx.in (R := fun ns : List Int => PAn (φ ns) (D K (dT ns))) ns))))
theorem nx_lastM {α : Type} {f} {φ : α → Prop} {R : α → MP} (e : M[j]? = some (q, ML (ps ++ [PEx fun x => PAn (φ x) (R x)]))) (h : ∀ x, φ x → Nx E Γ (M.set j (q, ML (ps ++ [R x]))) f) : Nx E Γ M f := by
  rintro σ H ⟨F, a, b⟩
  obtain ⟨fq, o, ho, vs, rfl, s⟩ := a.at e
  have key : ∀ {ps : List MP} {vs : List V}, Ps F vs (ps ++ [PEx fun x => PAn (φ x) (R x)]) → ∃ x, φ x ∧ Ps F vs (ps ++ [R x]) := by
    intro ps
    induction ps with
    | nil =>
      intro vs s
      obtain ⟨v, rfl, x, hx, hp⟩ := ps1 s
      exact ⟨x, hx, .cons hp .nil⟩
    | cons p ps ih =>
      intro vs s
      cases s with
      | cons a t =>
        obtain ⟨x, hx, t2⟩ := ih t
        exact ⟨x, hx, .cons a t2⟩
  obtain ⟨x, hx, s2⟩ := key s
  refine h x hx σ H ⟨F, ?_, b⟩
  have g := a.mut (o' := .lst vs) (O' := ML (ps ++ [R x])) e ⟨vs, rfl, s2⟩
  have e2 : upd H q (.lst vs) = H := by
    funext z
    by_cases y : z = q
    · subst y; rw [upd_same, ho]
    · rw [upd_ne y]
  rw [e2] at g
  exact g
theorem nx_perm {f} (p : M.Perm M') (h : Nx E Γ M' f) : Nx E Γ M f := h.imp fun σ H ⟨F, x, y⟩ => ⟨F, ⟨x.gr, ⟨x.wd.ex, (p.map _).nodup_iff.mp x.wd.nd, fun r hr => x.wd.own r (p.mem_iff.mpr hr)⟩, fun r hr => x.fr r (p.mem_iff.mpr hr)⟩, y⟩
theorem q_appN {i : Nat} (ho : Ev ta Γ M (Own q) M) (h : EvN te Γ M O M1) (e0 : M[j]? = some (q, ML ps)) (e : M1[i]? = some (q, ML ps)) (hz : ps.length < 100000) (k : ∀ p, E.H p = none → Nx E Γ ((p, O) :: M1.set i (q, ML (ps ++ [Own p]))) D1.nx) :
    Nx E Γ M (tDrop (tBM K "list" rAppend ta (tCons te tNil)) D1) := fun σ H ⟨F, a, b⟩ => ho E F σ H a b _ fun v F1 H1 e1 g1 p1 => by
  have p1 : v = .ref q := p1
  subst p1
  obtain ⟨_, o, ho1, ws0, rfl, _⟩ := g1.at e0
  refine ⟨.inl ⟨rfl, ws0, SqL.of ho1⟩, ?_⟩
  refine h E F1 σ H1 g1 (b.mono e1) _ fun p F2 H2 f e2 g2 => ?_
  obtain ⟨_, o, ho2, ws, rfl, s⟩ := g2.at (j := i + 1) e
  refine ⟨q, ws, .ref p, rfl, rfl, ho2, sz_lt (by rw [paired_len s]; exact hz), ?_⟩
  exact k p f _ _ ⟨F2, g2.mut (j := i + 1) e ⟨_, rfl, paired_app s (.cons (show (Own p).p F2 (.ref p) from rfl) .nil)⟩, b.mono (e1.trans e2)⟩
/-- max(xs) -/
theorem rc_max {ns : List Int} (h0 : 0 < ns.length) : RC (rMax K) [PLi K (ns.map fun n => D K (.int n))] M (PEx fun m : Int => PAn (m ∈ ns ∧ ∀ y ∈ ns, y ≤ m) (D K (.int m))) M := fun E F H vs a h Q k => by
  obtain ⟨v, rfl, b, ws, rfl, s, p⟩ := ps1 h
  cases ints_map p
  exact ⟨b, ns, rfl, Evl.ex_l a.ex s, h0, fun m h1 h2 => k _ F H (Evl.Ex.refl _) a ⟨m, ⟨h1, h2⟩, .int m⟩⟩
/-- own lists within an own list -/
def inner (K : PySem.W.Frag) (as : List Addr) (ls : List (List Int)) : Ms := (as.zip ls).map fun p => (p.1, MInts K p.2)
theorem freeze_inner : ∀ {as : List Addr} {ls : List (List Int)} {M0 : Ms} {F H}, as.length = ls.length → (∀ a ∈ as, E.H a = none) → Pt E F (M0 ++ inner K as ls) H → ∃ F', Ex F F' ∧ Pt E F' M0 H ∧ Paired (fun a l => Dp K F' (.ref a) (dL l)) as ls
  | [], [], M0, F, H, _, _, g => ⟨F, Evl.Ex.refl _, by simpa [inner] using g, .nil⟩
  | a :: as, l :: ls, M0, F, H, hl, ha, g => by
    have at0 : (M0 ++ inner K (a :: as) (l :: ls))[M0.length]? = some (a, MInts K l) := by
      rw [List.getElem?_append_right (Nat.le_refl _), Nat.sub_self]; rfl
    obtain ⟨fq, o, ho, vs, rfl, s⟩ := g.at at0
    have g2 := g.freeze at0 (ha a List.mem_cons_self) ho
    have er : (M0 ++ inner K (a :: as) (l :: ls)).eraseIdx M0.length = M0 ++ inner K as ls := by
      rw [List.eraseIdx_append_of_length_le (Nat.le_refl _), Nat.sub_self]; rfl
    rw [er] at g2
    obtain ⟨F', e, g3, p⟩ := freeze_inner (by simpa using hl) (fun b hb => ha b (List.mem_cons_of_mem _ hb)) g2
    have ex1 : Ex F (upd F a (.lst vs)) := Evl.Ex.new fq
    refine ⟨F', ex1.trans e, g3, .cons (Dp.mono e ?_) p⟩
    exact dL_le (K := K) _ _ ⟨a, vs, rfl, SqL.of upd_same, s.mono ex1⟩
theorem nx_nested {f} {i : Nat} {as : List Addr} {ls : List (List Int)} {M0 : Ms} (hl : as.length = ls.length) (hq : E.H q = none) (ha : ∀ a ∈ as, E.H a = none) (hg : Γ[i]? = some (some (Own q))) (h : Nx E (Γ.set i (some (D K (.list (ls.map dL))))) M0 f) :
    Nx E Γ ((q, ML (as.map Own)) :: (M0 ++ inner K as ls)) f := by
  rintro σ H ⟨F, a, b⟩
  obtain ⟨F1, e1, g1, p⟩ := freeze_inner (M0 := (q, ML (as.map Own)) :: M0) hl ha a
  obtain ⟨fq, o, ho, vs, rfl, s⟩ := g1.at (j := 0) rfl
  have g2 := g1.freeze (j := 0) rfl hq ho
  have ex1 : Ex F1 (upd F1 q (.lst vs)) := Evl.Ex.new fq
  refine h σ H ⟨_, g2, (b.mono (e1.trans ex1)).upd hg fun v hv => ?_⟩
  have hv : v = .ref q := hv
  subst hv
  refine .lst (SqL.of upd_same) ?_
  have key : ∀ {as : List Addr} {ls : List (List Int)} {vs : List V}, Paired (fun a l => Dp K F1 (.ref a) (dL l)) as ls → Ps F1 vs (as.map Own) → DpAll K (upd F1 q (.lst vs)) vs (ls.map dL) → True := fun _ _ _ => trivial
  have key2 : ∀ {as : List Addr} {ls : List (List Int)} {ws : List V}, Paired (fun a l => Dp K F1 (.ref a) (dL l)) as ls → Ps F1 ws (as.map Own) → DpAll K (upd F1 q (.lst vs)) ws (ls.map dL) := by
    intro as ls ws p
    induction p generalizing ws with
    | nil => intro s; cases s; exact .nil
    | cons x t ih =>
      intro s
      cases s with
      | cons y u =>
        have y : _ = V.ref _ := y
        subst y
        exact .cons (Dp.mono ex1 x) (ih u)
  exact key2 p s
theorem q_fld {f : Str} {n : Nat} (hv : Ev tb Γ M P M1) (ho : Ev ta Γ M1 (Own q) M1) (e : M1[j]? = some (q, MIns C n fps)) (hz : n < 999) (hf : ∀ g ∈ fps, g.1 ≠ f) (hc : Cls K C) (hn : NoAttr K C f) (k : Nx E Γ (M1.set j (q, MIns C (n + 1) ((f, P) :: fps))) (tz D1)) :
    Nx E Γ M (tSeq (sFld K ta tb f) tz D1) := go_fld (D1 := { D1 with nx := tz D1 }) hv ho e hz hf hc hn k
/-! rules with the written part named -/
variable {Y : Cx}
abbrev rLn (K : PySem.W.Frag) : List V → Hp → VK → Prop := fun xs H Q => ∃ p ys, xs = [.ref p] ∧ (SqL K H p ys ∨ SqT K H p ys) ∧ Q (.int ys.length) H
theorem c_len (e : Y.K = K) : CallR Y (.builtin "len") (rLn K) := e ▸ call_len_seq
theorem c_list (e : Y.K = K) : CallR Y (.type "list") (rList K) := e ▸ call_list_of
theorem c_tuple (e : Y.K = K) : CallR Y (.type "tuple") (rTuple K) := e ▸ call_tuple_of
theorem c_ix (e : Y.K = K) : IxR Y (rIx K) := e ▸ ix_seq
theorem c_in (e : Y.K = K) : OpR Y (compareOp .In) (rIn K false) := e ▸ op_in_seq
theorem c_notIn (e : Y.K = K) : OpR Y (compareOp .NotIn) (rIn K true) := e ▸ op_notIn_seq
theorem c_eq (e : Y.K = K) (hu : Y.A.units + 64 < cLine) : OpR Y (compareOp .Eq) (rEqD K) := e ▸ op_eqD hu
theorem c_ne (e : Y.K = K) (hu : Y.A.units + 64 < cLine) : OpR Y (compareOp .NotEq) (rNeD K) := e ▸ op_neD hu
theorem c_max (e : Y.K = K) (hc : Y.calm = true) : CallR Y (.builtin "max") (rMax K) := e ▸ cr_max hc
theorem c_min (e : Y.K = K) (hc : Y.calm = true) : CallR Y (.builtin "min") (rMin K) := e ▸ cr_min hc
theorem c_sum (e : Y.K = K) (hc : Y.calm = true) : CallR Y (.builtin "sum") (rSum K) := e ▸ cr_sum hc
theorem c_sorted (e : Y.K = K) : CallR Y (.builtin "sorted") (rSortedI K) := e ▸ cr_sortedI
theorem c_sortedSet {w : World} (e : Y.w = w) (hc : Y.calm = true) : CallR Y (.builtin "sorted") (rSortedSet w) := e ▸ cr_sortedSet hc
theorem c_set {w : World} (e : Y.K = K) (e2 : Y.w = w) (hc : Y.calm = true) : CallR Y (.type "set") (rSetI K w) := by subst e; subst e2; exact cr_setI hc
theorem c_isi (e : Y.K = K) : CallR Y (.builtin "isinstance") (rIsi K) := e ▸ call_isi
theorem c_catA (e : Y.K = K) : OpR Y (binaryOp .Add) (rCatA K) := e ▸ op_catA
theorem c_slT (e : Y.K = K) : SlR Y (rSlA K) := e ▸ sl_tupA
theorem c_slL (e : Y.K = K) : SlR Y (rSlL K) := e ▸ sl_list
end
end Hq
namespace Hq
open PySem L2
/-- a way to write values of a type as data, faithfully -/
structure Enc {α : Type} [DecidableEq α] (f : α → PyData) (n : Nat) : Prop where
  eq : ∀ x y, PyData.eqv (f x) (f y) = decide (x = y)
  lay : ∀ x, PyData.canLay0 (f x) = true
  deep : ∀ x, PyData.depth (f x) ≤ n
theorem Enc.shaped {α : Type} [DecidableEq α] {f : α → PyData} {n : Nat} (e : Enc f n) (h : n ≤ 64) (x : α) : SeqAt.shaped (f x) = true := by
  unfold SeqAt.shaped
  rw [e.lay x, Bool.true_and]
  exact decide_eq_true (Nat.le_trans (e.deep x) h)
theorem enc_int : Enc PyData.int 1 := ⟨fun x y => by
    show (x == y) = decide (x = y)
    rw [Bool.eq_iff_iff]; simp, fun _ => rfl, fun _ => by show PyData.depth (.int _) ≤ 1; simp [PyData.depth]⟩
section
variable {α : Type} [DecidableEq α] {f : α → PyData} {n : Nat}
theorem eqvAll_map (e : Enc f n) : ∀ (xs ys : List α), PyData.eqvAll (xs.map f) (ys.map f) = decide (xs = ys)
  | [], [] => rfl
  | x :: xs, y :: ys => by
    show (PyData.eqv (f x) (f y) && PyData.eqvAll (xs.map f) (ys.map f)) = _
    rw [e.eq, eqvAll_map e xs ys]
    by_cases h1 : x = y <;> by_cases h2 : xs = ys <;> simp [h1, h2]
  | [], _ :: _ => rfl
  | _ :: _, [] => rfl
theorem depthAll_map (e : Enc f n) : ∀ (xs : List α), PyData.depthAll (xs.map f) ≤ n
  | [] => Nat.zero_le _
  | x :: xs => by
    have h1 := e.deep x
    have h2 := depthAll_map e xs
    simp only [List.map_cons, PyData.depthAll]
    omega
theorem enc_list (e : Enc f n) : Enc (fun xs : List α => PyData.list (xs.map f)) (n + 1) := ⟨fun x y => eqvAll_map e x y, fun xs => by
    simp only [PyData.canLay0]
    first | (rw [List.all_eq_true]; intro d hd; obtain ⟨x, _, rfl⟩ := List.mem_map.mp hd; exact e.lay x) | (induction xs with | nil => rfl | cons x xs ih => simp_all [PyData.canLay0, PyData.canLayAll0, e.lay]), fun xs => by
    have := depthAll_map e xs
    simp only [PyData.depth]
    omega⟩
theorem enc_tuple (e : Enc f n) : Enc (fun xs : List α => PyData.tuple (xs.map f)) (n + 1) := ⟨fun x y => eqvAll_map e x y, fun xs => by
    simp only [PyData.canLay0]
    first | (rw [List.all_eq_true]; intro d hd; obtain ⟨x, _, rfl⟩ := List.mem_map.mp hd; exact e.lay x) | (induction xs with | nil => rfl | cons x xs ih => simp_all [PyData.canLay0, PyData.canLayAll0, e.lay]), fun xs => by
    have := depthAll_map e xs
    simp only [PyData.depth]
    omega⟩
end
theorem enc_bool : Enc PyData.bool 1 := ⟨fun x y => by
    show (x == y) = decide (x = y)
    rw [Bool.eq_iff_iff]; simp, fun _ => rfl, fun _ => by show PyData.depth (.bool _) ≤ 1; simp [PyData.depth]⟩
theorem enc_dT : Enc dT 2 := enc_tuple enc_int
theorem enc_dL : Enc dL 2 := enc_list enc_int
theorem enc_dLT : Enc dLT 3 := enc_list enc_dT
theorem enc_dTT : Enc dTT 3 := enc_tuple enc_dT
section
variable {K : PySem.W.Frag} {M : Ms} {α : Type} [DecidableEq α] {f : α → PyData} {n : Nat}
theorem rv_eqE (e : Enc f n) (h : n ≤ 64) {x y : α} : RV (rEqD K) (D K (f x)) (D K (f y)) M (D K (.bool (decide (x = y)))) M := by
  have := rv_eqD (K := K) (M := M) (e.shaped h x) (e.shaped h y)
  rw [e.eq] at this
  exact this
theorem rv_neE (e : Enc f n) (h : n ≤ 64) {x y : α} : RV (rNeD K) (D K (f x)) (D K (f y)) M (D K (.bool (!decide (x = y)))) M := by
  have := rv_neD (K := K) (M := M) (e.shaped h x) (e.shaped h y)
  rw [e.eq] at this
  exact this
end
/-! ### a list or a tuple -/
def iOr (wi wj : TI) : TI := fun σ H R => wi σ H R ∨ wj σ H R
theorem pi_or {X : Cx} {tg l : PySem.Expr} {wi wj : TI} (h : PI X tg l wi) (h' : PI X tg l wj) : PI X tg l (iOr wi wj) := ⟨fun pins s σ H R I q => q.elim (h.run pins s σ H R I) (h'.run pins s σ H R I)⟩
section
variable {K : PySem.W.Frag} {E : Ent} {M M1 : Ms} {Γ : Gm} {O : MO} {wi wj : TI} {g : TG} {tu tz : TS} {D1 : Ends} {t : TT} {te : TE} {vs : List Nat}
theorem for_or1 (h : Nx E Γ M (tFor wi g tu D1)) : Nx E Γ M (tFor (iOr wi wj) g tu D1) := fun σ H a => .inl (h σ H a)
theorem for_or2 (h : Nx E Γ M (tFor wj g tu D1)) : Nx E Γ M (tFor (iOr wi wj) g tu D1) := fun σ H a => .inr (h σ H a)
theorem qfor_or1 (h : Nx E Γ M (tSeq (tFor wi g tu) tz D1)) : Nx E Γ M (tSeq (tFor (iOr wi wj) g tu) tz D1) := fun σ H a => .inl (h σ H a)
theorem qfor_or2 (h : Nx E Γ M (tSeq (tFor wj g tu) tz D1)) : Nx E Γ M (tSeq (tFor (iOr wi wj) g tu) tz D1) := fun σ H a => .inr (h σ H a)
theorem lc_or1 (h : EvN (tLc wi g t te vs) Γ M O M1) : EvN (tLc (iOr wi wj) g t te vs) Γ M O M1 := fun E F σ H a b Q k => .inl (h E F σ H a b Q k)
theorem lc_or2 (h : EvN (tLc wj g t te vs) Γ M O M1) : EvN (tLc (iOr wi wj) g t te vs) Γ M O M1 := fun E F σ H a b Q k => .inr (h E F σ H a b Q k)
end
/-- the word as a tuple or as a list -/
def dW (b : Bool) (l : List Int) : PyData := if b then dT l else dL l
section
variable {K : PySem.W.Frag} {E : Ent} {M M1 : Ms} {Γ : Gm} {O : MO} {P : MP} {wi wj : TI} {g : TG} {tu tz : TS} {D1 : Ends} {t : TT} {te ta tb : TE} {vs : List Nat} {l : List Int} {b : Bool} {v i : Nat}
theorem go_forW (e : Γ[v]? = some (some (D K (dW b l)))) (J : Nat → Gm → Ms → Prop) (h0 : J 0 Γ M)
    (hs : ∀ E', Le E' E → ∀ n x, l[n]? = some x → ∀ Γ' M', J n Γ' M' → Nx E' (Γ'.set i (some (D K (.int x)))) M' (tu { D1 with nx := JA E' (J (n + 1)), ct := JA E' (J (n + 1)), bk := D1.nx }))
    (hd : ∀ Γ' M', J l.length Γ' M' → Nx E Γ' M' D1.nx) : Nx E Γ M (tFor (iOr (iTup K (tVar v)) (iList K (tVar v))) (gName i) tu D1) := by
  have hs2 : ∀ E', Le E' E → ∀ n P, (l.map fun x => D K (.int x))[n]? = some P → ∀ Γ' M', J n Γ' M' → Nx E' (Γ'.set i (some P)) M' (tu { D1 with nx := JA E' (J (n + 1)), ct := JA E' (J (n + 1)), bk := D1.nx }) := fun E' hE n P hP Γ' M' hJ => by
    rw [List.getElem?_map] at hP
    obtain ⟨x, hx, rfl⟩ := Option.map_eq_some_iff.mp hP
    exact hs E' hE n x hx Γ' M' hJ
  have hd2 : ∀ Γ' M', J (l.map fun x => D K (.int x)).length Γ' M' → Nx E Γ' M' D1.nx := by rw [List.length_map]; exact hd
  cases b with
  | true => exact for_or1 (go_forT ((ev_var (P := D K (dT l)) e).weak le_dT) J h0 hs2 hd2)
  | false => exact for_or2 (go_forL ((ev_var (P := D K (dL l)) e).weak le_dL) J h0 hs2 hd2)
theorem q_forW (e : Γ[v]? = some (some (D K (dW b l)))) (J : Nat → Gm → Ms → Prop) (h0 : J 0 Γ M)
    (hs : ∀ E', Le E' E → ∀ n x, l[n]? = some x → ∀ Γ' M', J n Γ' M' → Nx E' (Γ'.set i (some (D K (.int x)))) M' (tu { D1 with nx := JA E' (J (n + 1)), ct := JA E' (J (n + 1)), bk := tz D1 }))
    (hd : ∀ Γ' M', J l.length Γ' M' → Nx E Γ' M' (tz D1)) : Nx E Γ M (tSeq (tFor (iOr (iTup K (tVar v)) (iList K (tVar v))) (gName i) tu) tz D1) := go_forW (D1 := { D1 with nx := tz D1 }) e J h0 hs hd
theorem evn_lcW {G : Int → MP} (f : Int → Bool) (e : Γ[v]? = some (some (D K (dW b l)))) (hz : l.length ≤ 50000)
    (ht : ∀ x ∈ l, EvT t ((Γ.set i none).set i (some (D K (.int x)))) M (· = f x) M) (he : ∀ x ∈ l, f x = true → Ev te ((Γ.set i none).set i (some (D K (.int x)))) M (G x) M) :
    EvN (tLc (iOr (iTup K (tVar v)) (iList K (tVar v))) (gName i) t te [i]) Γ M (ML ((l.filter f).map G)) M := by
  cases b with
  | true => exact lc_or1 (evn_lcT f ((ev_var (P := D K (dT l)) e).weak le_dT) hz ht he)
  | false => exact lc_or2 (evn_lcL f ((ev_var (P := D K (dL l)) e).weak le_dL) hz ht he)
/-- [x] * n -/
theorem evn_rep {z : Int} (h : EvN ta Γ M (ML [P]) M1) (hb : ∀ M, Ev tb Γ M (D K (.int z)) M) (hz : 0 ≤ z ∧ z ≤ 1000) : EvN (tOp rRep ta tb) Γ M (ML (List.replicate z.toNat P)) M1 := fun E F σ H a c Q k =>
  h E F σ H a c _ fun q F1 H1 f1 e1 g1 => hb _ E F1 σ H1 g1 (c.mono e1) _ fun y F2 H2 e2 g2 p2 => by
    cases dp_int p2
    obtain ⟨_, o, ho, ws, rfl, s⟩ := g2.at (j := 0) rfl
    obtain ⟨x, rfl, px⟩ := ps1 s
    refine ⟨q, z, [x], rfl, rfl, ho, by omega, by omega, sz_of (by simp; omega), fun p hp => ?_⟩
    have g3 := (g2.new (O := ML (List.replicate z.toNat P)) (o := .lst (List.replicate z.toNat [x]).flatten) hp ⟨_, rfl, ?_⟩).drop (List.Sublist.cons₂ _ (List.sublist_cons_self _ _))
    · exact k p F2 _ (g2.fresh hp) (e1.trans e2) g3
    · generalize z.toNat = m
      induction m with
      | zero => exact .nil
      | succ m ih => exact .cons px ih
end
/-! ### a, b = e -/
section
variable {K : PySem.W.Frag} {E : Ent} {M M1 : Ms} {Γ : Gm} {D1 : Ends} {tz : TS} {te : TE} {i j : Nat}
theorem q_unp2 {α : Type} {φ : α → Prop} {R1 R2 : α → MP} (h : Ev te Γ M (PEx fun x => PAn (φ x) (PTu K [R1 x, R2 x])) M1) (k : ∀ x, φ x → Nx E ((Γ.set i (some (R1 x))).set j (some (R2 x))) M1 (tz D1)) :
    Nx E Γ M (tSeq (tAsg te (gTup K 2 (gCons (gName i) (gCons (gName j) gNil)))) tz D1) := fun σ H ⟨F, a, b⟩ => h E F σ H a b _ fun v F1 H1 e1 g1 ⟨x, hx, p, vs, ev, s, q⟩ => by
  obtain ⟨y, z, rfl, hy, hz⟩ := ps2 q
  exact ⟨p, [y, z], ev, Evl.ex_t g1.ex s, rfl, y, [z], rfl, z, [], rfl, rfl, k x hx _ _ ⟨F1, g1, ((b.mono e1).set i hy).set j hz⟩⟩
theorem rv_catT {a b : List Int} (h : a.length + b.length ≤ 100000) : RV (rCatA K) (D K (dT a)) (D K (dT b)) M (D K (dT (a ++ b))) M := fun E F H x y g p1 p2 Q k => by
  obtain ⟨p, vs, rfl, s, q⟩ := le_dT _ _ p1
  obtain ⟨p', vs', rfl, s', q'⟩ := le_dT _ _ p2
  have e1 := ints_map q; have e2 := ints_map q'
  subst e1; subst e2
  refine ⟨p, p', _, _, rfl, rfl, Evl.ex_t g.ex s, Evl.ex_t g.ex s', sz_of (by simpa using h), fun e => ?_, fun _ e => ?_, fun _ _ r hr => ?_⟩
  · have : a = [] := by simpa using e
    subst this
    exact k _ F H (Evl.Ex.refl _) g (dT_le _ _ ⟨p', _, rfl, s', q'⟩)
  · have : b = [] := by simpa using e
    subst this
    rw [List.append_nil] at k
    exact k _ F H (Evl.Ex.refl _) g (dT_le _ _ ⟨p, _, rfl, s, q⟩)
  · refine k _ _ _ (Evl.Ex.new (Evl.fresh_back g.ex hr)) (g.laid hr) (dT_le _ _ ⟨r, _, rfl, SqT.of upd_same, ?_⟩)
    rw [← List.map_append]
    exact map_ints _
end
section
variable {M M' : Ms} {P P1 : MP} {ps : List MP}
theorem RC.ex2 {α : Type} {rc : List V → Hp → VK → Prop} {R : α → MP} (h : ∀ x, RC rc (P1 :: R x :: ps) M P M') : RC rc (P1 :: PEx R :: ps) M P M' := fun E F H vs a p Q k => by
  cases p with
  | cons b t => cases t with
    | cons c t => obtain ⟨x, c⟩ := c; exact h x E F H _ a (.cons b (.cons c t)) Q k
theorem RC.an2 {φ : Prop} {rc : List V → Hp → VK → Prop} {R : MP} (h : φ → RC rc (P1 :: R :: ps) M P M') : RC rc (P1 :: PAn φ R :: ps) M P M' := fun E F H vs a p Q k => by
  cases p with
  | cons b t => cases t with
    | cons c t => exact h c.1 E F H _ a (.cons b (.cons c.2 t)) Q k
end
section
variable {K : PySem.W.Frag} {M M1 : Ms} {Γ : Gm} {te : TE} {α : Type} {f : α → PyData} {xs : List α}
theorem ev_lenM (h : Ev te Γ M (D K (.list (xs.map f))) M1) : Ev (tCB (rLn K) (tCons te tNil)) Γ M (D K (.int xs.length)) M1 := by
  have := ev_cb (ea_cons h ea_nil) (rc_lenD (K := K) (ds := xs.map f) (M := M1))
  rw [List.length_map] at this
  exact this
theorem ev_lenMT (h : Ev te Γ M (D K (.tuple (xs.map f))) M1) : Ev (tCB (rLn K) (tCons te tNil)) Γ M (D K (.int xs.length)) M1 := by
  have := ev_cb (ea_cons h ea_nil) (rc_lenDT (K := K) (ds := xs.map f) (M := M1))
  rw [List.length_map] at this
  exact this
end
end Hq
namespace Hq
open PySem L2
section
variable {K : PySem.W.Frag} {E E' : Ent} {F F' H H' : Hp} {M M' Mc Mc' M0 M1 M2 M3 : Ms} {Γ Γ' : Gm} {P P' P1 P2 : MP} {O O' : MO} {q : Addr} {σ : St} {o o' : HO} {j i : Nat}
variable {te ta tb tc tl : TE} {t u : TT} {r : R2} {D1 : Ends} {tu tw tz : TS} {ps qs : List MP} {sp : Sp} {X : XK} {tr : TA}
theorem evn_cat {Ps1 : Ms → Prop} (h1 : EvN ta Γ M (ML ps) M1) (h2 : ∀ M, Ps1 M → EvN tb Γ M (ML qs) M) (hp : ∀ q, Ps1 ((q, ML ps) :: M1)) (hz : ps.length + qs.length ≤ 100000) : EvN (tOp rCat ta tb) Γ M (ML (ps ++ qs)) M1 := fun E F σ H a b Q k =>
  h1 E F σ H a b _ fun x F1 H1 f1 e1 g1 => h2 _ (hp x) E F1 σ H1 g1 (b.mono e1) _ fun y F2 H2 f2 e2 g2 => by
    obtain ⟨_, o, ho, vs, rfl, s⟩ := g2.at (j := 1) rfl
    obtain ⟨_, o, ho', ws, rfl, s'⟩ := g2.at (j := 0) rfl
    refine ⟨x, y, vs, ws, rfl, rfl, ho, ho', sz_of (by rw [paired_len s, paired_len s']; exact hz), fun p hp => ?_⟩
    have g3 := (g2.new (O := ML (ps ++ qs)) (o := .lst (vs ++ ws)) hp ⟨_, rfl, paired_app s s'⟩).drop (List.Sublist.cons₂ _ ((List.sublist_cons_self _ _).trans (List.sublist_cons_self _ _)))
    exact k p F2 _ (g2.fresh hp) (e1.trans e2) g3
/-- for i in reversed(range(n)) -/
theorem q_forRev {z : Int} (h : Ev te Γ M (D K (.int z)) M1) (hz : 0 ≤ z ∧ z ≤ 1000000) (J : Nat → Gm → Ms → Prop) (h0 : J 0 Γ M1)
    (hs : ∀ n : Nat, (n : Int) < z → ∀ Γ' M', J n Γ' M' → Nx E (Γ'.set i (some (D K (.int (z - 1 - n))))) M' (tu { D1 with nx := JA E (J (n + 1)), ct := JA E (J (n + 1)), bk := tz D1 }))
    (hd : ∀ Γ' M', J z.toNat Γ' M' → Nx E Γ' M' (tz D1)) : Nx E Γ M (tSeq (tFor (iRevR (tRg1 te)) (gName i) tu) tz D1) := fun σ H ⟨F, a, b⟩ => h E F σ H a b _ fun v F1 H1 e1 g1 p => by
  cases dp_int p
  refine ⟨z, rfl, by omega, by omega, by omega, by omega, ?_⟩
  have e0 : (z - 0).toNat = z.toNat := by rw [Int.sub_zero]
  rw [e0]
  refine L2.for_rangeC (lo := 0 + ((z.toNat : Nat) : Int) - 1) (c := -1) (n := z.toNat) (D := { D1 with nx := tz D1 }) (fun n σ H => JA E (J n) σ H) ⟨Γ, M1, h0, F1, g1, b.mono e1⟩ (fun n σ2 H2 hn hJ => ?_) (fun σ2 H2 hJ => ?_)
  · obtain ⟨Γ', M', hJ, F2, g2, b2⟩ := hJ
    refine hs n (by omega) Γ' M' hJ _ _ ⟨F2, g2, b2.set i ?_⟩
    have e : (0 : Int) + ((z.toNat : Nat) : Int) - 1 + (n : Int) * (-1) = z - 1 - n := by omega
    show Dp K F2 (.int _) _
    rw [e]
    exact .int _
  · obtain ⟨Γ', M', hJ, at2⟩ := hJ
    exact hd Γ' M' hJ _ _ at2
/-! ### lists of own lists -/
def innerE {α : Type} (K : PySem.W.Frag) (f : α → PyData) (as : List Addr) (ls : List (List α)) : Ms := (as.zip ls).map fun p => (p.1, ML (p.2.map fun x => D K (f x)))
section
variable {α : Type} {f : α → PyData}
theorem ie_snoc {as : List Addr} {rs : List (List α)} {p : Addr} {l : List α} (h : as.length = rs.length) : innerE K f (as ++ [p]) (rs ++ [l]) = innerE K f as rs ++ [(p, ML (l.map fun x => D K (f x)))] := by
  unfold innerE
  rw [List.zip_append h, List.map_append]; rfl
theorem ie_set {as : List Addr} {rs : List (List α)} {n : Nat} {l : List α} (h : as.length = rs.length) (hn : n < as.length) : (innerE K f as rs).set n (as[n], ML (l.map fun x => D K (f x))) = innerE K f as (rs.set n l) := by
  unfold innerE
  apply List.ext_getElem
  · simp [h]
  · intro i h1 h2
    simp at h1 h2
    rw [List.getElem_set]
    by_cases e : n = i
    · subst e; simp
    · rw [if_neg e]; simp [List.getElem_set, e]
theorem ie_at {as : List Addr} {rs : List (List α)} {n : Nat} (h : as.length = rs.length) (hn : n < as.length) : (innerE K f as rs)[n]? = some (as[n], ML ((rs.getD n []).map fun x => D K (f x))) := by
  unfold innerE
  have : n < rs.length := by omega
  simp [List.getElem?_eq_getElem, hn, this, h]
theorem freezeE : ∀ {as : List Addr} {ls : List (List α)} {M0 : Ms} {F H}, as.length = ls.length → (∀ a ∈ as, E.H a = none) → Pt E F (M0 ++ innerE K f as ls) H → ∃ F', Ex F F' ∧ Pt E F' M0 H ∧ Paired (fun a l => Dp K F' (.ref a) (.list (l.map f))) as ls
  | [], [], M0, F, H, _, _, g => ⟨F, Evl.Ex.refl _, by simpa [innerE] using g, .nil⟩
  | a :: as, l :: ls, M0, F, H, hl, ha, g => by
    have at0 : (M0 ++ innerE K f (a :: as) (l :: ls))[M0.length]? = some (a, ML (l.map fun x => D K (f x))) := by
      rw [List.getElem?_append_right (Nat.le_refl _), Nat.sub_self]; rfl
    obtain ⟨fq, o, ho, vs, rfl, s⟩ := g.at at0
    have g2 := g.freeze at0 (ha a List.mem_cons_self) ho
    have er : (M0 ++ innerE K f (a :: as) (l :: ls)).eraseIdx M0.length = M0 ++ innerE K f as ls := by
      rw [List.eraseIdx_append_of_length_le (Nat.le_refl _), Nat.sub_self]; rfl
    rw [er] at g2
    obtain ⟨F', e, g3, p⟩ := freezeE (by simpa using hl) (fun b hb => ha b (List.mem_cons_of_mem _ hb)) g2
    have ex1 : Ex F (upd F a (.lst vs)) := Evl.Ex.new fq
    refine ⟨F', ex1.trans e, g3, .cons (Dp.mono e ?_) p⟩
    exact Lm_le (K := K) _ _ ⟨a, vs, rfl, SqL.of upd_same, s.mono ex1⟩
theorem nx_nestedE {g : St → Hp → Prop} {i : Nat} {as : List Addr} {ls : List (List α)} {M0 : Ms} (hl : as.length = ls.length) (hq : E.H q = none) (ha : ∀ a ∈ as, E.H a = none) (hg : Γ[i]? = some (some (Own q))) (h : Nx E (Γ.set i (some (D K (.list (ls.map fun l => .list (l.map f)))))) M0 g) :
    Nx E Γ ((q, ML (as.map Own)) :: (M0 ++ innerE K f as ls)) g := by
  rintro σ H ⟨F, a, b⟩
  obtain ⟨F1, e1, g1, p⟩ := freezeE (M0 := (q, ML (as.map Own)) :: M0) hl ha a
  obtain ⟨fq, o, ho, vs, rfl, s⟩ := g1.at (j := 0) rfl
  have g2 := g1.freeze (j := 0) rfl hq ho
  have ex1 : Ex F1 (upd F1 q (.lst vs)) := Evl.Ex.new fq
  refine h σ H ⟨_, g2, (b.mono (e1.trans ex1)).upd hg fun v hv => ?_⟩
  have hv : v = .ref q := hv
  subst hv
  refine .lst (SqL.of upd_same) ?_
  have key2 : ∀ {as : List Addr} {ls : List (List α)} {ws : List V}, Paired (fun a l => Dp K F1 (.ref a) (.list (l.map f))) as ls → Ps F1 ws (as.map Own) → DpAll K (upd F1 q (.lst vs)) ws (ls.map fun l => .list (l.map f)) := by
    intro as ls ws p
    induction p generalizing ws with
    | nil => intro s; cases s; exact .nil
    | cons x t ih =>
      intro s
      cases s with
      | cons y u =>
        have y : _ = V.ref _ := y
        subst y
        exact .cons (Dp.mono ex1 x) (ih u)
  exact key2 p s
end
end
section
variable {K : PySem.W.Frag} {E : Ent} {M : Ms} {Γ : Gm} {O : Nat → MO} {D1 : Ends} {tz : TS} {te : TE} {tr : TA} {i j : Nat}
theorem Pt.perm {F H : Hp} {M M' : Ms} (h : Pt E F M H) (p : M.Perm M') : Pt E F M' H := ⟨h.gr, ⟨h.wd.ex, (p.map _).nodup_iff.mp h.wd.nd, fun r hr => h.wd.own r (p.mem_iff.mpr hr)⟩, fun r hr => h.fr r (p.mem_iff.mpr hr)⟩
def zipR (O : Nat → MO) (as : List Addr) (n : Nat) : Ms := (as.zip (List.range n)).map fun p => (p.1, O p.2)
theorem zipR_snoc {as : List Addr} {n : Nat} {q : Addr} (h : as.length = n) : zipR O (as ++ [q]) (n + 1) = zipR O as n ++ [(q, O n)] := by
  unfold zipR
  rw [List.range_succ, List.zip_append (by rw [List.length_range]; exact h), List.map_append]; rfl
theorem q_lcOwn {z : Int} (h : EvA tr Γ M [D K (.int z)] M) (hz : z ≤ 50000 ∧ 0 ≤ z) (he : ∀ x : Nat, (x : Int) < z → EvN te ((Γ.set i none).set i (some (D K (.int x)))) M (O x) M)
    (k : ∀ q as, E.H q = none → (∀ a ∈ as, E.H a = none) → as.length = z.toNat → Nx E (Γ.set j (some (Own q))) ((q, ML (as.map Own)) :: (M ++ zipR O as z.toNat)) (tz D1)) :
    Nx E Γ M (tSeq (tAsg (tLc (iRng1 tr) (gName i) tYes te [i]) (gName j)) tz D1) := fun σ H ⟨F, a, b⟩ => h E F σ H a b _ fun vs F1 H1 e1 g1 p => by
  obtain ⟨v, rfl, hv⟩ := ps1 p
  cases dp_int hv
  refine ⟨z, rfl, by omega, by omega, fun D2 hD => ?_⟩
  have gn : Pt E F1 ((D2, ML []) :: M) (upd H1 D2 (.lst [])) := g1.new hD ⟨[], rfl, .nil⟩
  refine lc_range (lo := 0) (n := z.toNat) (fun n H' => ∃ F' as, Pt E F' ((D2, ML (as.map Own)) :: (M ++ zipR O as n)) H' ∧ Ex F1 F' ∧ as.length = n ∧ ∀ a ∈ as, E.H a = none) ⟨F1, [], by simpa [zipR] using gn, Evl.Ex.refl _, rfl, fun _ h => by cases h⟩ (fun n H2 hn ⟨F2, as, g2, e2, hl, hf⟩ => ⟨wipe_one, ?_⟩) (fun H2 ⟨F2, as, g2, e2, hl, hf⟩ => ?_)
  · have e0 : (0 : Int) + (n : Int) = (n : Int) := Int.zero_add _
    rw [e0]
    have sub : List.Sublist M ((D2, ML (as.map Own)) :: (M ++ zipR O as n)) := (List.sublist_append_left _ _).trans (List.sublist_cons_self _ _)
    show te _ H2 _
    refine he n (by omega) ⟨F2, H2, keys M⟩ F2 _ H2 (Pt.start (g2.drop sub).wd) ((env_wipe (b.mono (e1.trans e2))).set i (P := D K (.int n)) (.int _)) _ fun q F3 H3 hq e3 g3 => ?_
    have g4 : Pt E F3 ((q, O n) :: (D2, ML (as.map Own)) :: (M ++ zipR O as n)) H3 := g2.frameN hq g3 (fun x hx => by
      obtain ⟨r, hr, e⟩ := List.mem_map.mp hx
      exact List.mem_map.mpr ⟨r, sub.subset hr, e⟩) rfl fun r hr => by
        by_cases hm : r.1 ∈ keys M
        · obtain ⟨s, hs, e⟩ := List.mem_map.mp hm
          -- one entry for each address
          have one : ∀ {L : Ms}, (keys L).Nodup → ∀ r ∈ L, ∀ s ∈ L, r.1 = s.1 → r = s := by
            intro L
            induction L with
            | nil => intro _ r hr; cases hr
            | cons m L ih =>
              intro nd r hr s hs e
              have nd' := List.nodup_cons.mp (show (m.1 :: keys L).Nodup from nd)
              rcases List.mem_cons.mp hr with e1 | hr <;> rcases List.mem_cons.mp hs with e2 | hs
              · rw [e1, e2]
              · exact absurd (show m.1 ∈ keys L by rw [← e1, e]; exact List.mem_map_of_mem (f := (·.1)) hs) nd'.1
              · exact absurd (show m.1 ∈ keys L by rw [← e2, ← e]; exact List.mem_map_of_mem (f := (·.1)) hr) nd'.1
              · exact ih nd'.2 r hr s hs e
          have := one g2.wd.nd r hr s (sub.subset hs) e.symm
          rw [this]; exact .inr hs
        · exact .inl ⟨hm, hr⟩
    obtain ⟨_, o, ho, ws, rfl, s⟩ := g4.at (j := 1) rfl
    refine ⟨ws, ho, sz_lt (by rw [paired_len s, List.length_map]; omega), F3, as ++ [q], ?_, e2.trans e3, by rw [List.length_append, hl]; rfl, fun x hx => ?_⟩
    · have g5 := g4.mut (j := 1) (O' := ML ((as ++ [q]).map Own)) (o' := .lst (ws ++ [.ref q])) rfl ⟨_, rfl, by rw [List.map_append]; exact paired_app s (.cons (show (Own q).p F3 (.ref q) from rfl) .nil)⟩
      rw [zipR_snoc hl]
      refine g5.perm ?_
      show ((q, O n) :: (D2, ML ((as ++ [q]).map Own)) :: (M ++ zipR O as n)).Perm _
      refine (List.Perm.swap _ _ _).trans (List.Perm.cons _ ?_)
      rw [← List.append_assoc]
      exact (List.perm_append_singleton _ _).symm
    · rcases List.mem_append.mp hx with h1 | h1
      · exact hf x h1
      · rw [List.mem_singleton.mp h1]; exact g2.fresh hq
  · exact k D2 as (g1.fresh hD) hf hl _ _ ⟨F2, g2, (b.mono (e1.trans e2)).set j (P := Own D2) rfl⟩
end
section
variable {K : PySem.W.Frag} {M M1 : Ms} {Γ : Gm} {te : TE} {b : Bool} {l ns : List Int} {q : Addr} {j : Nat}
theorem rv_ixW {i x : Int} (h0 : 0 ≤ i) (h : (l.map PyData.int)[i.toNat]? = some (.int x)) : RV (rIx K) (D K (dW b l)) (D K (.int i)) M (D K (.int x)) M := by
  cases b with
  | true => exact rv_ixDT (ds := l.map PyData.int) h0 h
  | false => exact rv_ixDL (ds := l.map PyData.int) h0 h
theorem ev_lenW (h : Ev te Γ M (D K (dW b l)) M1) : Ev (tCB (rLn K) (tCons te tNil)) Γ M (D K (.int l.length)) M1 := by
  cases b with
  | true => exact ev_lenMT (f := PyData.int) h
  | false => exact ev_lenM (f := PyData.int) h
theorem rcn_sortedO (e : M[j]? = some (q, MInts K ns)) : RCN (rSortedI K) [Own q] M (MX fun ns' : List Int => MA (ns'.Perm ns ∧ ns'.Pairwise (· ≤ ·)) (MInts K ns')) M := fun E F H vs a h Q k => by
  obtain ⟨v, rfl, hv⟩ := ps1 h
  have hv : v = .ref q := hv
  subst hv
  obtain ⟨_, o, ho, ws, rfl, s⟩ := a.at e
  cases ints_map s
  exact ⟨q, ns, rfl, SqL.of ho, fun ns' l h1 h2 hl => k l F _ (a.fresh hl) (Evl.Ex.refl _) (a.new hl ⟨ns', ⟨h1, h2⟩, _, rfl, map_ints ns'⟩)⟩
end
theorem pi_listK {Y : Cx} {K : PySem.W.Frag} {tg l : PySem.Expr} {tl : TE} (e : Y.K = K) (hl : PE Y l tl) : PI Y tg l (iList K tl) := e ▸ pi_list hl
theorem pi_tupK {Y : Cx} {K : PySem.W.Frag} {tg l : PySem.Expr} {tl : TE} (e : Y.K = K) (hl : PE Y l tl) : PI Y tg l (iTup K tl) := e ▸ pi_tup hl
end Hq
namespace Hq
open PySem L2
/-! ### xs.index(y, lo): an item of a list of ints from a place on -/
def rIndex3 (K : PySem.W.Frag) : V → List V → Hp → VK → Prop := fun x xs H Q => ∃ (a : Addr) (ns : List Int) (y lo : Int) (j : Nat), x = .ref a ∧ xs = [.int y, .int lo] ∧ SqL K H a (ns.map V.int) ∧ (0 ≤ lo ∧ lo.toNat ≤ j) ∧ ns[j]? = some y ∧
  (∀ m : Nat, lo.toNat ≤ m → m < j → ns[m]? ≠ some y) ∧ Q (.int (j : Nat)) H
theorem flatI {ns : List Int} : (ns.map V.int).all flatV = true := by
  rw [List.all_map, List.all_eq_true]
  intro x _; rfl
theorem mt_index3 {X : Cx} : MtR X "list.index" (rIndex3 X.K) := by
  intro pn st sg H x args v us Q I rx rargs h
  obtain ⟨a, ns, y, lo, j, rfl, rfl, hs, ⟨h0, hlo⟩, hj, hno, q⟩ := h
  cases rx
  obtain ⟨u1, u2, rfl, r1, r2⟩ := rargs.two
  obtain ⟨t, rfl⟩ := r2
  obtain ⟨its, rv, ⟨⟨cls, dd, dt, sl⟩, n, ho, hc, hdn, hd⟩, hz⟩ := I.list hs
  simp only at hc hd
  subst hc hd
  have hvl : ns.length = its.length := by have := rv.length; rwa [List.length_map] at this
  have hjl : j < ns.length := (List.getElem?_eq_some_iff.mp hj).1
  have szl := sizeLine_eq
  have hzn : ns.length ≤ sizeLine := by simpa using hz
  have gv : ∀ m (hm : m < its.length), eqU (.int y) its[m] = decide (ns[m]'(by omega) = y) := fun m hm => by
    have e0 : (ns.map V.int)[m]? = some (.int (ns[m]'(by omega))) := by rw [List.getElem?_map, List.getElem?_eq_getElem (by omega)]; rfl
    obtain ⟨w, hw, rw'⟩ := rv.get e0
    have e1 : its[m] = w := by
      rw [List.getElem?_eq_getElem hm] at hw
      exact Option.some.inj hw
    rw [e1, eqU_of rw' rfl]
    rfl
  refine call_meets PySem.F.slot_list_index ⟨_, ho, rfl⟩ PySem.F.entry_list_index (PySem.F.args_list_index_3 _ _ _)
    (SeqAt.list_index3_found a its.toArray n dd sl u1 (fun m => eqU (.int y) (its.toArray.getD m .none)) lo t j (by rw [List.size_toArray]; omega) (by rw [SeqAt.searchFrom_nonneg h0]; exact hlo) (by omega) ?_ ?_) ⟨ho, fun m hm => ?_, ?_⟩
  · have hj2 : j < its.length := by omega
    have : its.toArray.getD j .none = its[j] := by simp [Array.getD, hj2]
    show eqU _ _ = true
    rw [this, gv j hj2, decide_eq_true_iff]
    exact (List.getElem?_eq_some_iff.mp hj).2
  · intro m hm hl2 hmj
    have hm2 : m < its.length := by simpa using hm
    have : its.toArray.getD m .none = its[m] := by simp [Array.getD, hm2]
    show eqU _ _ = false
    rw [this, gv m hm2, decide_eq_false_iff_not]
    intro e
    rw [SeqAt.searchFrom_nonneg h0] at hl2
    exact hno m hl2 hmj (by rw [List.getElem?_eq_getElem (by omega), e])
  · have hm2 : m < its.length := by simpa using hm
    have : its.toArray.getD m .none = its.toArray[m] := by simp [Array.getD, hm2]
    rw [this]
    exact mem_eqAt r1 rfl rv flatI _ (by simp)
  · exact ⟨.int (j : Nat), H, I.tok _, ⟨_, rfl⟩, q⟩
section
variable {K : PySem.W.Frag} {E : Ent} {M M1 M2 : Ms} {Γ : Gm} {P : MP} {O : MO} {q : Addr} {j : Nat} {te ta tb ta2 tb2 tl : TE} {tr : TA} {D1 : Ends} {tz : TS}
/-- an owned list's index -/
theorem ev_index3 {ns : List Int} {y lo : Int} {k : Nat} (ho : Ev ta Γ M (Own q) M) (h : EvA tr Γ M [D K (.int y), D K (.int lo)] M) (e : M[j]? = some (q, MInts K ns)) (h0 : 0 ≤ lo ∧ lo.toNat ≤ k) (hk : ns[k]? = some y) (hno : ∀ m : Nat, lo.toNat ≤ m → m < k → ns[m]? ≠ some y) :
    Ev (tBM K "list" (rIndex3 K) ta tr) Γ M (D K (.int k)) M := fun E F σ H a b Q kk => ho E F σ H a b _ fun v F1 H1 e1 g1 p1 => by
  have p1 : v = .ref q := p1
  subst p1
  obtain ⟨_, o, ho1, ws0, rfl, _⟩ := g1.at e
  refine ⟨.inl ⟨rfl, ws0, SqL.of ho1⟩, ?_⟩
  refine h E F1 σ H1 g1 (b.mono e1) _ fun vs F2 H2 e2 g2 p2 => ?_
  obtain ⟨x1, x2, rfl, h1, h2⟩ := ps2 p2
  cases dp_int h1; cases dp_int h2
  obtain ⟨_, o, ho2, ws, rfl, s⟩ := g2.at e
  have es := ints_map s
  subst es
  exact ⟨q, ns, y, lo, k, rfl, rfl, SqL.of ho2, h0, hk, hno, kk _ _ _ (e1.trans e2) g2 (.int _)⟩
/-! ### xs[i] += e -/
def rGetL (K : PySem.W.Frag) : V → V → Hp → VK → Prop := fun o i H Q => ∃ p xs k v, o = .ref p ∧ i = .int k ∧ SqL K H p xs ∧ (0 ≤ k ∧ k < 1000000) ∧ xs[k.toNat]? = some v ∧ Q v H
theorem get_list {X : Cx} : PGet X (rGetL X.K) := by
  intro pn st sg H x y v u Q I rx ry h
  obtain ⟨p, xs, k, z, rfl, rfl, hs, ⟨h0, h1⟩, hz, q⟩ := h
  cases rx
  obtain ⟨t, rfl⟩ := ry
  obtain ⟨its, rv, pl, hl⟩ := I.list hs
  obtain ⟨w, hw, rw'⟩ := rv.get hz
  exact wpAny_getItem_list pl.isList h0 (by omega) (by simpa using hw) ⟨z, H, I, rw', q⟩
theorem c_fld {Y : Cx} {e : PySem.Expr} {f : Str} {pos : Pos} (e2 : Y.K = K) (he : PE Y e ta) (hb : attributeBase e f Y.env (eval e Y.env) = eval e Y.env) : PE Y (.Attribute e f pos) (tFld K ta f) := e2 ▸ pe_fld he hb
theorem c_getL {Y : Cx} (e : Y.K = K) : PGet Y (rGetL K) := e ▸ get_list
theorem go_augS {ns : List Int} {f : Int → Int → Int} {i x y : Int} (ho : Ev ta Γ M (Own q) M) (hi : Ev tb Γ M (D K (.int i)) M) (h : Ev te Γ M (D K (.int y)) M) (e : M[j]? = some (q, MInts K ns)) (h0 : 0 ≤ i ∧ i < 1000000) (hx : ns[i.toNat]? = some x)
    (k : Nx E Γ (M.set j (q, MInts K (ns.set i.toNat (f x y)))) D1.nx) : Nx E Γ M (tAugS ta tb te (rGetL K) (ipI f) rSetL D1) := fun σ H ⟨F, a, b⟩ => ho E F σ H a b _ fun v F1 H1 e1 g1 p1 => by
  have p1 : v = .ref q := p1
  subst p1
  refine hi E F1 σ H1 g1 (b.mono e1) _ fun w F2 H2 e2 g2 p2 => ?_
  cases dp_int p2
  obtain ⟨_, o, ho2, ws, rfl, s⟩ := g2.at e
  have es := ints_map s
  subst es
  refine ⟨q, _, i, .int x, rfl, rfl, SqL.of ho2, h0, by rw [List.getElem?_map, hx]; rfl, ?_⟩
  refine h E F2 σ H2 g2 (b.mono (e1.trans e2)) _ fun w F3 H3 e3 g3 p3 => ?_
  cases dp_int p3
  refine ⟨x, y, rfl, rfl, ?_⟩
  obtain ⟨_, o, ho3, ws, rfl, s3⟩ := g3.at e
  have hn : i.toNat < ns.length := (List.getElem?_eq_some_iff.mp hx).1
  obtain ⟨n, rfl⟩ := Int.eq_ofNat_of_zero_le h0.1
  refine ⟨q, ws, n, n, rfl, rfl, ho3, Evl.ixN_nat (by rw [paired_len s3, List.length_map]; exact hn), ?_⟩
  have es := ints_map s3
  subst es
  refine k _ _ ⟨F3, g3.mut e ⟨_, rfl, ?_⟩, b.mono ((e1.trans e2).trans e3)⟩
  rw [← List.map_set]
  exact map_ints _
theorem q_augS {ns : List Int} {f : Int → Int → Int} {i x y : Int} (ho : Ev ta Γ M (Own q) M) (hi : Ev tb Γ M (D K (.int i)) M) (h : Ev te Γ M (D K (.int y)) M) (e : M[j]? = some (q, MInts K ns)) (h0 : 0 ≤ i ∧ i < 1000000) (hx : ns[i.toNat]? = some x)
    (k : Nx E Γ (M.set j (q, MInts K (ns.set i.toNat (f x y)))) (tz D1)) : Nx E Γ M (tSeq (tAugS ta tb te (rGetL K) (ipI f) rSetL) tz D1) := go_augS (D1 := { D1 with nx := tz D1 }) ho hi h e h0 hx k
/-! ### xs[i], xs[i2] = x, y -/
theorem go_setL2 {ns : List Int} {i i2 x y : Int} (h : Ev te Γ M (PTu K [D K (.int x), D K (.int y)]) M1) (ho : ∀ M, Ev ta Γ M (Own q) M) (hi : ∀ M, Ev tb Γ M (D K (.int i)) M) (ho2 : ∀ M, Ev ta2 Γ M (Own q) M) (hi2 : ∀ M, Ev tb2 Γ M (D K (.int i2)) M)
    (e : M1[j]? = some (q, MInts K ns)) (h0 : 0 ≤ i ∧ i.toNat < ns.length) (h2 : 0 ≤ i2 ∧ i2.toNat < ns.length) (k : Nx E Γ (M1.set j (q, MInts K ((ns.set i.toNat x).set i2.toNat y))) D1.nx) :
    Nx E Γ M (tAsg te (gTup K 2 (gCons (gSub ta tb rSetL) (gCons (gSub ta2 tb2 rSetL) gNil))) D1) := fun σ H ⟨F, a, b⟩ => h E F σ H a b _ fun v F1 H1 e1 g1 ⟨p, vs, ev, s, qq⟩ => by
  obtain ⟨w1, w2, rfl, p1, p2⟩ := ps2 qq
  cases dp_int p1; cases dp_int p2
  refine ⟨p, [.int x, .int y], ev, Evl.ex_t g1.ex s, rfl, .int x, [.int y], rfl, ?_⟩
  refine ho _ E F1 σ H1 g1 (b.mono e1) _ fun v F2 H2 e2 g2 p1 => ?_
  have p1 : v = .ref q := p1
  subst p1
  refine hi _ E F2 σ H2 g2 (b.mono (e1.trans e2)) _ fun w F3 H3 e3 g3 p3 => ?_
  cases dp_int p3
  obtain ⟨_, o, ho3, ws, rfl, s3⟩ := g3.at e
  have es := ints_map s3
  subst es
  obtain ⟨n, rfl⟩ := Int.eq_ofNat_of_zero_le h0.1
  refine ⟨q, _, n, n, rfl, rfl, ho3, Evl.ixN_nat (by rw [List.length_map]; exact h0.2), ?_⟩
  have g4 := g3.mut (o' := .lst ((ns.map V.int).set n (.int x))) e (O' := MInts K (ns.set n x)) ⟨_, rfl, by rw [← List.map_set]; exact map_ints _⟩
  have e4 : (M1.set j (q, MInts K (ns.set n x)))[j]? = some (q, MInts K (ns.set n x)) := by rw [List.getElem?_set_self (List.getElem?_eq_some_iff.mp e).1]
  refine ⟨.int y, [], rfl, ?_⟩
  refine ho2 _ E F3 σ _ g4 (b.mono ((e1.trans e2).trans e3)) _ fun v F5 H5 e5 g5 p1 => ?_
  have p1 : v = .ref q := p1
  subst p1
  refine hi2 _ E F5 σ H5 g5 (b.mono (((e1.trans e2).trans e3).trans e5)) _ fun w F6 H6 e6 g6 p6 => ?_
  cases dp_int p6
  obtain ⟨_, o, ho6, ws, rfl, s6⟩ := g6.at e4
  have es := ints_map s6
  subst es
  obtain ⟨m, rfl⟩ := Int.eq_ofNat_of_zero_le h2.1
  refine ⟨q, _, m, m, rfl, rfl, ho6, Evl.ixN_nat (by rw [List.length_map, List.length_set]; exact h2.2), rfl, ?_⟩
  have g7 := g6.mut (o' := .lst (((ns.set n x).map V.int).set m (.int y))) e4 (O' := MInts K ((ns.set n x).set m y)) ⟨_, rfl, by rw [← List.map_set]; exact map_ints _⟩
  rw [List.set_set] at g7
  exact k _ _ ⟨F6, g7, b.mono ((((e1.trans e2).trans e3).trans e5).trans e6)⟩
theorem q_setL2 {ns : List Int} {i i2 x y : Int} (h : Ev te Γ M (PTu K [D K (.int x), D K (.int y)]) M1) (ho : ∀ M, Ev ta Γ M (Own q) M) (hi : ∀ M, Ev tb Γ M (D K (.int i)) M) (ho2 : ∀ M, Ev ta2 Γ M (Own q) M) (hi2 : ∀ M, Ev tb2 Γ M (D K (.int i2)) M)
    (e : M1[j]? = some (q, MInts K ns)) (h0 : 0 ≤ i ∧ i.toNat < ns.length) (h2 : 0 ≤ i2 ∧ i2.toNat < ns.length) (k : Nx E Γ (M1.set j (q, MInts K ((ns.set i.toNat x).set i2.toNat y))) (tz D1)) :
    Nx E Γ M (tSeq (tAsg te (gTup K 2 (gCons (gSub ta tb rSetL) (gCons (gSub ta2 tb2 rSetL) gNil)))) tz D1) := go_setL2 (D1 := { D1 with nx := tz D1 }) h ho hi ho2 hi2 e h0 h2 k
theorem call1m {ps : List MP} {O O' : MO} {sp : Sp} {X : XK} (h : EvA tr Γ M ps M1) (e : M1[j]? = some (q, O)) (hs : ∀ vs H Q, Prom ps [(q, O)] P [(q, O')] vs H Q → sp vs H Q X) : Ev (tCall sp [] X tr) Γ M P (M1.set j (q, O')) := ev_call h (rc_prom1 e fun vs H Q z => by rw [List.append_nil]; exact hs vs H Q z)
/-! ### t[lo:hi] -/
def EvP (to : TO) (Γ : Gm) (M : Ms) (o : Option Int) : Prop := ∀ E F σ H, Pt E F M H → EnvOk F σ Γ → ∀ Q : Option Int → Hp → Prop, (∀ F' H', Ex F F' → Pt E F' M H' → Q o H') → to σ H Q
theorem ep_none : EvP tNoPart Γ M none := fun E F σ H a b Q k => k F H (Evl.Ex.refl _) a
theorem ep_some {i : Int} (h : Ev te Γ M (D K (.int i)) M) : EvP (tPart te) Γ M (some i) := fun E F σ H a b Q k => h E F σ H a b _ fun v F1 H1 e1 g1 p1 => by
  cases dp_int p1
  exact ⟨i, rfl, k _ _ e1 g1⟩
def cutI (l : List Int) (lo hi : Option Int) : List Int := (l.drop (HT.sIx l.length 0 lo)).take (HT.sIx l.length l.length hi - HT.sIx l.length 0 lo)
theorem ev_slT {l : List Int} {lo hi : Option Int} {tl th : TO} (h : Ev te Γ M (D K (dT l)) M1) (h1 : EvP tl Γ M1 lo) (h2 : EvP th Γ M1 hi) : Ev (tSl (rSlA K) te tl th) Γ M (D K (dT (cutI l lo hi))) M1 := fun E F σ H a b Q k =>
  h E F σ H a b _ fun v F1 H1 e1 g1 p1 => h1 E F1 σ H1 g1 (b.mono e1) _ fun F2 H2 e2 g2 => h2 E F2 σ H2 g2 (b.mono (e1.trans e2)) _ fun F3 H3 e3 g3 => by
    have e23 := e2.trans e3
    obtain ⟨p, vs, rfl, s, qq⟩ := le_dT _ _ ((D K (dT l)).mono e23 p1)
    have es := ints_map qq
    subst es
    have hl : (l.map V.int).length = l.length := List.length_map _
    refine ⟨p, _, rfl, Evl.ex_t g3.ex s, fun hw => ?_, fun hw r hr => ?_⟩
    · rw [hl] at hw
      have : cutI l lo hi = l := by unfold cutI; rw [hw.1, hw.2]; simp
      rw [this] at k
      exact k _ _ _ (e1.trans e23) g3 (dT_le _ _ ⟨p, _, rfl, s, map_ints _⟩)
    · have ex := Evl.Ex.new (o := .tup (cutV (l.map V.int) lo hi)) (Evl.fresh_back g3.ex hr)
      refine k _ _ _ ((e1.trans e23).trans ex) (g3.laid hr) (dT_le _ _ ⟨r, (cutI l lo hi).map V.int, rfl, ?_, map_ints _⟩)
      have : cutV (l.map V.int) lo hi = (cutI l lo hi).map V.int := by
        unfold cutV cutI
        rw [hl, List.map_take, List.map_drop]
      rw [this]
      exact SqT.of upd_same
theorem cut_take {l : List Int} {a : Nat} : cutI l none (some (a : Int)) = l.take a := by
  unfold cutI
  rw [HT.sIx_none, HT.sIx_nat]
  simp
theorem cut_drop {l : List Int} {a : Nat} : cutI l (some (a : Int)) none = l.drop a := by
  unfold cutI
  rw [HT.sIx_none, HT.sIx_nat]
  by_cases h : a ≤ l.length
  · rw [Nat.min_eq_left h]
    apply List.take_of_length_le
    rw [List.length_drop]; omega
  · rw [List.drop_of_length_le (by omega : l.length ≤ min a l.length), List.drop_of_length_le (by omega : l.length ≤ a)]; simp
/-! ### x is None -/
abbrev rIs0 : R2 := fun x y H Q => y = .non ∧ Q (.bl (decide (x = .non))) H
abbrev rNot0 : R2 := fun x y H Q => y = .non ∧ Q (.bl (!decide (x = .non))) H
theorem rv_isN1 : RV rIs0 (D K .none) (D K .none) M (D K (.bool true)) M := rv_val (z := .bl true) (fun _ => .bl _) fun F H x y p1 p2 _ Q q => by
  cases dp_non p1; cases dp_non p2
  exact ⟨rfl, q⟩
theorem rv_isN0 {ds : List PyData} : RV rIs0 (D K (.list ds)) (D K .none) M (D K (.bool false)) M := rv_val (z := .bl false) (fun _ => .bl _) fun F H x y p1 p2 _ Q q => by
  obtain ⟨a, xs, rfl, _, _⟩ := dp_lst p1
  cases dp_non p2
  exact ⟨rfl, q⟩
theorem rv_notN1 : RV rNot0 (D K .none) (D K .none) M (D K (.bool false)) M := rv_val (z := .bl false) (fun _ => .bl _) fun F H x y p1 p2 _ Q q => by
  cases dp_non p1; cases dp_non p2
  exact ⟨rfl, q⟩
theorem rv_notN0 {ds : List PyData} : RV rNot0 (D K (.list ds)) (D K .none) M (D K (.bool true)) M := rv_val (z := .bl true) (fun _ => .bl _) fun F H x y p1 p2 _ Q q => by
  obtain ⟨a, xs, rfl, _, _⟩ := dp_lst p1
  cases dp_non p2
  exact ⟨rfl, q⟩
end
end Hq
namespace Hq
open PySem L2
section
variable {K : PySem.W.Frag} {E : Ent} {M M1 M2 : Ms} {Γ : Gm} {P : MP} {O : MO} {q : Addr} {j : Nat} {te ta tb ta2 tb2 tl : TE} {tr : TA} {D1 : Ends} {tz : TS} {t u : TT}
theorem units65 {k : Nat} {A : Around} (r : Room k A) : A.units + 65 < cLine := by have := r.un; omega
/-! ### l.index(x), nested data -/
theorem c_indexD {Y : Cx} (e : Y.K = K) (hu : Y.A.units + 65 < cLine) : MtR Y "list.index" (rIndexD K) := e ▸ mt_indexD hu
theorem c_bm {Y : Cx} {o e : PySem.Expr} {es : List PySem.Expr} {to : TE} {t : TA} {name : Str} {apos cpos : Pos} {T id : String} {r : V → List V → Hp → VK → Prop} (eK : Y.K = K) (pa : PlainAttrs T) (slot : Slot T name id) (hty : typeOf (.builtin id) = pure (.type "method_descriptor")) (hm : MtR Y id r) (ho : PE Y o to) (ha : PA Y (e :: es) t)
    (hbase : attributeBase o name Y.env (eval o Y.env) = eval o Y.env := by rfl)
    (hf : ((backTo cpos (starEach (e :: es) Y.env)).all (fun x => !x.1) && (backToKw cpos (keywordEach [] Y.env)).all (fun x => x.1.isSome) && decide ((e :: es).length + ([] : List Keyword).length + (if ([] : List Keyword).isEmpty then 0 else 1) < 30)) = true := by rfl)
    (hline : (apos.endLine == cpos.line) = true := by rfl) (hs : starEach (e :: es) Y.env = (false, eval e Y.env) :: starEach es Y.env := by rfl) (hp : (backTo cpos (starEach es Y.env)).any (·.1) = false := by rfl) :
    PE Y (.Call (.Attribute o name apos) (e :: es) [] cpos) (tBM K T r to t) := by
  subst eK
  exact pe_bm pa slot hty hm ho ha hbase hf hline hs hp
theorem Enc.all_shaped {α : Type} [DecidableEq α] {f : α → PyData} {n : Nat} (e : Enc f n) (h : n + 1 ≤ 64) (l : List α) : SeqAt.shaped (.list (l.map f)) = true := (enc_list e).shaped h l
theorem ev_indexD {α : Type} [DecidableEq α] [BEq α] [LawfulBEq α] {f : α → PyData} {n : Nat} (en : Enc f n) (hn : n + 1 ≤ 64) {l : List α} {x : α} (ho : Ev ta Γ M (D K (.list (l.map f))) M) (h : Ev te Γ M (D K (f x)) M) (hx : x ∈ l) :
    Ev (tBM K "list" (rIndexD K) ta (tCons te tNil)) Γ M (D K (.int ((l.idxOf x : Nat) : Int))) M := fun E F σ H a b Q kk => ho E F σ H a b _ fun v F1 H1 e1 g1 p1 => by
  obtain ⟨p, ws, rfl, s, dp⟩ := dp_lst p1
  refine ⟨.inl ⟨rfl, ws, Evl.ex_l g1.ex s⟩, ?_⟩
  refine h E F1 σ H1 g1 (b.mono e1) _ fun w F2 H2 e2 g2 p2 => ?_
  have hl := List.idxOf_lt_length_of_mem hx
  refine ⟨p, w, f x, l.map f, l.idxOf x, f x, rfl, rfl, Dp.mono g2.ex ((D K (.list (l.map f))).mono e2 p1), Dp.mono g2.ex p2, en.all_shaped hn l, en.shaped (by omega) x, ?_, ?_, ?_, kk _ _ _ (e1.trans e2) g2 (.int _)⟩
  · rw [List.getElem?_map, List.getElem?_eq_getElem hl, List.getElem_idxOf hl]; rfl
  · rw [en.eq]; simp
  · intro m z hm hz
    rw [List.getElem?_map] at hz
    obtain ⟨y, hy, rfl⟩ := Option.map_eq_some_iff.mp hz
    rw [en.eq, decide_eq_false_iff_not]
    rintro rfl
    have hm2 : m < l.length := by omega
    have : l.idxOf y ≤ m := by
      rw [List.getElem?_eq_getElem hm2] at hy
      have hy := Option.some.inj hy
      apply Nat.le_of_not_lt
      intro hlt
      have := List.not_of_lt_findIdx hlt
      rw [hy] at this
      simp at this
    omega
/-! ### max of two, int of a truth value -/
theorem rc_max2 {a b : Int} : RC (fun xs H Q => ∃ i j, xs = [.int i, .int j] ∧ Q (.int (if j > i then j else i)) H) [D K (.int a), D K (.int b)] M (D K (.int (if b > a then b else a))) M := fun E F H vs g h Q k => by
  obtain ⟨x, y, rfl, h1, h2⟩ := ps2 h
  cases dp_int h1; cases dp_int h2
  exact ⟨a, b, rfl, k _ F H (Evl.Ex.refl _) g (.int _)⟩
theorem rc_intB {b : Bool} : RC rInt [D K (.bool b)] M (D K (.int (if b then 1 else 0))) M := fun E F H vs g h Q k => by
  obtain ⟨x, rfl, h1⟩ := ps1 h
  cases dp_bl h1
  exact .inr ⟨b, rfl, k _ F H (Evl.Ex.refl _) g (.int _)⟩
theorem et_andL {a : Bool} (h1 : EvT t Γ M (· = a) M1) (h2 : a = true → EvT u Γ M1 (fun _ => True) M1) : EvT (tAnd t u) Γ M (fun z => z = true → a = true) M1 := fun E F σ H x c Q k => h1 E F σ H x c _ fun z F1 H1 e1 g1 hz => by
  subst hz
  cases z with
  | true => exact h2 rfl E F1 σ H1 g1 (c.mono e1) _ fun z F2 H2 e2 g2 hz => k z F2 H2 (e1.trans e2) g2 fun _ => rfl
  | false => exact k false F1 H1 e1 g1 fun h => h
theorem ev_cbX1 {α : Type} {φ : α → Prop} {R : α → MP} {rc : List V → Hp → VK → Prop} (h : Ev te Γ M (PEx fun x => PAn (φ x) (R x)) M1) (hr : ∀ x, φ x → RC rc [R x] M1 P M2) : Ev (tCB rc (tCons te tNil)) Γ M P M2 := ev_cbX h fun x => RC.an1 fun hx => hr x hx
end
end Hq
namespace Hq
open PySem L2
theorem units1 {k : Nat} {A : Around} (r : Room k A) : A.units + 1 < cLine := by have := r.un; omega
/-! ### {t: e} with a tuple as key -/
def tDispT (tk tv : TE) : TE := fun σ H Q => ∀ p, H p = none → tk σ (upd H p (.dT [])) fun x H1 => tv σ H1 fun y H2 => ∃ (b : Addr) (ks : List Key), x = .ref b ∧ H2 p = some (.dT []) ∧ H2 b = some (.tup (ks.map kV)) ∧ Q (.ref p) (upd H2 p (.dT [(ks, y)]))
theorem pe_disp1T {X : Cx} {pos : Pos} {k v : PySem.Expr} {tk tv : TE} (hu : X.A.units + 64 < cLine) (hk : PE X k tk) (hv : PE X v tv) : PE X (.Dict [some k] [v] pos) (tDispT tk tv) := by
  refine ⟨fun pn st sg H Q I q => ?_⟩
  have hn := I.hok.fresh (Nat.le_refl st.heap.objs.size)
  have I1 := I.laid (a := st.heap.objs.size) (o := .dT []) (h' := st.heap.push { cls := .type "dict", data := .dict #[] }) (t' := st.toks) (fun _ _ z => Heap.get?_push_of_some _ z) (Nat.le_refl _) (dt_empty st.heap I.big)
  refine wpAny_Dict_any (keys := [some k]) (values := [v]) rfl rfl (by simp) (by simp) (pairTrees_cons_walk (thn (hk.run pn _ sg _ _ I1 (q _ hn)) fun u s1 ⟨x, H1, J1, rx, q1⟩ => thn (hv.run pn s1 sg H1 _ J1 q1) fun w2 s2 ⟨y, H2, I2, ry, q2⟩ => pairTrees_nil_walk ?_))
  obtain ⟨b, ks, rfl, e, eb, qq⟩ := q2
  cases (show u = Value.ref b from rx)
  obtain ⟨z, hd, xs, rel, dd⟩ := dt_of I2.hok e
  cases rel
  unfold storeAll
  refine wpAny_storeAllH (d := st.heap.objs.size) (knd := tupleKind (mixKind X.prog X.w)) (show (tupleKind (mixKind X.prog X.w)).room X.A from (show X.A.units < cLine by omega)) [(.ref b, w2)] [(ks, b, w2)] [] s2 _ ⟨rfl, rfl, key_of I2.hok eb, trivial⟩ dd (by show 1 ≤ sizeLine; rw [sizeLine_eq]; omega) fun h' tk dd' hs => ?_
  obtain ⟨o, es, ep, hq, h2, h3, h4, _, h5⟩ := dd'
  refine ⟨.ref _, upd H2 st.heap.objs.size (.dT [(ks, y)]), d_write I2 (by rw [e]; exact True.intro) hs ⟨o, hq⟩ ⟨by show 1 ≤ sizeLine; rw [sizeLine_eq]; omega, hd, [(ks, b, w2)], ?_, o, es, ep, hq, h2, h3, h4, h5⟩, rfl, qq⟩
  exact .cons ⟨rfl, by rw [upd_ne (ne_of eb e (fun z => nomatch z))]; exact eb, ry⟩ .nil
/-! ### tuples made here; a dict with them as keys -/
/-- a tuple of ints that stands in the heap itself -/
def NT (l : List Int) : MP := ⟨fun F v => ∃ b, v = .ref b ∧ F b = some (.tup (l.map V.int)), fun e ⟨b, h1, h2⟩ => ⟨b, h1, e _ _ h2⟩⟩
section
variable {K : PySem.W.Frag} {E : Ent} {F H : Hp} {M M1 M2 : Ms} {Γ : Gm} {P : MP} {O : MO} {q : Addr} {j : Nat} {te ta tb tk tv td : TE} {tr : TA} {D1 : Ends} {tz : TS} {t u : TT} {l a b : List Int} {L : List (List Int)}
theorem nt_T : (NT l).le (PTu K (l.map fun n => D K (.int n))) := fun F v ⟨p, h1, h2⟩ => ⟨p, l.map V.int, h1, SqT.of h2, map_ints l⟩
theorem nt_D : (NT l).le (D K (dT l)) := MP.le_trans nt_T dT_le
theorem kv_ints : (l.map Sum.inl : List Key).map kV = l.map V.int := by rw [List.map_map]; rfl
/-- the dict whose keys are these tuples, in this order -/
def MDct (L : List (List Int)) : MO := ⟨fun _ o => ∃ kvs : List (List Key × V), o = .dT kvs ∧ kvs.map (·.1) = L.map fun l => l.map Sum.inl, fun _ h => h⟩
theorem inl_inj {a b : List Int} : (a.map Sum.inl : List Key) = b.map Sum.inl ↔ a = b :=
  ⟨fun h => (List.map_inj_right (fun _ _ e => Sum.inl.inj e)).mp h, fun h => by rw [h]⟩
theorem dct_has {kvs : List (List Key × V)} (h : kvs.map (·.1) = L.map fun l => l.map Sum.inl) : (valV kvs (l.map Sum.inl)).isSome = decide (l ∈ L) := by
  rw [← valV_any, Bool.eq_iff_iff, List.any_eq_true, decide_eq_true_iff]
  constructor
  · rintro ⟨p, hp, e⟩
    have e : p.1 = l.map Sum.inl := by simpa using e
    have : p.1 ∈ L.map fun l => (l.map Sum.inl : List Key) := by rw [← h]; exact List.mem_map.mpr ⟨p, hp, rfl⟩
    obtain ⟨m, hm, e2⟩ := List.mem_map.mp this
    rw [e] at e2
    rw [← inl_inj.mp e2]; exact hm
  · intro hl
    have : (l.map Sum.inl : List Key) ∈ kvs.map (·.1) := by rw [h]; exact List.mem_map.mpr ⟨l, hl, rfl⟩
    obtain ⟨p, hp, e⟩ := List.mem_map.mp this
    exact ⟨p, hp, by simpa using e⟩
theorem evn_dispT (hk : ∀ M, Ev tk Γ M (NT l) M) (hv : ∀ M, Ev tv Γ M P M) : EvN (tDispT tk tv) Γ M (MDct [l]) M := fun E F σ H a b Q k p hp => by
  have g0 := a.new (q := p) (O := MDct []) (o := .dT []) hp ⟨[], rfl, rfl⟩
  refine hk _ E F σ _ g0 b _ fun x F1 H1 e1 g1 ⟨bb, ex, hb⟩ => hv _ E F1 σ H1 g1 (b.mono e1) _ fun y F2 H2 e2 g2 p2 => ?_
  subst ex
  obtain ⟨fq, o, ho, kvs, rfl, hkv⟩ := g2.at (j := 0) rfl
  have : kvs = [] := List.map_eq_nil_iff.mp hkv
  subst this
  refine ⟨bb, l.map Sum.inl, rfl, ho, by rw [kv_ints]; exact g2.ex _ _ (e2 _ _ hb), ?_⟩
  exact k p F2 _ (a.fresh hp) (e1.trans e2) (g2.mut (j := 0) rfl ⟨[(l.map Sum.inl, y)], rfl, rfl⟩)
theorem ev_dnotin (hk : Ev tk Γ M (NT l) M1) (hd : Ev td Γ M1 (Own q) M2) (e : M2[j]? = some (q, MDct L)) : Ev (tDNotIn tk td) Γ M (D K (.bool (!decide (l ∈ L)))) M2 := fun E F σ H a b Q k => by
  refine hk E F σ H a b _ fun x F1 H1 e1 g1 ⟨bb, ex, hb⟩ => hd E F1 σ H1 g1 (b.mono e1) _ fun y F2 H2 e2 g2 p2 => ?_
  subst ex
  have p2 : y = .ref q := p2
  subst p2
  obtain ⟨fq, o, ho, kvs, rfl, hkv⟩ := g2.at e
  refine ⟨q, _, rfl, DGet.t ho (by rw [kv_ints]; exact g2.ex _ _ (e2 _ _ hb)), ?_⟩
  rw [dct_has hkv]
  exact k _ F2 H2 (e1.trans e2) g2 (.bl _)
theorem go_dput (hv : Ev tv Γ M P M1) (hd : Ev td Γ M1 (Own q) M1) (hk : Ev tk Γ M1 (NT l) M1) (e : M1[j]? = some (q, MDct L)) (hl : l ∉ L) (hz : L.length < 100000) (k : Nx E Γ (M1.set j (q, MDct (L ++ [l]))) D1.nx) : Nx E Γ M (sDPut td tk tv D1) := fun σ H ⟨F, a, b⟩ => by
  refine hv E F σ H a b _ fun y F1 H1 e1 g1 p1 => hd E F1 σ H1 g1 (b.mono e1) _ fun x F2 H2 e2 g2 p2 => hk E F2 σ H2 g2 (b.mono (e1.trans e2)) _ fun z F3 H3 e3 g3 ⟨bb, ez, hb⟩ => ?_
  subst ez
  have p2 : x = .ref q := p2
  subst p2
  obtain ⟨fq, o, ho, kvs, rfl, hkv⟩ := g3.at e
  have hlen : kvs.length = L.length := by have := congrArg List.length hkv; simpa using this
  refine ⟨q, _, rfl, DPut.t ho (k := l.map Sum.inl) (by rw [kv_ints]; exact g3.ex _ _ hb) (sz_lt (by omega)), ?_⟩
  have hn : valV kvs (l.map Sum.inl) = none := by
    have := dct_has (l := l) hkv
    rw [decide_eq_false hl] at this
    cases z : valV kvs (l.map Sum.inl) with
    | none => rfl
    | some _ => rw [z] at this; cases this
  refine k _ _ ⟨F3, g3.mut e ⟨_, rfl, ?_⟩, b.mono ((e1.trans e2).trans e3)⟩
  rw [putK_new _ hn, List.map_append, List.map_append, hkv]; rfl
theorem q_dput (hv : Ev tv Γ M P M1) (hd : Ev td Γ M1 (Own q) M1) (hk : Ev tk Γ M1 (NT l) M1) (e : M1[j]? = some (q, MDct L)) (hl : l ∉ L) (hz : L.length < 100000) (k : Nx E Γ (M1.set j (q, MDct (L ++ [l]))) (tz D1)) : Nx E Γ M (tSeq (sDPut td tk tv) tz D1) :=
  go_dput (D1 := { D1 with nx := tz D1 }) hv hd hk e hl hz k
/-! made here: tuple(t), (x, y), t[a:b], t + u -/
theorem rc_tupleNT : RC (rTuple K) [NT l] M (NT l) M := fun E F H vs g h Q k => by
  obtain ⟨v, rfl, b, e, hb⟩ := ps1 h
  exact ⟨b, _, e ▸ rfl, .inr ⟨SqT.of (g.ex _ _ hb), k _ F H (Evl.Ex.refl _) g ⟨b, rfl, hb⟩⟩⟩
theorem rc_tupleNO {l : List Int} (e : M[j]? = some (q, MInts K l)) : RC (rTuple K) [Own q] M (NT l) M := fun E F H vs g h Q k => by
  obtain ⟨v, rfl, hv⟩ := ps1 h
  have hv : v = .ref q := hv
  subst hv
  obtain ⟨fq, o, ho, ws, rfl, s⟩ := g.at e
  have es := ints_map s
  subst es
  refine ⟨q, _, rfl, .inl ⟨SqL.of ho, fun p hp => ?_⟩⟩
  exact k _ _ _ (Evl.Ex.new (Evl.fresh_back g.ex hp)) (g.laid hp) ⟨p, rfl, upd_same⟩
theorem rc_tupleNL {l : List Int} : RC (rTuple K) [PLi K (l.map fun n => D K (.int n))] M (NT l) M := fun E F H vs g h Q k => by
  obtain ⟨v, rfl, b, ws, rfl, s, p⟩ := ps1 h
  have es := ints_map p
  subst es
  refine ⟨b, _, rfl, .inl ⟨Evl.ex_l g.ex s, fun r hr => ?_⟩⟩
  exact k _ _ _ (Evl.Ex.new (Evl.fresh_back g.ex hr)) (g.laid hr) ⟨r, rfl, upd_same⟩
theorem ev_tupNOf {φ : List Int → Prop} (h : EvN te Γ M (MX fun ns : List Int => MA (φ ns) (MInts K ns)) M1) : Ev (tCB (rTuple K) (tCons te tNil)) Γ M (PEx fun ns : List Int => PAn (φ ns) (NT ns)) M1 :=
  ev_cb (ea_cons ((ev_fr h).weak (MP.le_trans fr_X (PEx.le fun x => MP.le_trans fr_A (PAn.le fun _ => fr_L (K := K))))) ea_nil) (RC.ex1 fun ns => RC.an1 fun hφ => rc_tupleNL.weak (MP.le_trans (PAn.in hφ) (PEx.in (R := fun ns : List Int => PAn (φ ns) (NT ns)) ns)))
theorem ev_tupN2 {x y : Int} (h : EvA tr Γ M [D K (.int x), D K (.int y)] M1) : Ev (tTup tr) Γ M (NT [x, y]) M1 := fun E F σ H a b Q k =>
  h E F σ H a b _ fun vs F1 H1 e1 g1 p1 => by
    obtain ⟨v, w, rfl, h1, h2⟩ := ps2 p1
    cases dp_int h1; cases dp_int h2
    exact ⟨sz_of (by simp), fun p hp => k _ _ _ (e1.trans (Evl.Ex.new (Evl.fresh_back g1.ex hp))) (g1.laid hp) ⟨p, rfl, upd_same⟩⟩
theorem rv_catNT (h : a.length + b.length ≤ 100000) : RV (rCatA K) (NT a) (NT b) M (NT (a ++ b)) M := fun E F H x y g p1 p2 Q k => by
  obtain ⟨p, rfl, hp⟩ := p1
  obtain ⟨p', rfl, hp'⟩ := p2
  refine ⟨p, p', _, _, rfl, rfl, SqT.of (g.ex _ _ hp), SqT.of (g.ex _ _ hp'), sz_of (by simpa using h), fun e => ?_, fun _ e => ?_, fun _ _ r hr => ?_⟩
  · have : a = [] := by simpa using e
    subst this
    exact k _ F H (Evl.Ex.refl _) g ⟨p', rfl, hp'⟩
  · have : b = [] := by simpa using e
    subst this
    rw [List.append_nil] at k
    exact k _ F H (Evl.Ex.refl _) g ⟨p, rfl, hp⟩
  · refine k _ _ _ (Evl.Ex.new (Evl.fresh_back g.ex hr)) (g.laid hr) ⟨r, rfl, ?_⟩
    rw [List.map_append]
    exact upd_same
theorem ev_slNT {lo hi : Option Int} {tl th : TO} (h : Ev te Γ M (NT l) M1) (h1 : EvP tl Γ M1 lo) (h2 : EvP th Γ M1 hi) : Ev (tSl (rSlA K) te tl th) Γ M (NT (cutI l lo hi)) M1 := fun E F σ H a b Q k =>
  h E F σ H a b _ fun v F1 H1 e1 g1 p1 => h1 E F1 σ H1 g1 (b.mono e1) _ fun F2 H2 e2 g2 => h2 E F2 σ H2 g2 (b.mono (e1.trans e2)) _ fun F3 H3 e3 g3 => by
    have e23 := e2.trans e3
    obtain ⟨p, rfl, hp⟩ := (NT l).mono e23 p1
    have hl : (l.map V.int).length = l.length := List.length_map _
    refine ⟨p, _, rfl, SqT.of (g3.ex _ _ hp), fun hw => ?_, fun hw r hr => ?_⟩
    · rw [hl] at hw
      have : cutI l lo hi = l := by unfold cutI; rw [hw.1, hw.2]; simp
      rw [this] at k
      exact k _ _ _ (e1.trans e23) g3 ⟨p, rfl, hp⟩
    · refine k _ _ _ ((e1.trans e23).trans (Evl.Ex.new (Evl.fresh_back g3.ex hr))) (g3.laid hr) ⟨r, rfl, ?_⟩
      have : cutV (l.map V.int) lo hi = (cutI l lo hi).map V.int := by
        unfold cutV cutI
        rw [hl, List.map_take, List.map_drop]
      rw [this]
      exact upd_same
theorem ev_takeNT {n : Nat} {ti : TE} (h : Ev te Γ M (NT l) M1) (hi : Ev ti Γ M1 (D K (.int (n : Int))) M1) : Ev (tSl (rSlA K) te tNoPart (tPart ti)) Γ M (NT (l.take n)) M1 :=
  (ev_slNT h ep_none (ep_some hi)).is (by rw [cut_take])
theorem ev_dropNT {n : Nat} {ti : TE} (h : Ev te Γ M (NT l) M1) (hi : Ev ti Γ M1 (D K (.int (n : Int))) M1) : Ev (tSl (rSlA K) te (tPart ti) tNoPart) Γ M (NT (l.drop n)) M1 :=
  (ev_slNT h (ep_some hi) ep_none).is (by rw [cut_drop])
end
end Hq
namespace Hq
open PySem L2
/-! ### sorted(xs) of tuples of ints, none of them empty -/
open PySem.W in
theorem le_tups {β : Type} (x : β → List Int) : dataLe false (fun b => dT (x b)) = fun p q => decide (x p ≤ x q) := by
  funext p q
  show (!dataLt (.tuple ((x q).map .int)) (.tuple ((x p).map .int))) = _
  rw [dataLt_tuple]
  show (!rowLt ((x q).map .int) ((x p).map .int)) = _
  rw [dataLt_ints]
  rw [Bool.eq_iff_iff]
  simp [List.not_lt]
def rSortD (K : PySem.W.Frag) : List V → Hp → VK → Prop := fun vs H Q => ∃ (a : Addr) (xs : List V) (L : List (List Int)), vs = [.ref a] ∧ SqL K H a xs ∧ Paired (fun x l => Dp K H x (dT l)) xs L ∧ ((∀ l ∈ L, l ≠ []) ∨ L.length ≤ 1) ∧
  ∀ (B : List (V × List Int)) (p : Addr), B.Perm (xs.zip L) → (B.map (·.2)).Pairwise (· ≤ ·) → H p = none → Q (.ref p) (upd H p (.lst (B.map (·.1))))
theorem each_of {K : PySem.W.Frag} {H : Hp} : ∀ {xs : List V} {its : List Value} {L : List (List Int)}, Vals xs its → Paired (fun x l => Dp K H x (dT l)) xs L → PySem.W.EachIs (fun (v : Value) (b : V × List Int) => RelV b.1 v ∧ Dp K H b.1 (dT b.2)) its (xs.zip L)
  | _, _, _, .nil, .nil => .nil
  | _, _, _, .cons a t, .cons b u => .cons ⟨a, b⟩ (each_of t u)
theorem each_vals {K : PySem.W.Frag} {H : Hp} : ∀ {out : List Value} {B : List (V × List Int)}, PySem.W.EachIs (fun (v : Value) (b : V × List Int) => RelV b.1 v ∧ Dp K H b.1 (dT b.2)) out B → Vals (B.map (·.1)) out ∧ Paired (fun x l => Dp K H x (dT l)) (B.map (·.1)) (B.map (·.2))
  | _, _, .nil => ⟨.nil, .nil⟩
  | _, _, .cons a t => ⟨.cons a.1 (each_vals t).1, .cons a.2 (each_vals t).2⟩
theorem perm_short {α : Type} : ∀ {l m : List α}, l.length ≤ 1 → m.Perm l → m = l
  | [], _, _, p => p.eq_nil
  | [x], _, _, p => List.perm_singleton.mp p
  | _ :: _ :: _, _, h, _ => absurd h (by simp)
theorem pw_short {α : Type} {r : α → α → Prop} : ∀ {l : List α}, l.length ≤ 1 → l.Pairwise r
  | [], _ => .nil
  | [x], _ => List.pairwise_singleton _ _
  | _ :: _ :: _, h => absurd h (by simp)
theorem cr_sortD {X : Cx} (hu : X.A.units + 64 < cLine) : CallR X (.builtin "sorted") (rSortD X.K) := by
  intro pn st sg H vs us Q I r h
  obtain ⟨a, xs, L, rfl, hs, hp, hne, q⟩ := h
  obtain ⟨its, rv, hl, hz⟩ := I.list hs
  rw [Vals.ref1 r]
  have hlen : xs.length = L.length := paired_len hp
  have e := each_of rv hp
  rcases hne with hne | hne
  case inr =>
    refine SrtO.sorted_ord SrtO.swo_int hl.isList (by rw [← rv.length]; exact hz) (fun h2 => absurd h2 (by have := rv.length; omega)) fun out h1 h2 => ?_
    have hpm : out.Perm its := h2.perm
    have ho : out = its := perm_short (by have := rv.length; omega) hpm
    subst ho
    obtain ⟨ep, he⟩ := PyProof.Rows.sortedAll_at st.heap out out.toArray
    have hx : (xs.zip L).map (·.1) = xs := List.map_fst_zip (by omega)
    have hy : (xs.zip L).map (·.2) = L := List.map_snd_zip (by omega)
    refine ⟨.ref _, upd H (st.heap.objs.size + 1) (.lst xs), I.laid (t' := st.toks) (fun _ _ => PyProof.Rows.sortedAll_old) (Nat.le_succ _) ⟨hz, out, ep, rv, he⟩, rfl, ?_⟩
    have := q (xs.zip L) _ (.refl _) (by rw [hy]; exact pw_short hne) (I.hok.fresh (Nat.le_succ _))
    rw [hx] at this
    exact this
  refine PySem.W.sorted_data (β := V × List Int) (enc := fun b => dT b.2) hl.isList e (e.mono fun v b ⟨h1, h2⟩ => Dp.reads I _ _ _ h2 h1) (PySem.W.AllAlike.of fun b b' => ?_) (.inl fun d hd => ?_) ?_ (fun b _ => ?_) fun out ho eo => ?_
  · show PySem.W.alike (.tuple _) (.tuple _) = true
    simp only [PySem.W.alike]
    exact PySem.W.alike_ints _ _
  · obtain ⟨b, hb, rfl⟩ := List.mem_map.mp hd
    have hm : b.2 ∈ L := (List.of_mem_zip hb).2
    cases z : b.2 with
    | nil => exact absurd z (hne _ hm)
    | cons i t => exact ⟨.int i, t.map .int, rfl⟩
  · rw [List.length_zip, hlen, Nat.min_self, ← hlen]; exact hz
  · have := enc_dT.deep b.2
    omega
  · rw [le_tups (fun b : V × List Int => b.2)] at eo
    obtain ⟨v1, v2⟩ := each_vals eo
    have pm : ((xs.zip L).mergeSort fun p q => decide (p.2 ≤ q.2)).Perm (xs.zip L) := List.mergeSort_perm _ _
    have pw : ((xs.zip L).mergeSort fun p q => decide (p.2 ≤ q.2)).Pairwise fun p q => decide (p.2 ≤ q.2) = true := List.pairwise_mergeSort (fun x y z h1 h2 => by
      simp only [decide_eq_true_eq] at *
      exact List.le_trans h1 h2) (fun x y => by
      simp only [Bool.or_eq_true, decide_eq_true_eq]
      exact List.le_total _ _) _
    obtain ⟨ep, he⟩ := PyProof.Rows.sortedAll_at st.heap its out.toArray
    have hl2 : (((xs.zip L).mergeSort fun p q => decide (p.2 ≤ q.2)).map (·.1)).length ≤ sizeLine := by
      rw [List.length_map, pm.length_eq, List.length_zip, hlen, Nat.min_self, ← hlen]; exact hz
    refine ⟨.ref _, upd H (st.heap.objs.size + 1) (.lst (((xs.zip L).mergeSort fun p q => decide (p.2 ≤ q.2)).map (·.1))), I.laid (t' := st.toks) (fun _ _ => PyProof.Rows.sortedAll_old) (Nat.le_succ _) ⟨hl2, out, ep, v1, he⟩, rfl, ?_⟩
    refine q _ _ pm ?_ (I.hok.fresh (Nat.le_succ _))
    rw [List.pairwise_map]
    exact pw.imp fun h => by simpa using h
theorem c_sortD {K : PySem.W.Frag} {Y : Cx} (e : Y.K = K) (hu : Y.A.units + 64 < cLine) : CallR Y (.builtin "sorted") (rSortD K) := e ▸ cr_sortD hu
theorem nts_dp {K : PySem.W.Frag} {F H : Hp} (x : Ex F H) : ∀ {ws : List V} {L : List (List Int)}, Ps F ws (L.map NT) → Paired (fun x l => Dp K H x (dT l)) ws L
  | [], [], _ => .nil
  | _ :: _, [], h => by cases h
  | [], _ :: _, h => by cases h
  | w :: ws, l :: L, h => by
    cases h with
    | cons a t => exact .cons (Dp.mono x (nt_D (K := K) _ _ a)) (nts_dp x t)
theorem nts_zip {F : Hp} : ∀ {ws : List V} {L : List (List Int)}, Ps F ws (L.map NT) → ∀ b ∈ ws.zip L, (NT b.2).p F b.1
  | [], _, _, b, hb => by cases hb
  | _ :: _, [], _, b, hb => by cases hb
  | w :: ws, l :: L, h, b, hb => by
    cases h with
    | cons a t =>
      rcases List.mem_cons.mp hb with rfl | hb
      · exact a
      · exact nts_zip t b hb
theorem nts_of {F : Hp} : ∀ {B : List (V × List Int)}, (∀ b ∈ B, (NT b.2).p F b.1) → Ps F (B.map (·.1)) ((B.map (·.2)).map NT)
  | [], _ => .nil
  | b :: B, h => .cons (h b List.mem_cons_self) (nts_of fun c hc => h c (List.mem_cons_of_mem _ hc))
theorem rcn_sortD {K : PySem.W.Frag} {M : Ms} {q : Addr} {j : Nat} {L : List (List Int)} (e : M[j]? = some (q, ML (L.map NT))) (hne : (∀ l ∈ L, l ≠ []) ∨ L.length ≤ 1) : RCN (rSortD K) [Own q] M (MX fun L' : List (List Int) => MA (L'.Perm L ∧ L'.Pairwise (· ≤ ·)) (ML (L'.map NT))) M := fun E F H vs a h Q k => by
  obtain ⟨v, rfl, hv⟩ := ps1 h
  have hv : v = .ref q := hv
  subst hv
  obtain ⟨_, o, ho, ws, rfl, s⟩ := a.at e
  have hl : ws.length = L.length := by have := paired_len s; rwa [List.length_map] at this
  refine ⟨q, ws, L, rfl, SqL.of ho, nts_dp a.ex s, hne, fun B p hp hs hf => ?_⟩
  have hz := nts_zip s
  refine k p F _ (a.fresh hf) (Evl.Ex.refl _) (a.new hf ⟨B.map (·.2), ⟨?_, hs⟩, _, rfl, nts_of fun b hb => hz b (hp.subset hb)⟩)
  have := hp.map (·.2)
  rwa [List.map_snd_zip (by omega)] at this
theorem dps_ps {K : PySem.W.Frag} {F : Hp} : ∀ {ws : List V} {L : List (List Int)}, Paired (fun x l => Dp K F x (dT l)) ws L → Ps F ws (L.map fun l => D K (dT l))
  | _, _, .nil => .nil
  | _, _, .cons a t => .cons a (dps_ps t)
end Hq
namespace Hq
open PySem L2
theorem nts_list {K : PySem.W.Frag} {L : List (List Int)} : (PLi K (L.map NT)).le (PLi K (L.map fun l => D K (dT l))) := fun F v ⟨p, vs, h1, h2, h3⟩ => ⟨p, vs, h1, h2, by
  have : ∀ {L : List (List Int)} {vs : List V}, Ps F vs (L.map NT) → Ps F vs (L.map fun l => D K (dT l)) := by
    intro L
    induction L with
    | nil => intro vs h; cases h; exact .nil
    | cons l L ih => intro vs h; cases h with | cons a t => exact .cons (nt_D (K := K) _ _ a) (ih t)
  exact this h3⟩
theorem rv_isB {K : PySem.W.Frag} {M : Ms} {a b : Bool} : RV rIsB (D K (.bool a)) (D K (.bool b)) M (D K (.bool (decide (a = b)))) M := rv_val (z := .bl _) (fun _ => .bl _) fun F H x y p1 p2 _ Q q => by
  cases dp_bl p1; cases dp_bl p2
  exact ⟨a, b, rfl, rfl, q⟩
end Hq
namespace Hq
open PySem L2
section
variable {K : PySem.W.Frag} {E : Ent} {F H : Hp} {M M1 M2 : Ms} {Γ : Gm} {P : MP} {O : MO} {q : Addr} {j : Nat} {te ta tb tk tv td : TE} {tr : TA} {D1 : Ends} {tz : TS} {t u : TT} {l a b : List Int} {L : List (List Int)} {ps : List MP}
/-- xs[i] = x, both drawn -/
theorem go_setLX {lo hi : Int} (h : Ev te Γ M (PIn K lo hi) M1) (ho : Ev ta Γ M1 (Own q) M1) (hb : Ev tb Γ M1 (PIn K 0 l.length) M2) (e : M2[j]? = some (q, MInts K l))
    (k : ∀ (i : Nat) (x : Int), i < l.length → lo ≤ x → x < hi → Nx E Γ (M2.set j (q, MInts K (l.set i x))) D1.nx) : Nx E Γ M (tAsg te (gSub ta tb rSetL) D1) := fun σ H ⟨F, a, b⟩ => h E F σ H a b _ fun w F0 H0 e0 g0 ⟨x, hx, p0⟩ => ho E F0 σ H0 g0 (b.mono e0) _ fun v F1 H1 e1 g1 p1 => by
  have p1 : v = .ref q := p1
  subst p1
  cases dp_int p0
  refine hb E F1 σ H1 g1 (b.mono (e0.trans e1)) _ fun z F2 H2 e2 g2 ⟨i, hi, p2⟩ => ?_
  cases dp_int p2
  obtain ⟨_, o, ho2, ws, rfl, s⟩ := g2.at e
  have es := ints_map s
  subst es
  obtain ⟨n, rfl⟩ := Int.eq_ofNat_of_zero_le hi.1
  have hn : n < l.length := by omega
  refine ⟨q, _, n, n, rfl, rfl, ho2, Evl.ixN_nat (by rw [List.length_map]; exact hn), ?_⟩
  exact k n x hn hx.1 hx.2 _ _ ⟨F2, g2.mut e ⟨_, rfl, by rw [← List.map_set]; exact map_ints _⟩, b.mono ((e0.trans e1).trans e2)⟩
/-- a slice of an own list of ints -/
theorem evn_slLO {lo hi : Option Int} {tl th : TO} (ho : Ev ta Γ M (Own q) M) (h1 : EvP tl Γ M lo) (h2 : EvP th Γ M hi) (e : M[j]? = some (q, MInts K l)) : EvN (tSl (rSlL K) ta tl th) Γ M (MInts K (cutI l lo hi)) M := fun E F σ H a b Q k =>
  ho E F σ H a b _ fun v F1 H1 e1 g1 p1 => h1 E F1 σ H1 g1 (b.mono e1) _ fun F2 H2 e2 g2 => h2 E F2 σ H2 g2 (b.mono (e1.trans e2)) _ fun F3 H3 e3 g3 => by
    have p1 : v = .ref q := p1
    subst p1
    obtain ⟨_, o, ho2, ws, rfl, s⟩ := g3.at e
    have es := ints_map s
    subst es
    refine ⟨q, _, rfl, SqL.of ho2, fun p hp => ?_⟩
    refine k p F3 _ (g3.fresh hp) ((e1.trans e2).trans e3) (g3.new hp ⟨(cutI l lo hi).map V.int, ?_, map_ints _⟩)
    unfold cutV cutI
    rw [List.length_map, List.map_take, List.map_drop]
/-- in, over a list of tuples -/
theorem c_inD {Y : Cx} (e : Y.K = K) (hu : Y.A.units + 65 < cLine) : OpR Y (compareOp .In) (rInD K) := e ▸ op_inD hu
theorem c_notInD {Y : Cx} (e : Y.K = K) (hu : Y.A.units + 65 < cLine) : OpR Y (compareOp .NotIn) (rNotInD K) := e ▸ op_notInD hu
theorem any_enc {α : Type} [DecidableEq α] {f : α → PyData} {n : Nat} (en : Enc f n) (x : α) : ∀ l : List α, ((l.map f).any fun z => PyData.eqv z (f x)) = decide (x ∈ l)
  | [] => rfl
  | y :: l => by
    rw [List.map_cons, List.any_cons, en.eq, any_enc en x l]
    by_cases h1 : y = x
    · subst h1; simp
    · have h2 : ¬ x = y := fun e => h1 e.symm
      by_cases h3 : x ∈ l <;> simp [h1, h2, h3]
theorem rv_inD {α : Type} [DecidableEq α] {f : α → PyData} {n : Nat} (en : Enc f n) (hn : n + 1 ≤ 64) {x : α} {l : List α} : RV (rInD K) (D K (f x)) (D K (.list (l.map f))) M (D K (.bool (decide (x ∈ l)))) M := rv_val (z := .bl _) (fun _ => .bl _) fun F H y z p1 p2 ex Q k =>
  ⟨_, _, Dp.mono ex p1, Dp.mono ex p2, en.shaped (by omega) x, (enc_list en).shaped hn l, by rw [any_enc en]; exact k⟩
theorem rv_notInD {α : Type} [DecidableEq α] {f : α → PyData} {n : Nat} (en : Enc f n) (hn : n + 1 ≤ 64) {x : α} {l : List α} : RV (rNotInD K) (D K (f x)) (D K (.list (l.map f))) M (D K (.bool (!decide (x ∈ l)))) M := rv_val (z := .bl _) (fun _ => .bl _) fun F H y z p1 p2 ex Q k =>
  ⟨_, _, Dp.mono ex p1, Dp.mono ex p2, en.shaped (by omega) x, (enc_list en).shaped hn l, by rw [any_enc en]; exact k⟩
theorem rv_inB {α : Type} [DecidableEq α] {f : α → PyData} {n : Nat} {b : Bool} (en : Enc f n) (hn : n + 1 ≤ 64) {x : α} {l : List α} (hb : b = true ↔ x ∈ l) : RV (rInD K) (D K (f x)) (D K (.list (l.map f))) M (D K (.bool b)) M :=
  (rv_inD en hn).weak (fun F v h => by
    have : decide (x ∈ l) = b := by rw [Bool.eq_iff_iff, decide_eq_true_iff, hb]
    rwa [this] at h)
theorem rv_notInB {α : Type} [DecidableEq α] {f : α → PyData} {n : Nat} {b : Bool} (en : Enc f n) (hn : n + 1 ≤ 64) {x : α} {l : List α} (hb : b = true ↔ x ∉ l) : RV (rNotInD K) (D K (f x)) (D K (.list (l.map f))) M (D K (.bool b)) M :=
  (rv_notInD en hn).weak (fun F v h => by
    have : (!decide (x ∈ l)) = b := by rw [Bool.eq_iff_iff, hb]; simp
    rwa [this] at h)
theorem ev_lenI (h : Ev te Γ M (Own q) M1) (e : M1[j]? = some (q, MInts K l)) : Ev (tCB (rLn K) (tCons te tNil)) Γ M (D K (.int l.length)) M1 := by
  have := ev_cb (ea_cons h ea_nil) (rc_lenO (K := K) e)
  rw [List.length_map] at this
  exact this
theorem evn_cbX1 {α : Type} {φ : α → Prop} {R : α → MP} {rc : List V → Hp → VK → Prop} (h : Ev te Γ M (PEx fun x => PAn (φ x) (R x)) M1) (hr : ∀ x, φ x → RCN rc [R x] M1 O M2) : EvN (tCB rc (tCons te tNil)) Γ M O M2 := evn_cb (ea_cons h ea_nil) (RCN.ex1 fun x => RCN.an1 fun hx => hr x hx)
theorem mxa_in {φ : List Int → Prop} (h : φ l) : ∀ F o, (MInts K l).p F o → (MX fun l : List Int => MA (φ l) (MInts K l)).p F o := fun F o p => ⟨l, h, p⟩
theorem MP.of_eq {P P' : MP} (h : P = P') : P.le P' := fun _ _ p => h ▸ p
end
end Hq
namespace Hq
open PySem PySem.Spec PyProof.Rows L2
/-! ### enumerate(t), a tuple -/
set_option maxHeartbeats 1000000 in
theorem enumNew1 {v : Value} {o : Obj} {Hh : Heap → Prop} (B : Begins v o Hh) :
    Meets (Builtin.«enumerate.__new__» ⟨[.type "enumerate", v], []⟩) (fun _ R s => Hh s.heap ∧
      R (.ok (.ret (.ref (s.heap.push o).objs.size))) { s with heap := (s.heap.push o).push { cls := .type "enumerate", data := .fields #[.none, .bool false, .ref s.heap.objs.size, rawInt 0, .none, .none] } }) :=
  .of_wp fun prog w A R s hh => by
    obtain ⟨hp, g, d, tk, os⟩ := s
    obtain ⟨h1, hr⟩ := hh
    have sb := sub_enumerate
    have q1 : ∀ {A' : Around} {E : Value → Shared → Prop} {Q : Value → Shared → Prop}, Q (.ref hp.objs.size) ⟨hp.push o, g, d, tk, os⟩ → wpAny (model prog w) A' (pyIter v) Q E ⟨hp, g, d, tk, os⟩ :=
      fun q => B.iter prog w _ _ ⟨hp, g, d, tk, os⟩ _ h1 q
    wp_walk using q1
    refine wpAny_stack_any fun st => wpAny_pure ?_
    split
    · rename_i c _ _ _ _ _
      cases (c == Value.type "enumerate") <;> (wp_walk using q1; exact ⟨_, rfl, hr⟩)
    · wp_walk using q1
      exact ⟨_, rfl, hr⟩
section
variable {prog : Program} {w : World} {A : Around} {E : Value → Shared → Prop} {s : Shared}
theorem enumBegins1 {v : Value} {o : Obj} {Hh : Heap → Prop} {Q : Value → Shared → Prop} (B : Begins v o Hh) (h1 : Hh s.heap)
    (h : ∀ h', IsEnum h' (s.heap.objs.size + 1) s.heap.objs.size 0 .none → h'.get? s.heap.objs.size = some o → h'.objs.size = s.heap.objs.size + 2 →
      (∀ b o, s.heap.get? b = some o → h'.get? b = some o) → Q (.ref (s.heap.objs.size + 1)) { s with heap := h' }) :
    wpAny (model prog w) A (call (.type "enumerate") [v]) Q E s := by
  refine callType_new F.called_enumerate (by decide) (F.typeCall_enumerate_1 _) (F.newCall_enumerate_1 _) (fun obj => F.args_object_init_2 obj _) F.entry_enumerate_new (enumNew1 B) ⟨h1, ?_⟩
  have hz : (s.heap.push o).objs.size = s.heap.objs.size + 1 := Heap.size_push ..
  show _ ∧ _
  rw [hz]
  have he : IsEnum ((s.heap.push o).push { cls := .type "enumerate", data := .fields #[.none, .bool false, .ref s.heap.objs.size, rawInt 0, .none, .none] }) (s.heap.objs.size + 1) s.heap.objs.size 0 .none := by
    have z := Heap.get?_push_size (s.heap.push o) (o := { cls := .type "enumerate", data := .fields #[.none, .bool false, .ref s.heap.objs.size, rawInt 0, .none, .none] }) rfl
    rw [hz] at z; exact z
  exact ⟨⟨_, he, rfl⟩, h _ he (Heap.get?_push_of_some _ (Heap.get?_push_size _ B.free)) (by rw [Heap.size_push, hz]) fun b o x => Heap.get?_push_of_some _ (Heap.get?_push_of_some _ x)⟩
end
/-- the tuple at a as it stands at each turn, each item in a new pair -/
def IteT (K : PySem.W.Frag) (a : Addr) : It :=
  ⟨fun i H => ∃ (xs : List V) (x : V), SqT K H a xs ∧ xs[i]? = some x, fun i H v H' => ∃ T x, v = .ref T ∧ H T = none ∧ H' = upd H T (.tup [.int (i : Nat), x]) ∧ ∀ xs, SqT K H a xs → xs[i]? = some x, fun i H => ∃ xs : List V, SqT K H a xs ∧ xs.length ≤ i⟩
theorem turnEnumT {P : Program} {w : World} {K : PySem.W.Frag} {elts : List Expr} {kk : Nat} {tpos : Pos} (a e it : Addr) (hai : a ≠ it) (hae : a ≠ e) :
    Turn P w K (.Tuple elts kk tpos) (IteT K a) [e, it] e (fun i h => (∃ old, IsEnum h e it ((i : Nat) : Int) old) ∧ h.IsTupleIter it a i ∧ e ≠ it) where
  mem := by simp
  obj := fun i h st b hb => by
    obtain ⟨⟨old, he⟩, ⟨o, ho, hc, hd⟩, _⟩ := st
    have e' : b = e ∨ b = it := by simpa using hb
    rcases e' with z | z
    · rw [z]; exact ⟨_, he, fun v q => nomatch q⟩
    · rw [z]; exact ⟨o, ho, fun v q => by rw [hd] at q; cases q⟩
  keep := fun i h h' st k => by
    obtain ⟨⟨old, he⟩, hi, hne⟩ := st
    exact ⟨⟨old, k e (by simp) _ he⟩, hi.at fun o q => k it (by simp) o q, hne⟩
  item := by
    intro X hP hw hK hc i pins s σ H E I hf st hg
    subst hP hw hK
    obtain ⟨⟨old, he⟩, hit, hne⟩ := st
    obtain ⟨xs, x, hq, hx⟩ := hg
    obtain ⟨its, rv, p, hz⟩ := I.tuple hq
    obtain ⟨u, hu, ru⟩ := rv.get hx
    have p : s.heap.IsTuple a its.toArray := p
    have hel : e < s.heap.objs.size := Heap.lt_size he
    have hil : it < s.heap.objs.size := by obtain ⟨_, q, _⟩ := hit; exact Heap.lt_size q
    have hlt : i < its.toArray.size := by
      have := (List.getElem?_eq_some_iff.mp hu).1
      simpa using this
    have DD := Draws.tuple (prog := X.prog) (w := X.w) (A := X.A.in1) (I.ok.hd hc) it a hai its.toArray
    refine wpAny_pyNext_enum_itemD DD he (show s.heap.IsTupleIter it a i ∧ s.heap.IsTuple a its.toArray from ⟨hit, p⟩) hlt hne (by simp only [List.mem_cons, List.not_mem_nil, or_false, not_or]; exact ⟨hne, fun q => hae q.symm⟩) fun x2 h' tk hP ho hst' hT hsz hk => ?_
    have ex2 : u = x2 := by
      have hu2 : its.toArray[i]? = some u := by simpa using hu
      rw [hu2] at hP
      exact Option.some.inj hP
    subst ex2
    refine ⟨_, rfl, wpAny_letOwnedTupleGo_enum (s := { s with heap := h', toks := tk + 1 }) ho fun h'' he' sb => ?_⟩
    have hT2 : h''.get? s.heap.objs.size = some { cls := .type "tuple", data := .seq #[.int i tk, u] } := (sb.2 _ (Nat.ne_of_gt hel)).trans hT
    have new : ObjOk X.prog X.w (upd H s.heap.objs.size (.tup [.int (i : Nat), x])) h'' s.heap.objs.size (.tup [.int (i : Nat), x]) :=
      ⟨by show 2 ≤ sizeLine; decide, [.int i tk, u], .cons ⟨_, rfl⟩ (.cons ru .nil), ⟨_, hT2, rfl, _, rfl⟩⟩
    have I1 : Inv X pins σ (upd H s.heap.objs.size (.tup [.int (i : Nat), x])) { s with heap := h'', toks := tk + 1 } :=
      I.turnedNew (ch := [e, it]) (fun b ob hb q => (sb.2 b (fun z => hb (by simp [z]))).trans (hk b ob (fun z => hb (by simp [z])) (fun z => hb (by simp [z])) q)) hf (Nat.le_refl _) new
    refine ⟨.ref s.heap.objs.size, _, I1, rfl, ⟨_, x, rfl, I.hok.fresh (Nat.le_refl _), rfl, fun ys hy => by rw [I.tuple_inj hy hq]; exact hx⟩, ⟨⟨u, ?_⟩, hst'.1.at fun o q => (sb.2 it (Ne.symm hne)).trans q, hne⟩, fun b hb => ?_⟩
    · have e1 : ((i + 1 : Nat) : Int) = (i : Int) + 1 := by omega
      rw [e1]; exact he'
    · have hb' : b < s.heap.objs.size := by
        have e' : b = e ∨ b = it := by simpa using hb
        rcases e' with z | z
        · rw [z]; exact hel
        · rw [z]; exact hil
      rw [upd_ne (Nat.ne_of_lt hb')]
      exact (hf b hb).1
  done := by
    intro X hP hw hK hc i pins s σ H E I hf st hg
    subst hP hw hK
    obtain ⟨⟨old, he⟩, hit, hne⟩ := st
    obtain ⟨xs, hq, hx⟩ := hg
    obtain ⟨its, rv, p, hz⟩ := I.tuple hq
    obtain ⟨f0, f1, f2, f3, f4, f5⟩ := hf it (by simp)
    have hl := rv.length
    have p : s.heap.IsTuple a its.toArray := p
    have hT : s.TypeIs (.ref e) "enumerate" := ⟨_, he, rfl⟩
    unfold pyNext
    refine wpAny_bind (wpAny_attempt (wpAny_callSpecial?_slot (name := Str.ofString "__next__") hT F.slot_enumerate_next
      (wpAny_call_entry F.slot_enumerate_next hT F.entry_enumerate_next ?_ (F.args_enumerate_next_1 _))))
    show wpAny _ _ (field (.ref e) 2 >>= fun _ => _) _ _ s
    refine wpAny_bind (wpAny_field he rfl (x := .ref it) rfl ?_)
    refine wpAny_bind (wpAny_nextOf_tuple_end (A := X.A.in1) (I.ok.hd hc) hit p (by simp; omega) fun h' x he' hx' => ?_)
    obtain ⟨o, ho, hcl⟩ := hx'
    refine wpAny_bind (wpAny_isInstance (T := "StopIteration") (b := true) ⟨o, ho, hcl⟩ isSubtype_stop ?_)
    exact wpAny_pure ⟨rfl, I.turned (t' := s.toks) (fun b o hb q => he' b o hb q) f0 f1 f3 f4 f5⟩
  self := fun A i s Q E st h => let ⟨⟨_, he⟩, _⟩ := st; wpAny_pyIter_enum he h
def iEnumT (K : PySem.W.Frag) (ta : TA) : TI := fun σ H R => ta σ H fun vs H1 => ∃ a xs, vs = [.ref a] ∧ SqT K H1 a xs ∧ R (IteT K a) H1
theorem pi_enumT {X : Cx} {e : PySem.Expr} {ta : TA} {p pos tpos : Pos} {elts : List PySem.Expr} {kk : Nat} (hg : Gl X "enumerate") (hm : X.mg "enumerate" = none) (ha : PA X [e] ta) (hs : starEach [e] X.env = [(false, eval e X.env)] := by rfl) :
    PI X (.Tuple elts kk tpos) (.Call (.Name "enumerate" p) [e] [] pos) (iEnumT X.K ta) := by
  refine ⟨fun pins s σ H R I h => ?_⟩
  refine Call_ (ld_blt I hg hm boot_enumerate (PyProof.Rows.callWith_type1 (thn (ha.run pos pins s σ H _ I h) fun us s1 ⟨vs, H1, I1, r1, q1⟩ => ?_) hs rfl))
  obtain ⟨a, xs, ex, hq, q⟩ := q1
  subst ex
  cases r1 with
  | cons r rr =>
    cases rr
    cases r
    obtain ⟨its, rv, p', hz⟩ := I1.tuple hq
    have p' : s1.heap.IsTuple a its.toArray := p'
    have hal : a < s1.heap.objs.size := by obtain ⟨o, q, _⟩ := id p'; exact Heap.lt_size q
    refine enumBegins1 (begins_tuple a its.toArray) p' fun h' he hit hsz hk => wpAny_pyIter_enum he ?_
    have I2 : Inv X pins σ H1 { s1 with heap := h' } := I1.kept (t' := s1.toks) hk
    refine ⟨s1.heap.objs.size + 1, [s1.heap.objs.size + 1, s1.heap.objs.size], _, _, H1, rfl, I2, turnEnumT a (s1.heap.objs.size + 1) s1.heap.objs.size (Nat.ne_of_lt hal) (Nat.ne_of_lt (Nat.lt_succ_of_lt hal)), ⟨⟨.none, he⟩, ⟨_, hit, rfl, rfl⟩, Nat.succ_ne_self _⟩, fun b hb => ?_, q⟩
    have e' : b = s1.heap.objs.size + 1 ∨ b = s1.heap.objs.size := by simpa using hb
    have hle : s1.heap.objs.size ≤ b := by
      rcases e' with z | z
      · rw [z]; exact Nat.le_add_right _ _
      · rw [z]; exact Nat.le_refl _
    exact I1.fpOk hle (I1.hok.fresh hle)
theorem pi_enumK {X : Cx} {K : PySem.W.Frag} {e : PySem.Expr} {ta : TA} {p pos tpos : Pos} {elts : List PySem.Expr} {kk : Nat} (eK : X.K = K) (hg : Gl X "enumerate") (hm : X.mg "enumerate" = none) (ha : PA X [e] ta) (hs : starEach [e] X.env = [(false, eval e X.env)] := by rfl) :
    PI X (.Tuple elts kk tpos) (.Call (.Name "enumerate" p) [e] [] pos) (iEnum K ta) := eK ▸ pi_enum hg hm ha hs
theorem pi_enumTK {X : Cx} {K : PySem.W.Frag} {e : PySem.Expr} {ta : TA} {p pos tpos : Pos} {elts : List PySem.Expr} {kk : Nat} (eK : X.K = K) (hg : Gl X "enumerate") (hm : X.mg "enumerate" = none) (ha : PA X [e] ta) (hs : starEach [e] X.env = [(false, eval e X.env)] := by rfl) :
    PI X (.Tuple elts kk tpos) (.Call (.Name "enumerate" p) [e] [] pos) (iEnumT K ta) := eK ▸ pi_enumT hg hm ha hs
end Hq
namespace Hq
open PySem L2
section
variable {K : PySem.W.Frag} {E : Ent} {F H : Hp} {M M1 M2 : Ms} {Γ : Gm} {P : MP} {O : MO} {q : Addr} {te ta tb tl tk : TE} {tr : TA} {D1 : Ends} {tu tz : TS} {t u : TT} {ps : List MP} {i j : Nat}
abbrev gPair (K : PySem.W.Frag) (i j : Nat) : TG := gTup K 2 (gCons (gName i) (gCons (gName j) gNil))
theorem wipe_two {σ : St} {x y : V} (h : i ≠ j) : wipe (((wipe σ [i, j]).set i (some x)).set j (some y)) [i, j] = wipe σ [i, j] := by
  show ((((((σ.set j none).set i none).set i (some x)).set j (some y)).set j none).set i none) = (σ.set j none).set i none
  apply List.ext_getElem?
  intro k
  simp only [List.getElem?_set, List.length_set]
  by_cases h1 : j = k <;> by_cases h2 : i = k <;> simp [h1, h2]
theorem env_wipe2 {σ : St} (h : EnvOk F σ Γ) : EnvOk F (wipe σ [i, j]) ((Γ.set j none).set i none) := (h.forget j).forget i
section
variable {γ : Type} {zs : List γ} {RA RB G : γ → MP} {f : γ → Bool} {J : It} {Gd : Hp → Prop} {us vs : List V}
/-- a comprehension over pairs -/
theorem lc_pairs {F1 H1 : Hp} {σ : St} {Q : VK} (hij : i ≠ j) (w : Walk J zs.length Gd (YPair (fun i => us[i]?) (fun i => vs[i]?))) (hz : zs.length ≤ 50000)
    (g1 : Pt E F1 M1 H1) (b : EnvOk F1 σ Γ) (hu : Ps F1 us (zs.map RA)) (hv : Ps F1 vs (zs.map RB)) (hG : ∀ F' H', Ex F1 F' → Ex F' H' → Gd H')
    (ht : ∀ z ∈ zs, EvT t ((((Γ.set j none).set i none).set i (some (RA z))).set j (some (RB z))) M1 (· = f z) M1)
    (he : ∀ z ∈ zs, f z = true → Ev te ((((Γ.set j none).set i none).set i (some (RA z))).set j (some (RB z))) M1 (G z) M1)
    (k : ContN E F1 (ML ((zs.filter f).map G)) M1 Q) : ∀ D, H1 D = none → ∃ W : Nat → Nat → Hp → Prop, (∃ m, W 0 m (upd H1 D (.lst []))) ∧ ∀ n m H, W n m H →
      (J.stop n H ∧ Q (.ref D) H) ∨ (J.go n H ∧ ∃ Nx : Hp → Prop, (∀ H', Nx H' → ∃ m', m' < m ∧ W (n + 1) m' H') ∧ ∀ x H', J.yld n H x H' → gPair K i j x (wipe σ [i, j]) H' fun σ2 H2 => wipe σ2 [i, j] = wipe σ [i, j] ∧ t σ2 H2 fun b H3 =>
        if b = true then te σ2 H3 fun y H4 => ∃ acc, H4 D = some (.lst acc) ∧ acc.length < sizeLine ∧ Nx (upd H4 D (.lst (acc ++ [y]))) else Nx H3) := by
  intro D2 hD
  have gn : Pt ⟨F1, H1, keys M1⟩ F1 ((D2, ML []) :: M1) (upd H1 D2 (.lst [])) := g1.enter.new hD ⟨[], rfl, .nil⟩
  refine lc_it w (fun n H' => ∃ F', Pt ⟨F1, H1, keys M1⟩ F' ((D2, ML (((zs.take n).filter f).map G)) :: M1) H') ⟨F1, gn⟩ (fun n H2 _ ⟨F2, g2⟩ => hG F2 H2 g2.gr.ex g2.ex) (fun n x H2 H3 hn ⟨F2, g2⟩ y => ?_) (fun H2 ⟨F2, g2⟩ => ?_)
  · obtain ⟨T, x1, y1, rfl, hT, rfl, hx1, hy1⟩ := y
    obtain ⟨PA, hPA, hxA⟩ := paired_get' hu hx1
    obtain ⟨PB, hPB, hyB⟩ := paired_get' hv hy1
    have hzn : zs[n]? = some zs[n] := List.getElem?_eq_getElem hn
    rw [List.getElem?_map, hzn] at hPA hPB
    have hPA : RA zs[n] = PA := Option.some.inj hPA
    have hPB : RB zs[n] = PB := Option.some.inj hPB
    subst hPA; subst hPB
    generalize zs[n] = z at *
    have hm := List.mem_of_getElem? hzn
    have g3 : Pt ⟨F1, H1, keys M1⟩ F2 ((D2, ML (((zs.take n).filter f).map G)) :: M1) (upd H2 T (.tup [x1, y1])) := g2.junk hT
    refine ⟨T, [x1, y1], rfl, SqT.of upd_same, rfl, x1, [y1], rfl, y1, [], rfl, rfl, wipe_two hij, ?_⟩
    refine lc_turn g3 (((env_wipe2 (b.mono g2.gr.ex)).set i ((RA z).mono g2.gr.ex hxA)).set j ((RB z).mono g2.gr.ex hyB)) (ht z hm) (he z hm) ?_ _ fun F3 H3 e3 g4 => ⟨F3, ?_⟩
    · rw [List.length_map]
      exact Nat.lt_of_le_of_lt (Nat.le_trans (List.length_filter_le _ _) (by rw [List.length_take]; omega)) (by omega : zs.length < 100000)
    · rw [take_filter zs f n z hzn, List.map_append]
      cases hf : f z
      · rw [hf] at g4; simpa using g4
      · rw [hf] at g4; simpa using g4
  · rw [List.take_length] at g2
    exact k D2 F2 H2 (g1.fresh hD) g2.gr.ex (g1.back g2)
/-- a loop over pairs -/
theorem for_pairs {F1 H1 : Hp} {σ : St} {Q : Prop} (w : Walk J zs.length Gd (YPair (fun i => us[i]?) (fun i => vs[i]?)))
    (g1 : Pt E F1 M1 H1) (b : EnvOk F1 σ Γ) (hu : Ps F1 us (zs.map RA)) (hv : Ps F1 vs (zs.map RB)) (hG : ∀ F' H', Ex F1 F' → Ex F' H' → Gd H')
    (Jv : Nat → Gm → Ms → Prop) (h0 : Jv 0 Γ M1)
    (hs : ∀ E', Le E' E → ∀ n z, zs[n]? = some z → ∀ Γ' M', Jv n Γ' M' → Nx E' ((Γ'.set i (some (RA z))).set j (some (RB z))) M' (tu { D1 with nx := JA E' (Jv (n + 1)), ct := JA E' (Jv (n + 1)), bk := D1.nx }))
    (hd : ∀ Γ' M', Jv zs.length Γ' M' → Nx E Γ' M' D1.nx) :
    ∃ W : Nat → Nat → St → Hp → Prop, (∃ m, W 0 m σ H1) ∧ ∀ n m σ H, W n m σ H →
      (J.stop n H ∧ D1.nx σ H) ∨ (J.go n H ∧ ∃ N : St → Hp → Prop, (∀ σ' H', N σ' H' → ∃ m', m' < m ∧ W (n + 1) m' σ' H') ∧ ∀ x H', J.yld n H x H' → gPair K i j x σ H' fun σ2 H2 => tu { D1 with nx := N, ct := N, bk := D1.nx } σ2 H2) := by
  refine for_it w (fun n σ H => JA ⟨F1, H1, keys M1⟩ (Jv n) σ H) ⟨Γ, M1, h0, F1, g1.enter, b⟩ (fun n σ2 H2 _ ⟨Γ', M', _, F2, g2, _⟩ => hG F2 H2 g2.gr.ex g2.ex) (fun n x σ2 H2 H3 hn ⟨Γ', M', hJ, F2, g2, b2⟩ y => ?_) (fun σ2 H2 ⟨Γ', M', hJ, at2⟩ => hd Γ' M' hJ _ _ (at2.le g1.le))
  obtain ⟨T, x1, y1, rfl, hT, rfl, hx1, hy1⟩ := y
  obtain ⟨PA, hPA, hxA⟩ := paired_get' hu hx1
  obtain ⟨PB, hPB, hyB⟩ := paired_get' hv hy1
  have hzn : zs[n]? = some zs[n] := List.getElem?_eq_getElem hn
  rw [List.getElem?_map, hzn] at hPA hPB
  have hPA : RA zs[n] = PA := Option.some.inj hPA
  have hPB : RB zs[n] = PB := Option.some.inj hPB
  subst hPA; subst hPB
  exact ⟨T, [x1, y1], rfl, SqT.of upd_same, rfl, x1, [y1], rfl, y1, [], rfl, rfl, hs ⟨F1, H1, keys M1⟩ g1.le n _ hzn Γ' M' hJ _ _ ⟨F2, g2.junk hT, (b2.set i ((RA zs[n]).mono g2.gr.ex hxA)).set j ((RB zs[n]).mono g2.gr.ex hyB)⟩⟩
end
theorem pg_tupK {X : Cx} {es : List PySem.Expr} {k : Nat} {t : TGs} {n : Nat} {pos : Pos} (eK : X.K = K) (hc : X.calm = true) (h : PGs X es t)
    (hn : (assignEach es X.env).length = n := by rfl) (hst : (assignEach es X.env).findIdx? (·.1) = none := by rfl) : PG X (.Tuple es k pos) (gTup K n t) := eK ▸ pg_tup hc h hn hst
/-! the walks, told over what stands -/
theorem walk_enumP {a : Addr} {xs : List V} : Walk (Ite K a) xs.length (fun H => SqL K H a xs) (YPair (fun i => ((List.range xs.length).map fun n : Nat => V.int n)[i]?) (fun i => xs[i]?)) :=
  walk_enum.mono (fun _ h => h) fun n H x H' hn _ ⟨T, x1, y1, h1, h2, h3, h4, h5⟩ => ⟨T, x1, y1, h1, h2, h3, by show ((List.range xs.length).map fun n : Nat => V.int n)[n]? = some x1; rw [List.getElem?_map, List.getElem?_range hn]; exact h4, h5⟩
theorem walk_enumTP {a : Addr} {xs : List V} : Walk (IteT K a) xs.length (fun H => SqT K H a xs) (YPair (fun i => ((List.range xs.length).map fun n : Nat => V.int n)[i]?) (fun i => xs[i]?)) := by
  refine ⟨fun n _ hn q => ⟨xs, xs[n], q, by simp [hn]⟩, fun _ q => ⟨xs, q, Nat.le_refl _⟩, fun n H v H' hn q y => ?_⟩
  obtain ⟨T, x, h1, h2, h3, h4⟩ := y
  exact ⟨T, .int (n : Nat), x, h1, h2, h3, by show ((List.range xs.length).map fun n : Nat => V.int n)[n]? = _; rw [List.getElem?_map, List.getElem?_range hn]; rfl, h4 xs q⟩
theorem range_ints (n : Nat) : Ps F ((List.range n).map fun n : Nat => V.int n) ((List.range n).map fun n : Nat => D K (.int n)) := by
  generalize List.range n = l
  induction l with
  | nil => exact .nil
  | cons a l ih => exact .cons (.int _) ih
variable {α : Type} {xs : List α} {R : α → MP}
theorem zipIdx_fst {xs : List α} {R : α → MP} : (xs.zipIdx.map fun p => R p.1) = xs.map R := by
  rw [show (fun p : α × Nat => R p.1) = R ∘ Prod.fst from rfl, ← List.map_map, List.zipIdx_map_fst]
theorem zipIdx_snd {xs : List α} {K : PySem.W.Frag} : (xs.zipIdx.map fun p => D K (.int p.2)) = (List.range xs.length).map fun n : Nat => D K (.int n) := by
  rw [show (fun p : α × Nat => D K (.int p.2)) = (fun n : Nat => D K (.int n)) ∘ Prod.snd from rfl, ← List.map_map, List.zipIdx_map_snd, List.range_eq_range']
theorem evn_lcEnumT {G : α × Nat → MP} (f : α × Nat → Bool) (hij : i ≠ j) (h : Ev tl Γ M (PTu K (xs.map R)) M1) (hz : xs.length ≤ 50000)
    (ht : ∀ z ∈ xs.zipIdx, EvT t ((((Γ.set j none).set i none).set i (some (D K (.int z.2)))).set j (some (R z.1))) M1 (· = f z) M1)
    (he : ∀ z ∈ xs.zipIdx, f z = true → Ev te ((((Γ.set j none).set i none).set i (some (D K (.int z.2)))).set j (some (R z.1))) M1 (G z) M1) :
    EvN (tLc (iEnumT K (tCons tl tNil)) (gPair K i j) t te [i, j]) Γ M (ML ((xs.zipIdx.filter f).map G)) M1 := fun E F σ H a b Q k => h E F σ H a b _ fun v F1 H1 e1 g1 ⟨p, vs, hp, s, q⟩ => by
  have hl : xs.zipIdx.length = vs.length := by rw [List.length_zipIdx, paired_len q, List.length_map]
  refine ⟨p, vs, by rw [hp], Evl.ex_t g1.ex s, ?_⟩
  refine lc_pairs (K := K) (zs := xs.zipIdx) (RA := fun z => D K (.int z.2)) (RB := fun z => R z.1) (us := (List.range vs.length).map fun n : Nat => V.int n) (vs := vs) hij (by rw [hl]; exact walk_enumTP) (by rw [List.length_zipIdx]; exact hz) g1 (b.mono e1) (by rw [zipIdx_snd, ← List.length_zipIdx (l := xs), hl]; exact range_ints _) (by rw [zipIdx_fst]; exact q) (fun F' H' e e' => Evl.ex_t (e.trans e') s) ht he fun q F' H' f e g => k q F' H' f (e1.trans e) g
theorem evn_lcEnumL {G : α × Nat → MP} (f : α × Nat → Bool) (hij : i ≠ j) (h : Ev tl Γ M (PLi K (xs.map R)) M1) (hz : xs.length ≤ 50000)
    (ht : ∀ z ∈ xs.zipIdx, EvT t ((((Γ.set j none).set i none).set i (some (D K (.int z.2)))).set j (some (R z.1))) M1 (· = f z) M1)
    (he : ∀ z ∈ xs.zipIdx, f z = true → Ev te ((((Γ.set j none).set i none).set i (some (D K (.int z.2)))).set j (some (R z.1))) M1 (G z) M1) :
    EvN (tLc (iEnum K (tCons tl tNil)) (gPair K i j) t te [i, j]) Γ M (ML ((xs.zipIdx.filter f).map G)) M1 := fun E F σ H a b Q k => h E F σ H a b _ fun v F1 H1 e1 g1 ⟨p, vs, hp, s, q⟩ => by
  have hl : xs.zipIdx.length = vs.length := by rw [List.length_zipIdx, paired_len q, List.length_map]
  refine ⟨p, vs, by rw [hp], Evl.ex_l g1.ex s, ?_⟩
  refine lc_pairs (K := K) (zs := xs.zipIdx) (RA := fun z => D K (.int z.2)) (RB := fun z => R z.1) (us := (List.range vs.length).map fun n : Nat => V.int n) (vs := vs) hij (by rw [hl]; exact walk_enumP) (by rw [List.length_zipIdx]; exact hz) g1 (b.mono e1) (by rw [zipIdx_snd, ← List.length_zipIdx (l := xs), hl]; exact range_ints _) (by rw [zipIdx_fst]; exact q) (fun F' H' e e' => Evl.ex_l (e.trans e') s) ht he fun q F' H' f e g => k q F' H' f (e1.trans e) g
theorem go_forEnumL (h : Ev tl Γ M (PLi K (xs.map R)) M1) (Jv : Nat → Gm → Ms → Prop) (h0 : Jv 0 Γ M1)
    (hs : ∀ E', Le E' E → ∀ n x, xs[n]? = some x → ∀ Γ' M', Jv n Γ' M' → Nx E' ((Γ'.set i (some (D K (.int n)))).set j (some (R x))) M' (tu { D1 with nx := JA E' (Jv (n + 1)), ct := JA E' (Jv (n + 1)), bk := D1.nx }))
    (hd : ∀ Γ' M', Jv xs.length Γ' M' → Nx E Γ' M' D1.nx) : Nx E Γ M (tFor (iEnum K (tCons tl tNil)) (gPair K i j) tu D1) := fun σ H ⟨F, a, b⟩ => h E F σ H a b _ fun v F1 H1 e1 g1 ⟨p, vs, hp, s, q⟩ => by
  have hl : xs.zipIdx.length = vs.length := by rw [List.length_zipIdx, paired_len q, List.length_map]
  refine ⟨p, vs, by rw [hp], Evl.ex_l g1.ex s, ?_⟩
  refine for_pairs (K := K) (zs := xs.zipIdx) (RA := fun z => D K (.int z.2)) (RB := fun z => R z.1) (us := (List.range vs.length).map fun n : Nat => V.int n) (vs := vs) (Q := True) (by rw [hl]; exact walk_enumP) g1 (b.mono e1) (by rw [zipIdx_snd, ← List.length_zipIdx (l := xs), hl]; exact range_ints _) (by rw [zipIdx_fst]; exact q) (fun F' H' e e' => Evl.ex_l (e.trans e') s) Jv h0 (fun E' hE n z hz Γ' M' hJ => ?_) (by rw [List.length_zipIdx]; exact hd)
  have : xs[n]? = some z.1 ∧ z.2 = n := by
    rw [List.getElem?_zipIdx] at hz
    obtain ⟨x, hx, rfl⟩ := Option.map_eq_some_iff.mp hz
    exact ⟨hx, by simp⟩
  rw [this.2]
  exact hs E' hE n z.1 this.1 Γ' M' hJ
theorem go_forEnumT (h : Ev tl Γ M (PTu K (xs.map R)) M1) (Jv : Nat → Gm → Ms → Prop) (h0 : Jv 0 Γ M1)
    (hs : ∀ E', Le E' E → ∀ n x, xs[n]? = some x → ∀ Γ' M', Jv n Γ' M' → Nx E' ((Γ'.set i (some (D K (.int n)))).set j (some (R x))) M' (tu { D1 with nx := JA E' (Jv (n + 1)), ct := JA E' (Jv (n + 1)), bk := D1.nx }))
    (hd : ∀ Γ' M', Jv xs.length Γ' M' → Nx E Γ' M' D1.nx) : Nx E Γ M (tFor (iEnumT K (tCons tl tNil)) (gPair K i j) tu D1) := fun σ H ⟨F, a, b⟩ => h E F σ H a b _ fun v F1 H1 e1 g1 ⟨p, vs, hp, s, q⟩ => by
  have hl : xs.zipIdx.length = vs.length := by rw [List.length_zipIdx, paired_len q, List.length_map]
  refine ⟨p, vs, by rw [hp], Evl.ex_t g1.ex s, ?_⟩
  refine for_pairs (K := K) (zs := xs.zipIdx) (RA := fun z => D K (.int z.2)) (RB := fun z => R z.1) (us := (List.range vs.length).map fun n : Nat => V.int n) (vs := vs) (Q := True) (by rw [hl]; exact walk_enumTP) g1 (b.mono e1) (by rw [zipIdx_snd, ← List.length_zipIdx (l := xs), hl]; exact range_ints _) (by rw [zipIdx_fst]; exact q) (fun F' H' e e' => Evl.ex_t (e.trans e') s) Jv h0 (fun E' hE n z hz Γ' M' hJ => ?_) (by rw [List.length_zipIdx]; exact hd)
  have : xs[n]? = some z.1 ∧ z.2 = n := by
    rw [List.getElem?_zipIdx] at hz
    obtain ⟨x, hx, rfl⟩ := Option.map_eq_some_iff.mp hz
    exact ⟨hx, by simp⟩
  rw [this.2]
  exact hs E' hE n z.1 this.1 Γ' M' hJ
end
end Hq
namespace Hq
open PySem L2
section
variable {K : PySem.W.Frag} {E : Ent} {F H : Hp} {M M1 M2 : Ms} {Γ : Gm} {P P1 : MP} {O : MO} {q : Addr} {te ta tb tl tk : TE} {tr : TA} {D1 : Ends} {tu tz : TS} {t u : TT} {ps : List MP} {i j : Nat} {l : List Int}
theorem rc_sum {ns : List Int} : RC (rSum K) [PLi K (ns.map fun n => D K (.int n))] M (D K (.int ns.sum)) M := fun E F H vs a h Q k => by
  obtain ⟨v, rfl, b, ws, rfl, s, p⟩ := ps1 h
  have es := ints_map p
  subst es
  exact ⟨b, ns, rfl, Evl.ex_l a.ex s, k _ F H (Evl.Ex.refl _) a (.int _)⟩
/-- a slice of a list that stands -/
def cutG {α : Type} (l : List α) (lo hi : Option Int) : List α := (l.drop (HT.sIx l.length 0 lo)).take (HT.sIx l.length l.length hi - HT.sIx l.length 0 lo)
theorem cutG_take {α : Type} {l : List α} {a : Nat} : cutG l none (some (a : Int)) = l.take a := by
  unfold cutG
  rw [HT.sIx_none, HT.sIx_nat]
  simp
theorem cutG_drop {α : Type} {l : List α} {a : Nat} : cutG l (some (a : Int)) none = l.drop a := by
  unfold cutG
  rw [HT.sIx_none, HT.sIx_nat]
  by_cases h : a ≤ l.length
  · rw [Nat.min_eq_left h]
    apply List.take_of_length_le
    rw [List.length_drop]; omega
  · rw [List.drop_of_length_le (by omega : l.length ≤ min a l.length), List.drop_of_length_le (by omega : l.length ≤ a)]; simp
theorem paired_drop {α β : Type} {R : α → β → Prop} : ∀ {xs : List α} {ys : List β} (n : Nat), Paired R xs ys → Paired R (xs.drop n) (ys.drop n)
  | _, _, 0, h => h
  | _, _, n + 1, .nil => .nil
  | _, _, n + 1, .cons _ t => paired_drop n t
theorem paired_take {α β : Type} {R : α → β → Prop} : ∀ {xs : List α} {ys : List β} (n : Nat), Paired R xs ys → Paired R (xs.take n) (ys.take n)
  | _, _, 0, _ => .nil
  | _, _, n + 1, .nil => .nil
  | _, _, n + 1, .cons a t => .cons a (paired_take n t)
theorem evn_slM {α : Type} {R : α → MP} {xs : List α} {lo hi : Option Int} {tl th : TO} (h : Ev ta Γ M (PLi K (xs.map R)) M1) (h1 : EvP tl Γ M1 lo) (h2 : EvP th Γ M1 hi) : EvN (tSl (rSlL K) ta tl th) Γ M (ML ((cutG xs lo hi).map R)) M1 := fun E F σ H a b Q k =>
  h E F σ H a b _ fun v F1 H1 e1 g1 p1 => h1 E F1 σ H1 g1 (b.mono e1) _ fun F2 H2 e2 g2 => h2 E F2 σ H2 g2 (b.mono (e1.trans e2)) _ fun F3 H3 e3 g3 => by
    obtain ⟨p, vs, rfl, s, qq⟩ := (PLi K (xs.map R)).mono (e2.trans e3) p1
    refine ⟨p, vs, rfl, Evl.ex_l g3.ex s, fun r hr => ?_⟩
    refine k r F3 _ (g3.fresh hr) ((e1.trans e2).trans e3) (g3.new hr ⟨cutV vs lo hi, rfl, ?_⟩)
    have hl : vs.length = xs.length := by have := paired_len qq; rwa [List.length_map] at this
    unfold cutV cutG
    rw [hl, List.map_take, List.map_drop]
    exact paired_take _ (paired_drop _ qq)
theorem rep_ps {x : V} : ∀ n : Nat, P.p F x → Ps F (List.replicate n [x]).flatten (List.replicate n P)
  | 0, _ => .nil
  | n + 1, h => .cons h (rep_ps n h)
/-- [x] * n, n drawn -/
theorem evn_repX {lo hi : Int} (h : EvN ta Γ M (ML [P]) M1) (hb : ∀ p, Ev tb Γ ((p, ML [P]) :: M1) (PIn K lo hi) ((p, ML [P]) :: M1)) (hz : 0 ≤ lo ∧ hi ≤ 1000) : EvN (tOp rRep ta tb) Γ M (MX fun z : Nat => MA (lo ≤ z ∧ (z : Int) < hi) (ML (List.replicate z P))) M1 := fun E F σ H a c Q k =>
  h E F σ H a c _ fun q F1 H1 f1 e1 g1 => hb q E F1 σ H1 g1 (c.mono e1) _ fun y F2 H2 e2 g2 ⟨z, hzz, p2⟩ => by
    cases dp_int p2
    obtain ⟨_, o, ho, ws, rfl, s⟩ := g2.at (j := 0) rfl
    obtain ⟨x, rfl, px⟩ := ps1 s
    obtain ⟨n, rfl⟩ := Int.eq_ofNat_of_zero_le (Int.le_trans hz.1 hzz.1)
    refine ⟨q, n, [x], rfl, rfl, ho, by omega, by omega, sz_of (by simp; omega), fun p hp => ?_⟩
    have g3 := (g2.new (O := ML (List.replicate n P)) (o := .lst (List.replicate (n : Int).toNat [x]).flatten) hp ⟨_, rfl, ?_⟩).drop (List.Sublist.cons₂ _ (List.sublist_cons_self _ _))
    · exact k p F2 _ (g2.fresh hp) (e1.trans e2) (g3.to (j := 0) (O' := MX fun z : Nat => MA (lo ≤ z ∧ (z : Int) < hi) (ML (List.replicate z P))) (fun F o p => ⟨n, hzz, p⟩) rfl)
    · rw [Int.toNat_natCast]
      exact rep_ps n px
/-- a + b, both made here, of something drawn -/
theorem evn_catX {α β : Type} {R : α → List MP} {S : β → List MP} {φ : α → Prop} {ψ : β → Prop} {Ps1 : Ms → Prop} (h1 : EvN ta Γ M (MX fun x => MA (φ x) (ML (R x))) M1) (h2 : ∀ M, Ps1 M → EvN tb Γ M (MX fun y => MA (ψ y) (ML (S y))) M) (hp : ∀ q O, Ps1 ((q, O) :: M1)) (hz : ∀ x y, φ x → ψ y → (R x).length + (S y).length ≤ 100000) :
    EvN (tOp rCat ta tb) Γ M (MX fun z : α × β => MA (φ z.1 ∧ ψ z.2) (ML (R z.1 ++ S z.2))) M1 := fun E F σ H a b Q k =>
  h1 E F σ H a b _ fun x F1 H1 f1 e1 g1 => h2 _ (hp x _) E F1 σ H1 g1 (b.mono e1) _ fun y F2 H2 f2 e2 g2 => by
    obtain ⟨_, o, ho, u, hu, vs, rfl, s⟩ := g2.at (j := 1) rfl
    obtain ⟨_, o, ho', u', hu', ws, rfl, s'⟩ := g2.at (j := 0) rfl
    refine ⟨x, y, vs, ws, rfl, rfl, ho, ho', sz_of (by rw [paired_len s, paired_len s']; exact hz u u' hu hu'), fun p hp => ?_⟩
    have g3 := (g2.new (O := MX fun z : α × β => MA (φ z.1 ∧ ψ z.2) (ML (R z.1 ++ S z.2))) (o := .lst (vs ++ ws)) hp ⟨(u, u'), ⟨hu, hu'⟩, _, rfl, paired_app s s'⟩).drop (List.Sublist.cons₂ _ ((List.sublist_cons_self _ _).trans (List.sublist_cons_self _ _)))
    exact k p F2 _ (g2.fresh hp) (e1.trans e2) g3
theorem evn_u (h : EvN te Γ M (ML ps) M1) : EvN te Γ M (MX fun _ : Unit => MA True (ML ps)) M1 := h.weak fun F o p => ⟨(), trivial, p⟩
/-- the last list is given away, named -/
theorem nx_own {f} {q : Addr} {l : List Int} (e : M[j]? = some (q, MInts K l)) (hq : E.H q = none) (hg : Γ[i]? = some (some (Own q))) (h : Nx E (Γ.set i (some (D K (dL l)))) (M.eraseIdx j) f) : Nx E Γ M f :=
  nx_freeze (K := K) (i := i) j e hq hg (nx_le (i := i) (P := PLi K (l.map fun n => D K (.int n))) (by
    have hi := (List.getElem?_eq_some_iff.mp hg).1
    rw [List.getElem?_set_self hi]) dL_le (by rw [List.set_set]; exact h))
end
end Hq
namespace Hq
open PySem L2
section
variable {K : PySem.W.Frag} {E : Ent} {F H : Hp} {M M1 M2 : Ms} {Γ : Gm} {P P1 : MP} {O : MO} {q : Addr} {te ta tb tl tk : TE} {tr : TA} {D1 : Ends} {tu tz : TS} {t u : TT} {ps qs : List MP} {i j v : Nat} {l : List Int} {b : Bool}
/-- *xs among arguments -/
theorem ea_starT (h : Ev te Γ M (PTu K qs) M1) (hr : EvA tr Γ M1 ps M2) : EvA (StX.tStar K te tr) Γ M (qs ++ ps) M2 := fun E F σ H a b Q k =>
  h E F σ H a b _ fun x F1 H1 e1 a1 ⟨p, vs, ex, s, q⟩ => ⟨p, vs, ex, .inl (Evl.ex_t a1.ex s), hr E F1 σ H1 a1 (b.mono e1) _ fun ws F2 H2 e2 a2 p2 => k _ F2 H2 (e1.trans e2) a2 (paired_app (q.mono e2) p2)⟩
theorem ea_starL (h : Ev te Γ M (PLi K qs) M1) (hr : EvA tr Γ M1 ps M2) : EvA (StX.tStar K te tr) Γ M (qs ++ ps) M2 := fun E F σ H a b Q k =>
  h E F σ H a b _ fun x F1 H1 e1 a1 ⟨p, vs, ex, s, q⟩ => ⟨p, vs, ex, .inr (Evl.ex_l a1.ex s), hr E F1 σ H1 a1 (b.mono e1) _ fun ws F2 H2 e2 a2 p2 => k _ F2 H2 (e1.trans e2) a2 (paired_app (q.mono e2) p2)⟩
theorem ea_starW (h : Ev te Γ M (D K (dW b l)) M1) (hr : EvA tr Γ M1 ps M2) : EvA (StX.tStar K te tr) Γ M (l.map (fun n => D K (.int n)) ++ ps) M2 := by
  cases b with
  | true => exact ea_starT (Ev.weak (P := D K (dT l)) h le_dT) hr
  | false => exact ea_starL (Ev.weak (P := D K (dL l)) h le_dL) hr
/-- [*a, *b] -/
theorem evn_star2 {l m : List Int} {c : Bool} (h : Ev ta Γ M (D K (dW b l)) M1) (h2 : Ev tb Γ M1 (D K (dW c m)) M2) (hz : l.length + m.length ≤ 100000) : EvN (tLst (StX.tStar K ta (StX.tStar K tb tNil))) Γ M (MInts K (l ++ m)) M2 :=
  (evn_lst (ea_starW h (ea_starW h2 ea_nil)) (by simp only [List.length_append, List.length_map, List.length_nil]; omega)).is (by rw [MInts, List.map_append, List.append_nil])
theorem evn_star3 {l m n : List Int} {c d : Bool} {tc : TE} {M3 : Ms} (h : Ev ta Γ M (D K (dW b l)) M1) (h2 : Ev tb Γ M1 (D K (dW c m)) M2) (h3 : Ev tc Γ M2 (D K (dW d n)) M3) (hz : l.length + m.length + n.length ≤ 100000) : EvN (tLst (StX.tStar K ta (StX.tStar K tb (StX.tStar K tc tNil)))) Γ M (MInts K (l ++ (m ++ n))) M3 :=
  (evn_lst (ea_starW h (ea_starW h2 (ea_starW h3 ea_nil))) (by simp only [List.length_append, List.length_map, List.length_nil]; omega)).is (by rw [MInts, List.map_append, List.map_append, List.append_nil])
theorem go_forEnumW (e : Γ[v]? = some (some (D K (dW b l)))) (Jv : Nat → Gm → Ms → Prop) (h0 : Jv 0 Γ M)
    (hs : ∀ E', Le E' E → ∀ n x, l[n]? = some x → ∀ Γ' M', Jv n Γ' M' → Nx E' ((Γ'.set i (some (D K (.int n)))).set j (some (D K (.int x)))) M' (tu { D1 with nx := JA E' (Jv (n + 1)), ct := JA E' (Jv (n + 1)), bk := D1.nx }))
    (hd : ∀ Γ' M', Jv l.length Γ' M' → Nx E Γ' M' D1.nx) : Nx E Γ M (tFor (iOr (iEnumT K (tCons (tVar v) tNil)) (iEnum K (tCons (tVar v) tNil))) (gPair K i j) tu D1) := by
  cases b with
  | true => exact for_or1 (go_forEnumT (R := fun x => D K (.int x)) ((ev_var (P := D K (dT l)) e).weak le_dT) Jv h0 hs hd)
  | false => exact for_or2 (go_forEnumL (R := fun x => D K (.int x)) ((ev_var (P := D K (dL l)) e).weak le_dL) Jv h0 hs hd)
theorem q_forEnumW (e : Γ[v]? = some (some (D K (dW b l)))) (Jv : Nat → Gm → Ms → Prop) (h0 : Jv 0 Γ M)
    (hs : ∀ E', Le E' E → ∀ n x, l[n]? = some x → ∀ Γ' M', Jv n Γ' M' → Nx E' ((Γ'.set i (some (D K (.int n)))).set j (some (D K (.int x)))) M' (tu { D1 with nx := JA E' (Jv (n + 1)), ct := JA E' (Jv (n + 1)), bk := tz D1 }))
    (hd : ∀ Γ' M', Jv l.length Γ' M' → Nx E Γ' M' (tz D1)) : Nx E Γ M (tSeq (tFor (iOr (iEnumT K (tCons (tVar v) tNil)) (iEnum K (tCons (tVar v) tNil))) (gPair K i j) tu) tz D1) := go_forEnumW (D1 := { D1 with nx := tz D1 }) e Jv h0 hs hd
/-- xs[i] = e, e drawn -/
theorem go_setLE {α : Type} {φ : α → Prop} {R : α → MP} {i : Int} {j : Nat} (h : Ev te Γ M (PEx fun x => PAn (φ x) (R x)) M1) (ho : Ev ta Γ M1 (Own q) M1) (hi : Ev tb Γ M1 (D K (.int i)) M2) (e : M2[j]? = some (q, ML ps)) (h0 : 0 ≤ i) (h1 : i.toNat < ps.length) (k : ∀ x, φ x → Nx E Γ (M2.set j (q, ML (ps.set i.toNat (R x)))) D1.nx) :
    Nx E Γ M (tAsg te (gSub ta tb rSetL) D1) := fun σ H ⟨F, a, b⟩ => h E F σ H a b _ fun w F0 H0 e0 g0 ⟨x, hx, p0⟩ => ho E F0 σ H0 g0 (b.mono e0) _ fun v F1 H1 e1 g1 p1 => by
  have p1 : v = .ref q := p1
  subst p1
  refine hi E F1 σ H1 g1 (b.mono (e0.trans e1)) _ fun y F2 H2 e2 g2 p2 => ?_
  cases dp_int p2
  obtain ⟨_, o, ho2, ws, rfl, s⟩ := g2.at e
  obtain ⟨n, rfl⟩ := Int.eq_ofNat_of_zero_le h0
  have hn : n < ws.length := by rw [paired_len s]; exact h1
  exact ⟨q, ws, n, n, rfl, rfl, ho2, Evl.ixN_nat hn, k x hx _ _ ⟨F2, g2.mut e ⟨_, rfl, paired_set (R := fun (v : V) (P : MP) => P.p F2 v) ((R x).mono (e1.trans e2) p0) n s⟩, b.mono ((e0.trans e1).trans e2)⟩⟩
theorem ev_takeDT {l : List Int} {a : Nat} {te ti : TE} (h : Ev te Γ M (D K (dT l)) M1) (hi : Ev ti Γ M1 (D K (.int (a : Int))) M1) : Ev (tSl (rSlA K) te tNoPart (tPart ti)) Γ M (D K (dT (l.take a))) M1 :=
  (ev_slT h ep_none (ep_some hi)).is (by rw [cut_take])
theorem ev_dropDT {l : List Int} {a : Nat} {te ti : TE} (h : Ev te Γ M (D K (dT l)) M1) (hi : Ev ti Γ M1 (D K (.int (a : Int))) M1) : Ev (tSl (rSlA K) te (tPart ti) tNoPart) Γ M (D K (dT (l.drop a))) M1 :=
  (ev_slT h (ep_some hi) ep_none).is (by rw [cut_drop])
theorem rv_ixWd {i : Int} (h0 : 0 ≤ i) (h : i.toNat < l.length) : RV (rIx K) (D K (dW b l)) (D K (.int i)) M (D K (.int (l.getD i.toNat 0))) M :=
  rv_ixW h0 (by rw [List.getElem?_map, List.getElem?_eq_getElem h, List.getD_eq_getElem?_getD, List.getElem?_eq_getElem h]; rfl)
theorem rv_ixDLd {i : Int} (h0 : 0 ≤ i) (h : i.toNat < l.length) : RV (rIx K) (D K (dL l)) (D K (.int i)) M (D K (.int (l.getD i.toNat 0))) M := rv_ixWd (b := false) h0 h
theorem rv_ixDTd {i : Int} (h0 : 0 ≤ i) (h : i.toNat < l.length) : RV (rIx K) (D K (dT l)) (D K (.int i)) M (D K (.int (l.getD i.toNat 0))) M := rv_ixWd (b := true) h0 h
end
/-- a word, or none -/
def dOW : Option (List Int) → PyData
  | none => .none
  | some w => dT w
section
variable {K : PySem.W.Frag} {M : Ms}
theorem rv_isO {o : Option (List Int)} : RV rIs0 (D K (dOW o)) (D K .none) M (D K (.bool o.isNone)) M := by
  cases o with
  | none => exact rv_isN1
  | some w =>
    refine rv_val (z := .bl false) (fun _ => .bl _) fun F H x y p1 p2 _ Q q => ?_
    obtain ⟨a, xs, rfl, _, _⟩ := dp_tup (ds := w.map .int) p1
    cases dp_non p2
    exact ⟨rfl, q⟩
theorem rv_notO {o : Option (List Int)} : RV rNot0 (D K (dOW o)) (D K .none) M (D K (.bool o.isSome)) M := by
  cases o with
  | none => exact rv_notN1
  | some w =>
    refine rv_val (z := .bl true) (fun _ => .bl _) fun F H x y p1 p2 _ Q q => ?_
    obtain ⟨a, xs, rfl, _, _⟩ := dp_tup (ds := w.map .int) p1
    cases dp_non p2
    exact ⟨rfl, q⟩
theorem eqv_O : ∀ a b : Option (List Int), PyData.eqv (dOW a) (dOW b) = decide (a = b)
  | none, none => rfl
  | none, some _ => rfl
  | some _, none => rfl
  | some a, some b => by
    show PyData.eqv (dT a) (dT b) = _
    rw [enc_dT.eq]; simp
theorem enc_dOW : Enc dOW 2 := ⟨eqv_O, fun x => by cases x with
  | none => rfl
  | some w => exact enc_dT.lay w, fun x => by cases x with
  | none => show PyData.depth .none ≤ 2; simp [PyData.depth]
  | some w => exact enc_dT.deep w⟩
end
end Hq
namespace Hq
open PySem L2
section
variable {K : PySem.W.Frag} {E : Ent} {F H : Hp} {M M1 M2 : Ms} {Γ : Gm} {P P1 : MP} {O : MO} {q : Addr} {te ta tb tl tk : TE} {tr : TA} {D1 : Ends} {tu tz : TS} {t u : TT} {ps qs : List MP} {i j v : Nat} {l : List Int} {b : Bool}
/-- an own list is given away; that it is a list in the heap itself stays known -/
theorem nx_freezeFr {f} (j : Nat) (e : M[j]? = some (q, O)) (hq : E.H q = none) (hg : Γ[i]? = some (some (Own q))) (h : Nx E (Γ.set i (some (Fr O))) (M.eraseIdx j) f) : Nx E Γ M f := by
  rintro σ H ⟨F, a, b⟩
  obtain ⟨fq, o, ho, hO⟩ := a.at e
  have ex : Ex F (upd F q o) := Evl.Ex.new fq
  exact h σ H ⟨_, a.freeze e hq ho, (b.mono ex).upd hg fun v hv => ⟨q, o, hv, upd_same, O.mono ex hO⟩⟩
theorem evn_catFr (h1 : Ev ta Γ M (Fr (ML ps)) M1) (h2 : Ev tb Γ M1 (Fr (ML qs)) M2) (hz : ps.length + qs.length ≤ 100000) : EvN (tOp rCat ta tb) Γ M (ML (ps ++ qs)) M2 := fun E F σ H a b Q k =>
  h1 E F σ H a b _ fun x F1 H1 e1 g1 p1 => h2 E F1 σ H1 g1 (b.mono e1) _ fun y F2 H2 e2 g2 p2 => by
    obtain ⟨p, _, rfl, hp, vs, rfl, s⟩ := (Fr (ML ps)).mono e2 p1
    obtain ⟨p', _, rfl, hp', ws, rfl, s'⟩ := p2
    exact ⟨p, p', vs, ws, rfl, rfl, g2.ex _ _ hp, g2.ex _ _ hp', sz_of (by rw [paired_len s, paired_len s']; exact hz), fun r hr => k r F2 _ (g2.fresh hr) (e1.trans e2) (g2.new hr ⟨_, rfl, paired_app s s'⟩)⟩
/-- a loop over a list that is only known by something -/
theorem go_forLX {α : Type} {φ : α → Prop} {pz : α → List MP} (h : Ev tl Γ M (PEx fun x => PAn (φ x) (PLi K (pz x))) M1) (J : α → Nat → Gm → Ms → Prop) (h0 : ∀ x, φ x → J x 0 Γ M1)
    (hs : ∀ x, φ x → ∀ E', Le E' E → ∀ n P, (pz x)[n]? = some P → ∀ Γ' M', J x n Γ' M' → Nx E' (Γ'.set i (some P)) M' (tu { D1 with nx := JA E' (J x (n + 1)), ct := JA E' (J x (n + 1)), bk := D1.nx }))
    (hd : ∀ x, φ x → ∀ Γ' M', J x (pz x).length Γ' M' → Nx E Γ' M' D1.nx) : Nx E Γ M (tFor (iList K tl) (gName i) tu D1) := fun σ H ⟨F, a, b⟩ => h E F σ H a b _ fun v F1 H1 e1 g1 ⟨x, hx, p, vs, hp, s, q⟩ => by
  refine ⟨p, hp, ⟨vs, Evl.ex_l g1.ex s⟩, for_list (xs := vs) (fun n σ H => JA ⟨F1, H1, keys M1⟩ (J x n) σ H) ⟨Γ, M1, h0 x hx, F1, g1.enter, b.mono e1⟩ (fun n σ2 H2 _ ⟨Γ', M', _, F2, g2, _⟩ => Evl.ex_l (g2.gr.ex.trans g2.ex) s)
    (fun n y σ2 H2 hy ⟨Γ', M', hJ, F2, g2, b2⟩ => ?_) (fun σ2 H2 hJ => ?_)⟩
  · obtain ⟨P, hP, hy2⟩ := paired_get' q hy
    exact hs x hx ⟨F1, H1, keys M1⟩ g1.le n P hP Γ' M' hJ _ _ ⟨F2, g2, b2.set i (P.mono g2.gr.ex hy2)⟩
  · rw [paired_len q] at hJ
    obtain ⟨Γ', M', hJ, at2⟩ := hJ
    exact hd x hx Γ' M' hJ _ _ (at2.le g1.le)
theorem q_forLX {α : Type} {φ : α → Prop} {pz : α → List MP} (h : Ev tl Γ M (PEx fun x => PAn (φ x) (PLi K (pz x))) M1) (J : α → Nat → Gm → Ms → Prop) (h0 : ∀ x, φ x → J x 0 Γ M1)
    (hs : ∀ x, φ x → ∀ E', Le E' E → ∀ n P, (pz x)[n]? = some P → ∀ Γ' M', J x n Γ' M' → Nx E' (Γ'.set i (some P)) M' (tu { D1 with nx := JA E' (J x (n + 1)), ct := JA E' (J x (n + 1)), bk := tz D1 }))
    (hd : ∀ x, φ x → ∀ Γ' M', J x (pz x).length Γ' M' → Nx E Γ' M' (tz D1)) : Nx E Γ M (tSeq (tFor (iList K tl) (gName i) tu) tz D1) := go_forLX (D1 := { D1 with nx := tz D1 }) h J h0 hs hd
/-- sorted(set(xs)), as something that stands -/
theorem ev_sorts {w : World} {ns : List Int} (h : Ev te Γ M (PLi K (ns.map fun n => D K (.int n))) M1) (hn : ns.length < 63) :
    Ev (tCB (rSortedSet w) (tCons (tCB (rSetI K w) (tCons te tNil)) tNil)) Γ M (PEx fun ns' : List Int => PAn (ns'.Pairwise (· < ·) ∧ ∀ k, k ∈ ns' ↔ k ∈ ns) (PLi K (ns'.map fun n => D K (.int n)))) M1 :=
  (ev_fr (evn_sortedSet h pli_ints hn)).weak (MP.le_trans fr_X (PEx.le fun _ => MP.le_trans fr_A (PAn.le fun _ => fr_L (K := K))))
theorem ptu_ints {ns : List Int} : ∀ E F H v, Pt E F M1 H → (PTu K (ns.map fun n => D K (.int n))).p F v → ∃ a, v = .ref a ∧ (SqL K H a (ns.map V.int) ∨ SqT K H a (ns.map V.int)) := fun E F H v g ⟨a, vs, e, s, p⟩ => by
  have es := ints_map p
  subst es
  exact ⟨a, e, .inr (Evl.ex_t g.ex s)⟩
theorem ev_sortsT {w : World} {ns : List Int} (h : Ev te Γ M (PTu K (ns.map fun n => D K (.int n))) M1) (hn : ns.length < 63) :
    Ev (tCB (rSortedSet w) (tCons (tCB (rSetI K w) (tCons te tNil)) tNil)) Γ M (PEx fun ns' : List Int => PAn (ns'.Pairwise (· < ·) ∧ ∀ k, k ∈ ns' ↔ k ∈ ns) (PLi K (ns'.map fun n => D K (.int n)))) M1 :=
  (ev_fr (evn_sortedSet h ptu_ints hn)).weak (MP.le_trans fr_X (PEx.le fun _ => MP.le_trans fr_A (PAn.le fun _ => fr_L (K := K))))
theorem ps_split {F : Hp} : ∀ {qs rs : List MP} {vs : List V}, Ps F vs (qs ++ rs) → ∃ us ws, vs = us ++ ws ∧ Ps F us qs ∧ Ps F ws rs
  | [], rs, vs, h => ⟨[], vs, rfl, .nil, h⟩
  | q :: qs, rs, _, .cons a t => by
    obtain ⟨us, ws, e, h1, h2⟩ := ps_split t
    exact ⟨_ :: us, ws, by rw [e]; rfl, .cons a h1, h2⟩
theorem RC.exm {α : Type} {rc : List V → Hp → VK → Prop} {R : α → MP} {M' : Ms} {rs : List MP} (h : ∀ x, RC rc (qs ++ R x :: rs) M P M') : RC rc (qs ++ PEx R :: rs) M P M' := fun E F H vs a p Q k => by
  obtain ⟨us, ws, rfl, h1, h2⟩ := ps_split p
  cases h2 with
  | cons b t => obtain ⟨x, b⟩ := b; exact h x E F H _ a (paired_app h1 (.cons b t)) Q k
theorem RC.anm {φ : Prop} {rc : List V → Hp → VK → Prop} {R : MP} {M' : Ms} {rs : List MP} (h : φ → RC rc (qs ++ R :: rs) M P M') : RC rc (qs ++ PAn φ R :: rs) M P M' := fun E F H vs a p Q k => by
  obtain ⟨us, ws, rfl, h1, h2⟩ := ps_split p
  cases h2 with
  | cons b t => exact h b.1 E F H _ a (paired_app h1 (.cons b.2 t)) Q k
end
end Hq
namespace Hq
open PySem L2
/-! ### min(xs) of tuples of ints: where the first is a least one -/
section
open PySem.W
theorem min_at {prog : Program} {w : World} {A : Around} {E : Value → Shared → Prop} {s : Shared} {l : Addr} {vs : Array Value} {x : PyData} {xs : List PyData} {as : List Addr} {Q : Value → Shared → Prop} (hh : A.handled = none) (hl : s.heap.IsList l vs) (hr : ReadsAll s.heap vs.toList (x :: xs) as) (ha : AlikeAll (x :: xs)) (hu : A.units + 1 + PyData.depthAll (x :: xs) < cLine)
    (h : ∀ (i : Nat) v h' tk, vs[i]? = some v → (x :: xs).getD i .none = minD x xs → (∀ b o, s.heap.get? b = some o → h'.get? b = some o) → Q v { s with heap := h', toks := tk }) :
    wpAny (model prog w) A (call (.builtin "min") [.ref l]) Q E s := by
  have hn : vs.size = xs.length + 1 := readsAll_len hr
  refine call_min_walkH (iter_listW (A := A.in1) hh hl fun s₂ e W st hfp hw hk => ?_)
  refine ⟨_, _, _, _, _, _, _, s.heap, _, rfl, W, st, hfp, by omega, hw, hk, cmpIn_lt (A := A.in1) hr ha (by show A.units + 1 + _ < _; exact hu), fun v s' hP m => ?_⟩
  obtain ⟨h', tk, rfl, hk'⟩ := moved_old e rfl m
  have e1 : vs.size - 1 = xs.length := by omega
  have e2 := (argBest_fold dataLt PyData.none x xs xs.length (Nat.le_refl _)).2
  rw [List.take_length] at e2
  refine h _ v h' tk hP ?_ hk'
  unfold minD
  rw [e1, ← e2]
end
def rMinD (K : PySem.W.Frag) : List V → Hp → VK → Prop := fun vs H Q => ∃ (a : Addr) (xs : List V) (l0 : List Int) (L : List (List Int)), vs = [.ref a] ∧ SqL K H a xs ∧ Paired (fun x l => Dp K H x (dT l)) xs (l0 :: L) ∧ (∀ l ∈ L, ¬ l < l0) ∧ ∀ (i : Nat) (x : V), xs[i]? = some x → (l0 :: L)[i]? = some l0 → Q x H
theorem each_reads {X : Cx} {pn : List (Addr × Obj)} {sg : St} {H : Hp} {st : Shared} (I : Inv X pn sg H st) : ∀ {xs : List V} {its : List Value} {L : List (List Int)}, Vals xs its → Paired (fun x l => Dp X.K H x (dT l)) xs L → ∃ as, ReadsAll st.heap its (L.map dT) as
  | _, _, _, .nil, .nil => ⟨_, .nil⟩
  | _, _, _, .cons a t, .cons b u => by
    obtain ⟨as, r⟩ := Dp.reads I _ _ _ b a
    obtain ⟨bs, rs⟩ := each_reads I t u
    exact ⟨_, .cons r rs⟩
theorem vals_at {xs : List V} {its : List Value} (r : Vals xs its) : ∀ {i : Nat} {v : Value}, its[i]? = some v → ∃ x, xs[i]? = some x ∧ RelV x v := by
  induction r with
  | nil => intro i v h; simp at h
  | cons a t ih =>
    intro i v h
    cases i with
    | zero => exact ⟨_, rfl, by have := Option.some.inj (show some _ = some v from h); rw [← this]; exact a⟩
    | succ i => exact ih (i := i) (by simpa using h)
open PySem.W in
theorem ints_inj : ∀ {l m : List Int}, l.map PyData.int = m.map PyData.int → l = m
  | [], [], _ => rfl
  | [], _ :: _, h => by simp at h
  | _ :: _, [], h => by simp at h
  | a :: l, b :: m, h => by
    rw [List.map_cons, List.map_cons, List.cons.injEq] at h
    cases h.1
    rw [ints_inj h.2]
theorem dT_inj {l m : List Int} (h : dT l = dT m) : l = m := ints_inj (PyData.tuple.inj (show PyData.tuple (l.map .int) = PyData.tuple (m.map .int) from h))
open PySem.W in
theorem min_head {l0 : List Int} {L : List (List Int)} (h : ∀ l ∈ L, ¬ l < l0) : PySem.W.minD (dT l0) (L.map dT) = dT l0 := by
  unfold PySem.W.minD
  induction L with
  | nil => rfl
  | cons l L ih =>
    have e : dataLt (dT l) (dT l0) = false := by
      show dataLt (.tuple (l.map .int)) (.tuple (l0.map .int)) = false
      rw [dataLt_tuple]
      show rowLt (l.map .int) (l0.map .int) = false
      rw [dataLt_ints]
      simpa using h l List.mem_cons_self
    rw [List.map_cons, List.foldl_cons, e, if_neg (by simp)]
    exact ih fun m hm => h m (List.mem_cons_of_mem _ hm)
theorem deep_all {L : List (List Int)} : PyData.depthAll (L.map dT) ≤ 2 := by
  induction L with
  | nil => exact Nat.zero_le _
  | cons l L ih => exact Nat.max_le.mpr ⟨enc_dT.deep l, ih⟩
theorem cr_minD {X : Cx} (hc : X.calm = true) (hu : X.A.units + 64 < cLine) : CallR X (.builtin "min") (rMinD X.K) := by
  intro pn st sg H vs us Q I r h
  obtain ⟨a, xs, l0, L, rfl, hs, hp, hm, q⟩ := h
  obtain ⟨its, rv, hl, hz⟩ := I.list hs
  rw [Vals.ref1 r]
  obtain ⟨as, hr⟩ := each_reads I rv hp
  refine min_at (x := dT l0) (xs := L.map dT) (I.ok.hd hc) hl.isList (by simpa using hr) ⟨fun x hx y hy => ?_, fun x hx => ?_⟩ (by have := deep_all (L := l0 :: L); rw [List.map_cons] at this; omega) fun i v h' tk hv hd hk => ?_
  · have hx : x ∈ (l0 :: L).map dT := hx
    have hy : y ∈ (l0 :: L).map dT := hy
    obtain ⟨l, _, rfl⟩ := List.mem_map.mp hx
    obtain ⟨m, _, rfl⟩ := List.mem_map.mp hy
    show PySem.W.alike (.tuple _) (.tuple _) = true
    simp only [PySem.W.alike]
    exact PySem.W.alike_ints _ _
  · have hx : x ∈ (l0 :: L).map dT := hx
    obtain ⟨l, _, rfl⟩ := List.mem_map.mp hx
    exact fun z => by cases z
  · obtain ⟨x, hx, rx⟩ := vals_at rv (i := i) (by simpa using hv)
    have hi : i < (l0 :: L).length := by
      rw [← paired_len hp]
      exact (List.getElem?_eq_some_iff.mp hx).1
    rw [min_head hm] at hd
    have e : (l0 :: L)[i]? = some l0 := by
      rw [List.getElem?_eq_getElem hi]
      congr 1
      have e2 : ((l0 :: L).map dT).getD i .none = dT l0 := hd
      rw [List.getD_eq_getElem?_getD, List.getElem?_map, List.getElem?_eq_getElem hi] at e2
      exact dT_inj e2
    exact ⟨x, H, I.kept hk, rx, q i x hx e⟩
theorem c_minD {K : PySem.W.Frag} {Y : Cx} (e : Y.K = K) (hc : Y.calm = true) (hu : Y.A.units + 64 < cLine) : CallR Y (.builtin "min") (rMinD K) := e ▸ cr_minD hc hu
section
variable {K : PySem.W.Frag} {E : Ent} {F H : Hp} {M M1 M2 : Ms} {Γ : Gm} {P : MP} {O : MO} {q : Addr} {te ta tb tl tl1 : TE} {tr : TA} {D1 : Ends} {tu tz : TS} {t t0 u : TT} {ps : List MP} {i j : Nat}
theorem paired_dps {H : Hp} (x : Ex F H) : ∀ {ws : List V} {L : List (List Int)}, Ps F ws (L.map fun l => D K (dT l)) → Paired (fun x l => Dp K H x (dT l)) ws L
  | [], [], _ => .nil
  | _ :: _, [], h => by cases h
  | [], _ :: _, h => by cases h
  | w :: ws, l :: L, h => by
    cases h with
    | cons a t => exact .cons (Dp.mono x a) (paired_dps x t)
theorem rc_minD {l0 : List Int} {L : List (List Int)} (h : ∀ l ∈ L, ¬ l < l0) : RC (rMinD K) [PLi K ((l0 :: L).map fun l => D K (dT l))] M (D K (dT l0)) M := fun E F H vs a p Q k => by
  obtain ⟨v, rfl, b, ws, rfl, s, p⟩ := ps1 p
  refine ⟨b, ws, l0, L, rfl, Evl.ex_l a.ex s, paired_dps a.ex p, h, fun i x hx hl => ?_⟩
  obtain ⟨P, hP, hx2⟩ := paired_get' p hx
  rw [List.getElem?_map, hl] at hP
  have hP : D K (dT l0) = P := Option.some.inj hP
  subst hP
  exact k _ F H (Evl.Ex.refl _) a hx2
/-! ### a comprehension with two generators -/
theorem flat_len {α β γ : Type} {ys : List β} {f : α → β → Bool} {G : α → β → γ} : ∀ {xs : List α}, (xs.flatMap fun x => (ys.filter (f x)).map (G x)).length ≤ xs.length * ys.length
  | [] => Nat.zero_le _
  | x :: xs => by
    rw [List.flatMap_cons, List.length_append, List.length_map, List.length_cons, Nat.succ_mul]
    have h1 := List.length_filter_le (f x) ys
    have h2 := flat_len (ys := ys) (f := f) (G := G) (xs := xs)
    omega
theorem wipe_out {σ : St} {x : V} (h : i ≠ j) : wipe ((wipe σ [i, j]).set i (some x)) [i, j] = wipe σ [i, j] := by
  show ((((σ.set j none).set i none).set i (some x)).set j none).set i none = (σ.set j none).set i none
  apply List.ext_getElem?
  intro k
  simp only [List.getElem?_set, List.length_set]
  by_cases h1 : j = k <;> by_cases h2 : i = k <;> simp [h1, h2]
theorem evn_lc2 {α β : Type} {xs : List α} {ys : List β} {R : α → MP} {S : β → MP} {G : α → β → MP} (f : α → β → Bool) (hij : i ≠ j)
    (h : Ev tl Γ M (PLi K (xs.map R)) M1) (hz : xs.length * ys.length ≤ 50000) (hy : ys.length ≤ 40000)
    (h0 : ∀ x ∈ xs, ∀ M, EvT t0 (((Γ.set j none).set i none).set i (some (R x))) M (· = true) M)
    (h1 : ∀ x ∈ xs, ∀ M, Ev tl1 (((Γ.set j none).set i none).set i (some (R x))) M (PLi K (ys.map S)) M)
    (ht : ∀ x ∈ xs, ∀ y ∈ ys, EvT t (((((Γ.set j none).set i none).set i (some (R x))).set j none).set j (some (S y))) M1 (· = f x y) M1)
    (he : ∀ x ∈ xs, ∀ y ∈ ys, f x y = true → Ev te (((((Γ.set j none).set i none).set i (some (R x))).set j none).set j (some (S y))) M1 (G x y) M1) :
    EvN (tLc2 (iList K tl) (gName i) t0 (iList K tl1) (gName j) t te [i, j] [j]) Γ M (ML (xs.flatMap fun x => (ys.filter (f x)).map (G x))) M1 := fun E F σ H a b Q k => h E F σ H a b _ fun v F1 H1 e1 g1 ⟨p, vs, hp, s, q⟩ => by
  refine ⟨p, hp, ⟨vs, Evl.ex_l g1.ex s⟩, fun D2 hD => ?_⟩
  have hl : vs.length = xs.length := by have := paired_len q; rwa [List.length_map] at this
  have gn : Pt ⟨F1, H1, keys M1⟩ F1 ((D2, ML []) :: M1) (upd H1 D2 (.lst [])) := g1.enter.new hD ⟨[], rfl, .nil⟩
  refine ⟨fun n m H' => m = xs.length - n ∧ n ≤ xs.length ∧ ∃ F', Pt ⟨F1, H1, keys M1⟩ F' ((D2, ML ((xs.take n).flatMap fun x => (ys.filter (f x)).map (G x))) :: M1) H', ⟨_, rfl, Nat.zero_le _, F1, gn⟩, ?_⟩
  rintro n m H2 ⟨rfl, hn, F2, g2⟩
  have sl2 : SqL K H2 p vs := Evl.ex_l (g2.gr.ex.trans g2.ex) s
  rcases Nat.lt_or_ge n xs.length with hlt | hge
  case inr =>
    refine .inl ⟨⟨vs, sl2, by omega⟩, ?_⟩
    rw [List.take_of_length_le (by omega)] at g2
    exact k D2 F2 H2 (g1.fresh hD) (e1.trans g2.gr.ex) (g1.back g2)
  refine .inr ⟨⟨vs, vs[n], sl2, List.getElem?_eq_getElem (by omega)⟩, fun H' => n + 1 ≤ xs.length ∧ ∃ F', Pt ⟨F1, H1, keys M1⟩ F' ((D2, ML ((xs.take (n + 1)).flatMap fun x => (ys.filter (f x)).map (G x))) :: M1) H', fun H' ⟨c1, c2⟩ => ⟨_, by omega, rfl, c1, c2⟩, fun x H' y => ?_⟩
  obtain ⟨rfl, y⟩ := y
  have hx := y vs sl2
  obtain ⟨P, hP, hx2⟩ := paired_get' q hx
  have hxn : xs[n]? = some xs[n] := List.getElem?_eq_getElem hlt
  rw [List.getElem?_map, hxn] at hP
  have hP : R xs[n] = P := Option.some.inj hP
  subst hP
  have tk : xs.take (n + 1) = xs.take n ++ [xs[n]] := by rw [List.take_add_one, hxn]; rfl
  have tl : (xs.take n).length = n := by rw [List.length_take]; omega
  rw [tk]
  have xm := List.mem_of_getElem? hxn
  generalize xs[n] = z at *
  have b2 : EnvOk F2 ((wipe σ [i, j]).set i (some x)) (((Γ.set j none).set i none).set i (some (R z))) := (env_wipe2 (b.mono (e1.trans g2.gr.ex))).set i ((R z).mono g2.gr.ex hx2)
  refine ⟨wipe_out hij, ?_⟩
  refine h0 z xm _ _ F2 _ _ g2 b2 _ fun c F3 H3 e3 g3 hc => ?_
  have hc : c = true := hc
  subst hc
  rw [if_pos rfl]
  refine h1 z xm _ _ F3 _ H3 g3 (b2.mono e3) _ fun v1 F4 H4 e4 g4 ⟨p1, hp1q⟩ => ?_
  obtain ⟨vs1, hp1, s1, q1⟩ := hp1q
  have hl1 : vs1.length = ys.length := by have := paired_len q1; rwa [List.length_map] at this
  have b4 := b2.mono (e3.trans e4)
  refine ⟨p1, hp1, ⟨vs1, Evl.ex_l g4.ex s1⟩, ?_⟩
  have e14 : Ex F1 F4 := g4.gr.ex
  refine ⟨fun m k H' => k = ys.length - m ∧ m ≤ ys.length ∧ ∃ F', Ex F4 F' ∧ Pt ⟨F1, H1, keys M1⟩ F' ((D2, ML (((xs.take n).flatMap fun x => (ys.filter (f x)).map (G x)) ++ ((ys.take m).filter (f z)).map (G z))) :: M1) H', ⟨_, rfl, Nat.zero_le _, F4, Evl.Ex.refl _, by simpa using g4⟩, ?_⟩
  rintro m k2 H5 ⟨rfl, hm, F5, e5, g5⟩
  have sl5 : SqL K H5 p1 vs1 := Evl.ex_l (e5.trans g5.ex) s1
  rcases Nat.lt_or_ge m ys.length with hlt2 | hge2
  case inr =>
    refine .inl ⟨⟨vs1, sl5, by omega⟩, hlt, F5, ?_⟩
    rw [List.take_of_length_le hge2] at g5
    rw [List.flatMap_append, List.flatMap_singleton]
    exact g5
  refine .inr ⟨⟨vs1, vs1[m], sl5, List.getElem?_eq_getElem (by omega)⟩, fun H' => ∃ F', Ex F4 F' ∧ Pt ⟨F1, H1, keys M1⟩ F' ((D2, ML (((xs.take n).flatMap fun x => (ys.filter (f x)).map (G x)) ++ ((ys.take (m + 1)).filter (f z)).map (G z))) :: M1) H', fun H' c => ⟨_, by omega, rfl, hlt2, c⟩, fun x2 H' y2 => ?_⟩
  obtain ⟨e, y2⟩ := y2
  subst e
  have hx5 := y2 vs1 sl5
  obtain ⟨P, hP, hx6⟩ := paired_get' q1 hx5
  have hym : ys[m]? = some ys[m] := List.getElem?_eq_getElem hlt2
  rw [List.getElem?_map, hym] at hP
  have hP : S ys[m] = P := Option.some.inj hP
  subst hP
  have tk2 := take_filter ys (f z) m ys[m] hym
  have ym := List.mem_of_getElem? hym
  generalize ys[m] = y at *
  refine ⟨wipe_one, ?_⟩
  refine lc_turn g5 ((env_wipe (b4.mono e5)).set j ((S y).mono e5 hx6)) (ht z xm y ym) (he z xm y ym) ?_ _ fun F6 H6 e6 g6 => ⟨F6, e5.trans e6, ?_⟩
  · have l1 := flat_len (ys := ys) (f := f) (G := G) (xs := xs.take n)
    rw [tl] at l1
    have l2 : n * ys.length ≤ xs.length * ys.length := Nat.mul_le_mul_right _ hn
    have l3 := List.length_filter_le (f z) (ys.take m)
    rw [List.length_append, List.length_map]
    rw [List.length_take] at l3
    omega
  · rw [tk2, List.map_append, ← List.append_assoc]
    cases hf : f z y
    · rw [hf] at g6; simpa using g6
    · rw [hf] at g6; simpa using g6
theorem ev_str {x : Str} : Ev (tC (.str x)) Γ M (D K (.str x)) M := ev_cv fun _ => .str x
theorem le_ev {es : List Nat} : (D K (dL (es.map fun n : Nat => (n : Int)))).le (PLi K (es.map fun n : Nat => D K (.int (n : Int)))) := by
  have := le_dL (K := K) (l := es.map fun n : Nat => (n : Int))
  rw [List.map_map] at this
  exact this
theorem rv_catP {ps qs : List MP} (h : ps.length + qs.length ≤ 100000) (hp : ps ≠ []) (hq : qs ≠ []) : RV (rCatA K) (PTu K ps) (PTu K qs) M (PTu K (ps ++ qs)) M := fun E F H x y g p1 p2 Q k => by
  obtain ⟨p, vs, rfl, s, q⟩ := p1
  obtain ⟨p', vs', rfl, s', q'⟩ := p2
  have l1 := paired_len q; have l2 := paired_len q'
  refine ⟨p, p', _, _, rfl, rfl, Evl.ex_t g.ex s, Evl.ex_t g.ex s', sz_of (by omega), fun e => ?_, fun _ e => ?_, fun _ _ r hr => ?_⟩
  · exact absurd (List.eq_nil_of_length_eq_zero (by rw [← l1, e]; rfl)) hp
  · exact absurd (List.eq_nil_of_length_eq_zero (by rw [← l2, e]; rfl)) hq
  · have ex := Evl.Ex.new (Evl.fresh_back g.ex hr) (o := .tup (vs ++ vs'))
    exact k _ _ _ ex (g.laid hr) ⟨r, _, rfl, SqT.of upd_same, paired_app (Ps.mono ex q) (Ps.mono ex q')⟩
theorem eqv_tag {s : Str} {l : List PyData} (h : PyData.eqvAll l l = true) : PyData.eqv (.tuple (.str s :: l)) (.tuple (.str s :: l)) = true := by
  simp [PyData.eqv, PyData.eqvAll, h]
theorem eqv_m {s : Str} {w : List Int} : PyData.eqv (.tuple [.str s, dT w]) (.tuple [.str s, dT w]) = true := eqv_tag (by
  have := enc_dT.eq w w
  simp [PyData.eqvAll, this])
theorem eqv_c {s : Str} {l : List Int} : PyData.eqv (.tuple (.str s :: l.map .int)) (.tuple (.str s :: l.map .int)) = true := eqv_tag (by rw [eqvAll_map enc_int]; simp)
theorem shaped_m {s : Str} (hs : PyData.strOk s = true) {w : List Int} : SeqAt.shaped (.tuple [.str s, dT w]) = true := by
  have h1 := enc_dT.lay w
  have h2 := enc_dT.deep w
  unfold SeqAt.shaped
  simp [PyData.canLay0, PyData.canLayAll0, h1, PyData.depth, PyData.depthAll, hs]
  omega
theorem shaped_c {s : Str} (hs : PyData.strOk s = true) {i j : Int} : SeqAt.shaped (.tuple [.str s, .int i, .int j]) = true := by
  unfold SeqAt.shaped
  simp [PyData.canLay0, PyData.canLayAll0, PyData.depth, PyData.depthAll, hs]
end
end Hq
namespace Hq
open PySem L2
/-! ### objects with all their fields known, and their methods -/
def FieldsOk (F : Hp) (fs : List (Str × V)) (fps : List (Str × MP)) : Prop := Paired (fun (x : Str × V) (g : Str × MP) => x.1 = g.1 ∧ g.2.p F x.2) fs fps
def MOb (C : Addr) (fps : List (Str × MP)) : MO := ⟨fun F o => ∃ dx fs, o = .ins C dx fs ∧ FieldsOk F fs fps, fun e ⟨dx, fs, h, p⟩ => ⟨dx, fs, h, Paired.mapP p fun _ g q => ⟨q.1, g.2.mono e q.2⟩⟩⟩
section
variable {K : PySem.W.Frag} {E : Ent} {F H : Hp} {M M1 M2 : Ms} {Γ : Gm} {P P' P1 : MP} {O O' : MO} {q C : Addr} {te ta tb tl tk : TE} {tr : TA} {D1 : Ends} {tu tz : TS} {ps qs : List MP} {i j v : Nat} {fps : List (Str × MP)} {f m : Str} {sp : Sp} {X : XK}
theorem fo_look : ∀ {fs : List (Str × V)} {fps : List (Str × MP)} {i : Nat}, FieldsOk F fs fps → fps[i]? = some (f, P) → (∀ g ∈ fps.take i, g.1 ≠ f) → ∃ x, fs.lookup f = some x ∧ P.p F x
  | _, _, _, .nil, h, _ => by simp at h
  | (n, x) :: fs, g :: fps, 0, .cons a _, h, _ => by
    have h : g = (f, P) := by simpa using h
    subst h
    have e : n = f := a.1
    subst e
    exact ⟨x, by simp [List.lookup], a.2⟩
  | (n, x) :: fs, g :: fps, i + 1, .cons a t, h, hn => by
    obtain ⟨y, hy, py⟩ := fo_look (i := i) t h fun g' hg => hn g' (by rw [List.take_succ_cons]; exact List.mem_cons_of_mem _ hg)
    have ne : g.1 ≠ f := hn g (by rw [List.take_succ_cons]; exact List.mem_cons_self)
    have e : n = g.1 := a.1
    refine ⟨y, ?_, py⟩
    have : (f == n) = false := by rw [beq_eq_false_iff_ne]; rw [e]; exact fun z => ne z.symm
    simp only [List.lookup, this]
    exact hy
theorem fo_none : ∀ {fs : List (Str × V)} {fps : List (Str × MP)}, FieldsOk F fs fps → (∀ g ∈ fps, g.1 ≠ f) → fs.lookup f = none
  | _, _, .nil, _ => rfl
  | (n, x) :: fs, g :: fps, .cons a t, hn => by
    have ne : g.1 ≠ f := hn g List.mem_cons_self
    have e : n = g.1 := a.1
    have : (f == n) = false := by rw [beq_eq_false_iff_ne]; rw [e]; exact fun z => ne z.symm
    simp only [List.lookup, this]
    exact fo_none t fun g' hg => hn g' (List.mem_cons_of_mem _ hg)
theorem fo_new {x : V} : ∀ {fs : List (Str × V)} {fps : List (Str × MP)}, FieldsOk F fs fps → (∀ g ∈ fps, g.1 ≠ f) → P.p F x → FieldsOk F (putF f x fs) (fps ++ [(f, P)])
  | _, _, .nil, _, h => .cons ⟨rfl, h⟩ .nil
  | (n, y) :: fs, g :: fps, .cons a t, hn, h => by
    have ne : g.1 ≠ f := hn g List.mem_cons_self
    have e : n = g.1 := a.1
    unfold putF
    rw [if_neg (by rw [e]; exact ne)]
    exact .cons a (fo_new t (fun g' hg => hn g' (List.mem_cons_of_mem _ hg)) h)
theorem fo_set {x : V} : ∀ {fs : List (Str × V)} {fps : List (Str × MP)} {i : Nat}, FieldsOk F fs fps → fps[i]? = some (f, P) → (∀ g ∈ fps.take i, g.1 ≠ f) → P'.p F x → FieldsOk F (putF f x fs) (fps.set i (f, P'))
  | _, _, _, .nil, h, _, _ => by simp at h
  | (n, y) :: fs, g :: fps, 0, .cons a t, h, _, hp => by
    have h : g = (f, P) := by simpa using h
    subst h
    have e : n = f := a.1
    unfold putF
    rw [if_pos e]
    exact .cons ⟨a.1, hp⟩ t
  | (n, y) :: fs, g :: fps, i + 1, .cons a t, h, hn, hp => by
    have ne : g.1 ≠ f := hn g (by rw [List.take_succ_cons]; exact List.mem_cons_self)
    have e : n = g.1 := a.1
    unfold putF
    rw [if_neg (by rw [e]; exact ne)]
    exact .cons a (fo_set (i := i) t h (fun g' hg => hn g' (by rw [List.take_succ_cons]; exact List.mem_cons_of_mem _ hg)) hp)
/-- self.f, of an own object -/
theorem ev_fldO (ho : Ev ta Γ M (Own q) M1) (e : M1[j]? = some (q, MOb C fps)) (i : Nat) (hi : fps[i]? = some (f, P)) (hn : ∀ g ∈ fps.take i, g.1 ≠ f) (hc : Cls K C) (ha : NoAttr K C f) : Ev (tFld K ta f) Γ M P M1 := fun E F σ H a b Q k => ho E F σ H a b _ fun v F1 H1 e1 g1 p1 => by
  have p1 : v = .ref q := p1
  subst p1
  obtain ⟨_, o, ho2, dx, fs, rfl, h⟩ := g1.at e
  obtain ⟨x, hx, px⟩ := fo_look h hi hn
  exact ⟨q, C, dx, fs, x, rfl, ho2, hc, ha, hx, k x F1 H1 e1 g1 px⟩
/-- x.f, of an object that stands -/
theorem ev_fldS (ho : Ev ta Γ M (Fr (MOb C fps)) M1) (i : Nat) (hi : fps[i]? = some (f, P)) (hn : ∀ g ∈ fps.take i, g.1 ≠ f) (hc : Cls K C) (ha : NoAttr K C f) : Ev (tFld K ta f) Γ M P M1 := fun E F σ H a b Q k => ho E F σ H a b _ fun v F1 H1 e1 g1 ⟨q, o, hv, hq, dx, fs, ho, h⟩ => by
  subst hv; subst ho
  obtain ⟨x, hx, px⟩ := fo_look h hi hn
  exact ⟨q, C, dx, fs, x, rfl, g1.ex _ _ hq, hc, ha, hx, k x F1 H1 e1 g1 px⟩
theorem fo_len {fs : List (Str × V)} (h : FieldsOk F fs fps) : fs.length = fps.length := paired_len h
/-- self.f = e, a new field -/
theorem go_fldN (hv : Ev tb Γ M P M1) (ho : Ev ta Γ M1 (Own q) M1) (e : M1[j]? = some (q, MOb C fps)) (hz : fps.length < 99) (hf : ∀ g ∈ fps, g.1 ≠ f) (hc : Cls K C) (hn : NoAttr K C f) (k : Nx E Γ (M1.set j (q, MOb C (fps ++ [(f, P)]))) D1.nx) :
    Nx E Γ M (sFld K ta tb f D1) := fun σ H ⟨F, a, b⟩ => hv E F σ H a b _ fun y F1 H1 e1 g1 p1 => ho E F1 σ H1 g1 (b.mono e1) _ fun v F2 H2 e2 g2 p2 => by
  have p2 : v = .ref q := p2
  subst p2
  obtain ⟨_, o, ho1, dx, fs, rfl, h3⟩ := g2.at e
  have := fo_len h3
  exact ⟨q, C, dx, fs, rfl, ho1, hc, hn, by omega, k _ _ ⟨F2, g2.mut e ⟨dx, _, rfl, fo_new h3 hf (P.mono e2 p1)⟩, b.mono (e1.trans e2)⟩⟩
theorem q_fldN (hv : Ev tb Γ M P M1) (ho : Ev ta Γ M1 (Own q) M1) (e : M1[j]? = some (q, MOb C fps)) (hz : fps.length < 99) (hf : ∀ g ∈ fps, g.1 ≠ f) (hc : Cls K C) (hn : NoAttr K C f) (k : Nx E Γ (M1.set j (q, MOb C (fps ++ [(f, P)]))) (tz D1)) :
    Nx E Γ M (tSeq (sFld K ta tb f) tz D1) := go_fldN (D1 := { D1 with nx := tz D1 }) hv ho e hz hf hc hn k
/-- self.f = e, the field is there -/
theorem go_fldU (hv : Ev tb Γ M P' M1) (ho : Ev ta Γ M1 (Own q) M1) (e : M1[j]? = some (q, MOb C fps)) (hz : fps.length < 99) (i : Nat) (hi : fps[i]? = some (f, P)) (hf : ∀ g ∈ fps.take i, g.1 ≠ f) (hc : Cls K C) (hn : NoAttr K C f) (k : Nx E Γ (M1.set j (q, MOb C (fps.set i (f, P')))) D1.nx) :
    Nx E Γ M (sFld K ta tb f D1) := fun σ H ⟨F, a, b⟩ => hv E F σ H a b _ fun y F1 H1 e1 g1 p1 => ho E F1 σ H1 g1 (b.mono e1) _ fun v F2 H2 e2 g2 p2 => by
  have p2 : v = .ref q := p2
  subst p2
  obtain ⟨_, o, ho1, dx, fs, rfl, h3⟩ := g2.at e
  have := fo_len h3
  exact ⟨q, C, dx, fs, rfl, ho1, hc, hn, by omega, k _ _ ⟨F2, g2.mut e ⟨dx, _, rfl, fo_set h3 hi hf (P'.mono e2 p1)⟩, b.mono (e1.trans e2)⟩⟩
theorem q_fldU (hv : Ev tb Γ M P' M1) (ho : Ev ta Γ M1 (Own q) M1) (e : M1[j]? = some (q, MOb C fps)) (hz : fps.length < 99) (i : Nat) (hi : fps[i]? = some (f, P)) (hf : ∀ g ∈ fps.take i, g.1 ≠ f) (hc : Cls K C) (hn : NoAttr K C f) (k : Nx E Γ (M1.set j (q, MOb C (fps.set i (f, P')))) (tz D1)) :
    Nx E Γ M (tSeq (sFld K ta tb f) tz D1) := go_fldU (D1 := { D1 with nx := tz D1 }) hv ho e hz i hi hf hc hn k
/-- C(..) -/
theorem make0' (h : EvA tr Γ M ps M1) (hs : ∀ x vs H Q, Prom (Own x :: ps) [(x, MOb C [])] (D K .none) [(x, O)] vs H Q → sp vs H Q X) : EvN (tMake C sp [] X tr) Γ M O M1 := fun E F σ H a b Q k =>
  h E F σ H a b _ fun vs F1 H1 e1 a1 p1 => fun x dx hx hdx hne => by
    have hx2 : upd H1 dx (.own x) x = none := by rw [upd_ne hne.symm]; exact hx
    have g2 : Pt E F1 ((x, MOb C []) :: M1) (upd (upd H1 dx (.own x)) x (.ins C dx [])) := (a1.junk hdx).new hx2 ⟨dx, [], rfl, .nil⟩
    show sp (V.ref x :: (vs ++ [])) _ _ X
    rw [List.append_nil]
    refine hs x (.ref x :: vs) _ _ ⟨F1, ⟨g2.ex, by simp [keys], fun r hr => ?_⟩, .cons rfl p1, fun v F' H' g hv => ⟨dp_non hv, ?_⟩⟩
    · rw [List.mem_singleton.mp hr]; exact g2.wd.own _ List.mem_cons_self
    · refine k x F' H' (a1.fresh hx) (e1.trans g.gr.ex) (g2.frame g (fun z hz => ?_) rfl fun r hr => ?_)
      · rw [List.mem_singleton.mp hz]; exact List.mem_cons_self
      · rcases List.mem_cons.mp hr with z | z
        · rw [z]; exact .inr List.mem_cons_self
        · exact .inl ⟨fun w => (List.nodup_cons.mp (show (x :: keys M1).Nodup from g2.wd.nd)).1 (by rw [show x = r.1 from (List.mem_singleton.mp w).symm]; exact List.mem_map_of_mem (f := (·.1)) z), List.mem_cons_of_mem _ z⟩
/-- o.m(..), o an own object -/
theorem ev_methO (ho : Ev ta Γ M (Own q) M) (e0 : M[j]? = some (q, MOb C fps)) (hn : ∀ g ∈ fps, g.1 ≠ m) (h : EvA tr Γ M ps M) (hs : ∀ vs H Q, Prom (Own q :: ps) [(q, MOb C fps)] P [(q, O')] vs H Q → sp vs H Q X) : Ev (tMeth C m sp [] X ta tr) Γ M P (M.set j (q, O')) := fun E F σ H a b Q k => ho E F σ H a b _ fun v F1 H1 e1 g1 p1 => by
  have p1 : v = .ref q := p1
  subst p1
  obtain ⟨_, o, ho1, dx, fs, rfl, h3⟩ := g1.at e0
  refine ⟨q, dx, fs, rfl, ho1, fo_none h3 hn, ?_⟩
  refine h E F1 σ H1 g1 (b.mono e1) _ fun vs F2 H2 e2 g2 p2 => ?_
  have r := rc_prom1 (ps := Own q :: ps) (O' := O') (P := P) (sp := sp) (X := X) (dvs := []) e0 (fun vs H Q z => by rw [List.append_nil]; exact hs vs H Q z)
  have r2 := r E F2 H2 (V.ref q :: vs) g2 (.cons rfl p2) Q fun v F' H' e g p => k v F' H' ((e1.trans e2).trans e) g p
  exact r2
/-- o.m(..), o stands -/
theorem ev_methS (ho : Ev ta Γ M (Fr (MOb C fps)) M1) (hn : ∀ g ∈ fps, g.1 ≠ m) (h : EvA tr Γ M1 ps M2) (hs : ∀ vs H Q, Prom (Fr (MOb C fps) :: ps) [] P [] vs H Q → sp vs H Q X) : Ev (tMeth C m sp [] X ta tr) Γ M P M2 := fun E F σ H a b Q k => ho E F σ H a b _ fun v F1 H1 e1 g1 p1 => by
  obtain ⟨q, o, hv, hq, dx, fs, rfl, h3⟩ := id p1
  subst hv
  refine ⟨q, dx, fs, rfl, g1.ex _ _ hq, fo_none h3 hn, ?_⟩
  refine h E F1 σ H1 g1 (b.mono e1) _ fun vs F2 H2 e2 g2 p2 => ?_
  have r := rc_prom0 (M := M2) (ps := Fr (MOb C fps) :: ps) (P := P) (sp := sp) (X := X) (dvs := []) (fun vs H Q z => by rw [List.append_nil]; exact hs vs H Q z)
  exact r E F2 H2 (V.ref q :: vs) g2 (.cons ((Fr (MOb C fps)).mono e2 p1) p2) Q fun v F' H' e g p => k v F' H' ((e1.trans e2).trans e) g p
end
section
variable {K : PySem.W.Frag} {F : Hp}
theorem ps_nameD {β : Type} {φ : β → Int → Prop} : ∀ {l : List β} {vs : List V}, Ps F vs (l.map fun b => PEx fun m : Int => PAn (φ b m) (D K (.int m))) → ∃ ms : List Int, Paired (fun b m => φ b m) l ms ∧ Ps F vs (ms.map fun m => D K (.int m))
  | [], _, h => by cases h; exact ⟨[], .nil, .nil⟩
  | b :: l, _, h => by
    cases h with
    | cons a t =>
      obtain ⟨m, hm, p⟩ := a
      obtain ⟨ms, h1, h2⟩ := ps_nameD t
      exact ⟨m :: ms, .cons hm h1, .cons p h2⟩
/-- a list of numbers, each of which is only known by something -/
theorem ml_nameD {n : Nat} {φ : Nat → Int → Prop} : ∀ F o, (ML ((List.range n).map fun i => PEx fun m : Int => PAn (φ i m) (D K (.int m)))).p F o → (MX fun ms : List Int => MA (ms.length = n ∧ ∀ i, i < n → φ i (ms.getD i 0)) (MInts K ms)).p F o := fun F o ⟨vs, e, p⟩ => by
  obtain ⟨ms, h1, h2⟩ := ps_nameD p
  have hl := paired_len h1
  rw [List.length_range] at hl
  refine ⟨ms, ⟨hl.symm, fun i hi => ?_⟩, vs, e, h2⟩
  obtain ⟨m, hm, hp⟩ := paired_get' h1 (List.getElem?_range hi)
  rw [List.getD_eq_getElem?_getD, hm]
  exact hp
end
/-! zip -/
theorem pi_zipK {X : Cx} {K : PySem.W.Frag} {e e2 : PySem.Expr} {ta : TA} {p pos tpos : Pos} {elts : List PySem.Expr} {kk : Nat} (eK : X.K = K) (hg : Gl X "zip") (hm : X.mg "zip" = none) (ha : PA X [e, e2] ta)
    (hs : starEach [e, e2] X.env = (false, eval e X.env) :: starEach [e2] X.env := by rfl) (hpl : (backTo pos (starEach [e2] X.env)).any (·.1) = false := by rfl) :
    PI X (.Tuple elts kk tpos) (.Call (.Name "zip" p) [e, e2] [] pos) (RZ.iZipA K ta) := eK ▸ RZ.pi_zipA hg hm ha hs hpl
section
variable {K : PySem.W.Frag} {E : Ent} {F H : Hp} {M M1 M2 : Ms} {Γ : Gm} {te ta tb : TE} {D1 : Ends} {tu tz : TS} {i j : Nat} {γ : Type} {zs : List γ} {RA RB : γ → MP} {t : TT}
theorem walk_zipT {a b : Addr} {xs ys : List V} {n : Nat} (hn : n = xs.length ∧ n = ys.length) : Walk (RZ.ItzT K a b) n (fun H => SqT K H a xs ∧ SqT K H b ys) (YPair (fun i => xs[i]?) (fun i => ys[i]?)) := by
  obtain ⟨h1, h2⟩ := hn
  refine ⟨fun i _ hi q => ⟨xs, ys, xs[i]'(by omega), ys[i]'(by omega), q.1, q.2, by simp [show i < xs.length by omega], by simp [show i < ys.length by omega]⟩, fun _ q => ⟨xs, ys, q.1, q.2, by omega⟩, fun i H v H' _ q y => ?_⟩
  obtain ⟨T, x, z, h1, h2, h3, h4, h5⟩ := y
  exact ⟨T, x, z, h1, h2, h3, h4 xs q.1, h5 ys q.2⟩
/-- zip of two tuples of one length -/
theorem go_forZipT (ha : Ev ta Γ M (PTu K (zs.map RA)) M1) (hb : Ev tb Γ M1 (PTu K (zs.map RB)) M2) (Jv : Nat → Gm → Ms → Prop) (h0 : Jv 0 Γ M2)
    (hs : ∀ E', Le E' E → ∀ n z, zs[n]? = some z → ∀ Γ' M', Jv n Γ' M' → Nx E' ((Γ'.set i (some (RA z))).set j (some (RB z))) M' (tu { D1 with nx := JA E' (Jv (n + 1)), ct := JA E' (Jv (n + 1)), bk := D1.nx }))
    (hd : ∀ Γ' M', Jv zs.length Γ' M' → Nx E Γ' M' D1.nx) : Nx E Γ M (tFor (RZ.iZipA K (tCons ta (tCons tb tNil))) (gPair K i j) tu D1) := fun σ H ⟨F, a, b⟩ =>
  ha E F σ H a b _ fun v F1 H1 e1 g1 p1 => hb E F1 σ H1 g1 (b.mono e1) _ fun w F2 H2 e2 g2 p2 => by
    obtain ⟨x, us, rfl, s1, q1⟩ := (PTu K (zs.map RA)).mono e2 p1
    obtain ⟨y, vs, rfl, s2, q2⟩ := p2
    have l1 : us.length = zs.length := by have := paired_len q1; rwa [List.length_map] at this
    have l2 : vs.length = zs.length := by have := paired_len q2; rwa [List.length_map] at this
    exact ⟨x, y, us, vs, rfl, .inr ⟨Evl.ex_t g2.ex s1, Evl.ex_t g2.ex s2, for_pairs (K := K) (Q := True) (walk_zipT ⟨l1.symm, l2.symm⟩) g2 (b.mono (e1.trans e2)) q1 q2 (fun F' H' e e' => ⟨Evl.ex_t (e.trans e') s1, Evl.ex_t (e.trans e') s2⟩) Jv h0 hs hd⟩⟩
theorem q_forZipT (ha : Ev ta Γ M (PTu K (zs.map RA)) M1) (hb : Ev tb Γ M1 (PTu K (zs.map RB)) M2) (Jv : Nat → Gm → Ms → Prop) (h0 : Jv 0 Γ M2)
    (hs : ∀ E', Le E' E → ∀ n z, zs[n]? = some z → ∀ Γ' M', Jv n Γ' M' → Nx E' ((Γ'.set i (some (RA z))).set j (some (RB z))) M' (tu { D1 with nx := JA E' (Jv (n + 1)), ct := JA E' (Jv (n + 1)), bk := tz D1 }))
    (hd : ∀ Γ' M', Jv zs.length Γ' M' → Nx E Γ' M' (tz D1)) : Nx E Γ M (tSeq (tFor (RZ.iZipA K (tCons ta (tCons tb tNil))) (gPair K i j) tu) tz D1) := go_forZipT (D1 := { D1 with nx := tz D1 }) ha hb Jv h0 hs hd
end
end Hq
namespace Hq
open PySem L2
/-! ### a comprehension with two generators, the inner list by the outer item; comprehensions over zip -/
section
variable {K : PySem.W.Frag} {E : Ent} {F H : Hp} {M M1 M2 : Ms} {Γ : Gm} {P : MP} {O : MO} {q : Addr} {te ta tb tl tl1 tk td : TE} {tr : TA} {D1 : Ends} {tu tz : TS} {t t0 u : TT} {ps : List MP} {i j : Nat}
theorem flatD_len {α β γ : Type} {ys : α → List β} {f : α → β → Bool} {G : α → β → γ} {N : Nat} : ∀ {xs : List α}, (∀ x ∈ xs, (ys x).length ≤ N) → (xs.flatMap fun x => ((ys x).filter (f x)).map (G x)).length ≤ xs.length * N
  | [], _ => Nat.zero_le _
  | x :: xs, h => by
    rw [List.flatMap_cons, List.length_append, List.length_map, List.length_cons, Nat.succ_mul]
    have h1 := List.length_filter_le (f x) (ys x)
    have h2 := flatD_len (ys := ys) (f := f) (G := G) (xs := xs) fun y hy => h y (List.mem_cons_of_mem _ hy)
    have h3 := h x List.mem_cons_self
    omega
theorem evn_lc2D {α β : Type} {xs : List α} {ys : α → List β} {N : Nat} {R : α → MP} {S : β → MP} {G : α → β → MP} (f : α → β → Bool) (hij : i ≠ j)
    (h : Ev tl Γ M (PLi K (xs.map R)) M1) (hy : ∀ x ∈ xs, (ys x).length ≤ N) (hz : (xs.length + 1) * N ≤ 50000)
    (h0 : ∀ x ∈ xs, ∀ M, EvT t0 (((Γ.set j none).set i none).set i (some (R x))) M (· = true) M)
    (h1 : ∀ x ∈ xs, ∀ M, Ev tl1 (((Γ.set j none).set i none).set i (some (R x))) M (PLi K ((ys x).map S)) M)
    (ht : ∀ x ∈ xs, ∀ y ∈ ys x, EvT t (((((Γ.set j none).set i none).set i (some (R x))).set j none).set j (some (S y))) M1 (· = f x y) M1)
    (he : ∀ x ∈ xs, ∀ y ∈ ys x, f x y = true → Ev te (((((Γ.set j none).set i none).set i (some (R x))).set j none).set j (some (S y))) M1 (G x y) M1) :
    EvN (tLc2 (iList K tl) (gName i) t0 (iList K tl1) (gName j) t te [i, j] [j]) Γ M (ML (xs.flatMap fun x => ((ys x).filter (f x)).map (G x))) M1 := fun E F σ H a b Q k => h E F σ H a b _ fun v F1 H1 e1 g1 ⟨p, vs, hp, s, q⟩ => by
  refine ⟨p, hp, ⟨vs, Evl.ex_l g1.ex s⟩, fun D2 hD => ?_⟩
  have hl : vs.length = xs.length := by have := paired_len q; rwa [List.length_map] at this
  have gn : Pt ⟨F1, H1, keys M1⟩ F1 ((D2, ML []) :: M1) (upd H1 D2 (.lst [])) := g1.enter.new hD ⟨[], rfl, .nil⟩
  refine ⟨fun n m H' => m = xs.length - n ∧ n ≤ xs.length ∧ ∃ F', Pt ⟨F1, H1, keys M1⟩ F' ((D2, ML ((xs.take n).flatMap fun x => ((ys x).filter (f x)).map (G x))) :: M1) H', ⟨_, rfl, Nat.zero_le _, F1, gn⟩, ?_⟩
  rintro n m H2 ⟨rfl, hn, F2, g2⟩
  have sl2 : SqL K H2 p vs := Evl.ex_l (g2.gr.ex.trans g2.ex) s
  rcases Nat.lt_or_ge n xs.length with hlt | hge
  case inr =>
    refine .inl ⟨⟨vs, sl2, by omega⟩, ?_⟩
    rw [List.take_of_length_le (by omega)] at g2
    exact k D2 F2 H2 (g1.fresh hD) (e1.trans g2.gr.ex) (g1.back g2)
  refine .inr ⟨⟨vs, vs[n], sl2, List.getElem?_eq_getElem (by omega)⟩, fun H' => n + 1 ≤ xs.length ∧ ∃ F', Pt ⟨F1, H1, keys M1⟩ F' ((D2, ML ((xs.take (n + 1)).flatMap fun x => ((ys x).filter (f x)).map (G x))) :: M1) H', fun H' ⟨c1, c2⟩ => ⟨_, by omega, rfl, c1, c2⟩, fun x H' y => ?_⟩
  obtain ⟨rfl, y⟩ := y
  have hx := y vs sl2
  obtain ⟨P, hP, hx2⟩ := paired_get' q hx
  have hxn : xs[n]? = some xs[n] := List.getElem?_eq_getElem hlt
  rw [List.getElem?_map, hxn] at hP
  have hP : R xs[n] = P := Option.some.inj hP
  subst hP
  have tk : xs.take (n + 1) = xs.take n ++ [xs[n]] := by rw [List.take_add_one, hxn]; rfl
  have tl : (xs.take n).length = n := by rw [List.length_take]; omega
  rw [tk]
  have xm := List.mem_of_getElem? hxn
  generalize xs[n] = z at *
  have b2 : EnvOk F2 ((wipe σ [i, j]).set i (some x)) (((Γ.set j none).set i none).set i (some (R z))) := (env_wipe2 (b.mono (e1.trans g2.gr.ex))).set i ((R z).mono g2.gr.ex hx2)
  refine ⟨wipe_out hij, ?_⟩
  refine h0 z xm _ _ F2 _ _ g2 b2 _ fun c F3 H3 e3 g3 hc => ?_
  have hc : c = true := hc
  subst hc
  rw [if_pos rfl]
  refine h1 z xm _ _ F3 _ H3 g3 (b2.mono e3) _ fun v1 F4 H4 e4 g4 ⟨p1, hp1q⟩ => ?_
  obtain ⟨vs1, hp1, s1, q1⟩ := hp1q
  have hl1 : vs1.length = (ys z).length := by have := paired_len q1; rwa [List.length_map] at this
  have b4 := b2.mono (e3.trans e4)
  refine ⟨p1, hp1, ⟨vs1, Evl.ex_l g4.ex s1⟩, ?_⟩
  have e14 : Ex F1 F4 := g4.gr.ex
  refine ⟨fun m k H' => k = (ys z).length - m ∧ m ≤ (ys z).length ∧ ∃ F', Ex F4 F' ∧ Pt ⟨F1, H1, keys M1⟩ F' ((D2, ML (((xs.take n).flatMap fun x => ((ys x).filter (f x)).map (G x)) ++ (((ys z).take m).filter (f z)).map (G z))) :: M1) H', ⟨_, rfl, Nat.zero_le _, F4, Evl.Ex.refl _, by simpa using g4⟩, ?_⟩
  rintro m k2 H5 ⟨rfl, hm, F5, e5, g5⟩
  have sl5 : SqL K H5 p1 vs1 := Evl.ex_l (e5.trans g5.ex) s1
  rcases Nat.lt_or_ge m (ys z).length with hlt2 | hge2
  case inr =>
    refine .inl ⟨⟨vs1, sl5, by omega⟩, hlt, F5, ?_⟩
    rw [List.take_of_length_le hge2] at g5
    rw [List.flatMap_append, List.flatMap_singleton]
    exact g5
  refine .inr ⟨⟨vs1, vs1[m], sl5, List.getElem?_eq_getElem (by omega)⟩, fun H' => ∃ F', Ex F4 F' ∧ Pt ⟨F1, H1, keys M1⟩ F' ((D2, ML (((xs.take n).flatMap fun x => ((ys x).filter (f x)).map (G x)) ++ (((ys z).take (m + 1)).filter (f z)).map (G z))) :: M1) H', fun H' c => ⟨_, by omega, rfl, hlt2, c⟩, fun x2 H' y2 => ?_⟩
  obtain ⟨e, y2⟩ := y2
  subst e
  have hx5 := y2 vs1 sl5
  obtain ⟨P, hP, hx6⟩ := paired_get' q1 hx5
  have hym : (ys z)[m]? = some (ys z)[m] := List.getElem?_eq_getElem hlt2
  rw [List.getElem?_map, hym] at hP
  have hP : S (ys z)[m] = P := Option.some.inj hP
  subst hP
  have tk2 := take_filter (ys z) (f z) m (ys z)[m] hym
  have ym := List.mem_of_getElem? hym
  generalize (ys z)[m] = y at *
  refine ⟨wipe_one, ?_⟩
  refine lc_turn g5 ((env_wipe (b4.mono e5)).set j ((S y).mono e5 hx6)) (ht z xm y ym) (he z xm y ym) ?_ _ fun F6 H6 e6 g6 => ⟨F6, e5.trans e6, ?_⟩
  · have l1 := flatD_len (ys := ys) (f := f) (G := G) (N := N) (xs := xs.take n) (fun x hx => hy x (List.mem_of_mem_take hx))
    rw [tl] at l1
    have l2 : n * N ≤ xs.length * N := Nat.mul_le_mul_right _ hn
    have l3 := List.length_filter_le (f z) ((ys z).take m)
    have l4 := hy z xm
    rw [List.length_append, List.length_map]
    rw [List.length_take] at l3
    rw [Nat.succ_mul] at hz
    omega
  · rw [tk2, List.map_append, ← List.append_assoc]
    cases hf : f z y
    · rw [hf] at g6; simpa using g6
    · rw [hf] at g6; simpa using g6
section
variable {γ : Type} {zs : List γ} {RA RB G : γ → MP} {f : γ → Bool}
section
variable {J : It} {Gd : Hp → Prop} {us vs : List V}
/-- a comprehension over pairs, what is walked stands by the owned things -/
theorem lc_pairsP {F1 H1 : Hp} {σ : St} {Q : VK} (hij : i ≠ j) (w : Walk J zs.length Gd (YPair (fun i => us[i]?) (fun i => vs[i]?))) (hz : zs.length ≤ 50000)
    (g1 : Pt E F1 M1 H1) (b : EnvOk F1 σ Γ) (hu : Ps F1 us (zs.map RA)) (hv : Ps F1 vs (zs.map RB)) (hG : ∀ F' H' r, Ex F1 F' → Pt ⟨F1, H1, keys M1⟩ F' (r :: M1) H' → Gd H')
    (ht : ∀ z ∈ zs, EvT t ((((Γ.set j none).set i none).set i (some (RA z))).set j (some (RB z))) M1 (· = f z) M1)
    (he : ∀ z ∈ zs, f z = true → Ev te ((((Γ.set j none).set i none).set i (some (RA z))).set j (some (RB z))) M1 (G z) M1)
    (k : ContN E F1 (ML ((zs.filter f).map G)) M1 Q) : ∀ D, H1 D = none → ∃ W : Nat → Nat → Hp → Prop, (∃ m, W 0 m (upd H1 D (.lst []))) ∧ ∀ n m H, W n m H →
      (J.stop n H ∧ Q (.ref D) H) ∨ (J.go n H ∧ ∃ Nx : Hp → Prop, (∀ H', Nx H' → ∃ m', m' < m ∧ W (n + 1) m' H') ∧ ∀ x H', J.yld n H x H' → gPair K i j x (wipe σ [i, j]) H' fun σ2 H2 => wipe σ2 [i, j] = wipe σ [i, j] ∧ t σ2 H2 fun b H3 =>
        if b = true then te σ2 H3 fun y H4 => ∃ acc, H4 D = some (.lst acc) ∧ acc.length < sizeLine ∧ Nx (upd H4 D (.lst (acc ++ [y]))) else Nx H3) := by
  intro D2 hD
  have gn : Pt ⟨F1, H1, keys M1⟩ F1 ((D2, ML []) :: M1) (upd H1 D2 (.lst [])) := g1.enter.new hD ⟨[], rfl, .nil⟩
  refine lc_it w (fun n H' => ∃ F', Pt ⟨F1, H1, keys M1⟩ F' ((D2, ML (((zs.take n).filter f).map G)) :: M1) H') ⟨F1, gn⟩ (fun n H2 _ ⟨F2, g2⟩ => hG F2 H2 _ g2.gr.ex g2) (fun n x H2 H3 hn ⟨F2, g2⟩ y => ?_) (fun H2 ⟨F2, g2⟩ => ?_)
  · obtain ⟨T, x1, y1, rfl, hT, rfl, hx1, hy1⟩ := y
    obtain ⟨PA, hPA, hxA⟩ := paired_get' hu hx1
    obtain ⟨PB, hPB, hyB⟩ := paired_get' hv hy1
    have hzn : zs[n]? = some zs[n] := List.getElem?_eq_getElem hn
    rw [List.getElem?_map, hzn] at hPA hPB
    have hPA : RA zs[n] = PA := Option.some.inj hPA
    have hPB : RB zs[n] = PB := Option.some.inj hPB
    subst hPA; subst hPB
    generalize zs[n] = z at *
    have hm := List.mem_of_getElem? hzn
    have g3 : Pt ⟨F1, H1, keys M1⟩ F2 ((D2, ML (((zs.take n).filter f).map G)) :: M1) (upd H2 T (.tup [x1, y1])) := g2.junk hT
    refine ⟨T, [x1, y1], rfl, SqT.of upd_same, rfl, x1, [y1], rfl, y1, [], rfl, rfl, wipe_two hij, ?_⟩
    refine lc_turn g3 (((env_wipe2 (b.mono g2.gr.ex)).set i ((RA z).mono g2.gr.ex hxA)).set j ((RB z).mono g2.gr.ex hyB)) (ht z hm) (he z hm) ?_ _ fun F3 H3 e3 g4 => ⟨F3, ?_⟩
    · rw [List.length_map]
      exact Nat.lt_of_le_of_lt (Nat.le_trans (List.length_filter_le _ _) (by rw [List.length_take]; omega)) (by omega : zs.length < 100000)
    · rw [take_filter zs f n z hzn, List.map_append]
      cases hf : f z
      · rw [hf] at g4; simpa using g4
      · rw [hf] at g4; simpa using g4
  · rw [List.take_length] at g2
    exact k D2 F2 H2 (g1.fresh hD) g2.gr.ex (g1.back g2)
end
/-- over zip of a list that stands and an own list of ints -/
theorem evn_lcZipLO {α : Type} {xs : List α} {hs : List Int} {RA : α → MP} {G : α × Int → MP} {f : α × Int → Bool} {j0 : Nat} (hij : i ≠ j) (hlen : xs.length = hs.length) (h1 : Ev ta Γ M (PLi K (xs.map RA)) M1) (h2 : Ev tb Γ M1 (Own q) M1) (e0 : M1[j0]? = some (q, MInts K hs)) (hz : xs.length ≤ 50000)
    (ht : ∀ z ∈ xs.zip hs, EvT t ((((Γ.set j none).set i none).set i (some (RA z.1))).set j (some (D K (.int z.2)))) M1 (· = f z) M1)
    (he : ∀ z ∈ xs.zip hs, f z = true → Ev te ((((Γ.set j none).set i none).set i (some (RA z.1))).set j (some (D K (.int z.2)))) M1 (G z) M1) :
    EvN (tLc (RZ.iZipA K (tCons ta (tCons tb tNil))) (gPair K i j) t te [i, j]) Γ M (ML (((xs.zip hs).filter f).map G)) M1 := fun E F σ H a b Q k => h1 E F σ H a b _ fun v F1 H1 e1 g1 ⟨p, vs, hp, s, qq⟩ => h2 E F1 σ H1 g1 (b.mono e1) _ fun v2 F2 H2 e2 g2 p2 => by
  have p2 : v2 = .ref q := p2
  subst p2
  have l1 : vs.length = xs.length := by have := paired_len qq; rwa [List.length_map] at this
  have qq := Ps.mono e2 qq
  have own : ∀ {E' : Ent} {F' H' : Hp} {r : Addr × MO}, Pt E' F' (r :: M1) H' → SqL K H' q (hs.map V.int) := fun {E' F' H' r} g => by
    obtain ⟨_, o, ho, ws, rfl, s⟩ := g.at (j := j0 + 1) (by simpa using e0)
    have := ints_map s
    subst this
    exact SqL.of ho
  have own2 : SqL K H2 q (hs.map V.int) := by
    obtain ⟨_, o, ho, ws, rfl, s⟩ := g2.at e0
    have := ints_map s
    subst this
    exact SqL.of ho
  refine ⟨p, q, vs, hs.map V.int, by rw [hp], .inl ⟨Evl.ex_l (e2.trans g2.ex) s, own2, ?_⟩⟩
  have lz : (xs.zip hs).length = xs.length := by rw [List.length_zip, hlen, Nat.min_self]
  refine lc_pairsP (K := K) (zs := xs.zip hs) (RA := fun z => RA z.1) (RB := fun z => D K (.int z.2)) (us := vs) (vs := hs.map V.int) hij (walk_zip (by rw [List.length_map]; omega)) (by omega) g2 (b.mono (e1.trans e2)) ?_ ?_ (fun F' H' r e g => ⟨Evl.ex_l ((e2.trans e).trans g.ex) s, own g⟩) ht he fun q F' H' f e g => k q F' H' f ((e1.trans e2).trans e) g
  · rw [show (fun z : α × Int => RA z.1) = RA ∘ Prod.fst from rfl, ← List.map_map, List.map_fst_zip (by omega)]; exact qq
  · rw [show (fun z : α × Int => D K (.int z.2)) = (fun n : Int => D K (.int n)) ∘ Prod.snd from rfl, ← List.map_map, List.map_snd_zip (by omega)]; exact map_ints hs
/-- over zip of two lists of one length -/
theorem evn_lcZipL (hij : i ≠ j) (h1 : Ev ta Γ M (PLi K (zs.map RA)) M1) (h2 : Ev tb Γ M1 (PLi K (zs.map RB)) M2) (hz : zs.length ≤ 50000)
    (ht : ∀ z ∈ zs, EvT t ((((Γ.set j none).set i none).set i (some (RA z))).set j (some (RB z))) M2 (· = f z) M2)
    (he : ∀ z ∈ zs, f z = true → Ev te ((((Γ.set j none).set i none).set i (some (RA z))).set j (some (RB z))) M2 (G z) M2) :
    EvN (tLc (RZ.iZipA K (tCons ta (tCons tb tNil))) (gPair K i j) t te [i, j]) Γ M (ML ((zs.filter f).map G)) M2 := fun E F σ H a b Q k => h1 E F σ H a b _ fun v F1 H1 e1 g1 ⟨p, vs, hp, s, q⟩ => h2 E F1 σ H1 g1 (b.mono e1) _ fun v2 F2 H2 e2 g2 ⟨p2, vs2, hp2, s2, q2⟩ => by
  have l1 : vs.length = zs.length := by have := paired_len q; rwa [List.length_map] at this
  have l2 : vs2.length = zs.length := by have := paired_len q2; rwa [List.length_map] at this
  have q := Ps.mono e2 q
  refine ⟨p, p2, vs, vs2, by rw [hp, hp2], .inl ⟨Evl.ex_l (e2.trans g2.ex) s, Evl.ex_l g2.ex s2, ?_⟩⟩
  refine lc_pairs (K := K) (zs := zs) (us := vs) (vs := vs2) hij (walk_zip (by omega)) hz g2 (b.mono (e1.trans e2)) q q2 (fun F' H' e e' => ⟨Evl.ex_l ((e2.trans e).trans e') s, Evl.ex_l (e.trans e') s2⟩) ht he fun q F' H' f e g => k q F' H' f ((e1.trans e2).trans e) g
end
theorem rv_inO {x : Int} {ns : List Int} {neg : Bool} (e : M[j]? = some (q, MInts K ns)) : RV (rIn K neg) (D K (.int x)) (Own q) M (D K (.bool (if neg then !decide (x ∈ ns) else decide (x ∈ ns)))) M := fun E F H v y a p1 p2 Q k => by
  cases dp_int p1
  have p2 : y = .ref q := p2
  subst p2
  obtain ⟨_, o, ho, ws, rfl, s⟩ := a.at e
  have e1 := ints_map s
  subst e1
  refine ⟨q, _, rfl, .inl (SqL.of ho), rfl, flat_all ns, ?_⟩
  rw [inV_ints]
  exact k _ F H (Evl.Ex.refl _) a (.bl _)
theorem q_forEnumL {α : Type} {xs : List α} {R : α → MP} (h : Ev tl Γ M (PLi K (xs.map R)) M1) (Jv : Nat → Gm → Ms → Prop) (h0 : Jv 0 Γ M1)
    (hs : ∀ E', Le E' E → ∀ n x, xs[n]? = some x → ∀ Γ' M', Jv n Γ' M' → Nx E' ((Γ'.set i (some (D K (.int n)))).set j (some (R x))) M' (tu { D1 with nx := JA E' (Jv (n + 1)), ct := JA E' (Jv (n + 1)), bk := tz D1 }))
    (hd : ∀ Γ' M', Jv xs.length Γ' M' → Nx E Γ' M' (tz D1)) : Nx E Γ M (tSeq (tFor (iEnum K (tCons tl tNil)) (gPair K i j) tu) tz D1) := go_forEnumL (D1 := { D1 with nx := tz D1 }) h Jv h0 hs hd
/-! a dict by a comprehension over ints, as the set of its keys -/
def MSet (ks : List Int) : MO := ⟨fun _ o => ∃ kvs : List (Key × V), o = .dK kvs ∧ kvs.length ≤ ks.length ∧ ∀ x : Int, (valV kvs (.inl x)).isSome = decide (x ∈ ks), fun _ h => h⟩
theorem put_len {kvs : List (Key × V)} {k : Key} {z : V} : (putK kvs k z).length ≤ kvs.length + 1 := by
  unfold putK
  split
  · rw [List.length_map]; omega
  · rw [List.length_append]; simp
theorem evn_dcI {xs : List Int} (h : Ev tl Γ M (PLi K (xs.map fun x => D K (.int x))) M1) (hz : xs.length ≤ 50000) (hi : i < Γ.length) :
    EvN (tDc (iList K tl) (gName i) tYes (tVar i) (tC (.bl true)) [i]) Γ M (MSet xs) M1 := fun E F σ H a b Q k => h E F σ H a b _ fun v F1 H1 e1 g1 ⟨p, vs, hp, s, q⟩ => by
  refine ⟨p, hp, ⟨vs, Evl.ex_l g1.ex s⟩, fun D2 hD => ?_⟩
  have hl : vs.length = xs.length := by have := paired_len q; rwa [List.length_map] at this
  have gn : Pt ⟨F1, H1, keys M1⟩ F1 ((D2, MSet []) :: M1) (upd H1 D2 (.dK [])) := g1.enter.new hD ⟨[], rfl, Nat.le_refl _, fun x => rfl⟩
  refine ⟨fun n m H' => m = xs.length - n ∧ n ≤ xs.length ∧ ∃ F', Pt ⟨F1, H1, keys M1⟩ F' ((D2, MSet (xs.take n)) :: M1) H', ⟨_, rfl, Nat.zero_le _, F1, gn⟩, ?_⟩
  rintro n m H2 ⟨rfl, hn, F2, g2⟩
  have sl2 : SqL K H2 p vs := Evl.ex_l (g2.gr.ex.trans g2.ex) s
  rcases Nat.lt_or_ge n xs.length with hlt | hge
  case inr =>
    refine .inl ⟨⟨vs, sl2, by omega⟩, ?_⟩
    rw [List.take_of_length_le (by omega)] at g2
    exact k D2 F2 H2 (g1.fresh hD) (e1.trans g2.gr.ex) (g1.back g2)
  refine .inr ⟨⟨vs, vs[n], sl2, List.getElem?_eq_getElem (by omega)⟩, fun H' => n + 1 ≤ xs.length ∧ ∃ F', Pt ⟨F1, H1, keys M1⟩ F' ((D2, MSet (xs.take (n + 1))) :: M1) H', fun H' ⟨c1, c2⟩ => ⟨_, by omega, rfl, c1, c2⟩, fun x H' y => ?_⟩
  obtain ⟨rfl, y⟩ := y
  have hx := y vs sl2
  obtain ⟨P, hP, hx2⟩ := paired_get' q hx
  have hxn : xs[n]? = some xs[n] := List.getElem?_eq_getElem hlt
  rw [List.getElem?_map, hxn] at hP
  have hP : D K (.int xs[n]) = P := Option.some.inj hP
  subst hP
  have tk : xs.take (n + 1) = xs.take n ++ [xs[n]] := by rw [List.take_add_one, hxn]; rfl
  rw [tk]
  have tl : (xs.take n).length = n := by rw [List.length_take]; omega
  generalize xs[n] = z at *
  have b2 : EnvOk F2 ((wipe σ [i]).set i (some x)) ((Γ.set i none).set i (some (D K (.int z)))) := (env_wipe (b.mono (e1.trans g2.gr.ex))).set i ((D K (.int z)).mono g2.gr.ex hx2)
  refine ⟨wipe_one, ?_⟩
  refine (et_yes (M := (D2, MSet (xs.take n)) :: M1) (Γ := (Γ.set i none).set i (some (D K (.int z))))) _ F2 _ _ g2 b2 _ fun c F3 H3 e3 g3 hc => ?_
  have hc : c = true := hc
  subst hc
  rw [if_pos rfl]
  refine (ev_var (i := i) (P := D K (.int z)) (by simp [hi])) _ F3 _ H3 g3 (b2.mono e3) _ fun w F4 H4 e4 g4 p4 => ?_
  refine (ev_bl (K := K) (b := true)) _ F4 _ H4 g4 (b2.mono (e3.trans e4)) _ fun w5 F5 H5 e5 g5 p5 => ?_
  cases dp_int p4
  obtain ⟨fq, o, ho, kvs, rfl, hk1, hk2⟩ := g5.at (j := 0) rfl
  refine ⟨kvs, .inl z, rfl, ho, sz_lt (by omega), hlt, F5, g5.mut (j := 0) rfl ⟨_, rfl, ?_, fun x => ?_⟩⟩
  · have := put_len (kvs := kvs) (k := .inl z) (z := w5)
    rw [List.length_append, List.length_singleton]; omega
  · rw [valV_put]
    by_cases e : x = z
    · subst e; rw [if_pos rfl]; simp
    · rw [if_neg (fun c => e (Sum.inl.inj c)), hk2 x]
      simp [e]
theorem ev_din {x : Int} {ks : List Int} (hk : Ev tk Γ M (D K (.int x)) M1) (hd : Ev td Γ M1 (Own q) M2) (e : M2[j]? = some (q, MSet ks)) : Ev (tDIn tk td) Γ M (D K (.bool (decide (x ∈ ks)))) M2 := fun E F σ H a b Q k => by
  refine hk E F σ H a b _ fun v F1 H1 e1 g1 p1 => hd E F1 σ H1 g1 (b.mono e1) _ fun y F2 H2 e2 g2 p2 => ?_
  cases dp_int p1
  have p2 : y = .ref q := p2
  subst p2
  obtain ⟨fq, o, ho, kvs, rfl, _, hkv⟩ := g2.at e
  refine ⟨q, _, rfl, DGet.k (k := .inl x) ho, ?_⟩
  rw [hkv]
  exact k _ F2 H2 (e1.trans e2) g2 (.bl _)
end
/-! a dict by a comprehension, kept under a name -/
theorem sw_dict {kx vx : PySem.Expr} {gs : List Comprehension} {scope : Scope} {pos py : Pos} {y : Str} {l : Nat} {env : Env} (hk : env.scope.kind = .function) (hy : env.scope.names.lookup y = some .local) (hl : (py.line == pos.line) = true)
    (ha : (scope.names.any fun (n, k) => n == y && (k == .local || k == .cell)) = false) : swapsWith (.DictComp kx vx gs scope pos) (some (.Name y py)) l env = pure true := by
  have ky : env.kindOf y = some .local := hy
  have hb : env.blockKind = .function := by unfold Env.blockKind; rw [hk]; rfl
  unfold swapsWith
  simp only [hb, ky, ha, Expr.pos, hl]
  rfl
section
open PySem.Spec PyProof.Rows PySem.Sem
theorem ps_setDcK {X : Cx} {i : Nat} {y : Str} {py : Pos} {kx vx tg iter : PySem.Expr} {ifs : List PySem.Expr} {scope : Scope} {own : List (Str × Nat)} {pos spos : Pos} {wi : TI} {g : TG} {tt : TT} {tk tv : TE} (hc : X.calm = true) (hN : X.N.Nodup) (hy : X.N[i]? = some y) (hyl : X.env.scope.names.lookup y = some .local)
    (hsw : swapsWith (.DictComp kx vx [⟨tg, iter, ifs, 0⟩] scope pos) (some (.Name y py)) spos.line X.env = pure true) (hi : PI X tg iter wi) (ok : BlkOk X.N X.env.scope scope own)
    (hg : ∀ (s : Shared) (H : Hp) (C : Addr) (cl : List (Str × Addr)) (fp : List Addr), PG (X.blk s H scope (compEnvC scope cl C X.env) fp) tg g) (ht : ∀ (s : Shared) (H : Hp) (C : Addr) (cl : List (Str × Addr)) (fp : List Addr), PTs (X.blk s H scope (compEnvC scope cl C X.env) fp) ifs tt)
    (hk : ∀ (s : Shared) (H : Hp) (C : Addr) (cl : List (Str × Addr)) (fp : List Addr), PE (X.blk s H scope (compEnvC scope cl C X.env) fp) kx tk)
    (he : ∀ (s : Shared) (H : Hp) (C : Addr) (cl : List (Str × Addr)) (fp : List Addr), PE (X.blk s H scope (compEnvC scope cl C X.env) fp) vx tv) (hs : ∀ x, foldedSetIterable iter X.env x = pure x := by intro _; rfl) :
    PS X (.Assign [.Name y py] (.DictComp kx vx [⟨tg, iter, ifs, 0⟩] scope pos) spos) (tAsg (tDc wi g tt tk tv (own.map (·.2))) (gName i)) := by
  refine ⟨fun pins s σ H D I h => ?_⟩
  rw [exec_Assign_Name_used _ _ _ _ hsw]
  refine wpAny_bind (wpAny_standAt (wpAny_bind ?_))
  show wpAny _ X.A (do let _ ← comprehension (.DictComp kx vx [⟨tg, iter, ifs, 0⟩] scope pos) scope X.env (firstIterPos [⟨tg, iter, ifs, 0⟩] pos) newDict false (eval iter X.env) (some (assign (.Name y py) X.env))) _ _ s
  have h : tDc wi g tt tk tv (own.map (·.2)) σ H (fun x H1 => gName i x σ H1 D.nx) := h
  refine wpAny_bind (thn (dc_core (Qf := fun _ s' => SP X pins D .next s') hc hN I hi ok hg ht hk he hs h fun L C s' m H' I' q hn f => ?_) fun _ s' hq => wpAny_pure (wpAny_pure hq))
  show wpAny _ _ (assign (.Name y py) X.env (.ref L)) _ _ _
  refine wpAny_assign_Name (store_ok2 (v := V.ref L) I' hN hy (.inl hyl) rfl (fun s2 I2 ⟨a, sb, ha⟩ => ?_) (.inr hyl))
  obtain ⟨f0, f1, f2, f3, f4, f5⟩ := f
  have haC : C ≠ a := by
    rcases ha with z | z
    · rw [z]; exact f1
    · exact fun e => f4 y a z e.symm
  refine ⟨m, hn.sameBut sb haC, fun h3 sb3 => ?_⟩
  exact ⟨_, H', I2.turned (t' := s2.toks) (fun b o hb e => (sb3.2 b hb).trans e) f0 f1 f3 f4 f5, q⟩
end
end Hq
set_option maxHeartbeats 4000000
namespace Hq
open PySem PySem.Spec PyProof.Rows L2
/-! ### tuple * int, any -/
theorem tuple_mul1 (l : Addr) (items : Array Value) (n : Nat) (dd : Option Addr) (sl : Array (Option Value)) (x : Int) (u : Tok) (c0 : (decide (x < -(2 ^ 63)) || decide (x ≥ 2 ^ 63)) = false) (c1 : (items.isEmpty || x == 1) = true) :
    Meets (Builtin.«tuple.__mul__» ⟨[.ref l, .int x u], []⟩) (fun _ R s => s.heap.get? l = some { cls := .type "tuple", dict := dd, data := .seq items n, slots := sl } ∧
      R (.ok (.ret (Value.ref l))) s) :=
  .of_wp fun prog w A R s h => by
    obtain ⟨hp, g, d, tk, os⟩ := s
    obtain ⟨hl, h⟩ := h
    have f1 := AutoSeq1.idx_int
    wp_walk using wpAny_loadPart' hl
    repeat (first
      | (refine wpAny_ite_false (decide_eq_false (by rw [c0]; exact Bool.false_ne_true)) ?_; wp_walk using wpAny_loadPart' hl)
      | (refine wpAny_ite_true (decide_eq_true (by rw [c1])) ?_; wp_walk using wpAny_loadPart' hl))
    exact ⟨_, rfl, h⟩
theorem tuple_mul0 (l : Addr) (items : Array Value) (n : Nat) (dd : Option Addr) (sl : Array (Option Value)) (x : Int) (u : Tok) (c0 : (decide (x < -(2 ^ 63)) || decide (x ≥ 2 ^ 63)) = false) (c1 : (items.isEmpty || x == 1) = false) (c2 : (decide (x ≤ 0) || items.isEmpty) = true) :
    Meets (Builtin.«tuple.__mul__» ⟨[.ref l, .int x u], []⟩) (fun _ R s => s.heap.get? l = some { cls := .type "tuple", dict := dd, data := .seq items n, slots := sl } ∧
      R (.ok (.ret (Value.ref s.heap.objs.size))) { s with heap := s.heap.push { cls := Value.type "tuple", data := Data.seq #[] }, toks := s.toks }) :=
  .of_wp fun prog w A R s h => by
    obtain ⟨hp, g, d, tk, os⟩ := s
    obtain ⟨hl, h⟩ := h
    have f1 := AutoSeq1.idx_int
    wp_walk using wpAny_loadPart' hl
    repeat (first
      | (refine wpAny_ite_false (decide_eq_false (by rw [c0]; exact Bool.false_ne_true)) ?_; wp_walk using wpAny_loadPart' hl)
      | (refine wpAny_ite_false (decide_eq_false (by rw [c1]; exact Bool.false_ne_true)) ?_; wp_walk using wpAny_loadPart' hl)
      | (refine wpAny_ite_true (decide_eq_true (by rw [c2])) ?_; wp_walk using wpAny_loadPart' hl))
    exact ⟨_, rfl, h⟩
def rRepA (K : PySem.W.Frag) : R2 := fun x y H Q => ∃ l k xs, x = .ref l ∧ y = .int k ∧ SqT K H l xs ∧ -1000 ≤ k ∧ k ≤ 1000 ∧ xs.length ≤ 1000 ∧ (xs = [] ∨ k = 1 → Q (.ref l) H) ∧ (xs ≠ [] → k ≠ 1 → ∀ p, H p = none → Q (.ref p) (upd H p (.tup (List.replicate k.toNat xs).flatten)))
theorem op_repA {X : Cx} : OpR X (binaryOp .Mult) (rRepA X.K) := by
  intro pins s σ H x y v u Q I rx ry h
  obtain ⟨l, k, xs, rfl, rfl, hT, k0, k1, hz, q1, q2⟩ := h
  by_cases big : xs ≠ [] ∧ 2 ≤ k
  · exact op_repT pins s σ H _ _ v u Q I rx ry ⟨l, k, xs, rfl, rfl, hT, big.1, big.2, k1, hz, q2 big.1 (by omega)⟩
  cases rx
  obtain ⟨t, rfl⟩ := ry
  obtain ⟨its, r, ⟨⟨cls, dd, data, sl⟩, ho, hc, n, hd⟩, hs⟩ := I.tuple hT
  simp only at hc hd
  subst hc hd
  have hle : its.length = xs.length := r.length.symm
  have c0 : (decide (k < -(2 ^ 63)) || decide (k ≥ 2 ^ 63)) = false := by
    rw [decide_eq_false (by omega), decide_eq_false (by omega)] <;> rfl
  by_cases one : xs = [] ∨ k = 1
  · have c1 : (its.toArray.isEmpty || k == 1) = true := by
      rcases one with e | e
      · rw [e] at hle
        rw [List.eq_nil_of_length_eq_zero hle]; rfl
      · rw [e]; simp
    refine wpAny_binaryOp_repeat_ref (T := "tuple") (U := "int") (by decide) ⟨_, ho, rfl⟩ (fun s' => typeIs_int s' k t) noFill_tuple_mul F.fills_int_mul F.slot_int_rmul repeat_tuple F.slot_int_index.lookup
      (call_meets F.slot_int_rmul (typeIs_int s k t) F.entry_int_rmul (F.args_int_rmul_2 _ _) (int_rmul_tuple k t l its.toArray n dd sl)
        ⟨ho, rfl, ⟨_, ho, rfl⟩, call_meets F.slot_tuple_mul ⟨_, ho, rfl⟩ F.entry_tuple_mul (F.args_tuple_mul_2 _ _) (tuple_mul1 l its.toArray n dd sl k t c0 c1) ⟨ho, ?_⟩⟩)
    exact ⟨.ref l, _, I, rfl, q1 one⟩
  · have hne : xs ≠ [] := fun e => one (.inl e)
    have k1' : k ≠ 1 := fun e => one (.inr e)
    have hkk : k ≤ 0 := by
      have : ¬ (2 ≤ k) := fun e => big ⟨hne, e⟩
      omega
    have hi : its.toArray.isEmpty = false := by
      cases its with
      | nil => exact absurd (List.eq_nil_of_length_eq_zero hle.symm) hne
      | cons a b => rfl
    have c1 : (its.toArray.isEmpty || k == 1) = false := by
      rw [hi, Bool.false_or]
      exact beq_eq_false_iff_ne.mpr k1'
    have c2 : (decide (k ≤ 0) || its.toArray.isEmpty) = true := by
      rw [decide_eq_true hkk]; rfl
    refine wpAny_binaryOp_repeat_ref (T := "tuple") (U := "int") (by decide) ⟨_, ho, rfl⟩ (fun s' => typeIs_int s' k t) noFill_tuple_mul F.fills_int_mul F.slot_int_rmul repeat_tuple F.slot_int_index.lookup
      (call_meets F.slot_int_rmul (typeIs_int s k t) F.entry_int_rmul (F.args_int_rmul_2 _ _) (int_rmul_tuple k t l its.toArray n dd sl)
        ⟨ho, rfl, ⟨_, ho, rfl⟩, call_meets F.slot_tuple_mul ⟨_, ho, rfl⟩ F.entry_tuple_mul (F.args_tuple_mul_2 _ _) (tuple_mul0 l its.toArray n dd sl k t c0 c1 c2) ⟨ho, ?_⟩⟩)
    have q := q2 hne k1'
    rw [show k.toNat = 0 by omega] at q
    refine ⟨.ref s.heap.objs.size, _, I.laid (t' := s.toks) (o := .tup []) (fun b ob q => Heap.get?_push_of_some _ q) (Nat.le_refl _) ?_, rfl, q _ (I.hok.fresh (Nat.le_refl _))⟩
    exact ⟨by rw [sizeLine_eq]; exact Nat.zero_le _, [], .nil, IsTup.new _ _⟩
theorem c_repT {K : PySem.W.Frag} {Y : Cx} (e : Y.K = K) : OpR Y (binaryOp .Mult) (rRepA K) := e ▸ op_repA
/-! ### a, b = a list of that length -/
def gLst (K : PySem.W.Frag) (n : Nat) (t : TGs) : TG := fun v σ H Q => ∃ a xs, v = .ref a ∧ SqL K H a xs ∧ xs.length = n ∧ t xs σ H Q
theorem pg_lst {X : Cx} {es : List Expr} {k : Nat} {pos : Pos} {t : TGs} {n : Nat} (hc : X.calm = true) (h : PGs X es t)
    (hn : (assignEach es X.env).length = n := by rfl) (hst : (assignEach es X.env).findIdx? (·.1) = none := by rfl) : PG X (.Tuple es k pos) (gLst X.K n t) := by
  refine ⟨fun pins s σ H v u Q I r hw => ?_⟩
  obtain ⟨a, xs, e1, hq, hl, hw⟩ := hw
  subst e1
  cases r
  obtain ⟨its, rv, ht, hz⟩ := I.list hq
  rw [assign_Tuple]
  refine wpAny_bind (wpAny_standAt ?_)
  unfold unpack
  rw [hst, show (assignEach es X.env).length = its.toArray.size by simp [hn, ← hl, rv.length]]
  refine wpAny_bind (wpAny_holding (PySem.W.kun_itemsOf (I.ok.hd hc) (by obtain ⟨o, n, h1, h2, _, h3⟩ := ht; exact ⟨o, h1, h2, n, h3⟩) fun h' hx => ?_))
  have I1 : Inv X pins σ H { s with heap := h' } := I.kept (t' := s.toks) fun b o e => hx b o (Nat.ne_of_lt (Heap.lt_size e)) e
  exact h.run pins _ σ H xs _ Q I1 (by simpa using rv) hw
theorem pg_lstK {X : Cx} {K : PySem.W.Frag} {es : List Expr} {k : Nat} {pos : Pos} {t : TGs} {n : Nat} (eK : X.K = K) (hc : X.calm = true) (h : PGs X es t)
    (hn : (assignEach es X.env).length = n := by rfl) (hst : (assignEach es X.env).findIdx? (·.1) = none := by rfl) : PG X (.Tuple es k pos) (gLst K n t) := eK ▸ pg_lst hc h hn hst
section
variable {K : PySem.W.Frag} {E : Ent} {M M1 : Ms} {Γ : Gm} {D1 : Ends} {tz : TS} {te : TE} {i j : Nat}
theorem q_unpL2 {R1 R2 : MP} (h : Ev te Γ M (PLi K [R1, R2]) M1) (k : Nx E ((Γ.set i (some R1)).set j (some R2)) M1 (tz D1)) :
    Nx E Γ M (tSeq (tAsg te (gLst K 2 (gCons (gName i) (gCons (gName j) gNil)))) tz D1) := fun σ H ⟨F, a, b⟩ => h E F σ H a b _ fun v F1 H1 e1 g1 ⟨p, vs, ev, s, q⟩ => by
  obtain ⟨y, z, rfl, hy, hz⟩ := ps2 q
  exact ⟨p, [y, z], ev, Evl.ex_l g1.ex s, rfl, y, [z], rfl, z, [], rfl, rfl, k _ _ ⟨F1, g1, ((b.mono e1).set i hy).set j hz⟩⟩
theorem rv_eqX {lo hi c : Int} : RV rEq (PIn K lo hi) (D K (.int c)) M (PEx fun b : Bool => PAn True (D K (.bool b))) M := RV.ex1 fun x => RV.an1 fun _ => rv_eqI.weak (MP.le_trans (PAn.in trivial) (PEx.in (R := fun b : Bool => PAn True (D K (.bool b))) _))
theorem rep_ints {l : List Int} : ∀ n : Nat, (List.replicate n (l.map V.int)).flatten = ((List.replicate n l).flatten).map V.int
  | 0 => rfl
  | n + 1 => by rw [List.replicate_succ, List.flatten_cons, rep_ints n, List.replicate_succ, List.flatten_cons, List.map_append]
theorem rv_repT {l : List Int} {n : Int} (hn : -1000 ≤ n ∧ n ≤ 1000) (hl : l.length ≤ 1000) : RV (rRepA K) (D K (dT l)) (D K (.int n)) M (D K (dT (List.replicate n.toNat l).flatten)) M := fun E F H x y g p1 p2 Q k => by
  cases dp_int p2
  obtain ⟨p, vs, rfl, s, q⟩ := le_dT _ _ p1
  have e1 := ints_map q
  subst e1
  refine ⟨p, n, _, rfl, rfl, Evl.ex_t g.ex s, hn.1, hn.2, by rw [List.length_map]; exact hl, fun h => ?_, fun _ _ r hr => ?_⟩
  · refine k _ F H (Evl.Ex.refl _) g (dT_le _ _ ⟨p, _, rfl, s, ?_⟩)
    have e : (List.replicate n.toNat l).flatten = l := by
      rcases h with h | h
      · have : l = [] := by simpa using h
        subst this
        induction n.toNat with
        | zero => rfl
        | succ m ih => rw [List.replicate_succ, List.flatten_cons, ih]; rfl
      · rw [h]; simp
    rw [e]
    exact map_ints _
  · refine k _ _ _ (Evl.Ex.new (Evl.fresh_back g.ex hr)) (g.laid hr) (dT_le _ _ ⟨r, _, rfl, SqT.of upd_same, ?_⟩)
    rw [rep_ints]
    exact map_ints _
end
end Hq
namespace Hq
open PySem L2
section
variable {K : PySem.W.Frag} {E : Ent} {F H : Hp} {M M1 M2 : Ms} {Γ : Gm} {P P1 : MP} {O : MO} {q : Addr} {te ta tb tl tk : TE} {tr : TA} {D1 : Ends} {tu tz : TS} {t u : TT} {ps : List MP} {i j : Nat} {l : List Int}
/-! ### comprehensions with a drawn test -/
theorem lc_turnX {Γ2 : Gm} {σ2 : St} {D2 : Addr} {ps : List MP} {B : Bool → Prop} {F1 H1 : Hp} (g1 : Pt E F1 ((D2, ML ps) :: M) H1) (bo : EnvOk F1 σ2 Γ2) (ht : EvT t Γ2 M B M) (he : B true → Ev te Γ2 M P M) (hz : ps.length < 100000) (Nxt : Hp → Prop)
    (hN : ∀ b F2 H2, B b → Ex F1 F2 → Pt E F2 ((D2, ML (if b = true then ps ++ [P] else ps)) :: M) H2 → Nxt H2) : t σ2 H1 fun c H3 => if c = true then te σ2 H3 fun y H4 => ∃ acc, H4 D2 = some (.lst acc) ∧ acc.length < sizeLine ∧ Nxt (upd H4 D2 (.lst (acc ++ [y]))) else Nxt H3 := by
  have gM : Pt ⟨F1, H1, keys M⟩ F1 M H1 := Pt.start (g1.drop (List.sublist_cons_self _ _)).wd
  have nk : D2 ∉ keys M := (List.nodup_cons.mp (show (D2 :: keys M).Nodup from g1.wd.nd)).1
  obtain ⟨fD, o, hD, ws, rfl, s⟩ := g1.at (j := 0) rfl
  have up : ∀ {F' H'}, Pt ⟨F1, H1, keys M⟩ F' M H' → Pt E F' ((D2, ML ps) :: M) H' := fun {F' H'} g => by
    have hh : F' D2 = none := g.gr.off D2 fD (show H1 D2 ≠ none by rw [hD]; exact fun z => by cases z)
    have hd : H' D2 = some (.lst ws) := g.gr.keep D2 _ nk hD
    have big : Pt ⟨F1, H1, keys ((D2, ML ps) :: M)⟩ F' ((D2, ML ps) :: M) H' := by
      refine ⟨⟨g.gr.ex, fun a u h1 h2 => g.gr.keep a u (fun z => h1 (List.mem_cons_of_mem _ z)) h2, g.gr.off, g.gr.stay⟩, ⟨g.wd.ex, List.nodup_cons.mpr ⟨nk, g.wd.nd⟩, fun r hr => ?_⟩, fun r hr => ?_⟩
      · rcases List.mem_cons.mp hr with e | hm
        · subst e; exact ⟨hh, _, hd, ws, rfl, s.mono g.gr.ex⟩
        · exact g.wd.own r hm
      · rcases List.mem_cons.mp hr with e | hm
        · subst e; exact .inl List.mem_cons_self
        · rcases g.fr r hm with z | z
          · exact .inl (List.mem_cons_of_mem _ z)
          · exact .inr z
    exact g1.back big
  refine ht _ F1 σ2 H1 gM bo _ fun c F3 H3 e3 g3 hc => ?_
  cases c with
  | true =>
    refine he hc _ F3 σ2 H3 g3 (bo.mono e3) _ fun y F4 H4 e4 g4 p4 => ?_
    have g5 := up g4
    obtain ⟨_, o5, h5, ws5, rfl, s5⟩ := g5.at (j := 0) rfl
    refine ⟨ws5, h5, sz_lt (by rw [paired_len s5]; exact hz), ?_⟩
    exact hN true F4 _ hc (e3.trans e4) (g5.mut (j := 0) (O' := ML (ps ++ [P])) rfl ⟨_, rfl, paired_app s5 (.cons p4 .nil)⟩)
  | false => exact hN false F3 _ hc e3 (up g3)
theorem evn_lcRD {z : Int} {G : Nat → MP} (h : EvA tr Γ M [D K (.int z)] M1) (hz : z ≤ 50000 ∧ -50000 ≤ z)
    (ht : ∀ x : Nat, (x : Int) < z → EvT t ((Γ.set i none).set i (some (D K (.int x)))) M1 (fun _ => True) M1) (he : ∀ x : Nat, (x : Int) < z → Ev te ((Γ.set i none).set i (some (D K (.int x)))) M1 (G x) M1) :
    EvN (tLc (iRng1 tr) (gName i) t te [i]) Γ M (MX fun L : List Nat => MA (L.Sublist (List.range z.toNat)) (ML (L.map G))) M1 := fun E F σ H a b Q k => h E F σ H a b _ fun vs F1 H1 e1 g1 p => by
  obtain ⟨v, rfl, hv⟩ := ps1 p
  cases dp_int hv
  refine ⟨z, rfl, by omega, by omega, fun D2 hD => ?_⟩
  have gn : Pt ⟨F1, H1, keys M1⟩ F1 ((D2, ML []) :: M1) (upd H1 D2 (.lst [])) := g1.enter.new hD ⟨[], rfl, .nil⟩
  refine lc_range (lo := 0) (n := z.toNat) (fun n H' => ∃ F' L, L.Sublist (List.range n) ∧ Pt ⟨F1, H1, keys M1⟩ F' ((D2, ML (L.map G)) :: M1) H') ⟨F1, [], List.nil_sublist _, gn⟩ (fun n H2 hn ⟨F2, L, hL, g2⟩ => ⟨wipe_one, ?_⟩) (fun H2 ⟨F2, L, hL, g2⟩ => ?_)
  · have e0 : (0 : Int) + (n : Int) = (n : Int) := Int.zero_add _
    rw [e0]
    have hn2 : (n : Int) < z := by omega
    have hl := hL.length_le
    rw [List.length_range] at hl
    refine lc_turnX g2 ((env_wipe (b.mono (e1.trans g2.gr.ex))).set i (P := D K (.int n)) (.int _)) (ht n hn2) (fun _ => he n hn2) (by rw [List.length_map]; omega) _ fun b F3 H3 _ e3 g3 => ?_
    cases b with
    | true => exact ⟨F3, L ++ [n], by rw [List.range_succ]; exact hL.append (List.Sublist.refl _), by rw [List.map_append]; exact g3⟩
    | false => exact ⟨F3, L, by rw [List.range_succ]; exact hL.trans (List.sublist_append_left _ _), g3⟩
  · exact k D2 F2 H2 (g1.fresh hD) (e1.trans g2.gr.ex) ((g1.back g2).to (j := 0) (O' := MX fun L : List Nat => MA (L.Sublist (List.range z.toNat)) (ML (L.map G))) (fun F o p => ⟨L, hL, p⟩) rfl)
/-! xs[::-1] -/
theorem c_revL {Y : Cx} {e : PySem.Expr} {k : Nat} {p1 p2 p3 pos : Pos} (eK : Y.K = K) (he : PE Y e te) : PE Y (.Subscript e (.Slice none none (some (.UnaryOp .USub (.Constant (.int 1) k p1) p2)) p3) pos) (tRevL K te) := eK ▸ pe_revL he
theorem evn_revL (h : Ev te Γ M (PLi K ps) M1) : EvN (tRevL K te) Γ M (ML ps.reverse) M1 := fun E F σ H a b Q k => h E F σ H a b _ fun v F1 H1 e1 g1 ⟨p, vs, hv, s, q⟩ => by
  refine ⟨p, vs, hv, Evl.ex_l g1.ex s, fun r hr => k r F1 _ (g1.fresh hr) e1 (g1.new hr ⟨vs.reverse, rfl, ?_⟩)⟩
  have key : ∀ {xs : List V} {ys : List MP}, Ps F1 xs ys → Ps F1 xs.reverse ys.reverse := fun {xs ys} h => by
    induction h with
    | nil => exact .nil
    | cons a t ih => rw [List.reverse_cons, List.reverse_cons]; exact paired_app ih (.cons a .nil)
  exact key q
/-- xs[i], i drawn -/
theorem rv_ixX {α : Type} {f : α → PyData} {xs : List α} : RV (rIx K) (D K (.list (xs.map f))) (PIn K 0 (xs.length : Int)) M (PEx fun x : α => PAn (x ∈ xs) (D K (f x))) M := RV.ex2 fun z => RV.an2 fun hz => by
  obtain ⟨n, rfl⟩ := Int.eq_ofNat_of_zero_le hz.1
  have hn : n < xs.length := by omega
  exact (rv_ixDL (ds := xs.map f) (d := f xs[n]) (by omega) (by rw [Int.toNat_natCast, List.getElem?_map, List.getElem?_eq_getElem hn]; rfl)).weak (MP.le_trans (PAn.in (List.getElem_mem hn)) (PEx.in (R := fun x : α => PAn (x ∈ xs) (D K (f x))) xs[n]))
theorem rv_gtX {lo hi c : Int} : RV (rI0 fun i j => .bl (decide (i > j))) (PIn K lo hi) (D K (.int c)) M (PEx fun b : Bool => PAn True (D K (.bool b))) M := RV.ex1 fun x => RV.an1 fun _ => (rv_b0 (g := fun i j => decide (i > j))).weak (MP.le_trans (PAn.in trivial) (PEx.in (R := fun b : Bool => PAn True (D K (.bool b))) _))
end
end Hq
namespace Hq
open PySem L2
def MAny : MO := ⟨fun _ _ => True, fun _ _ => trivial⟩
/-- what is wanted if an exception of the class at C leaves -/
def RtE (E : Ent) (M : Ms) (C : Addr) (X : XK) : Prop := ∀ F H, Pt E F M H → X (.ref C) none H
section
variable {K : PySem.W.Frag} {E E0 : Ent} {F H : Hp} {M M1 M2 M' : Ms} {Γ : Gm} {P P1 : MP} {O O' : MO} {q : Addr} {te ta tb tl tk : TE} {tr : TA} {D1 : Ends} {tu tz : TS} {t u : TT} {ps : List MP} {i j : Nat} {C Cx : Addr} {X : XK} {sp : Sp}
theorem RtE.drop (s : List.Sublist M M') (h : RtE E M C X) : RtE E M' C X := fun F H a => h F H (a.drop s)
theorem RtE.le (l : Le E E0) (h : RtE E0 M C X) : RtE E M C X := fun F H a => h F H (l.to _ _ _ a)
theorem RtE.any (h : RtE E [(q, MAny)] C X) (e : M[j]? = some (q, O)) : RtE E M C X := fun F H a => by
  have s : List.Sublist [(q, O)] M := List.singleton_sublist.mpr (List.mem_of_getElem? e)
  exact h F H ((a.drop s).to (j := 0) (O' := MAny) (fun _ _ _ => trivial) rfl)
theorem go_raise (k : RtE E M C X) : Nx E Γ M (fun σ H => X (.ref C) none H) := fun σ H ⟨F, a, b⟩ => k F H a
/-- f(..) as a statement, f may raise -/
theorem q_callB {ok : Bool} (h : EvA tr Γ M ps M1) (hs : ∀ vs H Q X, (∃ F, Wd F [] H ∧ Ps F vs ps ∧ (ok = true → Rt ⟨F, H, keys []⟩ [] P Q) ∧ (ok = false → RtE ⟨F, H, keys []⟩ [] Cx X)) → sp vs H Q X)
    (k1 : ok = true → Nx E Γ M1 D1.nx) (k2 : ok = false → RtE E M1 Cx X) : Nx E Γ M (tDrop (tCall sp [] X tr) D1) := fun σ H ⟨F, a, b⟩ => h E F σ H a b _ fun vs F1 H1 e1 a1 p1 => by
  show sp (vs ++ []) H1 _ X
  rw [List.append_nil]
  have w : Wd F1 [] H1 := ⟨a1.wd.ex, List.nodup_nil, fun r hr => by cases hr⟩
  have fr : ∀ {F' H'}, Pt ⟨F1, H1, keys []⟩ F' [] H' → Pt E F' M1 H' := fun g => a1.frame g (fun z hz => by cases hz) rfl fun r hr => .inl ⟨fun z => (by cases z), hr⟩
  exact hs vs H1 _ X ⟨F1, w, p1, fun e v F' H' g hv => k1 e σ H' ⟨F', fr g, b.mono (e1.trans g.gr.ex)⟩, fun e F' H' g => k2 e F' H' (fr g)⟩
/-- C(..) that raises -/
theorem make_no (h : EvA tr Γ M ps M1) (hs : ∀ x vs H Q X, (∃ F, Wd F [(x, MOb C [])] H ∧ Ps F vs (Own x :: ps) ∧ RtE ⟨F, H, keys [(x, MOb C [])]⟩ [(x, MAny)] Cx X) → sp vs H Q X) (k : RtE E M1 Cx X) : Nx E Γ M (tRet (tMake C sp [] X tr) D1) := fun σ H ⟨F, a, b⟩ => h E F σ H a b _ fun vs F1 H1 e1 a1 p1 => fun x dx hx hdx hne => by
  have hx2 : upd H1 dx (.own x) x = none := by rw [upd_ne hne.symm]; exact hx
  have g2 : Pt E F1 ((x, MOb C []) :: M1) (upd (upd H1 dx (.own x)) x (.ins C dx [])) := (a1.junk hdx).new hx2 ⟨dx, [], rfl, .nil⟩
  show sp (V.ref x :: (vs ++ [])) _ _ X
  rw [List.append_nil]
  refine hs x (.ref x :: vs) _ _ X ⟨F1, ⟨g2.ex, by simp [keys], fun r hr => ?_⟩, .cons rfl p1, fun F' H' g => k F' H' ?_⟩
  · rw [List.mem_singleton.mp hr]; exact g2.wd.own _ List.mem_cons_self
  · refine (g2.frame (M' := (x, MAny) :: M1) g (fun z hz => ?_) rfl fun r hr => ?_).drop (List.sublist_cons_self _ _)
    · rw [List.mem_singleton.mp hz]; exact List.mem_cons_self
    · rcases List.mem_cons.mp hr with z | z
      · rw [z]; exact .inr List.mem_cons_self
      · exact .inl ⟨fun w => (List.nodup_cons.mp (show (x :: keys M1).Nodup from g2.wd.nd)).1 (by rw [show x = r.1 from (List.mem_singleton.mp w).symm]; exact List.mem_map_of_mem (f := (·.1)) z), List.mem_cons_of_mem _ z⟩
/-- try: return C(..) except X: return None -/
theorem try_no {c : Value} {Wout : WX} (he : PySem.W.exmOne K (.ref Cx) c = some true) (l : Le E E0) (k : Rt E0 M (D K .none) D1.rt) : RtE E M Cx (fun cls d H => ∀ σ, wOnly K c (fun _ _ _ => tRet (tC .non)) Wout D1 cls d σ H) := fun F H a σ => ⟨true, he, fun _ _ _ => k .non F H (l.to _ _ _ a) .non, fun z => by cases z⟩
theorem exm_self {S : Addr} (h1 : PySem.W.subIn K (.ref S) (.type "BaseException") = some true) (h2 : PySem.W.isClsIn K S = true) (h3 : PySem.W.typeIn K (.ref S) = some (.type "type")) (h4 : PySem.W.subIn K (.ref S) (.ref S) = some true) :
    PySem.W.exmOne K (.ref S) (.ref S) = some true := by
  have e1 : (PySem.W.subIn K (.ref S) (.type "BaseException") == some true) = true := by rw [h1] <;> rfl
  have e2 : ((PySem.W.clsIn K S).isSome && PySem.W.typeIn K (.ref S) == some (.type "type")) = true := by
    have h2' : (PySem.W.clsIn K S).isSome = true := h2
    rw [h2', h3] <;> rfl
  show (if (PySem.W.subIn K (.ref S) (.type "BaseException") == some true) = true then (if ((PySem.W.clsIn K S).isSome && PySem.W.typeIn K (.ref S) == some (.type "type")) = true then PySem.W.subIn K (.ref S) (.ref S) else none) else none) = some true
  rw [if_pos e1, if_pos e2]
  exact h4
end
end Hq
namespace Hq
open PySem L2
section
variable {K : PySem.W.Frag} {E E0 : Ent} {F H : Hp} {M M1 M2 M' : Ms} {Γ : Gm} {P P1 : MP} {O O' : MO} {q : Addr} {te ta tb tl tk : TE} {tr : TA} {D1 : Ends} {tu tz : TS} {t u : TT} {ps : List MP} {i j : Nat}
variable {γ : Type} {zs : List γ} {RA RB G : γ → MP} {f : γ → Bool}
/-! ### walks over pairs that stand -/
theorem evn_lcLP (hij : i ≠ j) (h : Ev tl Γ M (PLi K (zs.map fun z => PTu K [RA z, RB z])) M1) (hz : zs.length ≤ 50000)
    (ht : ∀ z ∈ zs, EvT t ((((Γ.set j none).set i none).set i (some (RA z))).set j (some (RB z))) M1 (· = f z) M1)
    (he : ∀ z ∈ zs, f z = true → Ev te ((((Γ.set j none).set i none).set i (some (RA z))).set j (some (RB z))) M1 (G z) M1) :
    EvN (tLc (iList K tl) (gPair K i j) t te [i, j]) Γ M (ML ((zs.filter f).map G)) M1 := fun E F σ H a b Q k => h E F σ H a b _ fun v F1 H1 e1 g1 ⟨p, vs, hp, s, q⟩ => by
  refine ⟨p, hp, ⟨vs, Evl.ex_l g1.ex s⟩, fun D2 hD => ?_⟩
  have gn : Pt ⟨F1, H1, keys M1⟩ F1 ((D2, ML []) :: M1) (upd H1 D2 (.lst [])) := g1.enter.new hD ⟨[], rfl, .nil⟩
  refine lc_list (xs := vs) (fun n H' => ∃ F', Pt ⟨F1, H1, keys M1⟩ F' ((D2, ML (((zs.take n).filter f).map G)) :: M1) H') ⟨F1, gn⟩ (fun n H2 _ ⟨F2, g2⟩ => Evl.ex_l (g2.gr.ex.trans g2.ex) s) (fun n x H2 hx ⟨F2, g2⟩ => ?_) (fun H2 ⟨F2, g2⟩ => ?_)
  · obtain ⟨P, hP, hx2⟩ := paired_get' q hx
    rw [List.getElem?_map] at hP
    cases hy : zs[n]? with
    | none => rw [hy] at hP; cases hP
    | some z =>
      rw [hy] at hP
      have hP : PTu K [RA z, RB z] = P := Option.some.inj hP
      subst hP
      have hm := List.mem_of_getElem? hy
      obtain ⟨T, us, rfl, hT, hu⟩ := hx2
      obtain ⟨x1, y1, rfl, hxA, hyB⟩ := ps2 hu
      refine ⟨T, [x1, y1], rfl, Evl.ex_t (g2.gr.ex.trans g2.ex) hT, rfl, x1, [y1], rfl, y1, [], rfl, rfl, wipe_two hij, ?_⟩
      refine lc_turn g2 (((env_wipe2 (b.mono (e1.trans g2.gr.ex))).set i ((RA z).mono g2.gr.ex hxA)).set j ((RB z).mono g2.gr.ex hyB)) (ht z hm) (he z hm) ?_ _ fun F3 H3 e3 g3 => ⟨F3, ?_⟩
      · rw [List.length_map]
        exact Nat.lt_of_le_of_lt (Nat.le_trans (List.length_filter_le _ _) (by rw [List.length_take]; omega)) (by omega : zs.length < 100000)
      · rw [take_filter zs f n z hy, List.map_append]
        cases hf : f z
        · rw [hf] at g3; simpa using g3
        · rw [hf] at g3; simpa using g3
  · rw [paired_len q, List.length_map, List.take_length] at g2
    exact k D2 F2 H2 (g1.fresh hD) (e1.trans g2.gr.ex) (g1.back g2)
theorem evn_lcTP (hij : i ≠ j) (h : Ev tl Γ M (PTu K (zs.map fun z => PTu K [RA z, RB z])) M1) (hz : zs.length ≤ 50000)
    (ht : ∀ z ∈ zs, EvT t ((((Γ.set j none).set i none).set i (some (RA z))).set j (some (RB z))) M1 (· = f z) M1)
    (he : ∀ z ∈ zs, f z = true → Ev te ((((Γ.set j none).set i none).set i (some (RA z))).set j (some (RB z))) M1 (G z) M1) :
    EvN (tLc (iTup K tl) (gPair K i j) t te [i, j]) Γ M (ML ((zs.filter f).map G)) M1 := fun E F σ H a b Q k => h E F σ H a b _ fun v F1 H1 e1 g1 ⟨p, vs, hp, s, q⟩ => by
  refine ⟨p, hp, ⟨vs, Evl.ex_t g1.ex s⟩, fun D2 hD => ?_⟩
  have gn : Pt ⟨F1, H1, keys M1⟩ F1 ((D2, ML []) :: M1) (upd H1 D2 (.lst [])) := g1.enter.new hD ⟨[], rfl, .nil⟩
  refine lc_tup (xs := vs) (fun n H' => ∃ F', Pt ⟨F1, H1, keys M1⟩ F' ((D2, ML (((zs.take n).filter f).map G)) :: M1) H') ⟨F1, gn⟩ (fun n H2 _ ⟨F2, g2⟩ => Evl.ex_t (g2.gr.ex.trans g2.ex) s) (fun n x H2 hx ⟨F2, g2⟩ => ?_) (fun H2 ⟨F2, g2⟩ => ?_)
  · obtain ⟨P, hP, hx2⟩ := paired_get' q hx
    rw [List.getElem?_map] at hP
    cases hy : zs[n]? with
    | none => rw [hy] at hP; cases hP
    | some z =>
      rw [hy] at hP
      have hP : PTu K [RA z, RB z] = P := Option.some.inj hP
      subst hP
      have hm := List.mem_of_getElem? hy
      obtain ⟨T, us, rfl, hT, hu⟩ := hx2
      obtain ⟨x1, y1, rfl, hxA, hyB⟩ := ps2 hu
      refine ⟨T, [x1, y1], rfl, Evl.ex_t (g2.gr.ex.trans g2.ex) hT, rfl, x1, [y1], rfl, y1, [], rfl, rfl, wipe_two hij, ?_⟩
      refine lc_turn g2 (((env_wipe2 (b.mono (e1.trans g2.gr.ex))).set i ((RA z).mono g2.gr.ex hxA)).set j ((RB z).mono g2.gr.ex hyB)) (ht z hm) (he z hm) ?_ _ fun F3 H3 e3 g3 => ⟨F3, ?_⟩
      · rw [List.length_map]
        exact Nat.lt_of_le_of_lt (Nat.le_trans (List.length_filter_le _ _) (by rw [List.length_take]; omega)) (by omega : zs.length < 100000)
      · rw [take_filter zs f n z hy, List.map_append]
        cases hf : f z
        · rw [hf] at g3; simpa using g3
        · rw [hf] at g3; simpa using g3
  · rw [paired_len q, List.length_map, List.take_length] at g2
    exact k D2 F2 H2 (g1.fresh hD) (e1.trans g2.gr.ex) (g1.back g2)
/-- for a, b in a list of pairs -/
theorem go_forLP (h : Ev tl Γ M (PLi K (zs.map fun z => PTu K [RA z, RB z])) M1) (J : Nat → Gm → Ms → Prop) (h0 : J 0 Γ M1)
    (hs : ∀ E', Le E' E → ∀ n z, zs[n]? = some z → ∀ Γ' M', J n Γ' M' → Nx E' ((Γ'.set i (some (RA z))).set j (some (RB z))) M' (tu { D1 with nx := JA E' (J (n + 1)), ct := JA E' (J (n + 1)), bk := D1.nx }))
    (hd : ∀ Γ' M', J zs.length Γ' M' → Nx E Γ' M' D1.nx) : Nx E Γ M (tFor (iList K tl) (gPair K i j) tu D1) := fun σ H ⟨F, a, b⟩ => h E F σ H a b _ fun v F1 H1 e1 g1 ⟨p, vs, hp, s, q⟩ => by
  refine ⟨p, hp, ⟨vs, Evl.ex_l g1.ex s⟩, for_list (xs := vs) (fun n σ H => JA ⟨F1, H1, keys M1⟩ (J n) σ H) ⟨Γ, M1, h0, F1, g1.enter, b.mono e1⟩ (fun n σ2 H2 _ ⟨Γ', M', _, F2, g2, _⟩ => Evl.ex_l (g2.gr.ex.trans g2.ex) s)
    (fun n x σ2 H2 hx ⟨Γ', M', hJ, F2, g2, b2⟩ => ?_) (fun σ2 H2 hJ => ?_)⟩
  · obtain ⟨P, hP, hx2⟩ := paired_get' q hx
    rw [List.getElem?_map] at hP
    obtain ⟨z, hz, rfl⟩ := Option.map_eq_some_iff.mp hP
    obtain ⟨T, us, rfl, hT, hu⟩ := hx2
    obtain ⟨x1, y1, rfl, hxA, hyB⟩ := ps2 hu
    exact ⟨T, [x1, y1], rfl, Evl.ex_t (g2.gr.ex.trans g2.ex) hT, rfl, x1, [y1], rfl, y1, [], rfl, rfl, hs ⟨F1, H1, keys M1⟩ g1.le n z hz Γ' M' hJ _ _ ⟨F2, g2, (b2.set i ((RA z).mono g2.gr.ex hxA)).set j ((RB z).mono g2.gr.ex hyB)⟩⟩
  · rw [paired_len q, List.length_map] at hJ
    obtain ⟨Γ', M', hJ, at2⟩ := hJ
    exact hd Γ' M' hJ _ _ (at2.le g1.le)
theorem q_forLP (h : Ev tl Γ M (PLi K (zs.map fun z => PTu K [RA z, RB z])) M1) (J : Nat → Gm → Ms → Prop) (h0 : J 0 Γ M1)
    (hs : ∀ E', Le E' E → ∀ n z, zs[n]? = some z → ∀ Γ' M', J n Γ' M' → Nx E' ((Γ'.set i (some (RA z))).set j (some (RB z))) M' (tu { D1 with nx := JA E' (J (n + 1)), ct := JA E' (J (n + 1)), bk := tz D1 }))
    (hd : ∀ Γ' M', J zs.length Γ' M' → Nx E Γ' M' (tz D1)) : Nx E Γ M (tSeq (tFor (iList K tl) (gPair K i j) tu) tz D1) := go_forLP (D1 := { D1 with nx := tz D1 }) h J h0 hs hd
/-- data pairs -/
theorem le_pair {α : Type} {a b : α → PyData} {zs : List α} : (D K (.list (zs.map fun z => .tuple [a z, b z]))).le (PLi K (zs.map fun z => PTu K [D K (a z), D K (b z)])) := fun F v h => by
  obtain ⟨p, vs, e, s, q⟩ := le_Lm (f := fun z => PyData.tuple [a z, b z]) F v h
  refine ⟨p, vs, e, s, ?_⟩
  have key : ∀ {vs : List V} {zs : List α}, Ps F vs (zs.map fun z => D K (.tuple [a z, b z])) → Ps F vs (zs.map fun z => PTu K [D K (a z), D K (b z)]) := fun {vs zs} => by
    induction zs generalizing vs with
    | nil => intro h; cases h; exact .nil
    | cons z zs ih => intro h; cases h with | cons h t => exact .cons (D_PTu (ds := [a z, b z]) F _ h) (ih t)
  exact key q
theorem le_pairT {α : Type} {a b : α → PyData} {zs : List α} : (D K (.tuple (zs.map fun z => .tuple [a z, b z]))).le (PTu K (zs.map fun z => PTu K [D K (a z), D K (b z)])) := fun F v h => by
  obtain ⟨p, vs, e, s, q⟩ := le_Tm (f := fun z => PyData.tuple [a z, b z]) F v h
  refine ⟨p, vs, e, s, ?_⟩
  have key : ∀ {vs : List V} {zs : List α}, Ps F vs (zs.map fun z => D K (.tuple [a z, b z])) → Ps F vs (zs.map fun z => PTu K [D K (a z), D K (b z)]) := fun {vs zs} => by
    induction zs generalizing vs with
    | nil => intro h; cases h; exact .nil
    | cons z zs ih => intro h; cases h with | cons h t => exact .cons (D_PTu (ds := [a z, b z]) F _ h) (ih t)
  exact key q
/-! slices of an own list of any items -/
theorem evn_slML {lo hi : Option Int} {tl th : TO} (ho : Ev ta Γ M (Own q) M) (h1 : EvP tl Γ M lo) (h2 : EvP th Γ M hi) (e : M[j]? = some (q, ML ps)) : EvN (tSl (rSlL K) ta tl th) Γ M (ML (cutG ps lo hi)) M := fun E F σ H a b Q k =>
  ho E F σ H a b _ fun v F1 H1 e1 g1 p1 => h1 E F1 σ H1 g1 (b.mono e1) _ fun F2 H2 e2 g2 => h2 E F2 σ H2 g2 (b.mono (e1.trans e2)) _ fun F3 H3 e3 g3 => by
    have p1 : v = .ref q := p1
    subst p1
    obtain ⟨fq, o, ho3, vs, rfl, s⟩ := g3.at e
    refine ⟨q, vs, rfl, SqL.of ho3, fun r hr => ?_⟩
    refine k r F3 _ (g3.fresh hr) ((e1.trans e2).trans e3) (g3.new hr ⟨cutV vs lo hi, rfl, ?_⟩)
    have hl : vs.length = ps.length := paired_len s
    unfold cutV cutG
    rw [hl]
    exact paired_take _ (paired_drop _ s)
end
end Hq
namespace Hq
open PySem L2
section
variable {K : PySem.W.Frag} {E E0 : Ent} {F H : Hp} {M M1 M2 M' : Ms} {Γ : Gm} {P P1 : MP} {O O' : MO} {q : Addr} {te ta tb tl tk : TE} {tr : TA} {D1 : Ends} {tu tz : TS} {t u : TT} {ps : List MP} {i j : Nat} {C Cx : Addr} {X : XK} {sp : Sp} {f m : Str} {fps : List (Str × MP)}
/-- a pair as data -/
theorem enc_pair {α β : Type} [DecidableEq α] [DecidableEq β] {f : α → PyData} {g : β → PyData} {n m : Nat} (a : Enc f n) (b : Enc g m) : Enc (fun x : α × β => PyData.tuple [f x.1, g x.2]) (max n m + 1) := ⟨fun x y => by
  show (PyData.eqv (f x.1) (f y.1) && (PyData.eqv (g x.2) (g y.2) && true)) = _
  rw [a.eq, b.eq, Bool.and_true, Bool.eq_iff_iff, Bool.and_eq_true, decide_eq_true_iff, decide_eq_true_iff, decide_eq_true_iff]
  exact ⟨fun h => Prod.ext h.1 h.2, fun h => by rw [h]; exact ⟨rfl, rfl⟩⟩, fun x => by
  show (PyData.canLay0 (f x.1) && (PyData.canLay0 (g x.2) && true)) = true
  rw [a.lay, b.lay]; rfl, fun x => by
  have h1 := a.deep x.1
  have h2 := b.deep x.2
  simp only [PyData.depth, PyData.depthAll]
  omega⟩
/-- self.f += e -/
theorem go_fldAugI {x y : Int} (ho : Ev ta Γ M (Own q) M) (e : M[j]? = some (q, MOb C fps)) (hz : fps.length < 99) (i : Nat) (hi : fps[i]? = some (f, D K (.int x))) (hf : ∀ g ∈ fps.take i, g.1 ≠ f) (hc : Cls K C) (hn : NoAttr K C f) (hv : Ev tb Γ M (D K (.int y)) M)
    (k : Nx E Γ (M.set j (q, MOb C (fps.set i (f, D K (.int (x + y)))))) D1.nx) : Nx E Γ M (sFldAug K ta tb rAdd f D1) := fun σ H ⟨F, a, b⟩ => ho E F σ H a b _ fun v F1 H1 e1 g1 p1 => by
  have p1 : v = .ref q := p1
  subst p1
  obtain ⟨_, o, ho1, dx, fs, rfl, h3⟩ := g1.at e
  obtain ⟨w, hw, pw⟩ := fo_look h3 hi hf
  cases dp_int pw
  refine ⟨q, C, dx, fs, _, rfl, ho1, hc, hn, hw, ?_⟩
  refine hv E F1 σ H1 g1 (b.mono e1) _ fun z F2 H2 e2 g2 p2 => ?_
  cases dp_int p2
  obtain ⟨_, o2, ho2, dx2, fs2, rfl, h4⟩ := g2.at e
  have := fo_len h4
  have fin : Nx E Γ (M.set j (q, MOb C (fps.set i (f, D K (.int (x + y)))))) D1.nx := k
  refine ⟨x, y, rfl, rfl, dx2, fs2, ho2, by omega, ?_⟩
  exact k _ _ ⟨F2, g2.mut e ⟨dx2, _, rfl, fo_set h4 hi hf (.int _)⟩, b.mono (e1.trans e2)⟩
/-- o.m(..) that raises -/
theorem meth_no (ho : Ev ta Γ M (Own q) M) (e0 : M[j]? = some (q, MOb C fps)) (hn : ∀ g ∈ fps, g.1 ≠ m) (h : EvA tr Γ M ps M) (hs : ∀ vs H Q X, (∃ F, Wd F [(q, MOb C fps)] H ∧ Ps F vs (Own q :: ps) ∧ RtE ⟨F, H, keys [(q, MOb C fps)]⟩ [(q, O')] Cx X) → sp vs H Q X)
    (k : RtE E (M.set j (q, O')) Cx X) {Qs : St → VK} : Nx E Γ M (fun σ H => tMeth C m sp [] X ta tr σ H (Qs σ)) := fun σ H ⟨F, a, b⟩ => ho E F σ H a b _ fun v F1 H1 e1 g1 p1 => by
  have p1 : v = .ref q := p1
  subst p1
  obtain ⟨_, o, ho1, dx, fs, rfl, h3⟩ := g1.at e0
  refine ⟨q, dx, fs, rfl, ho1, fo_none h3 hn, ?_⟩
  refine h E F1 σ H1 g1 (b.mono e1) _ fun vs F2 H2 e2 g2 p2 => ?_
  show sp (V.ref q :: (vs ++ [])) H2 _ X
  rw [List.append_nil]
  have gq := g2.at e0
  have w : Wd F2 [(q, MOb C fps)] H2 := ⟨g2.wd.ex, by simp [keys], fun r hr => by rw [List.mem_singleton.mp hr]; exact gq⟩
  refine hs _ _ _ X ⟨F2, w, .cons rfl p2, fun F' H' g => k F' H' (g2.frame (M' := M.set j (q, O')) g (fun z hz => ?_) (keys_set e0) fun r hr => ?_)⟩
  · rw [List.mem_singleton.mp hz]
    exact List.mem_map_of_mem (f := (·.1)) (List.mem_of_getElem? e0)
  · rcases mem_set_ne g2.wd.nd e0 r hr with z | ⟨z, n⟩
    · rw [z]; exact .inr List.mem_cons_self
    · exact .inl ⟨fun c => n (List.mem_singleton.mp c), z⟩
/-- an own list compared with data -/
theorem rv_neLO {α : Type} [DecidableEq α] {g : α → PyData} {n : Nat} (en : Enc g n) (hn : n + 1 ≤ 64) {xs ys : List α} (e : M[j]? = some (q, ML (ys.map fun x => D K (g x)))) : RV (rNeD K) (D K (.list (xs.map g))) (Own q) M (D K (.bool (!decide (xs = ys)))) M := fun E F H x y a p1 p2 Q k => by
  have p2 : y = .ref q := p2
  subst p2
  obtain ⟨fq, o, ho, vs, rfl, s⟩ := a.at e
  have ds : DpAll K F vs (ys.map g) := by
    refine ps_all (K := K) ?_
    rw [List.map_map]
    exact s
  refine ⟨.list (xs.map g), .list (ys.map g), Dp.mono a.ex p1, .lst (SqL.of ho) (DpAll.mono a.ex ds), en.all_shaped hn xs, en.all_shaped hn ys, ?_⟩
  have ee := (enc_list en).eq xs ys
  have ee : PyData.eqv (.list (xs.map g)) (.list (ys.map g)) = decide (xs = ys) := ee
  rw [ee]
  exact k _ F H (Evl.Ex.refl _) a (.bl _)
/-- a comprehension over an own list -/
theorem evn_lcO {α : Type} {xs : List α} {R G : α → MP} {f : α → Bool} (h : Ev tl Γ M (Own q) M) (e : M[j]? = some (q, ML (xs.map R))) (hz : xs.length ≤ 50000)
    (ht : ∀ x ∈ xs, EvT t ((Γ.set i none).set i (some (R x))) (M.eraseIdx j) (· = f x) (M.eraseIdx j)) (he : ∀ x ∈ xs, f x = true → Ev te ((Γ.set i none).set i (some (R x))) (M.eraseIdx j) (G x) (M.eraseIdx j)) :
    EvN (tLc (iList K tl) (gName i) t te [i]) Γ M (ML ((xs.filter f).map G)) M := fun E F σ H a b Q k => h E F σ H a b _ fun v F1 H1 e1 g1 p1 => by
  have p1 : v = .ref q := p1
  subst p1
  obtain ⟨fq, o, ho, vs, rfl, qq⟩ := g1.at e
  have nd := g1.wd.nd
  have sub : List.Sublist (M.eraseIdx j) M := List.eraseIdx_sublist _ _
  have nq : q ∉ keys (M.eraseIdx j) := by
    have key : ∀ {M : Ms} {j : Nat} {O : MO}, (keys M).Nodup → M[j]? = some (q, O) → q ∉ keys (M.eraseIdx j) := by
      intro M
      induction M with
      | nil => intro j O _ h; simp at h
      | cons m M ih =>
        intro j O nd e hm
        have nd' := List.nodup_cons.mp (show (m.1 :: keys M).Nodup from nd)
        cases j with
        | zero =>
          have e1 : m = (q, O) := Option.some.inj e
          subst e1
          exact nd'.1 hm
        | succ j =>
          have e1 : M[j]? = some (q, O) := e
          rcases List.mem_cons.mp (show q ∈ m.1 :: keys (M.eraseIdx j) from hm) with z | z
          · exact nd'.1 (by rw [← z]; exact List.mem_map_of_mem (f := (·.1)) (List.mem_of_getElem? e1))
          · exact ih nd'.2 e1 z
    exact key nd e
  have mem : ∀ r ∈ M, r.1 = q ∨ r ∈ M.eraseIdx j := by
    have key : ∀ {M : Ms} {j : Nat} {O : MO}, M[j]? = some (q, O) → ∀ r ∈ M, r.1 = q ∨ r ∈ M.eraseIdx j := by
      intro M
      induction M with
      | nil => intro j O h; simp at h
      | cons m M ih =>
        intro j O e r hr
        cases j with
        | zero =>
          have e1 : m = (q, O) := Option.some.inj e
          subst e1
          rcases List.mem_cons.mp hr with z | z
          · rw [z]; exact .inl rfl
          · exact .inr z
        | succ j =>
          have e1 : M[j]? = some (q, O) := e
          rcases List.mem_cons.mp hr with z | z
          · rw [z]; exact .inr List.mem_cons_self
          · rcases ih e1 r z with y | y
            · exact .inl y
            · exact .inr (List.mem_cons_of_mem _ y)
    exact key e
  have ga : Pt E F1 (M.eraseIdx j) H1 := g1.drop sub
  refine ⟨q, rfl, ⟨vs, SqL.of ho⟩, fun D2 hD => ?_⟩
  have gn : Pt ⟨F1, H1, keys (M.eraseIdx j)⟩ F1 ((D2, ML []) :: M.eraseIdx j) (upd H1 D2 (.lst [])) := ga.enter.new hD ⟨[], rfl, .nil⟩
  refine lc_list (xs := vs) (fun n H' => ∃ F', Pt ⟨F1, H1, keys (M.eraseIdx j)⟩ F' ((D2, ML (((xs.take n).filter f).map G)) :: M.eraseIdx j) H') ⟨F1, gn⟩ (fun n H2 _ ⟨F2, g2⟩ => SqL.of (g2.gr.keep q _ nq ho)) (fun n x H2 hx ⟨F2, g2⟩ => ⟨wipe_one, ?_⟩) (fun H2 ⟨F2, g2⟩ => ?_)
  · obtain ⟨P, hP, hx2⟩ := paired_get' qq hx
    rw [List.getElem?_map] at hP
    cases hy : xs[n]? with
    | none => rw [hy] at hP; cases hP
    | some y =>
      rw [hy] at hP
      have hP : R y = P := Option.some.inj hP
      subst hP
      have hm := List.mem_of_getElem? hy
      refine lc_turn g2 ((env_wipe (b.mono (e1.trans g2.gr.ex))).set i ((R y).mono g2.gr.ex hx2)) (ht y hm) (he y hm) ?_ _ fun F3 H3 e3 g3 => ⟨F3, ?_⟩
      · rw [List.length_map]
        exact Nat.lt_of_le_of_lt (Nat.le_trans (List.length_filter_le _ _) (by rw [List.length_take]; omega)) (by omega : xs.length < 100000)
      · rw [take_filter xs f n y hy, List.map_append]
        cases hf : f y
        · rw [hf] at g3; simpa using g3
        · rw [hf] at g3; simpa using g3
  · rw [paired_len qq, List.length_map, List.take_length] at g2
    refine k D2 F2 H2 (g1.fresh hD) (e1.trans g2.gr.ex) (g1.frameN hD g2 (fun z hz => ?_) rfl fun r hr => ?_)
    · exact (sub.map _).subset hz
    · rcases mem r hr with z | z
      · exact .inl ⟨by rw [z]; exact nq, hr⟩
      · exact .inr z
end
end Hq
namespace Hq
open PySem L2
section
variable {K : PySem.W.Frag} {E E0 : Ent} {F H : Hp} {M M1 M2 M' : Ms} {Γ : Gm} {P P1 : MP} {O O' : MO} {q : Addr} {te ta tb tl tk tv td : TE} {tr : TA} {D1 : Ends} {tu tz : TS} {t u : TT} {ps : List MP} {i j : Nat}
/-! gcd, list.count -/
theorem rc_gcd {a b : Int} : RC rGcd [D K (.int a), D K (.int b)] M (D K (.int ((Nat.gcd a.natAbs b.natAbs : Nat) : Int))) M := fun E F H vs g h Q k => by
  obtain ⟨v, w, rfl, p1, p2⟩ := ps2 h
  cases dp_int p1; cases dp_int p2
  exact ⟨a, b, rfl, k _ F H (Evl.Ex.refl _) g (.int _)⟩
theorem c_lcount {Y : Cx} (e : Y.K = K) : MtR Y "list.count" (rCntI K) := e ▸ mt_lcount
theorem ev_count {ns : List Int} {x : Int} (ho : Ev ta Γ M (PLi K (ns.map fun n => D K (.int n))) M1) (h : Ev te Γ M1 (D K (.int x)) M2) : Ev (tBM K "list" (rCntI K) ta (tCons te tNil)) Γ M (D K (.int (ns.count x : Nat))) M2 := fun E F σ H a b Q k => ho E F σ H a b _ fun v F1 H1 e1 g1 ⟨p, ws, hv, s, hp⟩ => by
  subst hv
  have es := ints_map hp
  subst es
  refine ⟨.inl ⟨rfl, _, Evl.ex_l g1.ex s⟩, ?_⟩
  refine h E F1 σ H1 g1 (b.mono e1) _ fun w F2 H2 e2 g2 p2 => ?_
  cases dp_int p2
  exact ⟨p, ns, x, rfl, rfl, Evl.ex_l (e2.trans g2.ex) s, k _ F2 H2 (e1.trans e2) g2 (.int _)⟩
/-! a dict of ints to ints -/
def MDO (g : Int → Option Int) (n : Nat) : MO := ⟨fun _ o => ∃ kvs : List (Key × V), o = .dK kvs ∧ kvs.length ≤ n ∧ ∀ x : Int, valV kvs (.inl x) = (g x).map V.int, fun _ h => h⟩
theorem evn_dcV {φ : List Int → Prop} {L : List Int} {n : Nat} {val : Int → Int} (h : Ev tl Γ M (PEx fun xs : List Int => PAn (φ xs) (PLi K (xs.map fun x => D K (.int x)))) M1) (hφ : ∀ xs, φ xs → (∀ x, x ∈ xs ↔ x ∈ L) ∧ xs.length ≤ n) (hz : n ≤ 50000) (hi : i < Γ.length)
    (hv : ∀ x ∈ L, ∀ M, Ev tv ((Γ.set i none).set i (some (D K (.int x)))) M (D K (.int (val x))) M) :
    EvN (tDc (iList K tl) (gName i) tYes (tVar i) tv [i]) Γ M (MDO (fun x => if x ∈ L then some (val x) else none) n) M1 := fun E F σ H a b Q k => h E F σ H a b _ fun v F1 H1 e1 g1 ⟨xs, hxs, p, vs, hp, s, q⟩ => by
  obtain ⟨hL, hn⟩ := hφ xs hxs
  refine ⟨p, hp, ⟨vs, Evl.ex_l g1.ex s⟩, fun D2 hD => ?_⟩
  have hl : vs.length = xs.length := by have := paired_len q; rwa [List.length_map] at this
  have gn : Pt ⟨F1, H1, keys M1⟩ F1 ((D2, MDO (fun x => if x ∈ xs.take 0 then some (val x) else none) 0) :: M1) (upd H1 D2 (.dK [])) := g1.enter.new hD ⟨[], rfl, Nat.le_refl _, fun x => by simp; rfl⟩
  refine ⟨fun n m H' => m = xs.length - n ∧ n ≤ xs.length ∧ ∃ F', Pt ⟨F1, H1, keys M1⟩ F' ((D2, MDO (fun x => if x ∈ xs.take n then some (val x) else none) n) :: M1) H', ⟨_, rfl, Nat.zero_le _, F1, gn⟩, ?_⟩
  rintro n2 m H2 ⟨rfl, hn2, F2, g2⟩
  have sl2 : SqL K H2 p vs := Evl.ex_l (g2.gr.ex.trans g2.ex) s
  rcases Nat.lt_or_ge n2 xs.length with hlt | hge
  case inr =>
    refine .inl ⟨⟨vs, sl2, by omega⟩, ?_⟩
    rw [List.take_of_length_le (by omega)] at g2
    have le : ∀ F o, (MDO (fun x => if x ∈ xs then some (val x) else none) n2).p F o → (MDO (fun x => if x ∈ L then some (val x) else none) n).p F o := fun F o ⟨kvs, h1, h2, h3⟩ => ⟨kvs, h1, by omega, fun x => by
      rw [h3 x]
      have e : (x ∈ xs) = (x ∈ L) := propext (hL x)
      simp only [e]⟩
    exact k D2 F2 H2 (g1.fresh hD) (e1.trans g2.gr.ex) ((g1.back g2).to (j := 0) le rfl)
  refine .inr ⟨⟨vs, vs[n2], sl2, List.getElem?_eq_getElem (by omega)⟩, fun H' => n2 + 1 ≤ xs.length ∧ ∃ F', Pt ⟨F1, H1, keys M1⟩ F' ((D2, MDO (fun x => if x ∈ xs.take (n2 + 1) then some (val x) else none) (n2 + 1)) :: M1) H', fun H' ⟨c1, c2⟩ => ⟨_, by omega, rfl, c1, c2⟩, fun x H' y => ?_⟩
  obtain ⟨rfl, y⟩ := y
  have hx := y vs sl2
  obtain ⟨P, hP, hx2⟩ := paired_get' q hx
  have hxn : xs[n2]? = some xs[n2] := List.getElem?_eq_getElem hlt
  have hzL : xs[n2] ∈ L := (hL _).mp (List.getElem_mem hlt)
  rw [List.getElem?_map, hxn] at hP
  have hP : D K (.int xs[n2]) = P := Option.some.inj hP
  subst hP
  have tk : xs.take (n2 + 1) = xs.take n2 ++ [xs[n2]] := by rw [List.take_add_one, hxn]; rfl
  rw [tk]
  generalize xs[n2] = z at *
  have b2 : EnvOk F2 ((wipe σ [i]).set i (some x)) ((Γ.set i none).set i (some (D K (.int z)))) := (env_wipe (b.mono (e1.trans g2.gr.ex))).set i ((D K (.int z)).mono g2.gr.ex hx2)
  refine ⟨wipe_one, ?_⟩
  refine (et_yes (M := (D2, MDO (fun x => if x ∈ xs.take n2 then some (val x) else none) n2) :: M1) (Γ := (Γ.set i none).set i (some (D K (.int z))))) _ F2 _ _ g2 b2 _ fun c F3 H3 e3 g3 hc => ?_
  have hc : c = true := hc
  subst hc
  rw [if_pos rfl]
  refine (ev_var (i := i) (P := D K (.int z)) (by simp [hi])) _ F3 _ H3 g3 (b2.mono e3) _ fun w F4 H4 e4 g4 p4 => ?_
  refine (hv z hzL _) _ F4 _ H4 g4 (b2.mono (e3.trans e4)) _ fun w5 F5 H5 e5 g5 p5 => ?_
  cases dp_int p4
  cases dp_int p5
  obtain ⟨fq, o, ho, kvs, rfl, hk1, hk2⟩ := g5.at (j := 0) rfl
  refine ⟨kvs, .inl z, rfl, ho, sz_lt (by omega), hlt, F5, g5.mut (j := 0) rfl ⟨_, rfl, ?_, fun x => ?_⟩⟩
  · have := put_len (kvs := kvs) (k := .inl z) (z := .int (val z))
    omega
  · rw [valV_put]
    by_cases e : x = z
    · subst e; rw [if_pos rfl]; simp
    · rw [if_neg (fun c => e (Sum.inl.inj c)), hk2 x]
      simp [e]
theorem ev_dgetI {g : Int → Option Int} {n : Nat} {x y : Int} (hd : Ev td Γ M (Own q) M1) (hk : Ev tk Γ M1 (D K (.int x)) M2) (e : M2[j]? = some (q, MDO g n)) (hg : g x = some y) : Ev (tDGet td tk) Γ M (D K (.int y)) M2 := fun E F σ H a b Q k => by
  refine hd E F σ H a b _ fun v F1 H1 e1 g1 p1 => hk E F1 σ H1 g1 (b.mono e1) _ fun w F2 H2 e2 g2 p2 => ?_
  have p1 : v = .ref q := p1
  subst p1
  cases dp_int p2
  obtain ⟨fq, o, ho, kvs, rfl, _, hkv⟩ := g2.at e
  refine ⟨q, .int y, rfl, ?_, k _ F2 H2 (e1.trans e2) g2 (.int _)⟩
  have := DGet.k (k := .inl x) ho
  rw [hkv, hg] at this
  exact this
/-- d[x] -= e -/
theorem go_dsubI {g : Int → Option Int} {n : Nat} {x y w : Int} (hd : Ev td Γ M (Own q) M) (hk : Ev tk Γ M (D K (.int x)) M) (hv : Ev tv Γ M (D K (.int w)) M) (e : M[j]? = some (q, MDO g n)) (hn : n < 50000) (hg : g x = some y)
    (k : Nx E Γ (M.set j (q, MDO (fun z => if z = x then some (y - w) else g z) (n + 1))) D1.nx) : Nx E Γ M (sDAug td tk tv rSub D1) := fun σ H ⟨F, a, b⟩ => by
  refine hd E F σ H a b _ fun v F1 H1 e1 g1 p1 => hk E F1 σ H1 g1 (b.mono e1) _ fun u F2 H2 e2 g2 p2 => ?_
  have p1 : v = .ref q := p1
  subst p1
  cases dp_int p2
  obtain ⟨fq, o, ho, kvs, rfl, _, hkv⟩ := g2.at e
  refine ⟨q, .int y, rfl, ?_, ?_⟩
  · have := DGet.k (k := .inl x) ho
    rw [hkv, hg] at this
    exact this
  refine hv E F2 σ H2 g2 (b.mono (e1.trans e2)) _ fun z F3 H3 e3 g3 p3 => ?_
  cases dp_int p3
  obtain ⟨fq, o, ho, kvs, rfl, hl, hkv⟩ := g3.at e
  refine ⟨y, w, rfl, rfl, _, DPut.k (k := .inl x) ho (sz_lt (by omega)), ?_⟩
  refine k _ _ ⟨F3, g3.mut e ⟨_, rfl, ?_, fun z => ?_⟩, b.mono ((e1.trans e2).trans e3)⟩
  · have := put_len (kvs := kvs) (k := .inl x) (z := .int (y - w))
    omega
  · rw [valV_put]
    by_cases h : z = x
    · subst h; rw [if_pos rfl]; simp
    · rw [if_neg (fun c => h (Sum.inl.inj c)), hkv z]; simp [h]
end
end Hq
namespace HqV
open PySem PySem.Spec PyProof.Rows
section
variable {prog : Program} {w : World} {A : Around} {R : Result → Shared → Prop} {E : Value → Shared → Prop} {s : Shared}
/-! ### list(reversed(a list)) -/
theorem call_list_rev {it l : Addr} {items : Array Value} {Q : Value → Shared → Prop} (hh : A.handled = none) (hit : s.heap.IsRevIter it l ((items.size : Int) - 1)) (hl : s.heap.IsList l items) (hne : l ≠ it) (hn : items.size ≤ sizeLine)
    (hQ : ∀ (h' : Heap) (tk : Nat) (acc : Array Value) (c : Nat), (∀ b o, b ≠ it → s.heap.get? b = some o → h'.get? b = some o) → ItemsOf (fun i v => items[items.size - 1 - i]? = some v) acc items.size →
      h'.get? s.heap.objs.size = some { cls := .type "list", dict := none, data := .seq acc c, slots := #[] } → Q (.ref s.heap.objs.size) { s with heap := h', toks := tk }) :
    wpAny (model prog w) A (call (.type "list") [.ref it]) Q E s := by
  obtain ⟨oi, hoi, _⟩ := id hit
  obtain ⟨ol, hol, _⟩ := id hl
  have hSi : s.heap.objs.size ≠ it := Nat.ne_of_gt (Heap.lt_size hoi)
  have hSl : s.heap.objs.size ≠ l := Nat.ne_of_gt (Heap.lt_size hol)
  have hSf : s.heap.objs.size ∉ [it, l] := by simp only [List.mem_cons, List.not_mem_nil, or_false, not_or]; exact ⟨hSi, hSl⟩
  have W := (Walks.listRev (prog := prog) (w := w) (A := A.in1.in1) hh it l hne items).toS
  refine callType_codes (Q₁ := fun obj s₁ => obj = .ref s.heap.objs.size ∧ s₁ = { s with heap := s.heap.push { cls := .type "list", data := .seq #[] } }) F.called_list (F.typeCall_list_1 _) F.entry_list_init
    (code_list_new _ ⟨rfl, rfl⟩) ?_
  rintro obj s₁ ⟨rfl, rfl⟩
  generalize hS0 : s.heap.objs.size = S at *
  have hS : (s.heap.push { cls := .type "list", data := .seq #[] }).get? S = some { cls := .type "list", data := .seq #[] } := by rw [← hS0]; exact Heap.get?_push_size _ rfl
  refine ⟨⟨_, hS, rfl⟩, F.args_list_init_2 _ _, ?_⟩
  show wpAny _ A.in1.in1 (do let old ← Builtin.List.listItems (.ref S); Builtin.List.listUpdate (.ref S) (fun _ => #[]); letGo old.toList.reverse; Builtin.List.listExtendWith (.ref S) (.ref it) .none) _ _ _
  refine wpAny_bind ?_
  unfold Builtin.List.listItems
  refine wpAny_bind (wpAny_seqItems hS rfl (wpAny_pure ?_))
  show wpAny _ A.in1.in1 (updateSeq S (fun _ => #[]) >>= fun _ => letGo (#[] : Array Value).toList.reverse >>= fun _ => Builtin.List.listExtendWith (.ref S) (.ref it) .none) _ _ _
  refine wpAny_bind (wpAny_updateSeq hS rfl ?_)
  have hS₂ := Heap.get?_update_self (Obj.mapSeq (fun _ => (#[] : Array Value))) hS rfl
  have oth : ∀ b o, b ≠ S → s.heap.get? b = some o → ((s.heap.push { cls := .type "list", data := .seq #[] }).update S (Obj.mapSeq (fun _ => (#[] : Array Value)))).get? b = some o :=
    fun b o hb e => (Heap.get?_update_other _ _ (Ne.symm hb)).trans (Heap.get?_push_of_some _ e)
  refine wpAny_bind (wpAny_letGo ?_)
  generalize hh2 : (s.heap.push { cls := .type "list", data := .seq #[] }).update S (Obj.mapSeq (fun _ => (#[] : Array Value))) = h2 at *
  have hit1 : h2.IsRevIter it l ((items.size : Int) - 1) := hit.at fun o e => oth it o (Ne.symm hSi) e
  have hl1 : h2.IsList l items := hl.at fun o e => oth l o (Ne.symm hSl) e
  have hT : ({ s with heap := h2 } : Shared).TypeIs (.ref it) "list_reverseiterator" := Heap.IsRevIter.typeIs (s := { s with heap := h2 }) hit1
  have h1 : Builtin.List.listSameRef (.ref S) (.ref it) = false := by simp [Builtin.List.listSameRef, hSi]
  unfold Builtin.List.listExtendWith
  refine wpAny_bind (wpAny_typeOf hT ?_)
  rw [if_neg (by rw [h1]; decide)]
  refine wpAny_bind (wpAny_pyIter_revIter (s := { s with heap := h2 }) hit1 ?_)
  refine wpAny_bind (wpAny_holding ?_)
  unfold Builtin.List.listLengthHint
  refine wpAny_bind (wpAny_specialOf hT RT.nolen_lri ?_)
  show wpAny _ A.in1.in1 (specialOf (Value.ref it) (Str.ofString "__length_hint__") >>= _) _ _ _
  refine wpAny_bind (wpAny_specialOf hT RT.hint_lri ?_)
  generalize hid : ("list_reverseiterator.__length_hint__" : String) = id0
  wp_delta
  rw [show splitId id0 = some ("list_reverseiterator", "__length_hint__") from by subst hid; decide +kernel]
  subst hid
  refine wpAny_bind (wpAny_isInstance (b := true) hT (by rw [isSubtype_type]; kernel_rfl) ?_)
  refine wpAny_pure ?_
  rw [if_neg (by decide)]
  have e0 : ((items.size : Nat) : Int) - 1 - ((0 : Nat) : Int) = (items.size : Int) - 1 := by omega
  refine wpAny_pure ⟨plainId_quiet F.plain_extend_loop _, codeAny_extend_loopS W hn S hSf _ items.size 0 _ _ _ rfl (Nat.zero_le _) ⟨Nat.zero_le _, by rw [e0]; exact hit1, hl1⟩ hS₂ (ItemsOf.nil _) fun s' acc' c' hm hS' hacc => ?_⟩
  refine ⟨rfl, ?_⟩
  rw [Moved.eq_with hm]
  refine hQ s'.heap s'.toks acc' c' (fun b o hb e => hm.heap b o (fun hmem => ?_) ?_) hacc hS'
  · rcases List.mem_cons.mp hmem with e' | hmem
    · exact absurd (Heap.lt_size e) (by rw [e', hS0]; exact Nat.lt_irrefl _)
    · exact hb (List.mem_singleton.mp hmem)
  · exact oth b o (fun e' => absurd (Heap.lt_size e) (by rw [e', hS0]; exact Nat.lt_irrefl _)) e
/-! ### max(xs, default=d) -/
variable {I : Addr} {fp wr : List Addr} {n : Nat} {P : Nat → Value → Prop} {St : Nat → Heap → Prop} {val : Nat → Int} {kw : List (Str × Value)}
def Res (P : Nat → Value → Prop) (val : Nat → Int) (n : Nat) (v : Value) : Prop := ∃ i, i < n ∧ P i v ∧ ∀ k, k < n → val k ≤ val i
theorem loop_kw (W : Walks prog w A.in1 I fp wr n P St) (hval : ∀ i v, P i v → ∃ t, v = .int (val i) t) (S : Addr) (hSf : S ∉ fp) : ∀ (m j i : Nat) (s : Shared) (vb : Value) (c : Nat), n - j = m → 0 < j → j ≤ n → i < j → St j s.heap → P i vb → (∀ k, k < j → val k ≤ val i) →
    s.heap.get? S = some { cls := .type "list", dict := none, data := .seq #[vb, vb] c, slots := #[] } →
    (∀ v h' tk, Res P val n v → (∀ b o, b ∉ wr → b ≠ S → s.heap.get? b = some o → h'.get? b = some o) → R (.ok (.ret v)) { s with heap := h', toks := tk }) →
    codeAny (model prog w) A (.builtin "max.loop" ⟨[.ref I, .none, .ref S], kw⟩) R s := by
  have hSw : S ∉ wr := fun h => hSf (W.sub _ h)
  have nm : (toString "max" ++ toString ".loop" : String) = "max.loop" := by decide
  intro m
  induction m with
  | zero =>
    intro j i s vb c hm h0 hj hi st hP hb hS hR
    obtain rfl : j = n := by omega
    refine codeAny_builtin F.entry_max_loop ?_
    rw [Around.under_plainId F.plain_max_loop _]
    show wpAny _ A.in1 (seqItems? (.ref S) >>= _) _ _ s
    refine wpAny_bind (wpAny_seqItems hS rfl ?_)
    show wpAny _ A.in1 (tryCatch (pyNext (.ref I)) _ >>= _) _ _ s
    refine wpAny_bind (wpAny_tryCatch (W.done s _ _ st fun h' tk k1 => ?_))
    show wpAny _ A.in1 (updateSeq S (fun _ => #[]) >>= _) _ _ _
    refine wpAny_bind ?_
    refine wpAny_updateSeq (k1 S _ hSw hS) rfl (wpAny_bind (wpAny_letGo (wpAny_pure ?_)))
    exact hR vb _ tk ⟨i, hi, hP, hb⟩ fun b o b1 b2 e => (Heap.get?_update_other _ _ (Ne.symm b2)).trans (k1 b o b1 e)
  | succ m ih =>
    intro j i s vb c hm h0 hj hi st hP hb hS hR
    refine codeAny_builtin F.entry_max_loop ?_
    rw [Around.under_plainId F.plain_max_loop _]
    show wpAny _ A.in1 (seqItems? (.ref S) >>= _) _ _ s
    refine wpAny_bind (wpAny_seqItems hS rfl ?_)
    show wpAny _ A.in1 (tryCatch (pyNext (.ref I)) _ >>= _) _ _ s
    refine wpAny_bind (wpAny_tryCatch (W.item j s _ _ (by omega) st fun v h' tk hv st' k1 => ?_))
    have hS' := k1 S _ hSw hS
    show wpAny _ A.in1 (tryCatch (holding [v, v] (richCompare .Gt v vb >>= _)) _ >>= _) _ _ _
    refine wpAny_bind (wpAny_tryCatch (wpAny_holding (wpAny_bind (CmpOf.ints_gt val hval j i v vb _ _ _ hv hP ?_))))
    refine wpAny_bind (wpAny_holding (wpAny_truthy_bool ?_))
    refine wpAny_bind (wpAny_letGo (wpAny_pure ?_))
    by_cases hg : val j > val i
    · rw [if_pos (show ((fun i j => decide (val i > val j)) j i) = true from decide_eq_true hg)]
      refine wpAny_bind ?_
      refine wpAny_updateSeq hS' rfl (wpAny_bind (wpAny_letGo ?_))
      rw [nm]
      refine wpAny_pure ⟨plainId_quiet F.plain_max_loop _, ih (j + 1) j _ v _ (by omega) (by omega) (by omega) (by omega) (W.frame _ _ _ st' fun b hbf o e => ?_) hv (fun k hk => ?_) (Heap.get?_update_self _ hS' rfl) fun v' h2 tk2 hr k2 => ?_⟩
      · exact (Heap.get?_update_other _ _ (fun h : S = b => hSf (by rw [h]; exact hbf))).trans e
      · rcases Nat.lt_succ_iff_lt_or_eq.mp hk with hk | rfl
        · exact Int.le_trans (hb k hk) (Int.le_of_lt hg)
        · exact Int.le_refl _
      · exact hR v' h2 tk2 hr fun b o b1 b2 e => k2 b o b1 b2 ((Heap.get?_update_other _ _ (Ne.symm b2)).trans (k1 b o b1 e))
    · rw [if_neg (show ¬ ((fun i j => decide (val i > val j)) j i) = true from fun h => hg (of_decide_eq_true h))]
      refine wpAny_bind (wpAny_letGo ?_)
      rw [nm]
      refine wpAny_pure ⟨plainId_quiet F.plain_max_loop _, ih (j + 1) i _ vb c (by omega) (by omega) (by omega) (by omega) st' hP (fun k hk => ?_) hS' fun v' h2 tk2 hr k2 => ?_⟩
      · rcases Nat.lt_succ_iff_lt_or_eq.mp hk with hk | rfl
        · exact hb k hk
        · exact Int.not_lt.mp hg
      · exact hR v' h2 tk2 hr fun b o b1 b2 e => k2 b o b1 b2 (k1 b o b1 e)
theorem first_kw {d : Value} (W : Walks prog w A.in1 I fp wr n P St) (hval : ∀ i v, P i v → ∃ t, v = .int (val i) t) (S : Addr) (hSf : S ∉ fp) {c : Nat} {k0 : Str} (st : St 0 s.heap)
    (hS : s.heap.get? S = some { cls := .type "list", dict := none, data := .seq #[] c, slots := #[] })
    (hR : ∀ v h' tk, (n = 0 ∧ v = d) ∨ Res P val n v → (∀ b o, b ∉ wr → b ≠ S → s.heap.get? b = some o → h'.get? b = some o) → R (.ok (.ret v)) { s with heap := h', toks := tk }) :
    codeAny (model prog w) A (.builtin "max.loop" ⟨[.ref I, .none, .ref S], [(k0, d)]⟩) R s := by
  have hSw : S ∉ wr := fun h => hSf (W.sub _ h)
  have nm : (toString "max" ++ toString ".loop" : String) = "max.loop" := by decide
  refine codeAny_builtin F.entry_max_loop ?_
  rw [Around.under_plainId F.plain_max_loop _]
  show wpAny _ A.in1 (seqItems? (.ref S) >>= _) _ _ s
  refine wpAny_bind (wpAny_seqItems hS rfl ?_)
  show wpAny _ A.in1 (tryCatch (pyNext (.ref I)) _ >>= _) _ _ s
  rcases Nat.eq_zero_or_pos n with rfl | hn
  · refine wpAny_bind (wpAny_tryCatch (W.done s _ _ st fun h' tk k1 => ?_))
    show wpAny _ A.in1 (rule _ >>= fun _ => ret d) _ _ _
    refine wpAny_bind (wpAny_rule ?_)
    exact wpAny_pure (hR d h' tk (.inl ⟨rfl, rfl⟩) fun b o b1 _ e => k1 b o b1 e)
  refine wpAny_bind (wpAny_tryCatch (W.item 0 s _ _ hn st fun v h' tk hv st' k1 => ?_))
  have hS' := k1 S _ hSw hS
  show wpAny _ A.in1 (updateSeq S (fun _ => #[v, v]) >>= _) _ _ _
  refine wpAny_bind ?_
  refine wpAny_updateSeq hS' rfl ?_
  rw [nm]
  refine wpAny_pure ⟨plainId_quiet F.plain_max_loop _, loop_kw W hval S hSf _ 1 0 _ v _ rfl (by omega) hn (by omega) (W.frame _ _ _ st' fun b hbf o e => ?_) hv (fun k hk => ?_) (Heap.get?_update_self _ hS' rfl) fun v' h2 tk2 hr k2 => ?_⟩
  · exact (Heap.get?_update_other _ _ (fun h : S = b => hSf (by rw [h]; exact hbf))).trans e
  · obtain rfl : k = 0 := by omega
    exact Int.le_refl _
  · exact hR v' h2 tk2 (.inr hr) fun b o b1 b2 e => k2 b o b1 b2 ((Heap.get?_update_other _ _ (Ne.symm b2)).trans (k1 b o b1 e))
theorem args_maxD (a d : Value) : argsOk "max" ⟨[a], [(Str.ofString "default", d)]⟩ := by unfold argsOk; kernel_rfl
theorem call_maxD {l : Addr} {d : Value} {xs : Array (Int × Tok)} {Q : Value → Shared → Prop} (hh : A.handled = none) (hl : s.heap.IsList l (intItems xs))
    (h : ∀ v h' tk, (xs.size = 0 ∧ v = d) ∨ Res (fun i v => (intItems xs)[i]? = some v) (numAt xs) xs.size v → (∀ b o, s.heap.get? b = some o → h'.get? b = some o) → Q v { s with heap := h', toks := tk }) :
    wpAny (model prog w) A (call (.builtin "max") [.ref l] [(Str.ofString "default", d)]) Q E s := by
  have nm : (toString "max" ++ toString ".loop" : String) = "max.loop" := by decide
  refine wpAny_call (codeAny_call_builtin F.plain_max F.entry_max ?_)
  have key : wpAny (model prog w) A.in1 (Builtin.«max» ⟨[.ref l], [(Str.ofString "default", d)]⟩) (fun fin s' => match fin with
      | .done f => (match (Except.ok f : Result) with | .ok (.ret v) => Q v s' | .ok _ => False | .error e => E e s')
      | .again c' => c'.quiet = true ∧ codeAny (model prog w) A c' (fun r s' => match r with | .ok (.ret v) => Q v s' | .ok _ => False | .error e => E e s') s') E s := by
    show wpAny _ A.in1 (Builtin.Builtins.bindParams "max" ["key", "default"] 0 ⟨[], [(Str.ofString "default", d)]⟩ >>= _) _ _ s
    refine wpAny_bind (wpAny_of_eq (show Builtin.Builtins.bindParams "max" ["key", "default"] 0 ⟨[], [(Str.ofString "default", d)]⟩ = pure [none, some d] from rfl) ?_)
    refine wpAny_bind (wpAny_pure ?_)
    refine wpAny_bind (iter_intList hl ?_)
    rintro s₂ rfl st hfp hlI
    refine wpAny_bind (wpAny_newObj_type ?_)
    have hSf : (s.heap.push { cls := .type "list_iterator", data := .fields #[.ref l, .int 0 0] }).objs.size ∉ [s.heap.objs.size, l] := fun hm => Nat.lt_irrefl _ (hfp _ hm)
    have W := Walks.list (prog := prog) (w := w) (A := A.in1) hh s.heap.objs.size l hlI (intItems xs)
    have hsz : (intItems xs).size = xs.size := by simp [intItems]
    rw [hsz] at W
    rw [nm]
    refine wpAny_pure ⟨plainId_quiet F.plain_max_loop _, first_kw W (val := numAt xs) (fun _ _ => intItems_at) _ hSf (W.frame _ _ _ st fun b _ o e => Heap.get?_push_of_some _ e) (Heap.get?_push_size _ rfl) fun v h' tk hr hk => ?_⟩
    exact h v h' tk hr (old_kept fun b o hb e => hk b o hb (Nat.ne_of_lt (Heap.lt_size e)) (Heap.get?_push_of_some _ e))
  have ha := args_maxD (.ref l) d
  simp only [checkBuiltinCall, F.kind_max]
  cases hsig : Manifest.signature? "max" with
  | none => exact wpAny_pure key
  | some sig =>
    have ha' : Bind.checkArgs "max" sig ⟨[.ref l], [(Str.ofString "default", d)]⟩ = pure () := by simpa only [argsOk, hsig] using ha
    simp only [ha']
    exact wpAny_pure key
end
end HqV
namespace L2
open PySem PySem.Spec PyProof.Rows
section
variable {X : Cx}
def tLstRev (K : PySem.W.Frag) (te : TE) : TE := fun σ H Q => te σ H fun v H1 => ∃ (a : Addr) (xs : List V), v = .ref a ∧ SqL K H1 a xs ∧ ∀ q, H1 q = none → Q (.ref q) (upd H1 q (.lst xs.reverse))
theorem pe_listRev {e : Expr} {te : TE} {p p2 pos pos2 : Pos} (hc : X.calm = true) (hg : Gl X "list") (hm : X.mg "list" = none) (hg2 : Gl X "reversed") (hm2 : X.mg "reversed" = none) (he : PE X e te)
    (hs : starEach [e] X.env = (false, eval e X.env) :: starEach [] X.env := by rfl)
    (hs2 : starEach [.Call (.Name "reversed" p2) [e] [] pos2] X.env = (false, eval (.Call (.Name "reversed" p2) [e] [] pos2) X.env) :: starEach [] X.env := by rfl) :
    PE X (.Call (.Name "list" p) [.Call (.Name "reversed" p2) [e] [] pos2] [] pos) (tLstRev X.K te) := by
  refine ⟨fun pins s σ H Q I h => ?_⟩
  refine Call_ (ld_blt I hg hm boot_list (PyProof.Rows.callWith_type1 (args_cons (Call_ (ld_blt I hg2 hm2 PyProof.Rows.boot_reversed (PyProof.Rows.callWith_type1 (args_cons (thn (he.run pins s σ H _ I h) fun u s1 ⟨v, H1, I1, r1, q1⟩ => args_nil ?_) hs) hs rfl))) hs2) hs2 rfl))
  obtain ⟨a, xs, rfl, hq, q⟩ := q1
  obtain rfl : u = Value.ref a := r1
  obtain ⟨its, rv, p', hz⟩ := I1.list hq
  refine call_reversed_list p'.isList (args_nil ?_)
  have k0 : ∀ b o, s1.heap.get? b = some o → (s1.heap.push (revObj a ((its.toArray.size : Int) - 1))).get? b = some o := fun b o e => Heap.get?_push_of_some _ e
  have I2 : Inv X pins σ H1 { s1 with heap := s1.heap.push (revObj a ((its.toArray.size : Int) - 1)) } := I1.kept (t' := s1.toks) k0
  have hl := p'.isList
  obtain ⟨ol, hol, _⟩ := id hl
  have hne : a ≠ s1.heap.objs.size := Nat.ne_of_lt (Heap.lt_size hol)
  have hn : its.toArray.size ≤ sizeLine := by rw [List.size_toArray, ← rv.length]; exact hz
  refine HqV.call_list_rev (s := { s1 with heap := s1.heap.push (revObj a ((its.toArray.size : Int) - 1)) }) (I1.ok.hd hc) ⟨_, Heap.get?_push_size _ rfl, rfl, rfl⟩ (hl.push _) hne hn fun h' tk acc c hk hi hS => ?_
  have hsz : s1.heap.objs.size ≤ (s1.heap.push (revObj a ((its.toArray.size : Int) - 1))).objs.size := by rw [Heap.size_push]; omega
  refine ⟨.ref _, upd H1 (s1.heap.push (revObj a ((its.toArray.size : Int) - 1))).objs.size (.lst xs.reverse), I1.laid (t' := tk) (fun b o e => hk b o (fun e' => absurd (Heap.lt_size e) (by rw [e']; exact Nat.lt_irrefl _)) (k0 b o e)) hsz (show ObjOk X.prog X.w _ _ _ (.lst xs.reverse) from ⟨by rw [List.length_reverse]; exact hz, acc.toList, c, RT.vals_rev rv hi, ?_⟩), rfl, q _ (I1.hok.fresh hsz)⟩
  rw [Array.toArray_toList]
  exact hS
/-- max(xs, default=d) of a list of ints -/
def rMaxD (K : PySem.W.Frag) : List V → List V → Hp → VK → Prop := fun vs zs H Q => ∃ (a : Addr) (ns : List Int) (d : Int), vs = [V.ref a] ∧ zs = [.int d] ∧ SqL K H a (ns.map V.int) ∧ ∀ m, ((ns = [] ∧ m = d) ∨ (m ∈ ns ∧ ∀ y, y ∈ ns → y ≤ m)) → Q (.int m) H
theorem cr_maxD (hc : X.calm = true) : CallRK X (.builtin "max") [Str.ofString "default"] (rMaxD X.K) := by
  intro pins s σ H vs zs us ws Q I r rz h
  obtain ⟨a, ns, d, rfl, rfl, hs, q⟩ := h
  obtain rfl := Vals.ref1 r
  obtain ⟨w1, rfl, t1, rfl⟩ := vals1 rz
  obtain ⟨its, rv, hl, _⟩ := I.list hs
  have hi := rv.ints
  obtain ⟨xs, e⟩ := hi.allInts.items
  have hn : numsOf (intItems xs).toList = ns := by rw [← e]; exact hi.numsOf
  rw [nums_intItems] at hn
  subst hn
  have hl' := hl.isList
  rw [e] at hl'
  refine HqV.call_maxD (I.ok.hd hc) hl' fun v h' tk hr hk => ?_
  rcases hr with ⟨h0, rfl⟩ | ⟨i, hi, hv, hb⟩
  · refine ⟨.int d, H, I.kept hk, ⟨_, rfl⟩, q d (.inl ⟨?_, rfl⟩)⟩
    rw [Array.eq_empty_of_size_eq_zero h0]; rfl
  · obtain ⟨t, rfl⟩ := intItems_at hv
    refine ⟨.int _, H, I.kept hk, ⟨_, rfl⟩, q _ (.inr ⟨?_, fun y hy => ?_⟩)⟩
    · rw [numAt_eq]; exact PySem.getD_mem (by rw [List.length_map, Array.length_toList]; omega)
    · obtain ⟨j, hj, rfl⟩ := mem_getD hy
      rw [List.length_map, Array.length_toList] at hj
      rw [← numAt_eq]; exact hb j hj
end
end L2
namespace Hq
open PySem L2
section
variable {K : PySem.W.Frag} {E E0 : Ent} {F H : Hp} {M M1 M2 M' : Ms} {Γ : Gm} {P P1 : MP} {O O' : MO} {q : Addr} {te ta tb tl tk tv td : TE} {tr : TA} {D1 : Ends} {tu tz : TS} {t u : TT} {ps : List MP} {i j : Nat}
theorem ps_reverse {F : Hp} : ∀ {ws : List V} {ps : List MP}, Ps F ws ps → Ps F ws.reverse ps.reverse := by
  intro ws ps s
  induction s with
  | nil => exact .nil
  | cons a t ih => rw [List.reverse_cons, List.reverse_cons]; exact paired_app ih (.cons a .nil)
theorem evn_listRevO (ho : Ev ta Γ M (Own q) M) (e : M[j]? = some (q, ML ps)) : EvN (tLstRev K ta) Γ M (ML ps.reverse) M := fun E F σ H a b Q k => ho E F σ H a b _ fun v F1 H1 e1 g1 p1 => by
  have p1 : v = .ref q := p1
  subst p1
  obtain ⟨_, o, ho1, ws, rfl, s⟩ := g1.at e
  exact ⟨q, ws, rfl, SqL.of ho1, fun l hl => k l F1 _ (g1.fresh hl) e1 (g1.new hl ⟨_, rfl, ps_reverse s⟩)⟩
theorem ev_maxD {ns : List Int} {d : Int} (h : Ev te Γ M (PLi K (ns.map fun n => D K (.int n))) M1) (hd : Ev td Γ M1 (D K (.int d)) M2) : Ev (tCKw (rMaxD K) (tCons te tNil) (tCons td tNil)) Γ M (PEx fun m : Int => PAn ((ns = [] ∧ m = d) ∨ (m ∈ ns ∧ ∀ y ∈ ns, y ≤ m)) (D K (.int m))) M2 := fun E F σ H a b Q k => h E F σ H a b _ fun v F1 H1 e1 g1 hp => by
  obtain ⟨p, ws, rfl, s, hp⟩ := hp
  cases ints_map hp
  show td σ H1 _
  refine hd E F1 σ H1 g1 (b.mono e1) _ fun w F2 H2 e2 g2 p2 => ?_
  cases dp_int p2
  exact ⟨p, ns, d, rfl, rfl, Evl.ex_l (e2.trans g2.ex) s, fun m hm => k _ F2 H2 (e1.trans e2) g2 ⟨m, hm, .int m⟩⟩
theorem rc_abs {a : Int} : RC (fun xs H Q => ∃ i, xs = [.int i] ∧ Q (.int (if i < 0 then -i else i)) H) [D K (.int a)] M (D K (.int (if a < 0 then -a else a))) M := fun E F H vs g h Q k => by
  obtain ⟨v, rfl, p1⟩ := ps1 h
  cases dp_int p1
  exact ⟨a, rfl, k _ F H (Evl.Ex.refl _) g (.int _)⟩
end
end Hq
namespace Hq
open PySem L2
section
variable {K : PySem.W.Frag} {M : Ms} {P : MP} {q : Addr} {j : Nat}
/-- xs[-1] of an own list -/
theorem rv_ixEnd {ps : List MP} (e : M[j]? = some (q, ML ps)) (h : ps.getLast? = some P) : RV (rIx K) (Own q) (D K (.int (-1))) M P M := fun E F H x y a p1 p2 Q k => by
  cases dp_int p2
  have p1 : x = .ref q := p1
  subst p1
  obtain ⟨fq, o, ho, vs, rfl, s⟩ := a.at e
  rw [List.getLast?_eq_getElem?] at h
  obtain ⟨v, hv, hp⟩ := paired_get s h
  have hl := paired_len s
  have hlt : ps.length - 1 < vs.length := by
    rcases Nat.lt_or_ge (ps.length - 1) vs.length with c | c
    · exact c
    · rw [List.getElem?_eq_none c] at hv; cases hv
  refine .inl ⟨q, vs, -1, v, rfl, rfl, SqL.of ho, ?_, k v F H (Evl.Ex.refl _) a hp⟩
  unfold atI ixN
  rw [if_neg (by omega), if_pos (by omega)]
  show vs[((-1 : Int) + (vs.length : Int)).toNat]? = some v
  rw [show ((-1 : Int) + (vs.length : Int)).toNat = ps.length - 1 by omega]
  exact hv
end
section
variable {K : PySem.W.Frag} {E E0 : Ent} {F H : Hp} {M M1 M2 M' : Ms} {Γ : Gm} {P P1 : MP} {O O' : MO} {q : Addr} {te ta tb tl tk tv td : TE} {tr : TA} {D1 : Ends} {tu tz : TS} {t u : TT} {ps : List MP} {i j : Nat}
/-- xs.append(e), e one of several -/
theorem go_appE {α : Type} {φ : α → Prop} {R : α → MP} {ps : List MP} (ho : Ev ta Γ M (Own q) M) (h : Ev te Γ M (PEx fun x => PAn (φ x) (R x)) M1) (e0 : M[j]? = some (q, ML ps)) (e : M1[j]? = some (q, ML ps)) (hz : ps.length < 100000) (k : ∀ x, φ x → Nx E Γ (M1.set j (q, ML (ps ++ [R x]))) D1.nx) :
    Nx E Γ M (tDrop (tBM K "list" rAppend ta (tCons te tNil)) D1) := fun σ H ⟨F, a, b⟩ => ho E F σ H a b _ fun v F1 H1 e1 g1 p1 => by
  have p1 : v = .ref q := p1
  subst p1
  obtain ⟨_, o, ho1, ws0, rfl, _⟩ := g1.at e0
  refine ⟨.inl ⟨rfl, ws0, SqL.of ho1⟩, ?_⟩
  refine h E F1 σ H1 g1 (b.mono e1) _ fun w F2 H2 e2 g2 ⟨x, hx, p2⟩ => ?_
  obtain ⟨_, o, ho2, ws, rfl, s⟩ := g2.at e
  refine ⟨q, ws, w, rfl, rfl, ho2, sz_lt (by rw [paired_len s]; exact hz), ?_⟩
  exact k x hx _ _ ⟨F2, g2.mut e ⟨_, rfl, paired_app s (.cons p2 .nil)⟩, b.mono (e1.trans e2)⟩
theorem q_appE {α : Type} {φ : α → Prop} {R : α → MP} {ps : List MP} (ho : Ev ta Γ M (Own q) M) (h : Ev te Γ M (PEx fun x => PAn (φ x) (R x)) M1) (e0 : M[j]? = some (q, ML ps)) (e : M1[j]? = some (q, ML ps)) (hz : ps.length < 100000) (k : ∀ x, φ x → Nx E Γ (M1.set j (q, ML (ps ++ [R x]))) (tz D1)) :
    Nx E Γ M (tSeq (tDrop (tBM K "list" rAppend ta (tCons te tNil))) tz D1) := go_appE (D1 := { D1 with nx := tz D1 }) ho h e0 e hz k
theorem upd_same {H : Hp} {q : Addr} {o : HO} (h : H q = some o) : upd H q o = H := by
  funext a
  unfold upd
  split
  · rename_i e; rw [e, h]
  · rfl
theorem Pt.openX {α : Type} {φ : α → Prop} {R : α → MO} (h : Pt E F M H) (e : M[j]? = some (q, MX fun x => MA (φ x) (R x))) : ∃ x, φ x ∧ Pt E F (M.set j (q, R x)) H := by
  obtain ⟨_, o, ho, x, hx, hR⟩ := h.at e
  have := h.mut (O' := R x) e hR
  rw [upd_same ho] at this
  exact ⟨x, hx, this⟩
theorem nx_openX {f} {α : Type} {φ : α → Prop} {R : α → MO} (e : M[j]? = some (q, MX fun x => MA (φ x) (R x))) (k : ∀ x, φ x → Nx E Γ (M.set j (q, R x)) f) : Nx E Γ M f := fun σ H ⟨F, a, b⟩ => by
  obtain ⟨x, hx, a2⟩ := a.openX e
  exact k x hx σ H ⟨F, a2, b⟩
end
end Hq
namespace My
/-! ### letters, places: plain lists -/
abbrev Lets := List (List Int)
/-- the places of a letter -/
def pl (ls : Lets) (a : Int) : List Int := ls.getD a.toNat []
def disj (l m : List Int) : Bool := !(l.any fun x => decide (x ∈ m))
/-- two letters without a common place -/
def free (ls : Lets) (a b : Int) : Bool := disj (pl ls a) (pl ls b)
structure AlphaOk (k : Int) (ls : Lets) : Prop where
  k1 : 1 ≤ k
  k4 : k ≤ 4
  l1 : 1 ≤ ls.length
  l6 : ls.length ≤ 6
  ok : ∀ l ∈ ls, l ≠ [] ∧ l.Pairwise (· < ·) ∧ ∀ x ∈ l, 0 ≤ x ∧ x < k
/-- a word of the letters -/
def WordOk (ls : Lets) (w : List Int) : Prop := ∀ x ∈ w, 0 ≤ x ∧ x < (ls.length : Int)
theorem pl_get {ls : Lets} {a : Int} (h0 : 0 ≤ a) (h : a < (ls.length : Int)) : ls[a.toNat]? = some (pl ls a) := by
  unfold pl
  have : a.toNat < ls.length := by omega
  rw [List.getD_eq_getElem?_getD, List.getElem?_eq_getElem this]; rfl
theorem pl_mem {ls : Lets} {a : Int} (h0 : 0 ≤ a) (h : a < (ls.length : Int)) : pl ls a ∈ ls := List.mem_of_getElem? (pl_get h0 h)
theorem disj_filter (l m : List Int) : decide (((l.filter fun x => decide (x ∈ m)).length : Int) = 0) = disj l m := by
  unfold disj
  induction l with
  | nil => rfl
  | cons x l ih =>
    rw [List.filter_cons, List.any_cons]
    by_cases h : x ∈ m
    · simp [h]
      omega
    · simp only [h, decide_false, Bool.false_eq_true, if_false, Bool.false_or]
      exact ih
theorem disj_comm (l m : List Int) : disj l m = disj m l := by
  unfold disj
  congr 1
  rw [Bool.eq_iff_iff, List.any_eq_true, List.any_eq_true]
  simp only [decide_eq_true_eq]
  exact ⟨fun ⟨x, a, b⟩ => ⟨x, b, a⟩, fun ⟨x, a, b⟩ => ⟨x, b, a⟩⟩
theorem free_comm (ls : Lets) (a b : Int) : free ls a b = free ls b a := disj_comm _ _
theorem disj_iff {l m : List Int} : disj l m = true ↔ ∀ x ∈ l, x ∉ m := by
  unfold disj
  simp
theorem not_disj {l m : List Int} : disj l m = false ↔ ∃ x ∈ l, x ∈ m := by
  unfold disj
  simp
/-- the word of a place -/
def at_ (ls : Lets) (p : Int) (w : List Int) : List Int := w.filter fun a => decide (p ∈ pl ls a)
/-- swaps of independent neighbours -/
inductive Swp (ls : Lets) : List Int → List Int → Prop where
  | refl (w) : Swp ls w w
  | step {w u v a b} : Swp ls w (u ++ a :: b :: v) → free ls a b = true → Swp ls w (u ++ b :: a :: v)
theorem Swp.word {ls w w'} (h : Swp ls w w') (k : WordOk ls w) : WordOk ls w' ∧ w'.length = w.length := by
  induction h with
  | refl => exact ⟨k, rfl⟩
  | step h f ih =>
    obtain ⟨a, b⟩ := ih
    refine ⟨fun x hx => a x ?_, ?_⟩
    · simp only [List.mem_append, List.mem_cons] at hx ⊢
      rcases hx with h | h | h | h
      · exact .inl h
      · exact .inr (.inr (.inl h))
      · exact .inr (.inl h)
      · exact .inr (.inr (.inr h))
    · rw [← b]; simp
theorem Swp.at_ {ls w w'} (h : Swp ls w w') (p : Int) : at_ ls p w' = at_ ls p w := by
  induction h with
  | refl => rfl
  | @step u v a b h f ih =>
    rw [← ih]
    unfold My.at_
    rw [List.filter_append, List.filter_append]
    congr 1
    have : ¬ (p ∈ pl ls a ∧ p ∈ pl ls b) := fun ⟨x, y⟩ => disj_iff.mp f p x y
    by_cases ha : p ∈ pl ls a
    · have hb : p ∉ pl ls b := fun y => this ⟨ha, y⟩
      simp [List.filter_cons, ha, hb]
    · simp [List.filter_cons, ha]
end My
namespace My
/-! ### sorted lists -/
theorem sorted_unique : ∀ {l m : List Int}, l.Perm m → l.Pairwise (· ≤ ·) → m.Pairwise (· ≤ ·) → l = m
  | [], m, p, _, _ => (List.Perm.nil_eq p)
  | a :: l, [], p, _, _ => absurd p.symm (by simp)
  | a :: l, b :: m, p, h1, h2 => by
    have hab : a = b := by
      have ha : a ∈ b :: m := p.subset List.mem_cons_self
      have hb : b ∈ a :: l := p.symm.subset List.mem_cons_self
      rcases List.mem_cons.mp ha with e | e
      · exact e
      · rcases List.mem_cons.mp hb with e2 | e2
        · exact e2.symm
        · have x := (List.pairwise_cons.mp h1).1 b e2
          have y := (List.pairwise_cons.mp h2).1 a e
          omega
    subst hab
    rw [sorted_unique (List.Perm.cons_inv p) (List.pairwise_cons.mp h1).2 (List.pairwise_cons.mp h2).2]
/-- the items in ascending order -/
def srt (l : List Int) : List Int := l.mergeSort
theorem srt_perm (l : List Int) : (srt l).Perm l := List.mergeSort_perm _ _
theorem srt_up (l : List Int) : (srt l).Pairwise (· ≤ ·) := by
  have := List.pairwise_mergeSort (le := fun a b : Int => decide (a ≤ b)) (fun a b c h1 h2 => by simp at *; omega) (fun a b => by simp; omega) l
  unfold srt
  refine List.Pairwise.imp ?_ this
  intro a b h
  simpa using h
theorem srt_eq {l m : List Int} (p : m.Perm l) (h : m.Pairwise (· ≤ ·)) : m = srt l := sorted_unique (p.trans (srt_perm l).symm) h (srt_up l)
/-- the greatest of some numbers that are not negative -/
def top0 (l : List Int) : Int := l.foldr max 0
theorem top0_le {l : List Int} : ∀ y ∈ l, y ≤ top0 l := by
  induction l with
  | nil => intro y h; cases h
  | cons a l ih =>
    intro y h
    show y ≤ max a (top0 l)
    rcases List.mem_cons.mp h with e | e
    · subst e; omega
    · have := ih y e; omega
theorem top0_eq {l : List Int} {m : Int} (h : m ∈ l) (hm : ∀ y ∈ l, y ≤ m) (h0 : ∀ y ∈ l, 0 ≤ y) : top0 l = m := by
  have h1 := top0_le m h
  have h2 : ∀ (l : List Int), (∀ y ∈ l, y ≤ m) → 0 ≤ m → top0 l ≤ m := by
    intro l
    induction l with
    | nil => intro _ h; exact h
    | cons a l ih =>
      intro h hm0
      have := ih (fun y hy => h y (List.mem_cons_of_mem _ hy)) hm0
      have := h a List.mem_cons_self
      show max a (top0 l) ≤ m
      omega
  have := h2 l hm (h0 m h)
  omega
theorem top0_mem {l : List Int} (h : l ≠ []) (h0 : ∀ y ∈ l, 0 ≤ y) : top0 l ∈ l := by
  induction l with
  | nil => exact absurd rfl h
  | cons a l ih =>
    show max a (top0 l) ∈ a :: l
    by_cases e : l = []
    · subst e
      have := h0 a List.mem_cons_self
      have : max a (top0 []) = a := by show max a 0 = a; omega
      rw [this]; exact List.mem_cons_self
    · have := ih e fun y hy => h0 y (List.mem_cons_of_mem _ hy)
      by_cases c : a ≤ top0 l
      · rw [show max a (top0 l) = top0 l by omega]; exact List.mem_cons_of_mem _ this
      · rw [show max a (top0 l) = a by omega]; exact List.mem_cons_self
/-! ### layers: a turn for each letter -/
def setAll (hs : List Int) (ps : List Int) (v : Int) : List Int := ps.foldl (fun hs p => hs.set p.toNat v) hs
def addRow (rs : List (List Int)) (h : Nat) (a : Int) : List (List Int) := if h = rs.length then rs ++ [[a]] else rs.set h (rs.getD h [] ++ [a])
def hts (ls : Lets) (hs : List Int) (a : Int) : List Int := (pl ls a).map fun p => hs.getD p.toNat 0
def lstep (ls : Lets) (s : List Int × List (List Int)) (a : Int) : List Int × List (List Int) :=
  (setAll s.1 (pl ls a) (top0 (hts ls s.1 a) + 1), addRow s.2 (top0 (hts ls s.1 a)).toNat a)
def lay (ls : Lets) (k : Int) (w : List Int) : List Int × List (List Int) := w.foldl (lstep ls) (List.replicate k.toNat 0, [])
def layers (ls : Lets) (k : Int) (w : List Int) : List (List Int) := (lay ls k w).2.map srt
theorem setAll_len (ps : List Int) (v : Int) : ∀ hs : List Int, (setAll hs ps v).length = hs.length := by
  induction ps with
  | nil => intro hs; rfl
  | cons p ps ih =>
    intro hs
    show (setAll (hs.set p.toNat v) ps v).length = hs.length
    rw [ih, List.length_set]
theorem setAll_get {ps : List Int} {v : Int} (h0 : ∀ p ∈ ps, 0 ≤ p) {q : Nat} : ∀ {hs : List Int}, q < hs.length → (setAll hs ps v).getD q 0 = if (q : Int) ∈ ps then v else hs.getD q 0 := by
  induction ps with
  | nil => intro hs _; simp [setAll]
  | cons p ps ih =>
    intro hs hq
    show (setAll (hs.set p.toNat v) ps v).getD q 0 = _
    rw [ih (fun x hx => h0 x (List.mem_cons_of_mem _ hx)) (by rw [List.length_set]; exact hq)]
    have hp := h0 p List.mem_cons_self
    by_cases h1 : (q : Int) ∈ ps
    · rw [if_pos h1, if_pos (List.mem_cons_of_mem _ h1)]
    · rw [if_neg h1]
      by_cases h2 : p = q
      · subst h2
        rw [if_pos List.mem_cons_self]
        simp [List.getD_eq_getElem?_getD, hq]
      · rw [if_neg (by simp [h1]; omega)]
        have : p.toNat ≠ q := by omega
        simp [List.getD_eq_getElem?_getD, List.getElem?_set, this]
theorem addRow_len {rs : List (List Int)} {h : Nat} {a : Int} (hh : h ≤ rs.length) : (addRow rs h a).length = max rs.length (h + 1) := by
  unfold addRow
  split
  · rw [List.length_append, List.length_singleton]; omega
  · rw [List.length_set]; omega
theorem addRow_get {rs : List (List Int)} {h : Nat} {a : Int} (hh : h ≤ rs.length) (i : Nat) : (addRow rs h a).getD i [] = if i = h then rs.getD h [] ++ [a] else rs.getD i [] := by
  unfold addRow
  split
  · rename_i e
    subst e
    by_cases h1 : i < rs.length
    · rw [if_neg (by omega)]
      simp [List.getD_eq_getElem?_getD, List.getElem?_append_left h1]
    · by_cases h2 : i = rs.length
      · subst h2
        rw [if_pos rfl]
        simp [List.getD_eq_getElem?_getD]
      · rw [if_neg h2]
        have : rs.length ≤ i := by omega
        rw [List.getD_eq_getElem?_getD, List.getD_eq_getElem?_getD, List.getElem?_append_right this, List.getElem?_eq_none (by simp; omega), List.getElem?_eq_none (by omega)]
  · by_cases h2 : i = h
    · subst h2
      rw [if_pos rfl]
      simp [List.getD_eq_getElem?_getD, show i < rs.length by omega]
    · rw [if_neg h2]
      simp [List.getD_eq_getElem?_getD, List.getElem?_set, Ne.symm h2]
/-- what holds between the turns -/
structure LInv (ls : Lets) (k : Int) (w : List Int) (s : List Int × List (List Int)) : Prop where
  len : s.1.length = k.toNat
  hi : ∀ q : Nat, q < k.toNat → 0 ≤ s.1.getD q 0 ∧ s.1.getD q 0 ≤ s.2.length
  word : ∀ p, at_ ls p s.2.flatten = at_ ls p w
  above : ∀ (q : Nat) (i : Nat), q < k.toNat → s.1.getD q 0 ≤ i → at_ ls q (s.2.getD i []) = []
  apart : ∀ i, (s.2.getD i []).Pairwise fun a b => free ls a b = true
  rests : ∀ i a, a ∈ s.2.getD (i + 1) [] → ∃ b ∈ s.2.getD i [], free ls a b = false
  full : ∀ i, i < s.2.length → s.2.getD i [] ≠ []
  some : ∀ (q : Nat), q < k.toNat → 0 < s.1.getD q 0 → at_ ls q (s.2.getD ((s.1.getD q 0).toNat - 1) []) ≠ []
  ok : ∀ i, ∀ x ∈ s.2.getD i [], 0 ≤ x ∧ x < (ls.length : Int)
  cnt : s.2.length ≤ w.length
  few : ∀ i, (s.2.getD i []).length ≤ w.length
theorem at_append (ls : Lets) (p : Int) (u v : List Int) : at_ ls p (u ++ v) = at_ ls p u ++ at_ ls p v := List.filter_append ..
theorem at_flatten (ls : Lets) (p : Int) (rs : List (List Int)) : at_ ls p rs.flatten = (rs.map (at_ ls p)).flatten := by
  induction rs with
  | nil => rfl
  | cons r rs ih => rw [List.flatten_cons, at_append, ih]; rfl
theorem flat_nil {rs : List (List Int)} (h : ∀ r ∈ rs, r = []) : rs.flatten = [] := by
  induction rs with
  | nil => rfl
  | cons r rs ih => rw [List.flatten_cons, h r List.mem_cons_self, ih fun x hx => h x (List.mem_cons_of_mem _ hx)]; rfl
theorem addRow_at {ls : Lets} {rs : List (List Int)} {h : Nat} {a p : Int} (hh : h ≤ rs.length) (hp : p ∈ pl ls a → ∀ i, h ≤ i → at_ ls p (rs.getD i []) = []) : at_ ls p (addRow rs h a).flatten = at_ ls p rs.flatten ++ at_ ls p [a] := by
  unfold addRow
  split
  · rw [List.flatten_append, at_append]
    congr 1
  · have hlt : h < rs.length := by omega
    have e1 : rs.set h (rs.getD h [] ++ [a]) = rs.take h ++ (rs.getD h [] ++ [a]) :: rs.drop (h + 1) := by
      rw [List.set_eq_take_append_cons_drop, if_pos hlt]
    have e2 : rs = rs.take h ++ rs.getD h [] :: rs.drop (h + 1) := by
      conv => lhs; rw [← List.take_append_drop h rs, List.drop_eq_getElem_cons hlt]
      simp [List.getD_eq_getElem?_getD, hlt]
    rw [e1]
    conv => rhs; rw [e2]
    rw [List.flatten_append, List.flatten_cons, List.flatten_append, List.flatten_cons]
    simp only [at_append, List.append_assoc]
    congr 2
    by_cases hpa : p ∈ pl ls a
    · have hn := hp hpa
      have : at_ ls p (rs.drop (h + 1)).flatten = [] := by
        rw [at_flatten]
        apply flat_nil
        intro r hr
        obtain ⟨r0, hr0, rfl⟩ := List.mem_map.mp hr
        obtain ⟨n, hn2, e⟩ := List.getElem_of_mem hr0
        rw [List.getElem_drop] at e
        have := hn (h + 1 + n) (by omega)
        rw [← e]
        rw [List.length_drop] at hn2
        simpa [List.getD_eq_getElem?_getD, show h + 1 + n < rs.length by omega] using this
      rw [this]; simp
    · have : at_ ls p [a] = [] := by simp [at_, hpa]
      rw [this]; simp
theorem at_one {ls : Lets} {p a : Int} : at_ ls p [a] = if p ∈ pl ls a then [a] else [] := by
  by_cases h : p ∈ pl ls a <;> simp [at_, h]
theorem at_nil_iff {ls : Lets} {p : Int} {l : List Int} : at_ ls p l = [] ↔ ∀ x ∈ l, p ∉ pl ls x := by
  unfold at_
  rw [List.filter_eq_nil_iff]
  simp
theorem LInv.step {ls : Lets} {k : Int} {w : List Int} {s : List Int × List (List Int)} (A : AlphaOk k ls) (I : LInv ls k w s) {a : Int} (ha : 0 ≤ a ∧ a < (ls.length : Int)) : LInv ls k (w ++ [a]) (lstep ls s a) := by
  obtain ⟨hs, rs⟩ := s
  obtain ⟨pne, _, pok⟩ := A.ok _ (pl_mem ha.1 ha.2)
  have pin : ∀ p ∈ pl ls a, p.toNat < k.toNat ∧ ((p.toNat : Nat) : Int) = p := fun p hp => by have := pok p hp; omega
  -- the height
  have hmem : top0 (hts ls hs a) ∈ hts ls hs a := top0_mem (by simp [hts, pne]) fun y hy => by
    obtain ⟨p, hp, rfl⟩ := List.mem_map.mp hy
    exact (I.hi _ (pin p hp).1).1
  obtain ⟨p0, hp0, e0⟩ := List.mem_map.mp hmem
  have hge : ∀ p ∈ pl ls a, hs.getD p.toNat 0 ≤ top0 (hts ls hs a) := fun p hp => top0_le _ (List.mem_map_of_mem hp)
  have hb := I.hi _ (pin p0 hp0).1
  generalize hh : top0 (hts ls hs a) = h at *
  obtain ⟨n, rfl⟩ : ∃ n : Nat, h = n := ⟨h.toNat, by dsimp only at hb; omega⟩
  have hn : n ≤ rs.length := by dsimp only at hb; omega
  have E : lstep ls (hs, rs) a = (setAll hs (pl ls a) ((n : Int) + 1), addRow rs n a) := by
    show (setAll hs (pl ls a) (top0 (hts ls hs a) + 1), addRow rs (top0 (hts ls hs a)).toNat a) = _
    rw [hh]; rfl
  rw [E]
  have hl : hs.length = k.toNat := I.len
  have gs : ∀ q : Nat, q < k.toNat → (setAll hs (pl ls a) ((n : Int) + 1)).getD q 0 = if (q : Int) ∈ pl ls a then (n : Int) + 1 else hs.getD q 0 := fun q hq => setAll_get (fun p hp => (pok p hp).1) (by omega)
  have gr := addRow_get (a := a) hn
  have gl := addRow_len (a := a) hn
  have emp : ∀ p ∈ pl ls a, ∀ i, n ≤ i → at_ ls p (rs.getD i []) = [] := fun p hp i hi => by
    have := I.above p.toNat i (pin p hp).1 (by have := hge p hp; dsimp only; omega)
    rw [(pin p hp).2] at this
    exact this
  refine ⟨by rw [setAll_len]; exact hl, fun q hq => ?_, fun p => ?_, fun q i hq hi => ?_, fun i => ?_, fun i b hbm => ?_, fun i hi => ?_, fun q hq h0 => ?_, fun i x hx => ?_, by have := I.cnt; dsimp only at this ⊢; rw [gl, List.length_append, List.length_singleton]; omega, fun i => by
    have := I.few i
    have h2 := I.few n
    dsimp only at this h2 ⊢
    rw [gr, List.length_append, List.length_singleton]
    split
    · rw [List.length_append, List.length_singleton]; omega
    · omega⟩
  · dsimp only
    rw [gs q hq, gl]
    have := I.hi q hq
    dsimp only at this
    split <;> omega
  · dsimp only
    rw [addRow_at hn (fun hp => emp p hp), at_append, I.word p]
  · dsimp only at hi ⊢
    rw [gs q hq] at hi
    rw [gr]
    split at hi
    · rename_i hqa
      rw [if_neg (by omega)]
      exact emp _ hqa i (by omega)
    · rename_i hqa
      split
      · rename_i e
        subst e
        rw [at_append, at_one, if_neg hqa, I.above q i hq hi]; rfl
      · exact I.above q i hq hi
  · dsimp only
    rw [gr]
    split
    · rw [List.pairwise_append]
      refine ⟨I.apart n, List.pairwise_singleton _ _, fun b hb c hc => ?_⟩
      rw [List.mem_singleton.mp hc]
      refine disj_iff.mpr fun p hpb hpa => ?_
      exact at_nil_iff.mp (emp p hpa n (Nat.le_refl _)) b hb hpb
    · exact I.apart i
  · dsimp only at hbm ⊢
    rw [gr] at hbm
    have old : ∀ (c : Int), c ∈ rs.getD i [] → c ∈ (addRow rs n a).getD i [] := fun c hc => by
      rw [gr]
      split
      · rename_i e; subst e; exact List.mem_append_left _ hc
      · exact hc
    have fromold : b ∈ rs.getD (i + 1) [] → ∃ c ∈ (addRow rs n a).getD i [], free ls b c = false := fun h => by
      obtain ⟨c, hc, f⟩ := I.rests i b h
      exact ⟨c, old c hc, f⟩
    split at hbm
    · rename_i e
      rcases List.mem_append.mp hbm with h | h
      · exact fromold (by rw [e]; exact h)
      · rw [List.mem_singleton.mp h]
        have sm := I.some p0.toNat (pin p0 hp0).1 (by dsimp only; omega)
        dsimp only at sm
        rw [show (hs.getD p0.toNat 0).toNat - 1 = i by omega, (pin p0 hp0).2] at sm
        cases hat : at_ ls p0 (rs.getD i []) with
        | nil => exact absurd hat sm
        | cons c cs =>
          have hc : c ∈ at_ ls p0 (rs.getD i []) := by rw [hat]; exact List.mem_cons_self
          unfold at_ at hc
          obtain ⟨h1, h2⟩ := List.mem_filter.mp hc
          exact ⟨c, old c h1, not_disj.mpr ⟨p0, hp0, by simpa using h2⟩⟩
    · exact fromold hbm
  · dsimp only at hi ⊢
    rw [gr]
    rw [gl] at hi
    split
    · simp
    · exact I.full i (by dsimp only; omega)
  · dsimp only at h0 ⊢
    rw [gs q hq] at h0 ⊢
    split
    · rename_i hqa
      rw [show (((n : Int) + 1).toNat - 1) = n by omega, gr, if_pos rfl, at_append, at_one, if_pos hqa]
      simp
    · rename_i hqa
      rw [if_neg hqa] at h0
      have := I.some q hq h0
      dsimp only at this
      rw [gr]
      split
      · rename_i e
        rw [e] at this
        rw [at_append]
        intro z
        exact this (List.append_eq_nil_iff.mp z).1
      · exact this
  · dsimp only at hx
    rw [gr] at hx
    split at hx
    · rcases List.mem_append.mp hx with h | h
      · exact I.ok n x h
      · rw [List.mem_singleton.mp h]; exact ha
    · exact I.ok i x hx
theorem LInv.start {ls : Lets} {k : Int} : LInv ls k [] (List.replicate k.toNat 0, []) := by
  have g : ∀ q : Nat, (List.replicate k.toNat (0 : Int)).getD q 0 = 0 := fun q => by
    rw [List.getD_eq_getElem?_getD, List.getElem?_replicate]; split <;> rfl
  refine ⟨List.length_replicate, fun q _ => ?_, fun p => rfl, fun q i _ _ => rfl, fun i => List.Pairwise.nil, fun i a h => (by cases h), fun i h => (by cases h), fun q _ h => ?_, fun i x h => (by cases h), Nat.le_refl _, fun i => Nat.le_refl _⟩
  · dsimp only; rw [g]; exact ⟨Int.le_refl _, Int.le_refl _⟩
  · dsimp only at h; rw [g] at h; omega
theorem lay_inv {ls : Lets} {k : Int} (A : AlphaOk k ls) {w : List Int} (hw : WordOk ls w) : LInv ls k w (lay ls k w) := by
  have key : ∀ (v u : List Int) (s : List Int × List (List Int)), WordOk ls v → LInv ls k u s → LInv ls k (u ++ v) (v.foldl (lstep ls) s) := by
    intro v
    induction v with
    | nil => intro u s _ I; rw [List.append_nil]; exact I
    | cons a v ih =>
      intro u s h I
      have := ih (u ++ [a]) (lstep ls s a) (fun x hx => h x (List.mem_cons_of_mem _ hx)) (I.step A (h a List.mem_cons_self))
      rw [List.append_assoc] at this
      exact this
  exact key w [] _ hw LInv.start
/-! ### the order of free neighbours doesn't matter -/
structure Like (s t : List Int × List (List Int)) : Prop where
  hs : s.1 = t.1
  len : s.2.length = t.2.length
  row : ∀ i, (s.2.getD i []).Perm (t.2.getD i [])
theorem hgt_le {ls : Lets} {k : Int} {w : List Int} {s : List Int × List (List Int)} (A : AlphaOk k ls) (I : LInv ls k w s) {a : Int} (ha : 0 ≤ a ∧ a < (ls.length : Int)) : (top0 (hts ls s.1 a)).toNat ≤ s.2.length ∧ 0 ≤ top0 (hts ls s.1 a) := by
  obtain ⟨pne, _, pok⟩ := A.ok _ (pl_mem ha.1 ha.2)
  have hb : ∀ p ∈ pl ls a, 0 ≤ s.1.getD p.toNat 0 ∧ s.1.getD p.toNat 0 ≤ s.2.length := fun p hp => I.hi _ (by have := pok p hp; omega)
  have hmem : top0 (hts ls s.1 a) ∈ hts ls s.1 a := top0_mem (by simp [hts, pne]) fun y hy => by
    obtain ⟨p, hp, rfl⟩ := List.mem_map.mp hy
    exact (hb p hp).1
  obtain ⟨p, hp, e⟩ := List.mem_map.mp hmem
  have := hb p hp
  omega
theorem Like.step {ls : Lets} {k : Int} {w : List Int} {s t : List Int × List (List Int)} (A : AlphaOk k ls) (I : LInv ls k w s) (L : Like s t) {a : Int} (ha : 0 ≤ a ∧ a < (ls.length : Int)) : Like (lstep ls s a) (lstep ls t a) := by
  have h1 := (hgt_le A I ha).1
  have e : hts ls t.1 a = hts ls s.1 a := by rw [L.hs]
  refine ⟨?_, ?_, fun i => ?_⟩
  · show setAll s.1 _ (top0 (hts ls s.1 a) + 1) = setAll t.1 _ (top0 (hts ls t.1 a) + 1)
    rw [e, L.hs]
  · show (addRow s.2 _ a).length = (addRow t.2 (top0 (hts ls t.1 a)).toNat a).length
    rw [e, addRow_len h1, addRow_len (by rw [← L.len]; exact h1), L.len]
  · show ((addRow s.2 _ a).getD i []).Perm ((addRow t.2 (top0 (hts ls t.1 a)).toNat a).getD i [])
    rw [e, addRow_get h1, addRow_get (by rw [← L.len]; exact h1)]
    split
    · exact (L.row _).append_right _
    · exact L.row i
theorem addRow2 {rs : List (List Int)} {h1 h2 : Nat} {a b : Int} (l1 : h1 ≤ rs.length) (l2 : h2 ≤ rs.length) : (addRow (addRow rs h1 a) h2 b).length = max (max rs.length (h1 + 1)) (h2 + 1) ∧
    ∀ i, (addRow (addRow rs h1 a) h2 b).getD i [] = if i = h2 then (if h2 = h1 then rs.getD h1 [] ++ [a] else rs.getD h2 []) ++ [b] else if i = h1 then rs.getD h1 [] ++ [a] else rs.getD i [] := by
  have e := addRow_len (a := a) l1
  have l3 : h2 ≤ (addRow rs h1 a).length := by rw [e]; omega
  refine ⟨by rw [addRow_len l3, e], fun i => ?_⟩
  rw [addRow_get l3, addRow_get l1, addRow_get l1]
theorem lstep_comm {ls : Lets} {k : Int} {w : List Int} {s : List Int × List (List Int)} (A : AlphaOk k ls) (I : LInv ls k w s) {a b : Int} (ha : 0 ≤ a ∧ a < (ls.length : Int)) (hb : 0 ≤ b ∧ b < (ls.length : Int)) (f : free ls a b = true) : Like (lstep ls (lstep ls s a) b) (lstep ls (lstep ls s b) a) := by
  obtain ⟨_, _, oka⟩ := A.ok _ (pl_mem ha.1 ha.2)
  obtain ⟨_, _, okb⟩ := A.ok _ (pl_mem hb.1 hb.2)
  have l1 := (hgt_le A I ha).1
  have l2 := (hgt_le A I hb).1
  have other : ∀ {x y : Int} {v : Int}, (∀ p ∈ pl ls x, 0 ≤ p ∧ p < k) → (∀ p ∈ pl ls y, 0 ≤ p ∧ p < k) → free ls x y = true → hts ls (setAll s.1 (pl ls x) v) y = hts ls s.1 y := fun {x y v} ox oy fr => by
    refine List.map_congr_left fun p hp => ?_
    have hp2 := oy p hp
    rw [setAll_get (fun q hq => (ox q hq).1) (by rw [I.len]; omega), if_neg fun z => ?_]
    rw [show ((p.toNat : Nat) : Int) = p by omega] at z
    exact disj_iff.mp fr p z hp
  have e1 : hts ls (lstep ls s a).1 b = hts ls s.1 b := other oka okb f
  have e2 : hts ls (lstep ls s b).1 a = hts ls s.1 a := other okb oka (by rw [free_comm]; exact f)
  refine ⟨?_, ?_, fun i => ?_⟩
  · show setAll (setAll s.1 (pl ls a) _) (pl ls b) (top0 (hts ls (lstep ls s a).1 b) + 1) = setAll (setAll s.1 (pl ls b) _) (pl ls a) (top0 (hts ls (lstep ls s b).1 a) + 1)
    rw [e1, e2]
    apply List.ext_getElem
    · simp only [setAll_len]
    · intro n h1 h2
      simp only [setAll_len] at h1 h2
      have g : ∀ (l : List Int) (h : n < l.length), l[n] = l.getD n 0 := fun l h => by rw [List.getD_eq_getElem?_getD, List.getElem?_eq_getElem h]; rfl
      rw [g, g, setAll_get (fun q hq => (okb q hq).1) (by rw [setAll_len]; exact h1), setAll_get (fun q hq => (oka q hq).1) h1, setAll_get (fun q hq => (oka q hq).1) (by rw [setAll_len]; exact h1), setAll_get (fun q hq => (okb q hq).1) h1]
      by_cases c1 : (n : Int) ∈ pl ls b
      · rw [if_pos c1, if_pos c1, if_neg fun c2 => disj_iff.mp f _ c2 c1]
      · rw [if_neg c1, if_neg c1]
  · show (addRow (addRow s.2 _ a) (top0 (hts ls (lstep ls s a).1 b)).toNat b).length = (addRow (addRow s.2 _ b) (top0 (hts ls (lstep ls s b).1 a)).toNat a).length
    rw [e1, e2, (addRow2 l1 l2).1, (addRow2 l2 l1).1]
    omega
  · show ((addRow (addRow s.2 _ a) (top0 (hts ls (lstep ls s a).1 b)).toNat b).getD i []).Perm ((addRow (addRow s.2 _ b) (top0 (hts ls (lstep ls s b).1 a)).toNat a).getD i [])
    rw [e1, e2, (addRow2 l1 l2).2, (addRow2 l2 l1).2]
    generalize (top0 (hts ls s.1 a)).toNat = x
    generalize (top0 (hts ls s.1 b)).toNat = y
    by_cases c1 : i = x <;> by_cases c2 : i = y
    · subst c1; subst c2
      simp only [if_true, List.append_assoc]
      exact (List.perm_append_comm (l₁ := [a]) (l₂ := [b])).append_left _
    · subst c1
      simp only [if_neg c2, if_true]
      exact List.Perm.refl _
    · subst c2
      simp only [if_neg c1, if_true]
      exact List.Perm.refl _
    · simp only [if_neg c1, if_neg c2]
      exact List.Perm.refl _
theorem srt_congr {l m : List Int} (p : l.Perm m) : srt l = srt m := srt_eq ((srt_perm l).trans p) (srt_up l)
theorem Like.same {s t : List Int × List (List Int)} (L : Like s t) : s.2.map srt = t.2.map srt := by
  apply List.ext_getElem
  · simp [L.len]
  · intro n h1 h2
    rw [List.length_map] at h1 h2
    rw [List.getElem_map, List.getElem_map]
    have := L.row n
    rw [List.getD_eq_getElem?_getD, List.getD_eq_getElem?_getD, List.getElem?_eq_getElem h1, List.getElem?_eq_getElem h2] at this
    exact srt_congr this
theorem lay_foldl {ls : Lets} {k : Int} (A : AlphaOk k ls) : ∀ (v : List Int) (w : List Int) (s t : List Int × List (List Int)), WordOk ls v → LInv ls k w s → Like s t → Like (v.foldl (lstep ls) s) (v.foldl (lstep ls) t)
  | [], _, _, _, _, _, L => L
  | a :: v, w, s, t, hv, I, L => lay_foldl A v (w ++ [a]) _ _ (fun x hx => hv x (List.mem_cons_of_mem _ hx)) (I.step A (hv a List.mem_cons_self)) (L.step A I (hv a List.mem_cons_self))
theorem layers_swp {ls : Lets} {k : Int} (A : AlphaOk k ls) {w w' : List Int} (h : Swp ls w w') (hw : WordOk ls w) : layers ls k w' = layers ls k w := by
  induction h with
  | refl => rfl
  | @step u v a b h f ih =>
    rw [← ih]
    obtain ⟨ok, _⟩ := h.word hw
    have oka := ok a (by simp)
    have okb := ok b (by simp)
    have oku : WordOk ls u := fun x hx => ok x (List.mem_append_left _ hx)
    have okv : WordOk ls v := fun x hx => ok x (by simp [hx])
    have I := lay_inv A oku
    have L := lstep_comm A I okb oka (by rw [free_comm]; exact f)
    refine Like.same ?_
    unfold lay
    rw [List.foldl_append, List.foldl_append]
    exact lay_foldl A v (u ++ [b] ++ [a]) _ _ okv ((I.step A okb).step A oka) L
/-! ### what the law asks of the layers -/
theorem free_self {ls : Lets} {k : Int} (A : AlphaOk k ls) {a : Int} (ha : 0 ≤ a ∧ a < (ls.length : Int)) : free ls a a = false := by
  obtain ⟨h, _, _⟩ := A.ok _ (pl_mem ha.1 ha.2)
  obtain ⟨x, xs, e⟩ := List.exists_cons_of_ne_nil h
  exact not_disj.mpr ⟨x, by rw [e]; exact List.mem_cons_self, by rw [e]; exact List.mem_cons_self⟩
theorem at_few {ls : Lets} {p : Int} : ∀ {l m : List Int}, l.Pairwise (fun a b => free ls a b = true) → m.Perm l → at_ ls p m = at_ ls p l := by
  intro l m h pm
  have h1 : (at_ ls p l).length ≤ 1 := by
    have hp : (at_ ls p l).Pairwise (fun a b => free ls a b = true) := h.sublist List.filter_sublist
    have hm : ∀ x ∈ at_ ls p l, p ∈ pl ls x := fun x hx => by simpa using (List.mem_filter.mp hx).2
    match hq : at_ ls p l with
    | [] => simp
    | [_] => simp
    | a :: b :: r =>
      rw [hq] at hp hm
      have f := (List.pairwise_cons.mp hp).1 b List.mem_cons_self
      exact absurd (hm b (by simp)) (disj_iff.mp f p (hm a (by simp)))
  have pq : (at_ ls p m).Perm (at_ ls p l) := pm.filter _
  match hq : at_ ls p l, h1 with
  | [], _ => rw [hq] at pq; exact pq.eq_nil
  | [x], _ => rw [hq] at pq; exact List.perm_singleton.mp pq
structure LayOk (ls : Lets) (w : List Int) (l : List (List Int)) : Prop where
  full : ∀ x ∈ l, x ≠ []
  up : ∀ x ∈ l, x.Pairwise (· < ·)
  apart : ∀ x ∈ l, ∀ a ∈ x, ∀ b ∈ x, a ≠ b → free ls a b = true
  rests : ∀ i x y, l[i]? = some x → l[i + 1]? = some y → ∀ a ∈ y, ∃ b ∈ x, free ls a b = false
  word : ∀ p, at_ ls p l.flatten = at_ ls p w
  ok : ∀ x ∈ l, ∀ a ∈ x, 0 ≤ a ∧ a < (ls.length : Int)
  cnt : l.length ≤ w.length
  few : l.flatten.length ≤ w.length * w.length
  row : ∀ x ∈ l, x.length ≤ w.length
theorem srt_lt {ls : Lets} {k : Int} (A : AlphaOk k ls) {l : List Int} (h : l.Pairwise (fun a b => free ls a b = true)) (ok : ∀ x ∈ l, 0 ≤ x ∧ x < (ls.length : Int)) : (srt l).Pairwise (· < ·) := by
  have nd : (srt l).Nodup := (srt_perm l).nodup_iff.mpr (by
    rw [List.nodup_iff_pairwise_ne]
    refine List.Pairwise.imp_of_mem ?_ h
    intro a b ha hb f e
    subst e
    rw [free_self A (ok a ha)] at f
    cases f)
  have up := srt_up l
  rw [List.nodup_iff_pairwise_ne] at nd
  refine List.Pairwise.imp₂ ?_ up nd
  intro a b h1 h2
  omega
theorem layers_ok {ls : Lets} {k : Int} (A : AlphaOk k ls) {w : List Int} (hw : WordOk ls w) : LayOk ls w (layers ls k w) := by
  have I := lay_inv A hw
  unfold layers
  generalize lay ls k w = s at I
  obtain ⟨hs, rs⟩ := s
  dsimp only at I ⊢
  have get : ∀ x ∈ rs, ∃ i, rs.getD i [] = x ∧ i < rs.length := fun x hx => by
    obtain ⟨i, hi, e⟩ := List.getElem_of_mem hx
    exact ⟨i, by rw [List.getD_eq_getElem?_getD, List.getElem?_eq_getElem hi]; exact e, hi⟩
  have sub : ∀ (P : List Int → Prop), (∀ i, i < rs.length → P (srt (rs.getD i []))) → ∀ x ∈ rs.map srt, P x := fun P h x hx => by
    obtain ⟨y, hy, rfl⟩ := List.mem_map.mp hx
    obtain ⟨i, e, hi⟩ := get y hy
    rw [← e]; exact h i hi
  have pw : ∀ {l : List Int}, l.Pairwise (fun a b => free ls a b = true) → ∀ a ∈ l, ∀ b ∈ l, a ≠ b → free ls a b = true := by
    intro l
    induction l with
    | nil => intro _ a ha; cases ha
    | cons x l ih =>
      intro h a ha b hb ne
      obtain ⟨h1, h2⟩ := List.pairwise_cons.mp h
      rcases List.mem_cons.mp ha with e | ha <;> rcases List.mem_cons.mp hb with e2 | hb
      · exact absurd (e.trans e2.symm) ne
      · rw [e]; exact h1 b hb
      · rw [e2, free_comm]; exact h1 a ha
      · exact ih h2 a ha b hb ne
  refine ⟨sub _ fun i hi e => ?_, sub _ fun i _ => srt_lt A (I.apart i) (I.ok i), sub _ fun i _ a ha b hb ne => ?_, fun i x y hx hy a ha => ?_, fun p => ?_, sub _ fun i _ a ha => I.ok i a ((srt_perm _).subset ha), by rw [List.length_map]; exact I.cnt, ?_, sub _ fun i _ => by rw [(srt_perm _).length_eq]; exact I.few i⟩
  · have := (srt_perm (rs.getD i [])).length_eq
    rw [e] at this
    exact I.full i hi (List.eq_nil_of_length_eq_zero this.symm)
  · exact pw (I.apart i) a ((srt_perm _).subset ha) b ((srt_perm _).subset hb) ne
  · rw [List.getElem?_map] at hx hy
    obtain ⟨x0, hx0, rfl⟩ := Option.map_eq_some_iff.mp hx
    obtain ⟨y0, hy0, rfl⟩ := Option.map_eq_some_iff.mp hy
    have ex : rs.getD i [] = x0 := by rw [List.getD_eq_getElem?_getD, hx0]; rfl
    have ey : rs.getD (i + 1) [] = y0 := by rw [List.getD_eq_getElem?_getD, hy0]; rfl
    obtain ⟨b, hb, f⟩ := I.rests i a (by dsimp only; rw [ey]; exact (srt_perm _).subset ha)
    dsimp only at hb
    rw [ex] at hb
    exact ⟨b, (srt_perm _).symm.subset hb, f⟩
  · rw [← I.word p, at_flatten, at_flatten, List.map_map]
    dsimp only
    congr 1
    refine List.map_congr_left fun x hx => ?_
    obtain ⟨i, e, hi⟩ := get x hx
    refine at_few ?_ (srt_perm x)
    rw [← e]; exact I.apart i
  · have bound : ∀ (l : List (List Int)) (n : Nat), (∀ x ∈ l, x.length ≤ n) → l.flatten.length ≤ l.length * n := by
      intro l n
      induction l with
      | nil => intro _; simp
      | cons x l ih =>
        intro h
        have := ih fun y hy => h y (List.mem_cons_of_mem _ hy)
        have := h x List.mem_cons_self
        rw [List.flatten_cons, List.length_append, List.length_cons, Nat.add_mul]
        omega
    have := bound (rs.map srt) w.length (sub _ fun i _ => by rw [(srt_perm _).length_eq]; exact I.few i)
    rw [List.length_map] at this
    exact Nat.le_trans this (Nat.mul_le_mul_right _ I.cnt)
theorem lt_unique : ∀ {l m : List Int}, l.Pairwise (· < ·) → m.Pairwise (· < ·) → (∀ k, k ∈ l ↔ k ∈ m) → l = m
  | [], [], _, _, _ => rfl
  | [], b :: m, _, _, h => absurd ((h b).mpr List.mem_cons_self) (by simp)
  | a :: l, [], _, _, h => absurd ((h a).mp List.mem_cons_self) (by simp)
  | a :: l, b :: m, h1, h2, h => by
    obtain ⟨x1, x2⟩ := List.pairwise_cons.mp h1
    obtain ⟨y1, y2⟩ := List.pairwise_cons.mp h2
    have hab : a = b := by
      rcases List.mem_cons.mp ((h a).mp List.mem_cons_self) with e | e
      · exact e
      · rcases List.mem_cons.mp ((h b).mpr List.mem_cons_self) with e2 | e2
        · exact e2.symm
        · have := x1 b e2; have := y1 a e; omega
    subst hab
    refine congrArg _ (lt_unique x2 y2 fun k => ⟨fun hk => ?_, fun hk => ?_⟩)
    · rcases List.mem_cons.mp ((h k).mp (List.mem_cons_of_mem _ hk)) with e | e
      · subst e; have := x1 k hk; omega
      · exact e
    · rcases List.mem_cons.mp ((h k).mpr (List.mem_cons_of_mem _ hk)) with e | e
      · subst e; have := y1 k hk; omega
      · exact e
end My
namespace My
/-! ### times: when the events end -/
def tm (ts : List Int) (a : Int) : Int := ts.getD a.toNat 0
def tstep (ls : Lets) (ts : List Int) (s : List Int × List Int) (a : Int) : List Int × List Int :=
  (setAll s.1 (pl ls a) (top0 (hts ls s.1 a) + tm ts a), s.2 ++ [top0 (hts ls s.1 a) + tm ts a])
def tim (ls : Lets) (ts : List Int) (k : Int) (w : List Int) : List Int × List Int := w.foldl (tstep ls ts) (List.replicate k.toNat 0, [])
def due (ls : Lets) (ts : List Int) (k : Int) (w : List Int) : List Int := (tim ls ts k w).2
def TOk (ls : Lets) (ts : List Int) : Prop := ts.length = ls.length ∧ ∀ t ∈ ts, 1 ≤ t
theorem TOk.tm1 {ls ts} (h : TOk ls ts) {a : Int} (h0 : 0 ≤ a) (h1 : a < (ls.length : Int)) : 1 ≤ tm ts a := by
  have : a.toNat < ts.length := by rw [h.1]; omega
  unfold tm
  rw [List.getD_eq_getElem?_getD, List.getElem?_eq_getElem this]
  exact h.2 _ (List.getElem_mem this)
theorem TOk.get {ls ts} (h : TOk ls ts) {a : Int} (h0 : 0 ≤ a) (h1 : a < (ls.length : Int)) : ts[a.toNat]? = some (tm ts a) := by
  have : a.toNat < ts.length := by rw [h.1]; omega
  unfold tm
  rw [List.getD_eq_getElem?_getD, List.getElem?_eq_getElem this]; rfl
theorem top0_nn (l : List Int) : 0 ≤ top0 l := by
  cases l with
  | nil => exact Int.le_refl _
  | cons a l => show 0 ≤ max a (top0 l); have := top0_nn l; omega
theorem top0_ub {l : List Int} {m : Int} (h : ∀ y ∈ l, y ≤ m) (h0 : 0 ≤ m) : top0 l ≤ m := by
  induction l with
  | nil => exact h0
  | cons a l ih =>
    have := ih fun y hy => h y (List.mem_cons_of_mem _ hy)
    have := h a List.mem_cons_self
    show max a (top0 l) ≤ m
    omega
theorem top0_at {l : List Int} (h : 0 < top0 l) : top0 l ∈ l := by
  induction l with
  | nil => exact absurd h (by show ¬ (0 : Int) < 0; omega)
  | cons a l ih =>
    show max a (top0 l) ∈ a :: l
    by_cases c : a ≤ top0 l
    · have e : max a (top0 l) = top0 l := by omega
      rw [e]
      exact List.mem_cons_of_mem _ (ih (by have : (0 : Int) < max a (top0 l) := h; omega))
    · rw [show max a (top0 l) = a by omega]; exact List.mem_cons_self
theorem top0_snoc (l : List Int) (e : Int) : top0 (l ++ [e]) = max (top0 l) (max e 0) := by
  induction l with
  | nil => show max e 0 = max 0 (max e 0); omega
  | cons a l ih =>
    show max a (top0 (l ++ [e])) = max (max a (top0 l)) (max e 0)
    rw [ih]; omega
theorem mem_getD0 {l : List Int} {y : Int} (h : y ∈ l) : ∃ q, q < l.length ∧ l.getD q 0 = y := by
  obtain ⟨q, hq, rfl⟩ := List.mem_iff_getElem.mp h
  exact ⟨q, hq, by rw [List.getD_eq_getElem?_getD, List.getElem?_eq_getElem hq]; rfl⟩
theorem getD0_mem {l : List Int} {q : Nat} (h : q < l.length) : l.getD q 0 ∈ l := by
  rw [List.getD_eq_getElem?_getD, List.getElem?_eq_getElem h]; exact List.getElem_mem h
theorem top0_set {c ps : List Int} {e : Int} (h0 : ∀ p ∈ ps, 0 ≤ p ∧ p.toNat < c.length) (hne : ps ≠ []) (he : 0 ≤ e) (hle : ∀ p ∈ ps, c.getD p.toNat 0 ≤ e) : top0 (setAll c ps e) = max (top0 c) e := by
  have hp0 : ∀ p ∈ ps, 0 ≤ p := fun p hp => (h0 p hp).1
  have h1 : top0 (setAll c ps e) ≤ max (top0 c) e := by
    refine top0_ub (fun y hy => ?_) (by omega)
    obtain ⟨q, hq, rfl⟩ := mem_getD0 hy
    rw [setAll_len] at hq
    rw [setAll_get hp0 hq]
    split
    · omega
    · have := top0_le _ (getD0_mem hq); omega
  have h2 : e ≤ top0 (setAll c ps e) := by
    obtain ⟨p, hp⟩ := List.exists_mem_of_ne_nil _ hne
    have hq := (h0 p hp).2
    have e1 : (setAll c ps e).getD p.toNat 0 = e := by rw [setAll_get hp0 hq, if_pos (by rw [Int.toNat_of_nonneg (h0 p hp).1]; exact hp)]
    have := top0_le _ (getD0_mem (l := setAll c ps e) (q := p.toNat) (by rw [setAll_len]; exact hq))
    omega
  by_cases hc : top0 c ≤ e
  · omega
  · have hm := top0_at (l := c) (by omega)
    obtain ⟨q, hq, e1⟩ := mem_getD0 hm
    have e2 : (setAll c ps e).getD q 0 = top0 c := by
      rw [setAll_get hp0 hq]
      by_cases hqp : (q : Int) ∈ ps
      · have := hle _ hqp
        rw [Int.toNat_natCast] at this
        omega
      · rw [if_neg hqp, e1]
    have := top0_le _ (getD0_mem (l := setAll c ps e) (q := q) (by rw [setAll_len]; exact hq))
    omega
structure TInv (ls : Lets) (ts : List Int) (k : Int) (w : List Int) (s : List Int × List Int) : Prop where
  len : s.1.length = k.toNat
  cnt : s.2.length = w.length
  nn : ∀ p : Nat, 0 ≤ s.1.getD p 0
  pos : ∀ (i : Nat) (x e : Int), w[i]? = some x → s.2[i]? = some e → tm ts x ≤ e
  src : ∀ p : Nat, p < k.toNat → s.1.getD p 0 = 0 ∨ ∃ (f : Nat) (x : Int), w[f]? = some x ∧ (p : Int) ∈ pl ls x ∧ s.2[f]? = some (s.1.getD p 0)
  bef : ∀ (i : Nat) (x e : Int), w[i]? = some x → s.2[i]? = some e → tm ts x < e → ∃ (f : Nat) (y : Int), f < i ∧ w[f]? = some y ∧ s.2[f]? = some (e - tm ts x) ∧ free ls y x = false
  top : top0 s.1 = top0 s.2
theorem snoc_at {α : Type} {l : List α} {x y : α} {i : Nat} (h : (l ++ [x])[i]? = some y) : l[i]? = some y ∨ (i = l.length ∧ y = x) := by
  rcases Nat.lt_trichotomy i l.length with c | c | c
  · rw [List.getElem?_append_left c] at h; exact .inl h
  · subst c; rw [List.getElem?_append_right (Nat.le_refl _), Nat.sub_self] at h
    exact .inr ⟨rfl, (Option.some.inj h).symm⟩
  · rw [List.getElem?_eq_none (by rw [List.length_append, List.length_singleton]; omega)] at h; cases h
theorem at_snoc {α : Type} {l : List α} {x y : α} {i : Nat} (h : l[i]? = some y) : (l ++ [x])[i]? = some y := by
  have : i < l.length := by
    rcases Nat.lt_or_ge i l.length with c | c
    · exact c
    · rw [List.getElem?_eq_none c] at h; cases h
  rw [List.getElem?_append_left this]; exact h
theorem hts_le {ls : Lets} {hs : List Int} {a p : Int} (h : p ∈ pl ls a) : hs.getD p.toNat 0 ≤ top0 (hts ls hs a) := top0_le _ (List.mem_map.mpr ⟨p, h, rfl⟩)
theorem tim_snoc {ls ts k w a} : tim ls ts k (w ++ [a]) = tstep ls ts (tim ls ts k w) a := by
  unfold tim
  rw [List.foldl_append]; rfl
theorem TInv.step {ls : Lets} {ts : List Int} {k : Int} {w : List Int} {s : List Int × List Int} (A : AlphaOk k ls) (T : TOk ls ts) (I : TInv ls ts k w s) {a : Int} (ha : 0 ≤ a ∧ a < (ls.length : Int)) : TInv ls ts k (w ++ [a]) (tstep ls ts s a) := by
  obtain ⟨pne, _, pok⟩ := A.ok _ (pl_mem ha.1 ha.2)
  have t1 := T.tm1 ha.1 ha.2
  have k1 := A.k1
  have hn := top0_nn (hts ls s.1 a)
  have p0 : ∀ p ∈ pl ls a, 0 ≤ p := fun p hp => (pok p hp).1
  have pl' : ∀ p ∈ pl ls a, p.toNat < s.1.length := fun p hp => by have := pok p hp; rw [I.len]; omega
  have gt : ∀ q : Nat, q < s.1.length → (tstep ls ts s a).1.getD q 0 = if (q : Int) ∈ pl ls a then top0 (hts ls s.1 a) + tm ts a else s.1.getD q 0 := fun q hq => setAll_get p0 hq
  refine ⟨?_, ?_, ?_, ?_, ?_, ?_, ?_⟩
  · show (setAll _ _ _).length = _
    rw [setAll_len]; exact I.len
  · show (s.2 ++ [_]).length = (w ++ [a]).length
    rw [List.length_append, List.length_append, I.cnt]; rfl
  · intro p
    rcases Nat.lt_or_ge p s.1.length with c | c
    · rw [gt p c]
      split
      · omega
      · exact I.nn p
    · rw [List.getD_eq_getElem?_getD, List.getElem?_eq_none (by show (setAll _ _ _).length ≤ p; rw [setAll_len]; exact c)]; exact Int.le_refl _
  · intro i x e h1 h2
    rcases snoc_at h1 with h1 | ⟨e1, rfl⟩
    · rcases snoc_at h2 with h2 | ⟨e2, rfl⟩
      · exact I.pos i x e h1 h2
      · exfalso
        rw [e2, I.cnt, List.getElem?_eq_none (Nat.le_refl _)] at h1; cases h1
    · rcases snoc_at h2 with h2 | ⟨e2, rfl⟩
      · exfalso
        rw [e1, ← I.cnt, List.getElem?_eq_none (Nat.le_refl _)] at h2; cases h2
      · omega
  · intro p hp
    have hp' : p < s.1.length := by rw [I.len]; exact hp
    rw [gt p hp']
    by_cases c : (p : Int) ∈ pl ls a
    · rw [if_pos c]
      refine .inr ⟨w.length, a, by rw [List.getElem?_append_right (Nat.le_refl _), Nat.sub_self]; rfl, c, ?_⟩
      show (s.2 ++ [_])[w.length]? = _
      rw [← I.cnt, List.getElem?_append_right (Nat.le_refl _), Nat.sub_self]; rfl
    · rw [if_neg c]
      rcases I.src p hp with h | ⟨f, x, h1, h2, h3⟩
      · exact .inl h
      · exact .inr ⟨f, x, at_snoc h1, h2, at_snoc h3⟩
  · intro i x e h1 h2 h3
    rcases snoc_at h1 with h1 | ⟨e1, rfl⟩
    · rcases snoc_at h2 with h2 | ⟨e2, rfl⟩
      · obtain ⟨f, y, g1, g2, g3, g4⟩ := I.bef i x e h1 h2 h3
        exact ⟨f, y, g1, at_snoc g2, at_snoc g3, g4⟩
      · exfalso
        rw [e2, I.cnt, List.getElem?_eq_none (Nat.le_refl _)] at h1; cases h1
    · rcases snoc_at h2 with h2 | ⟨e2, rfl⟩
      · exfalso
        rw [e1, ← I.cnt, List.getElem?_eq_none (Nat.le_refl _)] at h2; cases h2
      · have hm := top0_at (l := hts ls s.1 x) (by omega)
        obtain ⟨p, hp, e3⟩ := List.mem_map.mp hm
        have := pok p hp
        rcases I.src p.toNat (by omega) with h | ⟨f, y, g1, g2, g3⟩
        · omega
        · rw [Int.toNat_of_nonneg this.1] at g2
          have hf : f < w.length := by
            rcases Nat.lt_or_ge f w.length with c | c
            · exact c
            · rw [List.getElem?_eq_none c] at g1; cases g1
          refine ⟨f, y, by omega, at_snoc g1, at_snoc ?_, not_disj.mpr ⟨p, g2, hp⟩⟩
          rw [g3, ← e3]; congr 1; omega
  · show top0 (setAll s.1 (pl ls a) _) = top0 (s.2 ++ [_])
    rw [top0_set (fun p hp => ⟨p0 p hp, pl' p hp⟩) pne (by omega) (fun p hp => by have := hts_le (hs := s.1) hp; omega), top0_snoc, I.top]
    omega
theorem tim_inv0 {ls : Lets} {ts : List Int} {k : Int} (A : AlphaOk k ls) : TInv ls ts k [] (tim ls ts k []) := by
  have g : ∀ p : Nat, (List.replicate k.toNat (0 : Int)).getD p 0 = 0 := fun p => by
    rw [List.getD_eq_getElem?_getD, List.getElem?_replicate]
    split <;> rfl
  refine ⟨?_, rfl, fun p => ?_, fun i x e h => by simp at h, fun p hp => .inl (g p), fun i x e h => by simp at h, ?_⟩
  · show (List.replicate k.toNat (0 : Int)).length = _
    rw [List.length_replicate]
  · show 0 ≤ (List.replicate k.toNat (0 : Int)).getD p 0
    rw [g p]; exact Int.le_refl _
  · show top0 (List.replicate k.toNat 0) = 0
    have := top0_ub (l := List.replicate k.toNat (0 : Int)) (m := 0) (fun y hy => by rw [(List.mem_replicate.mp hy).2]; exact Int.le_refl _) (Int.le_refl _)
    have := top0_nn (List.replicate k.toNat (0 : Int))
    omega
theorem tim_go {ls : Lets} {ts : List Int} {k : Int} (A : AlphaOk k ls) (T : TOk ls ts) : ∀ (w u : List Int) (s : List Int × List Int), TInv ls ts k u s → WordOk ls w → TInv ls ts k (u ++ w) (w.foldl (tstep ls ts) s)
  | [], u, s, I, _ => by rw [List.append_nil]; exact I
  | a :: w, u, s, I, h => by
    have := tim_go A T w (u ++ [a]) (tstep ls ts s a) (I.step A T (h a List.mem_cons_self)) fun x hx => h x (List.mem_cons_of_mem _ hx)
    rw [List.append_assoc] at this
    exact this
theorem tim_inv {ls : Lets} {ts : List Int} {k : Int} (A : AlphaOk k ls) (T : TOk ls ts) {w : List Int} (h : WordOk ls w) : TInv ls ts k w (tim ls ts k w) := tim_go A T w [] _ (tim_inv0 A) h
/-- swaps change no clock -/
theorem clk_comm {ls : Lets} {ts : List Int} {k : Int} {c d d' : List Int} {a b : Int} (A : AlphaOk k ls) (hc : c.length = k.toNat) (ha : 0 ≤ a ∧ a < (ls.length : Int)) (hb : 0 ≤ b ∧ b < (ls.length : Int)) (hf : free ls a b = true) :
    (tstep ls ts (tstep ls ts (c, d) a) b).1 = (tstep ls ts (tstep ls ts (c, d') b) a).1 := by
  obtain ⟨_, _, poka⟩ := A.ok _ (pl_mem ha.1 ha.2)
  obtain ⟨_, _, pokb⟩ := A.ok _ (pl_mem hb.1 hb.2)
  have a0 : ∀ p ∈ pl ls a, 0 ≤ p := fun p hp => (poka p hp).1
  have b0 : ∀ p ∈ pl ls b, 0 ≤ p := fun p hp => (pokb p hp).1
  have dj := disj_iff.mp hf
  have same : ∀ {x y : Int} {v : Int}, (∀ p ∈ pl ls x, 0 ≤ p ∧ p < k) → (∀ p ∈ pl ls y, 0 ≤ p) → (∀ p ∈ pl ls x, p ∉ pl ls y) → hts ls (setAll c (pl ls y) v) x = hts ls c x := by
    intro x y v h1 h2 h3
    unfold hts
    refine List.map_congr_left fun p hp => ?_
    have := h1 p hp
    rw [setAll_get h2 (by omega), if_neg (by rw [Int.toNat_of_nonneg this.1]; exact h3 p hp)]
  show setAll (setAll c (pl ls a) _) (pl ls b) (top0 (hts ls (setAll c (pl ls a) _) b) + _) = setAll (setAll c (pl ls b) _) (pl ls a) (top0 (hts ls (setAll c (pl ls b) _) a) + _)
  rw [same pokb a0 (fun p h1 h2 => dj p h2 h1), same poka b0 dj]
  apply List.ext_getElem
  · rw [setAll_len, setAll_len, setAll_len, setAll_len]
  · intro q h1 h2
    have hq : q < c.length := by rw [setAll_len, setAll_len] at h1; exact h1
    have g : ∀ {l : List Int} (h : q < l.length), l[q] = l.getD q 0 := fun h => by rw [List.getD_eq_getElem?_getD, List.getElem?_eq_getElem h]; rfl
    rw [g h1, g h2, setAll_get b0 (by rw [setAll_len]; exact hq), setAll_get a0 hq, setAll_get a0 (by rw [setAll_len]; exact hq), setAll_get b0 hq]
    by_cases c1 : (q : Int) ∈ pl ls a
    · rw [if_pos c1, if_pos c1, if_neg (dj _ c1)]
    · rw [if_neg c1, if_neg c1]
theorem clk_fold {ls : Lets} {ts : List Int} : ∀ (v : List Int) {s s' : List Int × List Int}, s.1 = s'.1 → (v.foldl (tstep ls ts) s).1 = (v.foldl (tstep ls ts) s').1
  | [], _, _, h => h
  | a :: v, s, s', h => clk_fold v (by show setAll s.1 _ (top0 (hts ls s.1 a) + _) = setAll s'.1 _ (top0 (hts ls s'.1 a) + _); rw [h])
theorem clk_swp {ls : Lets} {ts : List Int} {k : Int} {w w' : List Int} (A : AlphaOk k ls) (T : TOk ls ts) (h : Swp ls w w') (hw : WordOk ls w) : (tim ls ts k w').1 = (tim ls ts k w).1 := by
  induction h with
  | refl => rfl
  | @step u v a b h f ih =>
    rw [← ih]
    have hw' := (h.word hw).1
    have ha := hw' a (by simp)
    have hb := hw' b (by simp)
    have hu : WordOk ls u := fun x hx => hw' x (List.mem_append_left _ hx)
    unfold tim
    rw [List.foldl_append, List.foldl_append]
    show (v.foldl (tstep ls ts) (tstep ls ts (tstep ls ts (tim ls ts k u) b) a)).1 = (v.foldl (tstep ls ts) (tstep ls ts (tstep ls ts (tim ls ts k u) a) b)).1
    exact clk_fold v (clk_comm A (tim_inv A T hu).len hb ha (by rw [free_comm]; exact f))
theorem due_swp {ls : Lets} {ts : List Int} {k : Int} {w w' : List Int} (A : AlphaOk k ls) (T : TOk ls ts) (h : Swp ls w w') (hw : WordOk ls w) : top0 (due ls ts k w') = top0 (due ls ts k w) := by
  unfold due
  rw [← (tim_inv A T hw).top, ← (tim_inv A T (h.word hw).1).top, clk_swp A T h hw]
/-! ### chains -/
/-- a chain, the last event first: sum of the times but for the head's, plus its end -/
structure Chn (ls : Lets) (ts : List Int) (w d : List Int) (m : Int) (c : List Int) : Prop where
  ne : c ≠ []
  ok : ∀ x ∈ c, 0 ≤ x ∧ x < (w.length : Int)
  adj : ∀ (i : Nat) (x y : Int), c[i]? = some x → c[i + 1]? = some y → y < x ∧ free ls (w.getD y.toNat 0) (w.getD x.toNat 0) = false
  sum : ∀ x, c.getLast? = some x → (c.map fun j => tm ts (w.getD j.toNat 0)).sum - tm ts (w.getD x.toNat 0) + d.getD x.toNat 0 = m
theorem Chn.snoc {ls ts w d m c} (C : Chn ls ts w d m c) {x f : Int} (hx : c.getLast? = some x) (h0 : 0 ≤ f) (hf : f < x) (hd : free ls (w.getD f.toNat 0) (w.getD x.toNat 0) = false) (he : d.getD f.toNat 0 = d.getD x.toNat 0 - tm ts (w.getD x.toNat 0)) :
    Chn ls ts w d m (c ++ [f]) := by
  have hxm := List.mem_of_getLast? hx
  have ho := C.ok x hxm
  refine ⟨by simp, fun y hy => ?_, fun i a b h1 h2 => ?_, fun y hy => ?_⟩
  · rcases List.mem_append.mp hy with hy | hy
    · exact C.ok y hy
    · rw [List.mem_singleton.mp hy]; omega
  · rcases snoc_at h2 with g2 | ⟨e2, rfl⟩
    · rcases snoc_at h1 with h1 | ⟨e1, _⟩
      · exact C.adj i a b h1 g2
      · exfalso
        have : c.length ≤ i + 1 := by omega
        rw [List.getElem?_eq_none this] at g2; cases g2
    · rcases snoc_at h1 with h1 | ⟨e1, rfl⟩
      · have e3 : a = x := by
          rw [List.getLast?_eq_getElem?] at hx
          rw [show c.length - 1 = i by omega] at hx
          rw [hx] at h1; exact (Option.some.inj h1).symm
        subst e3
        exact ⟨hf, hd⟩
      · omega
  · rw [List.getLast?_append] at hy
    have hy : f = y := by simpa using hy
    subst hy
    have := C.sum x hx
    rw [List.map_append, List.sum_append]
    simp only [List.map_cons, List.map_nil, List.sum_cons, List.sum_nil]
    omega
end My
namespace My
open PySem L2 Hq
/-! ### the text by places -/
def top (i : Nat) : Stmt := PySem.Challenge.pw_placewords_k52_times.main.body.getD i (.Pass ⟨0, 0, 0, 0⟩)
abbrev s_Alphabet_init : Stmt := inClass (top 6) 0
abbrev s__check_letter : Stmt := top 7
abbrev s_independent : Stmt := top 8
abbrev s_ending_times : Stmt := top 10
abbrev s_least_time : Stmt := top 11
abbrev s_critical_chain : Stmt := top 12
abbrev s__event_before : Stmt := top 13
abbrev s__law_cell : Stmt := top 15
abbrev s__law_draws : Stmt := top 16
abbrev s__law_take : Stmt := top 17
abbrev s__law_is_integer : Stmt := top 18
abbrev s__law_alphabet : Stmt := top 19
abbrev s__law_free : Stmt := top 20
abbrev s__law_word : Stmt := top 21
abbrev s__law_shuffled : Stmt := top 22
abbrev s_law : Stmt := top 23
structure Txt (K : PySem.W.Frag) (mg : Str → Option Value) where
  f_Alphabet_init : Addr
  d_Alphabet_init : FuncData
  F_Alphabet_init : Fun K "__init__" "Alphabet.__init__" s_Alphabet_init f_Alphabet_init d_Alphabet_init
  b_Alphabet_init : Binds K d_Alphabet_init ["self", "places", "letters"] []
  f__check_letter : Addr
  d__check_letter : FuncData
  F__check_letter : Fun K "_check_letter" "_check_letter" s__check_letter f__check_letter d__check_letter
  m__check_letter : mg "_check_letter" = some (.ref f__check_letter)
  b__check_letter : Binds K d__check_letter ["places", "row"] []
  f_independent : Addr
  d_independent : FuncData
  F_independent : Fun K "independent" "independent" s_independent f_independent d_independent
  m_independent : mg "independent" = some (.ref f_independent)
  b_independent : Binds K d_independent ["alphabet", "first", "second"] []
  f_ending_times : Addr
  d_ending_times : FuncData
  F_ending_times : Fun K "ending_times" "ending_times" s_ending_times f_ending_times d_ending_times
  m_ending_times : mg "ending_times" = some (.ref f_ending_times)
  b_ending_times : Binds K d_ending_times ["alphabet", "word", "times"] []
  f_least_time : Addr
  d_least_time : FuncData
  F_least_time : Fun K "least_time" "least_time" s_least_time f_least_time d_least_time
  m_least_time : mg "least_time" = some (.ref f_least_time)
  b_least_time : Binds K d_least_time ["alphabet", "word", "times"] []
  f_critical_chain : Addr
  d_critical_chain : FuncData
  F_critical_chain : Fun K "critical_chain" "critical_chain" s_critical_chain f_critical_chain d_critical_chain
  m_critical_chain : mg "critical_chain" = some (.ref f_critical_chain)
  b_critical_chain : Binds K d_critical_chain ["alphabet", "word", "times"] []
  f__event_before : Addr
  d__event_before : FuncData
  F__event_before : Fun K "_event_before" "_event_before" s__event_before f__event_before d__event_before
  m__event_before : mg "_event_before" = some (.ref f__event_before)
  b__event_before : Binds K d__event_before ["alphabet", "word", "times", "ends", "event"] []
  f__law_cell : Addr
  d__law_cell : FuncData
  F__law_cell : Fun K "_law_cell" "_law_cell" s__law_cell f__law_cell d__law_cell
  m__law_cell : mg "_law_cell" = some (.ref f__law_cell)
  b__law_cell : Binds K d__law_cell ["script", "k"] []
  f__law_draws : Addr
  d__law_draws : FuncData
  F__law_draws : Fun K "_law_draws" "_law_draws" s__law_draws f__law_draws d__law_draws
  m__law_draws : mg "_law_draws" = some (.ref f__law_draws)
  b__law_draws : Binds K d__law_draws ["script", "count"] []
  f__law_take : Addr
  d__law_take : FuncData
  F__law_take : Fun K "_law_take" "_law_take" s__law_take f__law_take d__law_take
  m__law_take : mg "_law_take" = some (.ref f__law_take)
  b__law_take : Binds K d__law_take ["draws", "limit"] []
  f__law_is_integer : Addr
  d__law_is_integer : FuncData
  F__law_is_integer : Fun K "_law_is_integer" "_law_is_integer" s__law_is_integer f__law_is_integer d__law_is_integer
  m__law_is_integer : mg "_law_is_integer" = some (.ref f__law_is_integer)
  b__law_is_integer : Binds K d__law_is_integer ["actual"] []
  f__law_alphabet : Addr
  d__law_alphabet : FuncData
  F__law_alphabet : Fun K "_law_alphabet" "_law_alphabet" s__law_alphabet f__law_alphabet d__law_alphabet
  m__law_alphabet : mg "_law_alphabet" = some (.ref f__law_alphabet)
  b__law_alphabet : Binds K d__law_alphabet ["draws", "places", "most"] []
  f__law_free : Addr
  d__law_free : FuncData
  F__law_free : Fun K "_law_free" "_law_free" s__law_free f__law_free d__law_free
  m__law_free : mg "_law_free" = some (.ref f__law_free)
  b__law_free : Binds K d__law_free ["letters", "first", "second"] []
  f__law_word : Addr
  d__law_word : FuncData
  F__law_word : Fun K "_law_word" "_law_word" s__law_word f__law_word d__law_word
  m__law_word : mg "_law_word" = some (.ref f__law_word)
  b__law_word : Binds K d__law_word ["draws", "letters", "most"] []
  f__law_shuffled : Addr
  d__law_shuffled : FuncData
  F__law_shuffled : Fun K "_law_shuffled" "_law_shuffled" s__law_shuffled f__law_shuffled d__law_shuffled
  m__law_shuffled : mg "_law_shuffled" = some (.ref f__law_shuffled)
  b__law_shuffled : Binds K d__law_shuffled ["draws", "letters", "word", "times"] []
  f_law : Addr
  d_law : FuncData
  F_law : Fun K "law" "law" s_law f_law d_law
  m_law : mg "law" = some (.ref f_law)
  b_law : Binds K d_law ["script"] []
  c_Alphabet : Addr
  mc_Alphabet : mg "Alphabet" = some (.ref c_Alphabet)
  mk_Alphabet : PySem.W.makesIn K c_Alphabet = true
  in_Alphabet : PySem.W.findIn K (.ref c_Alphabet) "__init__" = some (some (.ref f_Alphabet_init))
  if_Alphabet : PySem.W.isFn K (.ref f_Alphabet_init) = true
  kc_Alphabet : PySem.W.keepIn K (.ref c_Alphabet) = true
  cl_Alphabet : Cls K c_Alphabet
  na_Alphabet_places : NoAttr K c_Alphabet "places"
  na_Alphabet_letters : NoAttr K c_Alphabet "letters"
  z_abs : mg "abs" = none
  z_bool : mg "bool" = none
  z_int : mg "int" = none
  z_isinstance : mg "isinstance" = none
  z_len : mg "len" = none
  z_list : mg "list" = none
  z_max : mg "max" = none
  z_range : mg "range" = none
  z_reversed : mg "reversed" = none
  z_set : mg "set" = none
  z_sorted : mg "sorted" = none
  z_sum : mg "sum" = none
  z_tuple : mg "tuple" = none
  t_MOST_LETTERS : Tok
  v_MOST_LETTERS : mg "MOST_LETTERS" = some (.int 6 t_MOST_LETTERS)
  t_MOST_PLACES : Tok
  v_MOST_PLACES : mg "MOST_PLACES" = some (.int 4 t_MOST_PLACES)
local macro_rules | `(tactic| trivial) => `(tactic| omega)
theorem pin_le {K : PySem.W.Frag} {lo hi x : Int} (h : lo ≤ x ∧ x < hi) : (D K (.int x)).le (PIn K lo hi) := MP.le_trans (PAn.in h) (PEx.in (R := fun x : Int => PAn (lo ≤ x ∧ x < hi) (D K (.int x))) x)
section
variable {P : Program} {wo : World} {K : PySem.W.Frag} {mg : Str → Option Value} {base : Heap}
/-! ### _law_take -/
theorem sc__law_take : FnScope ["draws", "limit"] ["draws", "limit"] (defScope s__law_take) := ⟨rfl, rfl, rfl, by decide +kernel, rfl, by decide +kernel, by decide +kernel⟩
def sp__law_take (T : Txt K mg) : Sp := fun vs H Q _ => ∃ (d : Addr) (n : Int), 0 < n ∧ Prom [Own d, D K (.int n)] [(d, MDr K)] (PIn K 0 n) [(d, MDr K)] vs H Q
theorem sp__law_take_len {T : Txt K mg} {vs H Q E} (h : sp__law_take T vs H Q E) : vs.length = 2 := by obtain ⟨d, n, _, h⟩ := h; exact h.len
set_option maxHeartbeats 4000000 in
theorem ok__law_take (T : Txt K mg) : FnOk P wo K mg base CX0 1 T.f__law_take T.d__law_take ["draws", "limit"] (sp__law_take T) := by
  have nd := (sc__law_take).nd
  refine T.F__law_take.ok sc__law_take (fun vs H Q E h => (sp__law_take_len h)) (fun cdv A outer s H vs Q E hr h => ?_)
  obtain ⟨d, n, hn, F, w, p, k⟩ := h
  refine ⟨_, (pss_cons (ps_if (pt_cmpR op_eq (pe_callB (c_len (K := K) rfl) (by rfl) T.z_len PySem.boot_len (pa_cons (pv 0) pa_nil)) pe_int (nomark _)) (pss_one (ps_ret pe_int)) pss_nil)
    (pss_one (ps_ret (pe_op op_mod (pe_callTy call_int1 (by rfl) T.z_int (by decide +kernel) (pa_cons (pe_bm0 PySem.F.plainAttrs_list PySem.F.slot_list_pop PySem.F.type_list_pop mt_pop (pv 0)) pa_nil)) (pv 1))))), ?_⟩
  refine go_start w p (Γ := [some (Own d), some (D K (.int n))]) rfl ?_
  refine nx_exM (j := 0) rfl fun ns => nx_anM (j := 0) rfl fun hl => ?_
  show Nx _ _ [(d, MInts K ns)] _
  have k2 : ∀ ns' : List Int, ns'.length ≤ 1000 → Rt ⟨F, H, keys [(d, MDr K)]⟩ [(d, MInts K ns')] (PIn K 0 n) Q := fun ns' h => Rt.to (j := 0) (O' := MDr K) k rfl (fun F o q => ⟨ns', h, q⟩) rfl
  refine (q_if (et_test (ev_op (ev_cb (ea_cons (ev_var rfl) ea_nil) (rc_lenO (j := 0) rfl)) (ev_int (K := K)) rv_eqI)) (fun _ => go_ret Le.refl (ev_int (K := K)) (Rt.weak (pin_le (by omega)) (k2 ns hl))) fun hz => go_next ?_)
  have hz : ns ≠ [] := by intro e; subst e; simp at hz
  have hlast : (ns.map fun n => D K (.int n))[(ns.map fun n => D K (.int n)).length - 1]? = some (D K (.int (ns.getLast hz))) := by rw [List.length_map, List.getElem?_map, ← List.getLast?_eq_getElem?, List.getLast?_eq_some_getLast hz]; rfl
  have hd : (ns.map fun n => D K (.int n)).dropLast = ns.dropLast.map fun n => D K (.int n) := by rw [List.map_dropLast]
  refine go_ret Le.refl (ev_op (ev_cb (ea_cons (ev_pop (j := 0) (ev_var rfl) rfl hlast) ea_nil) rc_int) (ev_var rfl) (rv_ic (by trivial))) (Rt.weak (pin_le ⟨Int.emod_nonneg _ (by omega), Int.emod_lt_of_pos _ hn⟩) ?_)
  rw [hd]
  exact k2 _ (by rw [List.length_dropLast]; omega)
theorem use__law_take {T : Txt K mg} {tr : TA} {Γ : Gm} {M M1 : Ms} {d : Addr} {n : Int} {j : Nat} {X : XK} (h : EvA tr Γ M [Own d, D K (.int n)] M1) (hn : 0 < n) (e : M1[j]? = some (d, MDr K)) : Ev (tCall (sp__law_take T) [] X tr) Γ M (PIn K 0 n) M1 :=
  call1 h e fun vs H Q z => ⟨d, n, hn, z⟩
/-! ### _law_draws -/
theorem sc__law_draws : FnScope ["script", "count", "cells", "found", "mixed", "k", "j", "cell", "again"] ["script", "count"] (defScope s__law_draws) := ⟨rfl, rfl, rfl, by decide +kernel, rfl, by decide +kernel, by decide +kernel⟩
def sp__law_draws (T : Txt K mg) : Sp := fun vs H Q _ => ∃ (ns : List Int) (c : Int), 0 ≤ c ∧ c ≤ 1000 ∧ ns.length ≤ 1000 ∧ PromN [PLi K (ns.map fun n => D K (.int n)), D K (.int c)] [] (MDr K) [] vs H Q
theorem sp__law_draws_len {T : Txt K mg} {vs H Q E} (h : sp__law_draws T vs H Q E) : vs.length = 2 := by obtain ⟨_, _, _, _, _, h⟩ := h; exact h.len
set_option maxHeartbeats 4000000 in
theorem ok__law_draws (T : Txt K mg) : FnOk P wo K mg base CX0 1 T.f__law_draws T.d__law_draws ["script", "count"] (sp__law_draws T) := by
  have nd := (sc__law_draws).nd
  refine T.F__law_draws.ok sc__law_draws (fun vs H Q E h => (sp__law_draws_len h)) (fun cdv A outer s H vs Q E hr h => ?_)
  obtain ⟨ns, cnt, c0, c1, nl, F, w, p, k⟩ := h
  refine ⟨_, (pss_cons (ps_set (i := 2) nd rfl (Or.inl rfl) (pe_callTy (c_list (K := K) rfl) (by rfl) T.z_list (by decide +kernel) (pa_cons (pv 0) pa_nil)))
    (Evl.pss_cut (ps_if (pt_cmpR op_eq (pe_callB (c_len (K := K) rfl) (by rfl) T.z_len PySem.boot_len (pa_cons (pv 2) pa_nil)) pe_int (nomark _)) (pss_one (ps_set (i := 2) nd rfl (Or.inl rfl) (pe_lst (pa_cons pe_int pa_nil)))) pss_nil)
    (pss_cons (ps_set (i := 3) nd rfl (Or.inl rfl) (pe_lst pa_nil))
    (pss_cons (ps_set (i := 4) nd rfl (Or.inl rfl) pe_int)
    (pss_cons (ps_for PassesOwn.never rfl (pi_range1 (by rfl) T.z_range (pa_cons (pv 1) pa_nil)) (pg_name (i := 5) nd rfl (by first | exact Or.inl rfl | exact Or.inr rfl))
     (pss_cons (ps_set (i := 6) nd rfl (Or.inl rfl) (pe_op op_mod (pv 5) (pe_callB (c_len (K := K) rfl) (by rfl) T.z_len PySem.boot_len (pa_cons (pv 2) pa_nil))))
     (pss_cons (ps_set (i := 7) nd rfl (Or.inl rfl) (pe_ix (c_ix (K := K) rfl) (pv 2) (pv 6) (fun _ _ => rfl)))
     (pss_cons (ps_set (i := 4) nd rfl (Or.inl rfl) (pe_op op_mod (pe_callTy call_int1 (by rfl) T.z_int (by decide +kernel) (pa_cons (pe_op op_add (pe_op op_add (pe_op op_add (pe_op op_mul (pv 4) pe_int) (pe_op op_mul (pe_op op_mod (pe_callTy call_int1 (by rfl) T.z_int (by decide +kernel) (pa_cons (pv 7) pa_nil)) pe_int) pe_int)) (pe_op op_mul (pv 5) pe_int)) pe_int) pa_nil)) pe_int))
     (pss_cons (ps_set (i := 8) nd rfl (Or.inl rfl) (pe_op op_mod (pe_callTy call_int1 (by rfl) T.z_int (by decide +kernel) (pa_cons (pe_op op_add (pe_op op_add (pe_op op_mul (pv 4) (pv 4)) (pe_op op_mul pe_int (pv 4))) (pv 5)) pa_nil)) pe_int))
     (pss_one (ps_if (pt_cmpR op_ge (pv 7) (pe_op op_pow pe_int pe_int) (nomark _)) (pss_cons (ps_expr (pe_bm PySem.F.plainAttrs_list PySem.F.slot_list_append PySem.F.type_list_append mt_append (pv 3) (pa_cons (pe_op op_mod (pe_callTy call_int1 (by rfl) T.z_int (by decide +kernel) (pa_cons (pv 7) pa_nil)) pe_int) pa_nil)))
      (pss_one (ps_asg (pe_op op_fdiv (pv 7) pe_int) (pg_sub (pv 2) (pv 6) set_list)))) (pss_one (ps_expr (pe_bm PySem.F.plainAttrs_list PySem.F.slot_list_append PySem.F.type_list_append mt_append (pv 3) (pa_cons (pe_op op_mod (pe_callTy call_int1 (by rfl) T.z_int (by decide +kernel) (pa_cons (pv 8) pa_nil)) pe_int) pa_nil)))))))))))
    (pss_cons (ps_expr (pe_bm0 PySem.F.plainAttrs_list PySem.F.slot_list_reverse PySem.F.type_list_reverse mt_reverse (pv 3)))
    (pss_one (ps_ret (pv 3))))))))), ?_⟩
  refine go_start w p (Γ := [some (PLi K (ns.map fun n => D K (.int n))), some (D K (.int cnt)), none, none, none, none, none, none, none]) rfl ?_
  refine (q_asgN (evn_cb (ea_cons (ev_var rfl) ea_nil) rcn_listL) fun c hc => ?_)
  show Nx _ _ [(c, MInts K ns)] _
  refine go_cut (fun Γ M => ∃ (c : Addr) (cs : List Int), Γ = [some (PLi K (ns.map fun n => D K (.int n))), some (D K (.int cnt)), some (Own c), none, none, none, none, none, none] ∧ M = [(c, MInts K cs)] ∧ cs ≠ [] ∧ cs.length ≤ 1000) ?_ ?rest
  · refine go_if (et_test (ev_op (ev_cb (ea_cons (ev_var rfl) ea_nil) (rc_lenO (j := 0) rfl)) (ev_int (K := K)) rv_eqI)) (fun _ => ?_) fun hz => go_next (JA.of ⟨c, ns, rfl, rfl, by intro e; subst e; simp at hz, nl⟩)
    refine go_asgN (evn_lst (ea_cons (ev_int (K := K)) ea_nil) (by simp)) fun c2 h2 => ?_
    exact nx_drop (List.Sublist.cons₂ _ (List.nil_sublist _)) (JA.of ⟨c2, [7], rfl, rfl, by decide, by decide⟩)
  case rest =>
    rintro _ _ ⟨c, cs, rfl, rfl, hne, hlen⟩
    have lpos : 0 < cs.length := List.length_pos_iff.mpr hne
    refine (q_asgN (evn_lst ea_nil (by decide)) fun f hf => ?_)
    show Nx _ _ [(f, MInts K []), (c, MInts K cs)] _
    refine (q_asg (ev_int (K := K)) ?_)
    refine (q_forR (ea_cons (ev_var rfl) ea_nil) (by omega) (by omega) (fun n Γ M => ∃ (zs fs : List Int) (m : Int) (g5 g6 g7 g8 : Option MP), Γ = [some (PLi K (ns.map fun n => D K (.int n))), some (D K (.int cnt)), some (Own c), some (Own f), some (D K (.int m)), g5, g6, g7, g8] ∧
      M = [(f, MInts K fs), (c, MInts K zs)] ∧ zs.length = cs.length ∧ fs.length = n ∧ 0 ≤ m ∧ m < 2147483647) ⟨cs, [], 12345, none, none, none, none, rfl, rfl, rfl, rfl, by decide, by decide⟩ ?_ ?_)
    · rintro n hn _ _ ⟨zs, fs, m, g5, g6, g7, g8, rfl, rfl, hz, hfl, m0, m1⟩
      show Nx _ [some (PLi K (ns.map fun n => D K (.int n))), some (D K (.int cnt)), some (Own c), some (Own f), some (D K (.int m)), some (D K (.int n)), g6, g7, g8] _ _
      have hL : ((zs.map fun n => D K (.int n)).length : Int) = (cs.length : Int) := by rw [List.length_map, hz]
      have hj0 : 0 ≤ (n : Int) % ((zs.map fun n => D K (.int n)).length : Int) := Int.emod_nonneg _ (by omega)
      have hj1 : (n : Int) % ((zs.map fun n => D K (.int n)).length : Int) < zs.length := by rw [hL, ← hz]; exact Int.emod_lt_of_pos _ (by omega)
      refine (q_asg (ev_op (ev_var rfl) (ev_cb (ea_cons (ev_var rfl) ea_nil) (rc_lenO (j := 1) rfl)) (rv_ic (show (0 : Int) < _ by omega))) ?_)
      generalize (n : Int) % ((zs.map fun n => D K (.int n)).length : Int) = jj at hj0 hj1
      obtain ⟨jn, rfl⟩ := Int.eq_ofNat_of_zero_le hj0
      have hjn : jn < zs.length := by omega
      refine (q_asg (ev_op (ev_var rfl) (ev_var rfl) (rv_ixO (j := 1) rfl (by omega) (show (zs.map fun n => D K (.int n))[((jn : Int)).toNat]? = some (D K (.int zs[jn])) by rw [Int.toNat_natCast, List.getElem?_map, List.getElem?_eq_getElem hjn]; rfl))) ?_)
      refine (q_asg (ev_op (ev_cb (ea_cons (ev_op (ev_op (ev_op (ev_op (ev_var rfl) (ev_int (K := K)) (rv_ic (.inr ⟨by decide, by decide⟩))) (ev_op (ev_op (ev_cb (ea_cons (ev_var rfl) ea_nil) rc_int) (ev_int (K := K)) (rv_ic (by trivial))) (ev_int (K := K)) (rv_ic (.inr ⟨by decide, by decide⟩))) rv_i0) (ev_op (ev_var rfl) (ev_int (K := K)) (rv_ic (.inr ⟨by decide, by decide⟩))) rv_i0) (ev_int (K := K)) rv_i0) ea_nil) rc_int) (ev_int (K := K)) (rv_ic (by trivial))) ?_)
      refine (q_asg (ev_op (ev_cb (ea_cons (ev_op (ev_op (ev_op (ev_var rfl) (ev_var rfl) (rv_ic (.inl ⟨?_, ?_⟩))) (ev_op (ev_int (K := K)) (ev_var rfl) (rv_ic (.inl ⟨by decide, by decide⟩))) rv_i0) (ev_var rfl) rv_i0) ea_nil) rc_int) (ev_int (K := K)) (rv_ic (by trivial))) ?_)
      · have := Int.emod_nonneg (m * 48271 + zs[jn] % 1000003 * 69621 + (n : Int) * 7919 + 11) (by decide : (2147483647 : Int) ≠ 0)
        exact Int.lt_of_lt_of_le (by decide) this
      · have := Int.emod_lt_of_pos (m * 48271 + zs[jn] % 1000003 * 69621 + (n : Int) * 7919 + 11) (by decide : (0 : Int) < 2147483647)
        exact Int.lt_trans this (by decide)
      have fin : ∀ (zs' fs' : List Int) (m' : Int) (g5 g6 g7 g8 : Option MP) (Γ : Gm) (M : Ms), Γ = [some (PLi K (ns.map fun n => D K (.int n))), some (D K (.int cnt)), some (Own c), some (Own f), some (D K (.int m')), g5, g6, g7, g8] → M = [(f, MInts K fs'), (c, MInts K zs')] → zs'.length = cs.length → fs'.length = n + 1 → 0 ≤ m' → m' < 2147483647 → Nx ⟨F, H, keys []⟩ Γ M (JA ⟨F, H, keys []⟩ fun Γ M => ∃ (zs fs : List Int) (m : Int) (g5 g6 g7 g8 : Option MP), Γ = [some (PLi K (ns.map fun n => D K (.int n))), some (D K (.int cnt)), some (Own c), some (Own f), some (D K (.int m)), g5, g6, g7, g8] ∧
        M = [(f, MInts K fs), (c, MInts K zs)] ∧ zs.length = cs.length ∧ fs.length = n + 1 ∧ 0 ≤ m ∧ m < 2147483647) := fun zs' fs' m' g5 g6 g7 g8 Γ M e1 e2 e3 e4 e5 e6 => JA.of ⟨zs', fs', m', g5, g6, g7, g8, e1, e2, e3, e4, e5, e6⟩
      have mm0 := Int.emod_nonneg (m * 48271 + zs[jn] % 1000003 * 69621 + (n : Int) * 7919 + 11) (by decide : (2147483647 : Int) ≠ 0)
      have mm1 := Int.emod_lt_of_pos (m * 48271 + zs[jn] % 1000003 * 69621 + (n : Int) * 7919 + 11) (by decide : (0 : Int) < 2147483647)
      refine go_if (et_test (ev_op (ev_var rfl) (ev_op (ev_int (K := K)) (ev_int (K := K)) (rv_ic ⟨by decide, by decide, by decide⟩)) rv_b0)) (fun _ => ?_) fun _ => ?_
      · refine (q_app (j := 0) (ev_var rfl) (ev_op (ev_cb (ea_cons (ev_var rfl) ea_nil) rc_int) (ev_int (K := K)) (rv_ic (by trivial))) rfl rfl (by rw [List.length_map]; omega) ?_)
        refine go_setL (j := 1) (ev_op (ev_var rfl) (ev_int (K := K)) (rv_ic ⟨by decide, by decide⟩)) (ev_var rfl) (ev_var rfl) rfl (by omega) (by rw [List.length_map]; omega) ?_
        exact fin (zs.set jn (zs[jn] / 1000)) (fs ++ [zs[jn] % 1000]) _ _ _ _ _ _ _ rfl (by simp [MInts, List.map_set]) (by rw [List.length_set]; exact hz) (by rw [List.length_append, hfl]; rfl) mm0 mm1
      · refine go_app (j := 0) (ev_var rfl) (ev_op (ev_cb (ea_cons (ev_var rfl) ea_nil) rc_int) (ev_int (K := K)) (rv_ic (by trivial))) rfl rfl (by rw [List.length_map]; omega) ?_
        exact fin zs (fs ++ [_]) _ _ _ _ _ _ _ rfl (by simp [MInts]; rfl) hz (by rw [List.length_append, hfl]; rfl) mm0 mm1
    · rintro _ _ ⟨zs, fs, m, g5, g6, g7, g8, rfl, rfl, hz, hfl, m0, m1⟩
      refine (q_rev (j := 0) (ev_var rfl) rfl ?_)
      refine nx_drop (List.Sublist.cons₂ _ (List.nil_sublist _)) ?_
      refine go_retO Le.refl (ev_var rfl) hf rfl (RtN.to k fun F o h => ⟨fs.reverse, by rw [List.length_reverse]; omega, ?_⟩)
      rw [← List.map_reverse] at h
      exact h
theorem use__law_draws {T : Txt K mg} {tr : TA} {Γ : Gm} {M M1 : Ms} {ns : List Int} {c : Int} {X : XK} (h : EvA tr Γ M [PLi K (ns.map fun n => D K (.int n)), D K (.int c)] M1) (h0 : 0 ≤ c) (h1 : c ≤ 1000) (h2 : ns.length ≤ 1000) : EvN (tCall (sp__law_draws T) [] X tr) Γ M (MDr K) M1 :=
  calln0 h fun vs H Q z => ⟨ns, c, h0, h1, h2, z⟩
/-! ### _check_letter -/
theorem sc__check_letter : FnScope ["places", "row", "place", "index"] ["places", "row"] (defScope s__check_letter) := ⟨rfl, rfl, rfl, by decide +kernel, rfl, by decide +kernel, by decide +kernel⟩
def sp__check_letter (T : Txt K mg) : Sp := fun vs H Q _ => ∃ (k : Int) (l : List Int), (l ≠ [] ∧ l.Pairwise (· < ·) ∧ (∀ x ∈ l, 0 ≤ x ∧ x < k) ∧ l.length ≤ 1000) ∧ Prom [D K (.int k), D K (dT l)] [] (D K .none) [] vs H Q
theorem sp__check_letter_len {T : Txt K mg} {vs H Q E} (h : sp__check_letter T vs H Q E) : vs.length = 2 := by obtain ⟨_, _, _, h⟩ := h; exact h.len
set_option maxHeartbeats 4000000 in
theorem ok__check_letter (T : Txt K mg) : FnOk P wo K mg base CX0 1 T.f__check_letter T.d__check_letter ["places", "row"] (sp__check_letter T) := by
  have nd := (sc__check_letter).nd
  refine T.F__check_letter.ok sc__check_letter (fun vs H Q E h => (sp__check_letter_len h)) (fun cdv A outer s H vs Q E hr h => ?_)
  obtain ⟨n, l, ⟨h1, h2, h3, h4⟩, F, w, p, k⟩ := h
  refine ⟨_, (pss_cons (ps_if (pt_cmpR op_eq (pe_callB (c_len (K := K) rfl) (by rfl) T.z_len PySem.boot_len (pa_cons (pv 1) pa_nil)) pe_int (nomark _)) (pss_one ps_never) pss_nil)
    (pss_cons (ps_for PassesOwn.never rfl (pi_tupK (K := K) rfl (pv 1)) (pg_name (i := 2) nd rfl (by first | exact Or.inl rfl | exact Or.inr rfl))
     (pss_one (ps_if (pt_not (pt_chain op_le op_lt pe_int (pv 2) (pv 0))) (pss_one ps_never) pss_nil)))
    (pss_one (ps_for PassesOwn.never rfl (pi_range2 (by rfl) T.z_range (pa_cons pe_int (pa_cons (pe_callB (c_len (K := K) rfl) (by rfl) T.z_len PySem.boot_len (pa_cons (pv 1) pa_nil)) pa_nil))) (pg_name (i := 3) nd rfl (by first | exact Or.inl rfl | exact Or.inr rfl))
     (pss_one (ps_if (pt_cmpR op_ge (pe_ix (c_ix (K := K) rfl) (pv 1) (pe_op op_sub (pv 3) pe_int) (fun _ _ => rfl)) (pe_ix (c_ix (K := K) rfl) (pv 1) (pv 3) (fun _ _ => rfl)) (nomark _)) (pss_one ps_never) pss_nil)))))), ?_⟩
  refine go_start w p (Γ := [some (D K (.int n)), some (D K (dT l)), none, none]) rfl ?_
  have hlen : 0 < l.length := List.length_pos_iff.mpr h1
  have evlen : ∀ {Γ : Gm}, Γ[1]? = some (some (D K (dT l))) → Ev (tCB (fun xs H Q => ∃ p ys, xs = [.ref p] ∧ (SqL K H p ys ∨ SqT K H p ys) ∧ Q (.int ys.length) H) (tCons (tVar 1) tNil)) Γ [] (D K (.int l.length)) [] := fun e => by
    have := ev_cb (ea_cons (ev_var e) ea_nil) (rc_lenDT (K := K) (ds := l.map PyData.int) (M := []))
    rw [List.length_map] at this
    exact this
  refine (q_if (et_test (ev_op (evlen rfl) (ev_int (K := K)) rv_eqI)) (fun hz => absurd hz (by simp; omega)) fun _ => go_next ?_)
  refine (q_forT ((ev_var rfl).weak le_dT) (fun _ Γ M => ∃ g2 g3 : Option MP, Γ = [some (D K (.int n)), some (D K (dT l)), g2, g3] ∧ M = []) ⟨none, none, rfl, rfl⟩ ?_ ?_)
  · rintro E' hE i P hP _ _ ⟨g2, g3, rfl, rfl⟩
    rw [List.getElem?_map] at hP
    obtain ⟨x, hx, rfl⟩ := Option.map_eq_some_iff.mp hP
    have hr := h3 x (List.mem_of_getElem? hx)
    refine go_if (et_not (et_test (ev_chain (ev_int (K := K)) (ev_var rfl) rv_b0 (fun _ => (ev_var rfl)) rv_b0))) (fun hz => absurd hz (by simp; omega)) fun _ => go_next (JA.of ⟨_, _, rfl, rfl⟩)
  · rintro _ _ ⟨g2, g3, rfl, rfl⟩
    refine go_forR2 (ea_cons (ev_int (K := K)) (ea_cons (evlen rfl) ea_nil)) (by omega) (fun _ Γ M => ∃ g2 g3 : Option MP, Γ = [some (D K (.int n)), some (D K (dT l)), g2, g3] ∧ M = []) ⟨g2, g3, rfl, rfl⟩ ?_ ?_
    · rintro i hi _ _ ⟨g2, g3, rfl, rfl⟩
      have a1 : i + 1 < l.length := by omega
      have e1 : (l.map PyData.int)[((1 + (i : Int)) - 1).toNat]? = some (.int l[i]) := by
        rw [show ((1 + (i : Int)) - 1).toNat = i by omega, List.getElem?_map, List.getElem?_eq_getElem (by omega)]; rfl
      have e2 : (l.map PyData.int)[(1 + (i : Int)).toNat]? = some (.int l[i + 1]) := by
        rw [show (1 + (i : Int)).toNat = i + 1 by omega, List.getElem?_map, List.getElem?_eq_getElem a1]; rfl
      have lt : l[i] < l[i + 1] := List.pairwise_iff_getElem.mp h2 i (i + 1) (by omega) a1 (by omega)
      refine go_if (et_test (ev_op (ev_op (ev_var rfl) (ev_op (ev_var rfl) (ev_int (K := K)) rv_i0) (rv_ixDT (by omega) e1)) (ev_op (ev_var rfl) (ev_var rfl) (rv_ixDT (by omega) e2)) rv_b0)) (fun hz => absurd hz (by simp; omega)) fun _ => go_next (JA.of ⟨_, _, rfl, rfl⟩)
    · rintro _ _ ⟨g2, g3, rfl, rfl⟩
      exact fun σ H' ⟨F', a, b⟩ => k .non F' H' a .non
theorem use__check_letter {T : Txt K mg} {tr : TA} {Γ : Gm} {M M1 : Ms} {k : Int} {l : List Int} {X : XK} (h : EvA tr Γ M [D K (.int k), D K (dT l)] M1) (hl : l ≠ [] ∧ l.Pairwise (· < ·) ∧ (∀ x ∈ l, 0 ≤ x ∧ x < k) ∧ l.length ≤ 1000) : Ev (tCall (sp__check_letter T) [] X tr) Γ M (D K .none) M1 :=
  call0 h fun vs H Q z => ⟨k, l, hl, z⟩
/-! ### Alphabet.__init__ -/
theorem sc_Alphabet_init : FnScope ["self", "places", "letters", "rows", "row"] ["self", "places", "letters"] (defScope s_Alphabet_init) := ⟨rfl, rfl, rfl, by decide +kernel, rfl, by decide +kernel, by decide +kernel⟩
abbrev alF (K : PySem.W.Frag) (k : Int) (ls : Lets) : List (Str × MP) := [("letters", D K (dTT ls)), ("places", D K (.int k))]
/-- an alphabet that stands -/
abbrev PAl (T : Txt K mg) (k : Int) (ls : Lets) : MP := PIns T.c_Alphabet (alF K k ls)
def sp_Alphabet_init (T : Txt K mg) : Sp := fun vs H Q _ => ∃ (x : Addr) (k : Int) (ls : Lets), AlphaOk k ls ∧ Prom [Own x, D K (.int k), PLi K (ls.map fun l => D K (dT l))] [(x, MIns T.c_Alphabet 0 [])] (D K .none) [(x, MIns T.c_Alphabet 2 (alF K k ls))] vs H Q
theorem sp_Alphabet_init_len {T : Txt K mg} {vs H Q E} (h : sp_Alphabet_init T vs H Q E) : vs.length = 3 := by obtain ⟨_, _, _, _, h⟩ := h; exact h.len
theorem pw_len {l : List Int} {k : Int} (h2 : l.Pairwise (· < ·)) (h3 : ∀ x ∈ l, 0 ≤ x ∧ x < k) (hk : 0 ≤ k) : (l.length : Int) ≤ k := by
  have key : ∀ (l : List Int) (lo : Int), l.Pairwise (· < ·) → (∀ x ∈ l, lo ≤ x ∧ x < k) → lo ≤ k → (l.length : Int) ≤ k - lo := by
    intro l
    induction l with
    | nil => intro lo _ _ h; simp; omega
    | cons a l ih =>
      intro lo h1 h2 h3
      have ha := h2 a List.mem_cons_self
      have := ih (a + 1) (List.pairwise_cons.mp h1).2 (fun x hx => ⟨(List.pairwise_cons.mp h1).1 x hx, (h2 x (List.mem_cons_of_mem _ hx)).2⟩) (by omega)
      rw [List.length_cons]; omega
  have := key l 0 h2 h3 hk
  omega
set_option maxHeartbeats 4000000 in
theorem ok_Alphabet_init (T : Txt K mg) : FnOk P wo K mg base CX0 2 T.f_Alphabet_init T.d_Alphabet_init ["self", "places", "letters"] (sp_Alphabet_init T) := by
  have nd := (sc_Alphabet_init).nd
  refine T.F_Alphabet_init.ok sc_Alphabet_init (fun vs H Q E h => (sp_Alphabet_init_len h)) (fun cdv A outer s H vs Q E hr h => ?_)
  obtain ⟨x, n, ls, ok, F, w, p, k⟩ := h
  refine ⟨_, (pss_cons (ps_set (i := 3) nd rfl (Or.inl rfl) (pe_callTy (c_tuple (K := K) rfl) (by rfl) T.z_tuple (by decide +kernel) (pa_cons (pe_lc (own := [("row", 4)]) (by rfl) nd (pi_listK (K := K) rfl (pv 2)) (blkOk_by (N := ["self", "places", "letters", "rows", "row"]) (sc := defScope s_Alphabet_init) (own := [("row", 4)]) (by decide +kernel)) (fun _ _ _ _ _ => pg_name (i := 4) nd rfl (by first | exact Or.inl rfl | exact Or.inr rfl)) (fun _ _ _ _ _ => pts_nil) (fun _ _ _ _ _ => (pe_callTy (c_tuple (K := K) rfl) (by rfl) T.z_tuple (by decide +kernel) (pa_cons (pv 4) pa_nil)))) pa_nil)))
    (pss_cons (ps_if (pt_not (pt_chain op_le op_le pe_int (pv 1) (pe_glob (v := .int 4) rfl T.v_MOST_PLACES ⟨_, rfl⟩))) (pss_one ps_never) pss_nil)
    (pss_cons (ps_if (pt_not (pt_chain op_le op_le pe_int (pe_callB (c_len (K := K) rfl) (by rfl) T.z_len PySem.boot_len (pa_cons (pv 3) pa_nil)) (pe_glob (v := .int 6) rfl T.v_MOST_LETTERS ⟨_, rfl⟩))) (pss_one ps_never) pss_nil)
    (pss_cons (ps_for PassesOwn.never rfl (pi_tupK (K := K) rfl (pv 3)) (pg_name (i := 4) nd rfl (by first | exact Or.inl rfl | exact Or.inr rfl))
     (pss_one (ps_expr (pe_call (ok__check_letter T) (hr.mono (by decide)) rfl T.m__check_letter T.F__check_letter.kp T.b__check_letter .nil pass0 (pa_cons (pv 1) (pa_cons (pv 4) pa_nil))))))
    (pss_cons (ps_fld (pv 0) (pv 1) rfl)
    (pss_one (ps_fld (pv 0) (pv 3) rfl))))))), ?_⟩
  refine go_start w p (Γ := [some (Own x), some (D K (.int n)), some (PLi K (ls.map fun l => D K (dT l))), none, none]) rfl ?_
  have okl : ∀ l ∈ ls, l ≠ [] ∧ l.Pairwise (· < ·) ∧ (∀ x ∈ l, 0 ≤ x ∧ x < n) ∧ l.length ≤ 1000 := fun l hl => by
    obtain ⟨h1, h2, h3⟩ := ok.ok l hl
    have := pw_len h2 h3 (by have := ok.k1; omega)
    have := ok.k4
    exact ⟨h1, h2, h3, by omega⟩
  have h1 := ok.k1; have h4 := ok.k4; have h5 := ok.l1; have h6 := ok.l6
  have lcomp := evn_lcL (K := K) (xs := ls) (R := fun l => D K (dT l)) (G := fun l => D K (dT l)) (i := 4) (M := [(x, MIns T.c_Alphabet 0 [])]) (M1 := [(x, MIns T.c_Alphabet 0 [])]) (Γ := [some (Own x), some (D K (.int n)), some (PLi K (ls.map fun l => D K (dT l))), none, none]) (fun _ => true) (ev_var (i := 2) rfl) (by omega) (fun _ _ => et_yes) (fun l _ _ => (ev_cb (ea_cons ((ev_var (i := 4) rfl).weak le_dT) ea_nil) rc_tupleT).weak dT_le)
  rw [filter_true] at lcomp
  refine (q_asg ((ev_cb (ea_cons (ev_newL lcomp) ea_nil) rc_tupleL).weak Tm_le) ?_)
  show Nx _ [some (Own x), some (D K (.int n)), some (PLi K (ls.map fun l => D K (dT l))), some (D K (dTT ls)), none] _ _
  refine (q_if (et_not (et_test (ev_chain (ev_int (K := K)) (ev_var rfl) rv_b0 (fun _ => (ev_int (K := K))) rv_b0))) (fun hz => absurd hz (by simp; omega)) fun _ => go_next ?_)
  refine (q_if (et_not (et_test (ev_chain (ev_int (K := K)) (ev_cb (ea_cons (ev_var rfl) ea_nil) (rc_lenDT (ds := ls.map dT))) rv_b0 (fun _ => (ev_int (K := K))) rv_b0))) (fun hz => absurd hz (by simp; omega)) fun _ => go_next ?_)
  refine (q_forT ((ev_var rfl).weak le_Tm) (fun _ Γ M => ∃ g4 : Option MP, Γ = [some (Own x), some (D K (.int n)), some (PLi K (ls.map fun l => D K (dT l))), some (D K (dTT ls)), g4] ∧ M = [(x, MIns T.c_Alphabet 0 [])]) ⟨none, rfl, rfl⟩ ?_ ?_)
  · rintro E' hE i P hP _ _ ⟨g4, rfl, rfl⟩
    rw [List.getElem?_map] at hP
    obtain ⟨l, hx, rfl⟩ := Option.map_eq_some_iff.mp hP
    exact go_drop (use__check_letter (ea_cons (ev_var rfl) (ea_cons (ev_var rfl) ea_nil)) (okl l (List.mem_of_getElem? hx))) (JA.of ⟨_, rfl, rfl⟩)
  · rintro _ _ ⟨g4, rfl, rfl⟩
    refine (q_fld (j := 0) (n := 0) (fps := []) (ev_var rfl) (ev_var rfl) rfl (by decide) (fun _ h => by cases h) T.cl_Alphabet T.na_Alphabet_places ?_)
    refine go_fld (j := 0) (n := 1) (ev_var rfl) (ev_var rfl) rfl (by decide) (fun g h => by rw [List.mem_singleton.mp h]; show ("places" : Str) ≠ "letters"; decide +kernel) T.cl_Alphabet T.na_Alphabet_letters ?_
    exact fun σ H' ⟨F', a, b⟩ => k .non F' H' a .non
theorem use_Alphabet {T : Txt K mg} {tr : TA} {Γ : Gm} {M M1 : Ms} {k : Int} {ls : Lets} {X : XK} (h : EvA tr Γ M [D K (.int k), PLi K (ls.map fun l => D K (dT l))] M1) (ok : AlphaOk k ls) : Ev (tMake T.c_Alphabet (sp_Alphabet_init T) [] X tr) Γ M (PAl T k ls) M1 :=
  (ev_fr (make0 h fun x vs H Q z => ⟨x, k, ls, ok, z⟩)).weak fr_Ins
/-! ### _law_free -/
theorem sc__law_free : FnScope ["letters", "first", "second", "place"] ["letters", "first", "second"] (defScope s__law_free) := ⟨rfl, rfl, rfl, by decide +kernel, rfl, by decide +kernel, by decide +kernel⟩
def sp__law_free (T : Txt K mg) : Sp := fun vs H Q _ => ∃ (ls : Lets) (a b : Int), (0 ≤ a ∧ a < ls.length ∧ 0 ≤ b ∧ b < ls.length ∧ ∀ l ∈ ls, l.length ≤ 1000) ∧ Prom [D K (dLT ls), D K (.int a), D K (.int b)] [] (D K (.bool (free ls a b))) [] vs H Q
theorem sp__law_free_len {T : Txt K mg} {vs H Q E} (h : sp__law_free T vs H Q E) : vs.length = 3 := by obtain ⟨_, _, _, _, h⟩ := h; exact h.len
set_option maxHeartbeats 4000000 in
theorem ok__law_free (T : Txt K mg) : FnOk P wo K mg base CX0 1 T.f__law_free T.d__law_free ["letters", "first", "second"] (sp__law_free T) := by
  have nd := (sc__law_free).nd
  refine T.F__law_free.ok sc__law_free (fun vs H Q E h => (sp__law_free_len h)) (fun cdv A outer s H vs Q E hr h => ?_)
  obtain ⟨ls, a, b, ⟨a0, a1, b0, b1, hl⟩, F, w, p, k⟩ := h
  refine ⟨_, (pss_one (ps_ret (pe_cmpR op_eq (pe_callB (c_len (K := K) rfl) (by rfl) T.z_len PySem.boot_len (pa_cons (pe_lc (own := [("place", 3)]) (by rfl) nd (pi_tupK (K := K) rfl (pe_ix (c_ix (K := K) rfl) (pv 0) (pv 1) (fun _ _ => rfl))) (blkOk_by (N := ["letters", "first", "second", "place"]) (sc := defScope s__law_free) (own := [("place", 3)]) (by decide +kernel)) (fun _ _ _ _ _ => pg_name (i := 3) nd rfl (by first | exact Or.inl rfl | exact Or.inr rfl)) (fun _ _ _ _ _ => (pts_one (pt_cmpR (c_in (K := K) rfl) (pv 3) (pe_ix (c_ix (K := K) rfl) (pv 0) (pv 2) (fun _ _ => rfl)) (by rfl)))) (fun _ _ _ _ _ => (pv 3))) pa_nil)) pe_int (nomark _)))), ?_⟩
  refine go_start w p (Γ := [some (D K (dLT ls)), some (D K (.int a)), some (D K (.int b)), none]) rfl ?_
  have ha : (ls.map dT)[a.toNat]? = some (dT (pl ls a)) := by rw [List.getElem?_map, pl_get a0 a1]; rfl
  have hb : (ls.map dT)[b.toNat]? = some (dT (pl ls b)) := by rw [List.getElem?_map, pl_get b0 b1]; rfl
  have lcomp := evn_lcT (K := K) (xs := pl ls a) (R := fun x => D K (.int x)) (G := fun x => D K (.int x)) (i := 3) (M := []) (M1 := []) (Γ := [some (D K (dLT ls)), some (D K (.int a)), some (D K (.int b)), none]) (fun x => decide (x ∈ pl ls b)) ((ev_op (ev_var (i := 0) rfl) (ev_var (i := 1) rfl) (rv_ixDL (K := K) (ds := ls.map dT) a0 ha)).weak le_dT) (by have := hl _ (pl_mem a0 a1); omega)
    (fun x _ => et_test (ev_op (ev_var (i := 3) rfl) (ev_op (ev_var (i := 0) rfl) (ev_var (i := 2) rfl) (rv_ixDL (K := K) (ds := ls.map dT) b0 hb)) (rv_inT (neg := false)))) (fun x _ _ => ev_var (i := 3) rfl)
  refine go_ret Le.refl ((ev_op (ev_cb (ea_cons (ev_newL lcomp) ea_nil) rc_len) (ev_int (K := K)) rv_eqI).is ?_) k
  rw [List.length_map, disj_filter]
  rfl
theorem use__law_free {T : Txt K mg} {tr : TA} {Γ : Gm} {M M1 : Ms} {ls : Lets} {a b : Int} {X : XK} (h : EvA tr Γ M [D K (dLT ls), D K (.int a), D K (.int b)] M1) (hl : 0 ≤ a ∧ a < ls.length ∧ 0 ≤ b ∧ b < ls.length ∧ ∀ l ∈ ls, l.length ≤ 1000) : Ev (tCall (sp__law_free T) [] X tr) Γ M (D K (.bool (free ls a b))) M1 :=
  call0 h fun vs H Q z => ⟨ls, a, b, hl, z⟩
/-! ### _law_alphabet -/
theorem sc__law_alphabet : FnScope ["draws", "places", "most", "count", "letters", "k", "size", "there", "j"] ["draws", "places", "most"] (defScope s__law_alphabet) := ⟨rfl, rfl, rfl, by decide +kernel, rfl, by decide +kernel, by decide +kernel⟩
abbrev PAb (K : PySem.W.Frag) (p m : Int) : MP := PEx fun x : Int × Lets => PAn (AlphaOk x.1 x.2 ∧ x.1 ≤ p ∧ (x.2.length : Int) ≤ m) (D K (.tuple [.int x.1, dLT x.2]))
def sp__law_alphabet (T : Txt K mg) : Sp := fun vs H Q _ => ∃ (d : Addr) (p m : Int), (0 < p ∧ p ≤ 4 ∧ 0 < m ∧ m ≤ 6) ∧ Prom [Own d, D K (.int p), D K (.int m)] [(d, MDr K)] (PAb K p m) [(d, MDr K)] vs H Q
theorem sp__law_alphabet_len {T : Txt K mg} {vs H Q E} (h : sp__law_alphabet T vs H Q E) : vs.length = 3 := by obtain ⟨_, _, _, _, h⟩ := h; exact h.len
theorem sorted_ok {c : Int} {ns xs : List Int} (h : ns.Pairwise (· < ·) ∧ ∀ k, k ∈ ns ↔ k ∈ xs) (hx : ∀ x ∈ xs, 0 ≤ x ∧ x < c) (h0 : 0 < xs.length) : ns ≠ [] ∧ ns.Pairwise (· < ·) ∧ ∀ x ∈ ns, 0 ≤ x ∧ x < c := by
  refine ⟨fun e => ?_, h.1, fun x hx2 => hx x ((h.2 x).mp hx2)⟩
  subst e
  obtain ⟨y, ys, e⟩ := List.exists_cons_of_length_pos h0
  have := (h.2 y).mpr (by rw [e]; exact List.mem_cons_self)
  cases this
set_option maxHeartbeats 4000000 in
theorem ok__law_alphabet (T : Txt K mg) : FnOk P wo K mg base CX0 2 T.f__law_alphabet T.d__law_alphabet ["draws", "places", "most"] (sp__law_alphabet T) := by
  have nd := (sc__law_alphabet).nd
  refine T.F__law_alphabet.ok sc__law_alphabet (fun vs H Q E h => (sp__law_alphabet_len h)) (fun cdv A outer s H vs Q E hr h => ?_)
  obtain ⟨d, p, m, ⟨p0, p4, m0, m6⟩, F, w, ps, k⟩ := h
  refine ⟨_, (pss_cons (ps_set (i := 3) nd rfl (Or.inr rfl) (pe_op op_add pe_int (pe_call (ok__law_take T) (hr.mono (by decide)) rfl T.m__law_take T.F__law_take.kp T.b__law_take .nil pass0 (pa_cons (pv 0) (pa_cons (pv 1) pa_nil)))))
    (pss_cons (ps_set (i := 4) nd rfl (Or.inl rfl) (pe_lst pa_nil))
    (pss_cons (ps_for PassesOwn.never rfl (pi_range1 (by rfl) T.z_range (pa_cons (pe_op op_add pe_int (pe_call (ok__law_take T) (hr.mono (by decide)) rfl T.m__law_take T.F__law_take.kp T.b__law_take .nil pass0 (pa_cons (pv 0) (pa_cons (pv 2) pa_nil)))) pa_nil)) (pg_name (i := 5) nd rfl (by first | exact Or.inl rfl | exact Or.inr rfl))
     (pss_cons (ps_set (i := 6) nd rfl (Or.inl rfl) (pe_ix (c_ix (K := K) rfl) (pe_lst (pa_cons pe_int (pa_cons pe_int (pa_cons pe_int (pa_cons pe_int (pa_cons pe_int (pa_cons pe_int pa_nil))))))) (pe_call (ok__law_take T) (hr.mono (by decide)) rfl T.m__law_take T.F__law_take.kp T.b__law_take .nil pass0 (pa_cons (pv 0) (pa_cons pe_int pa_nil))) (fun _ _ => rfl)))
     (pss_cons (ps_setLc (i := 7) (own := [("j", 8)]) (by rfl) nd rfl rfl (sw_true rfl rfl rfl (by decide +kernel)) (pi_range1 (by rfl) T.z_range (pa_cons (pv 6) pa_nil)) (blkOk_by (N := ["draws", "places", "most", "count", "letters", "k", "size", "there", "j"]) (sc := defScope s__law_alphabet) (own := [("j", 8)]) (by decide +kernel)) (fun _ _ _ _ _ => pg_name (i := 8) nd rfl (by first | exact Or.inl rfl | exact Or.inr rfl)) (fun _ _ _ _ _ => pts_nil) (fun _ _ _ _ _ => (pe_call (ok__law_take T) (hr.mono (by decide)) rfl T.m__law_take T.F__law_take.kp T.b__law_take .nil pass0 (pa_cons (pv 0) (pa_cons (pv 3) pa_nil)))))
     (pss_one (ps_expr (pe_bm PySem.F.plainAttrs_list PySem.F.slot_list_append PySem.F.type_list_append mt_append (pv 4) (pa_cons (pe_callTy (c_tuple (K := K) rfl) (by rfl) T.z_tuple (by decide +kernel) (pa_cons (pe_callB (c_sortedSet (w := wo) rfl rfl) (by rfl) T.z_sorted (by decide +kernel) (pa_cons (pe_callTy (c_set (K := K) (w := wo) rfl rfl rfl) (by rfl) T.z_set (by decide +kernel) (pa_cons (pv 7) pa_nil)) pa_nil)) pa_nil)) pa_nil)))))))
    (pss_one (ps_ret (pe_tup (pa_cons (pv 3) (pa_cons (pv 4) pa_nil)))))))), ?_⟩
  refine go_start w ps (Γ := [some (Own d), some (D K (.int p)), some (D K (.int m)), none, none, none, none, none, none]) rfl ?_
  refine (q_asg (ev_op (ev_int (K := K)) (use__law_take (ea_cons (ev_var rfl) (ea_cons (ev_var rfl) ea_nil)) p0 (j := 0) rfl) rv_addIn) (nx_ex (i := 3) rfl fun c => nx_an (i := 3) rfl fun hc => ?_))
  show Nx _ [some (Own d), some (D K (.int p)), some (D K (.int m)), some (D K (.int c)), none, none, none, none, none] _ _
  refine (q_asgN (evn_lst ea_nil (by decide)) fun l hl => ?_)
  refine (q_forRX (φ := fun z => 1 + 0 ≤ z ∧ z < 1 + m) (ev_op (ev_int (K := K)) (use__law_take (ea_cons (ev_var rfl) (ea_cons (ev_var rfl) ea_nil)) m0 (j := 1) rfl) rv_addIn) fun z hz tr' htr => ?_)
  refine (q_forR htr (by omega) (by omega) (fun n Γ M => ∃ (ls : Lets) (g5 g6 g7 g8 : Option MP), Γ = [some (Own d), some (D K (.int p)), some (D K (.int m)), some (D K (.int c)), some (Own l), g5, g6, g7, g8] ∧
    M = [(l, ML (ls.map fun x => D K (dT x))), (d, MDr K)] ∧ ls.length = n ∧ ∀ x ∈ ls, x ≠ [] ∧ x.Pairwise (· < ·) ∧ ∀ y ∈ x, 0 ≤ y ∧ y < c) ⟨[], none, none, none, none, rfl, rfl, rfl, fun _ h => by cases h⟩ ?_ ?_)
  · rintro n hn _ _ ⟨ls, g5, g6, g7, g8, rfl, rfl, hls, hok⟩
    show Nx _ [some (Own d), some (D K (.int p)), some (D K (.int m)), some (D K (.int c)), some (Own l), some (D K (.int n)), g6, g7, g8] _ _
    have pick : RV (rIx K) (PLi K [D K (.int 1), D K (.int 1), D K (.int 1), D K (.int 2), D K (.int 2), D K (.int 3)]) (PIn K 0 6) [(l, ML (ls.map fun x => D K (dT x))), (d, MDr K)] (PIn K 1 4) [(l, ML (ls.map fun x => D K (dT x))), (d, MDr K)] := RV.ex2 fun x => RV.an2 fun hx => by
      have : x = 0 ∨ x = 1 ∨ x = 2 ∨ x = 3 ∨ x = 4 ∨ x = 5 := by omega
      rcases this with rfl | rfl | rfl | rfl | rfl | rfl <;> exact (rv_ixL (by decide) rfl).weak (pin_le (by decide))
    refine (q_asg (ev_op (ev_newL (evn_lst (ea_cons (ev_int (K := K)) (ea_cons (ev_int (K := K)) (ea_cons (ev_int (K := K)) (ea_cons (ev_int (K := K)) (ea_cons (ev_int (K := K)) (ea_cons (ev_int (K := K)) ea_nil)))))) (by simp))) (use__law_take (ea_cons (ev_var rfl) (ea_cons (ev_int (K := K)) ea_nil)) (by decide) (j := 1) rfl) pick) (nx_ex (i := 6) rfl fun sz => nx_an (i := 6) rfl fun hsz => ?_))
    show Nx _ [some (Own d), some (D K (.int p)), some (D K (.int m)), some (D K (.int c)), some (Own l), some (D K (.int n)), some (D K (.int sz)), g7, g8] _ _
    have lc := evn_lcR (K := K) (z := sz) (i := 8) (G := fun _ => PIn K 0 c) (M := [(l, ML (ls.map fun x => D K (dT x))), (d, MDr K)]) (M1 := [(l, ML (ls.map fun x => D K (dT x))), (d, MDr K)]) (Γ := [some (Own d), some (D K (.int p)), some (D K (.int m)), some (D K (.int c)), some (Own l), some (D K (.int n)), some (D K (.int sz)), g7, g8]) (fun _ => true) (ea_cons (ev_var (i := 6) rfl) ea_nil) (by omega) (fun _ _ => et_yes)
      (fun _ _ _ => use__law_take (T := T) (X := E0) (ea_cons (ev_var (i := 0) rfl) (ea_cons (ev_var (i := 3) rfl) ea_nil)) (by omega) (j := 1) rfl)
    rw [filter_true, map_const, List.length_range] at lc
    refine (q_asgN (lc.weak ml_name) fun q hq => nx_exM (j := 0) rfl fun xs => nx_anM (j := 0) rfl fun hxs => ?_)
    show Nx _ [some (Own d), some (D K (.int p)), some (D K (.int m)), some (D K (.int c)), some (Own l), some (D K (.int n)), some (D K (.int sz)), some (Own q), g8] [(q, MInts K xs), (l, ML (ls.map fun x => D K (dT x))), (d, MDr K)] _
    refine go_app (j := 1) (ev_var rfl) (ev_tupOf (evn_sortedSet (ev_var (i := 7) rfl) (own_ints (j := 0) rfl) (by omega))) rfl rfl (by rw [List.length_map]; omega) (nx_lastM (j := 1) rfl fun ns hns => ?_)
    refine nx_drop (List.sublist_cons_self _ _) (JA.of ⟨ls ++ [ns], _, _, _, _, rfl, by simp, by rw [List.length_append, hls]; rfl, fun x hx => ?_⟩)
    rcases List.mem_append.mp hx with hx | hx
    · exact hok x hx
    · rw [List.mem_singleton.mp hx]
      exact sorted_ok hns (fun x hx => hxs.2 x hx) (by omega)
  · rintro _ _ ⟨ls, g5, g6, g7, g8, rfl, rfl, hls, hok⟩
    refine nx_freeze (K := K) (i := 4) 0 rfl hl rfl ?_
    show Nx _ [some (Own d), some (D K (.int p)), some (D K (.int m)), some (D K (.int c)), some (PLi K (ls.map fun x => D K (dT x))), g5, g6, g7, g8] [(d, MDr K)] _
    refine go_ret Le.refl (ev_tup (K := K) (ea_cons (ev_var (i := 3) rfl) (ea_cons (ev_var (i := 4) rfl) ea_nil)) (by simp)) (Rt.weak (MP.le_trans ?_ (MP.le_trans (PAn.in (φ := AlphaOk c ls ∧ c ≤ p ∧ (ls.length : Int) ≤ m) ⟨⟨by omega, by omega, by omega, by omega, hok⟩, by omega, by omega⟩) (PEx.in (R := fun x : Int × Lets => PAn (AlphaOk x.1 x.2 ∧ x.1 ≤ p ∧ (x.2.length : Int) ≤ m) (D K (.tuple [.int x.1, dLT x.2]))) (c, ls)))) k)
    rintro F v ⟨a, vs, e, s, h⟩
    obtain ⟨x, y, rfl, hx, hy⟩ := ps2 h
    subst e
    exact .tup s (.cons hx (.cons (Lm_le _ _ hy) .nil))
theorem use__law_alphabet {T : Txt K mg} {tr : TA} {Γ : Gm} {M M1 : Ms} {d : Addr} {p m : Int} {j : Nat} {X : XK} (h : EvA tr Γ M [Own d, D K (.int p), D K (.int m)] M1) (hn : 0 < p ∧ p ≤ 4 ∧ 0 < m ∧ m ≤ 6) (e : M1[j]? = some (d, MDr K)) : Ev (tCall (sp__law_alphabet T) [] X tr) Γ M (PAb K p m) M1 :=
  call1 h e fun vs H Q z => ⟨d, p, m, hn, z⟩
/-! ### _law_word -/
theorem sc__law_word : FnScope ["draws", "letters", "most", "k"] ["draws", "letters", "most"] (defScope s__law_word) := ⟨rfl, rfl, rfl, by decide +kernel, rfl, by decide +kernel, by decide +kernel⟩
abbrev PWd (K : PySem.W.Frag) (n m : Int) : MP := PEx fun w : List Int => PAn ((w.length : Int) ≤ m ∧ ∀ x ∈ w, 0 ≤ x ∧ x < n) (D K (dT w))
def sp__law_word (T : Txt K mg) : Sp := fun vs H Q _ => ∃ (d : Addr) (n m : Int), (0 < n ∧ 0 ≤ m ∧ m ≤ 1000) ∧ Prom [Own d, D K (.int n), D K (.int m)] [(d, MDr K)] (PWd K n m) [(d, MDr K)] vs H Q
theorem sp__law_word_len {T : Txt K mg} {vs H Q E} (h : sp__law_word T vs H Q E) : vs.length = 3 := by obtain ⟨_, _, _, _, h⟩ := h; exact h.len
set_option maxHeartbeats 4000000 in
theorem ok__law_word (T : Txt K mg) : FnOk P wo K mg base CX0 2 T.f__law_word T.d__law_word ["draws", "letters", "most"] (sp__law_word T) := by
  have nd := (sc__law_word).nd
  refine T.F__law_word.ok sc__law_word (fun vs H Q E h => (sp__law_word_len h)) (fun cdv A outer s H vs Q E hr h => ?_)
  obtain ⟨d, n, m, ⟨n0, m0, m6⟩, F, w, ps, k⟩ := h
  refine ⟨_, (pss_one (ps_ret (pe_callTy (c_tuple (K := K) rfl) (by rfl) T.z_tuple (by decide +kernel) (pa_cons (pe_lc (own := [("k", 3)]) (by rfl) nd (pi_range1 (by rfl) T.z_range (pa_cons (pe_call (ok__law_take T) (hr.mono (by decide)) rfl T.m__law_take T.F__law_take.kp T.b__law_take .nil pass0 (pa_cons (pv 0) (pa_cons (pe_op op_add (pv 2) pe_int) pa_nil))) pa_nil)) (blkOk_by (N := ["draws", "letters", "most", "k"]) (sc := defScope s__law_word) (own := [("k", 3)]) (by decide +kernel)) (fun _ _ _ _ _ => pg_name (i := 3) nd rfl (by first | exact Or.inl rfl | exact Or.inr rfl)) (fun _ _ _ _ _ => pts_nil) (fun _ _ _ _ _ => (pe_call (ok__law_take T) (hr.mono (by decide)) rfl T.m__law_take T.F__law_take.kp T.b__law_take .nil pass0 (pa_cons (pv 0) (pa_cons (pv 1) pa_nil))))) pa_nil)))), ?_⟩
  refine go_start w ps (Γ := [some (Own d), some (D K (.int n)), some (D K (.int m)), none]) rfl ?_
  have inn : EvN _ [some (Own d), some (D K (.int n)), some (D K (.int m)), none] [(d, MDr K)] (MX fun xs : List Int => MA (((xs.length : Int) ≤ m) ∧ ∀ x ∈ xs, 0 ≤ x ∧ x < n) (MInts K xs)) [(d, MDr K)] := evn_lcRX (K := K) (φ := fun z => 0 ≤ z ∧ z < m + 1) (use__law_take (T := T) (X := E0) (j := 0) (ea_cons (ev_var (i := 0) rfl) (ea_cons (ev_op (ev_var (i := 2) rfl) (ev_int (K := K)) rv_i0) ea_nil)) (by omega) rfl) fun z hz => by
    have lc := evn_lcR (K := K) (z := z) (i := 3) (G := fun _ => PIn K 0 n) (M := [(d, MDr K)]) (M1 := [(d, MDr K)]) (Γ := [some (Own d), some (D K (.int n)), some (D K (.int m)), none]) (fun _ => true) (ea_cons (ev_int (K := K)) ea_nil) (by omega) (fun _ _ => et_yes)
      (fun _ _ _ => use__law_take (T := T) (X := E0) (ea_cons (ev_var (i := 0) rfl) (ea_cons (ev_var (i := 1) rfl) ea_nil)) n0 (j := 0) rfl)
    rw [filter_true, map_const, List.length_range] at lc
    exact (lc.weak ml_name).weak fun F o ⟨xs, h, q⟩ => ⟨xs, ⟨by omega, h.2⟩, q⟩
  refine go_ret Le.refl (ev_tupOf inn) k
theorem use__law_word {T : Txt K mg} {tr : TA} {Γ : Gm} {M M1 : Ms} {d : Addr} {p m : Int} {j : Nat} {X : XK} (h : EvA tr Γ M [Own d, D K (.int p), D K (.int m)] M1) (hn : 0 < p ∧ 0 ≤ m ∧ m ≤ 1000) (e : M1[j]? = some (d, MDr K)) : Ev (tCall (sp__law_word T) [] X tr) Γ M (PWd K p m) M1 :=
  call1 h e fun vs H Q z => ⟨d, p, m, hn, z⟩
/-! ### _law_is_integer -/
theorem sc__law_is_integer : FnScope ["actual"] ["actual"] (defScope s__law_is_integer) := ⟨rfl, rfl, rfl, by decide +kernel, rfl, by decide +kernel, by decide +kernel⟩
def sp__law_is_integer (T : Txt K mg) : Sp := fun vs H Q _ => ∃ (i : Int), Prom [D K (.int i)] [] (D K (.bool true)) [] vs H Q
theorem sp__law_is_integer_len {T : Txt K mg} {vs H Q E} (h : sp__law_is_integer T vs H Q E) : vs.length = 1 := by obtain ⟨_, h⟩ := h; exact h.len
set_option maxHeartbeats 4000000 in
theorem ok__law_is_integer (T : Txt K mg) : FnOk P wo K mg base CX0 1 T.f__law_is_integer T.d__law_is_integer ["actual"] (sp__law_is_integer T) := by
  have nd := (sc__law_is_integer).nd
  refine T.F__law_is_integer.ok sc__law_is_integer (fun vs H Q E h => (sp__law_is_integer_len h)) (fun cdv A outer s H vs Q E hr h => ?_)
  obtain ⟨i, F, w, ps, k⟩ := h
  refine ⟨_, (pss_one (ps_ret (pe_and (pe_callB (c_isi (K := K) rfl) (by rfl) T.z_isinstance (by decide +kernel) (pa_cons (pv 0) (pa_cons (pe_bltn (v := .ty "int") (by rfl) T.z_int (by decide +kernel) rfl) pa_nil))) (pe_one (pe_not (pe_callB (c_isi (K := K) rfl) (by rfl) T.z_isinstance (by decide +kernel) (pa_cons (pv 0) (pa_cons (pe_bltn (v := .ty "bool") (by rfl) T.z_bool (by decide +kernel) rfl) pa_nil)))))))), ?_⟩
  refine go_start w ps (Γ := [some (D K (.int i))]) rfl ?_
  exact go_ret Le.refl (ev_andV (ev_cb (ea_cons (ev_var rfl) (ea_cons ev_pv ea_nil)) (rc_isi (d := .int i) (b := true) (by show kitB "int" "int" = some true; decide +kernel))) fun _ => ev_notV (ev_cb (ea_cons (ev_var rfl) (ea_cons ev_pv ea_nil)) (rc_isi (d := .int i) (b := false) (by show kitB "int" "bool" = some false; decide +kernel)))) k
theorem use__law_is_integer {T : Txt K mg} {tr : TA} {Γ : Gm} {M M1 : Ms} {i : Int} {X : XK} (h : EvA tr Γ M [D K (.int i)] M1) : Ev (tCall (sp__law_is_integer T) [] X tr) Γ M (D K (.bool true)) M1 :=
  call0 h fun vs H Q z => ⟨i, z⟩
/-! ### _law_shuffled -/
theorem sc__law_shuffled : FnScope ["draws", "letters", "word", "times", "found", "k", "at", "one"] ["draws", "letters", "word", "times"] (defScope s__law_shuffled) := ⟨rfl, rfl, rfl, by decide +kernel, rfl, by decide +kernel, by decide +kernel⟩
abbrev PSw (K : PySem.W.Frag) (ls : Lets) (w : List Int) : MP := PEx fun w' : List Int => PAn (Swp ls w w') (D K (dT w'))
def sp__law_shuffled (T : Txt K mg) : Sp := fun vs H Q _ => ∃ (d : Addr) (ls : Lets) (wd : List Int) (t : Int), (WordOk ls wd ∧ wd.length ≤ 1000 ∧ 0 ≤ t ∧ t ≤ 1000 ∧ ∀ l ∈ ls, l.length ≤ 1000) ∧ Prom [Own d, D K (dLT ls), D K (dT wd), D K (.int t)] [(d, MDr K)] (PSw K ls wd) [(d, MDr K)] vs H Q
theorem sp__law_shuffled_len {T : Txt K mg} {vs H Q E} (h : sp__law_shuffled T vs H Q E) : vs.length = 4 := by obtain ⟨_, _, _, _, _, h⟩ := h; exact h.len
theorem swap_split {l : List Int} {i : Nat} (h : i + 1 < l.length) : l = l.take i ++ l[i] :: l[i + 1] :: l.drop (i + 2) ∧ (l.set i l[i + 1]).set (i + 1) l[i] = l.take i ++ l[i + 1] :: l[i] :: l.drop (i + 2) := by
  have e1 : l.drop i = l[i] :: l.drop (i + 1) := List.drop_eq_getElem_cons (by omega)
  have e2 : l.drop (i + 1) = l[i + 1] :: l.drop (i + 2) := List.drop_eq_getElem_cons h
  have e : l = l.take i ++ l[i] :: l[i + 1] :: l.drop (i + 2) := by
    conv => lhs; rw [← List.take_append_drop i l, e1, e2]
  refine ⟨e, ?_⟩
  apply List.ext_getElem
  · simp; omega
  · intro n h1 h2
    have hl : (l.take i).length = i := by rw [List.length_take]; omega
    rw [List.getElem_set, List.getElem_set]
    by_cases a : i + 1 = n
    · subst a
      rw [if_pos rfl, List.getElem_append_right (by omega)]
      simp [hl]
    · rw [if_neg a]
      by_cases b : i = n
      · subst b
        rw [if_pos rfl, List.getElem_append_right (by omega)]
        simp [hl]
      · rw [if_neg b]
        by_cases c : n < i
        · rw [List.getElem_append_left (by omega), List.getElem_take]
        · rw [List.getElem_append_right (by omega)]
          obtain ⟨m, rfl⟩ : ∃ m, n = i + 2 + m := ⟨n - (i + 2), by omega⟩
          have : i + 2 + m - (l.take i).length = m + 2 := by omega
          simp only [this, List.getElem_cons_succ, List.getElem_drop]
set_option maxHeartbeats 4000000 in
theorem ok__law_shuffled (T : Txt K mg) : FnOk P wo K mg base CX0 2 T.f__law_shuffled T.d__law_shuffled ["draws", "letters", "word", "times"] (sp__law_shuffled T) := by
  have nd := (sc__law_shuffled).nd
  refine T.F__law_shuffled.ok sc__law_shuffled (fun vs H Q E h => (sp__law_shuffled_len h)) (fun cdv A outer s H vs Q E hr h => ?_)
  obtain ⟨d, ls, wd, t, ⟨hw, lw, t0, t1, hl⟩, F, w, ps, k⟩ := h
  refine ⟨_, (pss_cons (ps_set (i := 4) nd rfl (Or.inl rfl) (pe_callTy (c_list (K := K) rfl) (by rfl) T.z_list (by decide +kernel) (pa_cons (pv 2) pa_nil)))
    (pss_cons (ps_for PassesOwn.never rfl (pi_range1 (by rfl) T.z_range (pa_cons (pv 3) pa_nil)) (pg_name (i := 5) nd rfl (by first | exact Or.inl rfl | exact Or.inr rfl))
     (pss_one (ps_if (pt_cmpR op_gt (pe_callB (c_len (K := K) rfl) (by rfl) T.z_len PySem.boot_len (pa_cons (pv 4) pa_nil)) pe_int (nomark _)) (pss_cons (ps_set (i := 6) nd rfl (Or.inl rfl) (pe_call (ok__law_take T) (hr.mono (by decide)) rfl T.m__law_take T.F__law_take.kp T.b__law_take .nil pass0 (pa_cons (pv 0) (pa_cons (pe_op op_sub (pe_callB (c_len (K := K) rfl) (by rfl) T.z_len PySem.boot_len (pa_cons (pv 4) pa_nil)) pe_int) pa_nil))))
      (pss_one (ps_if (pt_val (pe_call (ok__law_free T) (hr.mono (by decide)) rfl T.m__law_free T.F__law_free.kp T.b__law_free .nil pass0 (pa_cons (pv 1) (pa_cons (pe_ix (c_ix (K := K) rfl) (pv 4) (pv 6) (fun _ _ => rfl)) (pa_cons (pe_ix (c_ix (K := K) rfl) (pv 4) (pe_op op_add (pv 6) pe_int) (fun _ _ => rfl)) pa_nil))))) (pss_cons (ps_set (i := 7) nd rfl (Or.inl rfl) (pe_ix (c_ix (K := K) rfl) (pv 4) (pv 6) (fun _ _ => rfl)))
       (pss_cons (ps_asg (pe_ix (c_ix (K := K) rfl) (pv 4) (pe_op op_add (pv 6) pe_int) (fun _ _ => rfl)) (pg_sub (pv 4) (pv 6) set_list))
       (pss_one (ps_asg (pv 7) (pg_sub (pv 4) (pe_op op_add (pv 6) pe_int) set_list))))) pss_nil))) pss_nil)))
    (pss_one (ps_ret (pe_callTy (c_tuple (K := K) rfl) (by rfl) T.z_tuple (by decide +kernel) (pa_cons (pv 4) pa_nil)))))), ?_⟩
  refine go_start w ps (Γ := [some (Own d), some (D K (dLT ls)), some (D K (dT wd)), some (D K (.int t)), none, none, none, none]) rfl ?_
  refine (q_asgN (evn_cb (ea_cons ((ev_var rfl).weak le_dT) ea_nil) rcn_listT) fun f hf => ?_)
  show Nx _ _ [(f, MInts K wd), (d, MDr K)] _
  refine (q_forR (ea_cons (ev_var rfl) ea_nil) (by omega) (by omega) (fun i Γ M => ∃ (zs : List Int) (g5 g6 g7 : Option MP), Γ = [some (Own d), some (D K (dLT ls)), some (D K (dT wd)), some (D K (.int t)), some (Own f), g5, g6, g7] ∧ M = [(f, MInts K zs), (d, MDr K)] ∧ Swp ls wd zs) ⟨wd, none, none, none, rfl, rfl, .refl _⟩ ?_ ?_)
  · rintro i hi _ _ ⟨zs, g5, g6, g7, rfl, rfl, hz⟩
    obtain ⟨hzw, hzl⟩ := hz.word hw
    show Nx _ [some (Own d), some (D K (dLT ls)), some (D K (dT wd)), some (D K (.int t)), some (Own f), some (D K (.int i)), g6, g7] _ _
    refine go_if (et_test (ev_op (ev_cb (ea_cons (ev_var rfl) ea_nil) (rc_lenO (j := 0) rfl)) (ev_int (K := K)) rv_b0)) (fun hlen => ?_) fun _ => go_next (JA.of ⟨zs, _, _, _, rfl, rfl, hz⟩)
    have hlen : 1 < zs.length := by have : (1 : Int) < zs.length := by simpa using hlen
                                    omega
    refine (q_asg (use__law_take (j := 1) (ea_cons (ev_var rfl) (ea_cons (ev_op (ev_cb (ea_cons (ev_var rfl) ea_nil) (rc_lenO (j := 0) rfl)) (ev_int (K := K)) rv_i0) ea_nil)) (by rw [List.length_map]; omega) rfl) (nx_ex (i := 6) rfl fun at0 => nx_an (i := 6) rfl fun hat => ?_))
    rw [List.length_map] at hat
    obtain ⟨a, rfl⟩ := Int.eq_ofNat_of_zero_le hat.1
    have ha : a + 1 < zs.length := by omega
    show Nx _ [some (Own d), some (D K (dLT ls)), some (D K (dT wd)), some (D K (.int t)), some (Own f), some (D K (.int i)), some (D K (.int a)), g7] _ _
    have i1 : (zs.map fun n => D K (.int n))[((a : Int)).toNat]? = some (D K (.int zs[a])) := by rw [Int.toNat_natCast, List.getElem?_map, List.getElem?_eq_getElem (by omega)]; rfl
    have i2 : (zs.map fun n => D K (.int n))[((a : Int) + 1).toNat]? = some (D K (.int zs[a + 1])) := by rw [show ((a : Int) + 1).toNat = a + 1 by omega, List.getElem?_map, List.getElem?_eq_getElem ha]; rfl
    have m1 := hzw zs[a] (List.getElem_mem _)
    have m2 := hzw zs[a + 1] (List.getElem_mem _)
    refine go_if (et_val (use__law_free (ea_cons (ev_var rfl) (ea_cons (ev_op (ev_var rfl) (ev_var rfl) (rv_ixO (j := 0) rfl (by omega) i1)) (ea_cons (ev_op (ev_var rfl) (ev_op (ev_var rfl) (ev_int (K := K)) rv_i0) (rv_ixO (j := 0) rfl (by omega) i2)) ea_nil))) ⟨m1.1, m1.2, m2.1, m2.2, hl⟩)) (fun hfr => ?_) fun _ => go_next (JA.of ⟨zs, _, _, _, rfl, rfl, hz⟩)
    refine (q_asg (ev_op (ev_var rfl) (ev_var rfl) (rv_ixO (j := 0) rfl (by omega) i1)) ?_)
    refine (q_setL (j := 0) (ev_op (ev_var rfl) (ev_op (ev_var rfl) (ev_int (K := K)) rv_i0) (rv_ixO (j := 0) rfl (by omega) i2)) (ev_var rfl) (ev_var rfl) rfl (by omega) (by rw [List.length_map]; omega) ?_)
    refine go_setL (j := 0) (ev_var rfl) (ev_var rfl) (ev_op (ev_var rfl) (ev_int (K := K)) rv_i0) rfl (by omega) (by rw [List.length_set, List.length_map]; omega) ?_
    obtain ⟨e1, e2⟩ := swap_split ha
    refine JA.of ⟨(zs.set a zs[a + 1]).set (a + 1) zs[a], _, _, _, rfl, ?_, ?_⟩
    · rw [show ((a : Int) + 1).toNat = a + 1 by omega, Int.toNat_natCast]
      simp [MInts, List.map_set]
    · rw [e2]
      exact .step (by rw [← e1]; exact hz) hfr.symm
  · rintro _ _ ⟨zs, g5, g6, g7, rfl, rfl, hz⟩
    exact go_ret Le.refl ((ev_cb (ea_cons (ev_var (i := 4) rfl) ea_nil) (rc_tupleO (j := 0) rfl)).weak (MP.le_trans dT_le (MP.le_trans (PAn.in hz) (PEx.in (R := fun w' : List Int => PAn (Swp ls wd w') (D K (dT w'))) zs)))) (Rt.drop (List.sublist_cons_self _ _) k)
theorem use__law_shuffled {T : Txt K mg} {tr : TA} {Γ : Gm} {M M1 : Ms} {d : Addr} {ls : Lets} {wd : List Int} {t : Int} {j : Nat} {X : XK} (h : EvA tr Γ M [Own d, D K (dLT ls), D K (dT wd), D K (.int t)] M1) (hn : WordOk ls wd ∧ wd.length ≤ 1000 ∧ 0 ≤ t ∧ t ≤ 1000 ∧ ∀ l ∈ ls, l.length ≤ 1000) (e : M1[j]? = some (d, MDr K)) : Ev (tCall (sp__law_shuffled T) [] X tr) Γ M (PSw K ls wd) M1 :=
  call1 h e fun vs H Q z => ⟨d, ls, wd, t, hn, z⟩
/-! ### independent -/
theorem sc_independent : FnScope ["alphabet", "first", "second", "others", "place"] ["alphabet", "first", "second"] (defScope s_independent) := ⟨rfl, rfl, rfl, by decide +kernel, rfl, by decide +kernel, by decide +kernel⟩
theorem ev_lets {T : Txt K mg} {Γ : Gm} {M M1 : Ms} {k : Int} {ls : Lets} {te ti : TE} {a : Int} (h : Ev te Γ M (PAl T k ls) M1) (hi : Ev ti Γ M1 (D K (.int a)) M1) (ha : 0 ≤ a ∧ a < (ls.length : Int)) : Ev (tOp (rIx K) (tFld K te "letters") ti) Γ M (D K (dT (pl ls a))) M1 :=
  ev_op (ev_fld (P := D K (dTT ls)) (fps := alF K k ls) h (by simp) T.cl_Alphabet T.na_Alphabet_letters) hi (rv_ixDT (K := K) (ds := ls.map dT) ha.1 (by rw [List.getElem?_map, pl_get ha.1 ha.2]; rfl))
theorem ev_places {T : Txt K mg} {Γ : Gm} {M M1 : Ms} {k : Int} {ls : Lets} {te : TE} (h : Ev te Γ M (PAl T k ls) M1) : Ev (tFld K te "places") Γ M (D K (.int k)) M1 :=
  ev_fld (P := D K (.int k)) (fps := alF K k ls) h (by simp) T.cl_Alphabet T.na_Alphabet_places
def sp_independent (T : Txt K mg) : Sp := fun vs H Q _ => ∃ (k : Int) (ls : Lets) (a b : Int), (AlphaOk k ls ∧ (0 ≤ a ∧ a < (ls.length : Int)) ∧ (0 ≤ b ∧ b < (ls.length : Int))) ∧ Prom [PAl T k ls, D K (.int a), D K (.int b)] [] (D K (.bool (free ls a b))) [] vs H Q
theorem sp_independent_len {T : Txt K mg} {vs H Q E} (h : sp_independent T vs H Q E) : vs.length = 3 := by obtain ⟨_, _, _, _, _, h⟩ := h; exact h.len
set_option maxHeartbeats 4000000 in
theorem ok_independent (T : Txt K mg) : FnOk P wo K mg base CX0 1 T.f_independent T.d_independent ["alphabet", "first", "second"] (sp_independent T) := by
  have nd := (sc_independent).nd
  refine T.F_independent.ok sc_independent (fun vs H Q E h => (sp_independent_len h)) (fun cdv A outer s H vs Q E hr h => ?_)
  obtain ⟨n, ls, a, b, ⟨A, ha, hb⟩, F, w, ps, k⟩ := h
  refine ⟨_, (pss_cons (ps_set (i := 3) nd rfl (Or.inl rfl) (pe_ix (c_ix (K := K) rfl) (c_fld (K := K) rfl (pv 0) rfl) (pv 2) (fun _ _ => rfl)))
    (pss_cons (ps_for PassesOwn.never rfl (pi_tupK (K := K) rfl (pe_ix (c_ix (K := K) rfl) (c_fld (K := K) rfl (pv 0) rfl) (pv 1) (fun _ _ => rfl))) (pg_name (i := 4) nd rfl (by first | exact Or.inl rfl | exact Or.inr rfl))
     (pss_one (ps_if (pt_cmpR (c_in (K := K) rfl) (pv 4) (pv 3) (by rfl)) (pss_one (ps_ret pe_bl)) pss_nil)))
    (pss_one (ps_ret pe_bl)))), ?_⟩
  refine go_start w ps (Γ := [some (PAl T n ls), some (D K (.int a)), some (D K (.int b)), none, none]) rfl ?_
  refine (q_asg (ev_lets (ev_var (i := 0) rfl) (ev_var (i := 2) rfl) hb) ?_)
  refine (q_forT ((ev_lets (ev_var (i := 0) rfl) (ev_var (i := 1) rfl) ha).weak le_dT) (fun i Γ M => ∃ g4 : Option MP, Γ = [some (PAl T n ls), some (D K (.int a)), some (D K (.int b)), some (D K (dT (pl ls b))), g4] ∧ M = [] ∧ ∀ x ∈ (pl ls a).take i, x ∉ pl ls b) ⟨none, rfl, rfl, by simp⟩ ?_ ?_)
  · rintro E' hE i P hP _ _ ⟨g4, rfl, rfl, hx⟩
    rw [List.getElem?_map] at hP
    obtain ⟨x, hxi, rfl⟩ := Option.map_eq_some_iff.mp hP
    refine go_if (et_test (ev_op (ev_var (i := 4) rfl) (ev_var (i := 3) rfl) (rv_inT (neg := false)))) (fun hz => ?_) fun hz => go_next (JA.of ⟨_, rfl, rfl, fun y hy => ?_⟩)
    · have e : free ls a b = false := not_disj.mpr ⟨x, List.mem_of_getElem? hxi, by simpa using hz.symm⟩
      rw [e] at k
      exact go_ret hE (ev_bl (K := K)) k
    · rw [List.take_add_one, hxi] at hy
      rcases List.mem_append.mp hy with hy | hy
      · exact hx y hy
      · have : y = x := by simpa using hy
        subst this
        simpa using hz
  · rintro _ _ ⟨g4, rfl, rfl, hx⟩
    rw [List.length_map, List.take_length] at hx
    have e : free ls a b = true := disj_iff.mpr hx
    rw [e] at k
    exact go_ret Le.refl (ev_bl (K := K)) k
theorem use_independent {T : Txt K mg} {tr : TA} {Γ : Gm} {M M1 : Ms} {k : Int} {ls : Lets} {a b : Int} {X : XK} (h : EvA tr Γ M [PAl T k ls, D K (.int a), D K (.int b)] M1) (hn : AlphaOk k ls ∧ (0 ≤ a ∧ a < (ls.length : Int)) ∧ (0 ≤ b ∧ b < (ls.length : Int))) : Ev (tCall (sp_independent T) [] X tr) Γ M (D K (.bool (free ls a b))) M1 :=
  call0 h fun vs H Q z => ⟨k, ls, a, b, hn, z⟩
/-! ### _law_cell -/
theorem sc__law_cell : FnScope ["script", "k"] ["script", "k"] (defScope s__law_cell) := ⟨rfl, rfl, rfl, by decide +kernel, rfl, by decide +kernel, by decide +kernel⟩
def sp__law_cell (T : Txt K mg) : Sp := fun vs H Q _ => ∃ (ns : List Int) (c : Nat), Prom [PLi K (ns.map fun n => D K (.int n)), D K (.int (c : Int))] [] (PEx fun z : Int => PAn True (D K (.int z))) [] vs H Q
theorem sp__law_cell_len {T : Txt K mg} {vs H Q E} (h : sp__law_cell T vs H Q E) : vs.length = 2 := by obtain ⟨_, _, h⟩ := h; exact h.len
set_option maxHeartbeats 4000000 in
theorem ok__law_cell (T : Txt K mg) : FnOk P wo K mg base CX0 1 T.f__law_cell T.d__law_cell ["script", "k"] (sp__law_cell T) := by
  have nd := (sc__law_cell).nd
  refine T.F__law_cell.ok sc__law_cell (fun vs H Q E h => (sp__law_cell_len h)) (fun cdv A outer s H vs Q E hr h => ?_)
  obtain ⟨ns, c, F, w, pp, k⟩ := h
  refine ⟨_, (pss_cons (ps_if (pt_cmpR op_lt (pv 1) (pe_callB (c_len (K := K) rfl) (by rfl) T.z_len PySem.boot_len (pa_cons (pv 0) pa_nil)) (nomark _)) (pss_one (ps_ret (pe_ix (c_ix (K := K) rfl) (pv 0) (pv 1) (fun _ _ => rfl)))) pss_nil)
    (pss_one (ps_ret pe_int))), ?_⟩
  refine go_start w pp (Γ := [some (PLi K (ns.map fun n => D K (.int n))), some (D K (.int (c : Int)))]) rfl ?_
  have out : ∀ z : Int, (D K (.int z)).le (PEx fun z : Int => PAn True (D K (.int z))) := fun z => MP.le_trans (PAn.in trivial) (PEx.in (R := fun z : Int => PAn True (D K (.int z))) z)
  refine (q_if (et_test (ev_op (ev_var (i := 1) rfl) (ev_cb (ea_cons (ev_var (i := 0) rfl) ea_nil) (rc_len (K := K))) (rv_b0 (g := fun i j => decide (i < j))))) (fun hz => ?_) fun hz => go_next ?_)
  · have hz := of_decide_eq_true hz.symm
    rw [List.length_map] at hz
    have hc : c < ns.length := by omega
    exact go_ret Le.refl ((ev_op (ev_var (i := 0) rfl) (ev_var (i := 1) rfl) (rv_ixL (P := D K (.int ns[c])) (by omega) (by rw [Int.toNat_natCast, List.getElem?_map, List.getElem?_eq_getElem hc]; rfl))).weak (out _)) k
  · refine go_ret (D1 := { nx := fun _ H' => Q .non H', rt := Q }) Le.refl ((ev_int (K := K) (i := 0)).weak (out 0)) k
theorem use__law_cell {T : Txt K mg} {tr : TA} {Γ : Gm} {M M1 : Ms} {ns : List Int} {c : Nat} {X : XK} (h : EvA tr Γ M [PLi K (ns.map fun n => D K (.int n)), D K (.int (c : Int))] M1) : Ev (tCall (sp__law_cell T) [] X tr) Γ M (PEx fun z : Int => PAn True (D K (.int z))) M1 :=
  call0 h fun vs H Q z => ⟨ns, c, z⟩
/-! ### ending_times -/
theorem sc_ending_times : FnScope ["alphabet", "word", "times", "ends", "found", "letter", "places", "end", "place"] ["alphabet", "word", "times"] (defScope s_ending_times) := ⟨rfl, rfl, rfl, by decide +kernel, rfl, by decide +kernel, by decide +kernel⟩
def sp_ending_times (T : Txt K mg) : Sp := fun vs H Q _ => ∃ (k : Int) (ls : Lets) (wd ts : List Int) (b : Bool), (AlphaOk k ls ∧ WordOk ls wd ∧ wd.length ≤ 1000 ∧ TOk ls ts) ∧ Prom [PAl T k ls, D K (dW b wd), D K (dL ts)] [] (D K (dL (due ls ts k wd))) [] vs H Q
theorem sp_ending_times_len {T : Txt K mg} {vs H Q E} (h : sp_ending_times T vs H Q E) : vs.length = 3 := by obtain ⟨_, _, _, _, _, _, h⟩ := h; exact h.len
set_option maxHeartbeats 4000000 in
theorem ok_ending_times (T : Txt K mg) : FnOk P wo K mg base CX0 1 T.f_ending_times T.d_ending_times ["alphabet", "word", "times"] (sp_ending_times T) := by
  have nd := (sc_ending_times).nd
  refine T.F_ending_times.ok sc_ending_times (fun vs H Q E h => (sp_ending_times_len h)) (fun cdv A outer s H vs Q E hr h => ?_)
  obtain ⟨n, ls, wd, ts, b, ⟨A, hw, hl, TO⟩, F, w, ps, k⟩ := h
  refine ⟨_, (pss_cons (ps_set (i := 3) nd rfl (Or.inr rfl) (pe_op op_rep (pe_lst (pa_cons pe_int pa_nil)) (c_fld (K := K) rfl (pv 0) rfl)))
    (pss_cons (ps_set (i := 4) nd rfl (Or.inl rfl) (pe_lst pa_nil))
    (pss_cons (ps_for PassesOwn.never rfl (pi_or (pi_tupK (K := K) rfl (pv 1)) (pi_listK (K := K) rfl (pv 1))) (pg_name (i := 5) nd rfl (by first | exact Or.inl rfl | exact Or.inr rfl))
     (pss_cons (ps_set (i := 6) nd rfl (Or.inl rfl) (pe_ix (c_ix (K := K) rfl) (c_fld (K := K) rfl (pv 0) rfl) (pv 5) (fun _ _ => rfl)))
     (pss_cons (ps_set (i := 7) nd rfl (Or.inl rfl) (pe_op op_add (pe_callB (c_max (K := K) rfl rfl) (by rfl) T.z_max (by decide +kernel) (pa_cons (pe_lc (own := [("place", 8)]) (by rfl) nd (pi_tupK (K := K) rfl (pv 6)) (blkOk_by (N := ["alphabet", "word", "times", "ends", "found", "letter", "places", "end", "place"]) (sc := defScope s_ending_times) (own := [("place", 8)]) (by decide +kernel)) (fun _ _ _ _ _ => pg_name (i := 8) nd rfl (by first | exact Or.inl rfl | exact Or.inr rfl)) (fun _ _ _ _ _ => pts_nil) (fun _ _ _ _ _ => (pe_ix (c_ix (K := K) rfl) (pv 3) (pv 8) (fun _ _ => rfl)))) pa_nil)) (pe_ix (c_ix (K := K) rfl) (pv 2) (pv 5) (fun _ _ => rfl))))
     (pss_cons (ps_for PassesOwn.never rfl (pi_tupK (K := K) rfl (pv 6)) (pg_name (i := 8) nd rfl (by first | exact Or.inl rfl | exact Or.inr rfl))
      (pss_one (ps_asg (pv 7) (pg_sub (pv 3) (pv 8) set_list))))
     (pss_one (ps_expr (pe_bm PySem.F.plainAttrs_list PySem.F.slot_list_append PySem.F.type_list_append mt_append (pv 4) (pa_cons (pv 7) pa_nil))))))))
    (pss_one (ps_ret (pv 4)))))), ?_⟩
  refine go_start w ps (Γ := [some (PAl T n ls), some (D K (dW b wd)), some (D K (dL ts)), none, none, none, none, none, none]) rfl ?_
  have k1 := A.k1; have k4 := A.k4
  have repn := evn_rep (K := K) (M := []) (M1 := []) (Γ := [some (PAl T n ls), some (D K (dW b wd)), some (D K (dL ts)), none, none, none, none, none, none]) (P := D K (.int 0)) (z := n) (evn_lst (ea_cons (ev_int (K := K)) ea_nil) (by simp)) (fun M => ev_places (ev_var (i := 0) rfl)) (by omega)
  refine (q_asgN (repn.is (show ML (List.replicate n.toNat (D K (.int 0))) = MInts K (List.replicate n.toNat 0) by simp [MInts])) fun h0 hh0 => ?_)
  refine (q_asgN (evn_lst ea_nil (by decide)) fun r hr => ?_)
  show Nx _ [some (PAl T n ls), some (D K (dW b wd)), some (D K (dL ts)), some (Own h0), some (Own r), none, none, none, none] [(r, MInts K []), (h0, MInts K (List.replicate n.toNat 0))] _
  refine (q_forW (l := wd) rfl (fun i Γ M => ∃ (g5 g6 g7 g8 : Option MP), Γ = [some (PAl T n ls), some (D K (dW b wd)), some (D K (dL ts)), some (Own h0), some (Own r), g5, g6, g7, g8] ∧
    M = [(r, MInts K (tim ls ts n (wd.take i)).2), (h0, MInts K (tim ls ts n (wd.take i)).1)]) ⟨_, _, _, _, rfl, rfl⟩ ?_ ?_)
  · rintro E1 hE i a hi _ _ ⟨g5, g6, g7, g8, rfl, rfl⟩
    have ha := hw a (List.mem_of_getElem? hi)
    have I := tim_inv A TO (fun x hx => hw x (List.mem_of_mem_take hx) : WordOk ls (wd.take i))
    have step : tim ls ts n (wd.take (i + 1)) = tstep ls ts (tim ls ts n (wd.take i)) a := by
      rw [List.take_add_one, hi]; exact tim_snoc
    obtain ⟨pne, _, pok⟩ := A.ok _ (pl_mem ha.1 ha.2)
    have hcnt := I.cnt
    rw [List.length_take] at hcnt
    generalize hs0 : tim ls ts n (wd.take i) = s at *
    obtain ⟨hs, ds⟩ := s
    dsimp only at *
    have hsl : hs.length = n.toNat := I.len
    have htm : hts ls hs a ≠ [] := by simp [hts, pne]
    have ht0 : ∀ y ∈ hts ls hs a, 0 ≤ y := fun y hy => by
      obtain ⟨p, hp, rfl⟩ := List.mem_map.mp hy
      exact I.nn p.toNat
    show Nx _ [some (PAl T n ls), some (D K (dW b wd)), some (D K (dL ts)), some (Own h0), some (Own r), some (D K (.int a)), g6, g7, g8] [(r, MInts K ds), (h0, MInts K hs)] _
    refine (q_asg (ev_lets (ev_var (i := 0) rfl) (ev_var (i := 5) rfl) ha) ?_)
    dsimp only [List.set]
    have lc := evn_lcT (K := K) (xs := pl ls a) (R := fun x => D K (.int x)) (G := fun p => D K (.int (hs.getD p.toNat 0))) (i := 8) (M := [(r, MInts K ds), (h0, MInts K hs)]) (M1 := [(r, MInts K ds), (h0, MInts K hs)]) (Γ := [some (PAl T n ls), some (D K (dW b wd)), some (D K (dL ts)), some (Own h0), some (Own r), some (D K (.int a)), some (D K (dT (pl ls a))), g7, g8]) (fun _ => true) ((ev_var (i := 6) rfl).weak le_dT) (by have := pw_len (A.ok _ (pl_mem ha.1 ha.2)).2.1 pok (by omega); omega) (fun _ _ => et_yes)
      (fun p hp _ => ev_op (ev_var (i := 3) rfl) (ev_var (i := 8) rfl) (rv_ixO (j := 1) rfl (pok p hp).1 (by
        have hp2 : p.toNat < hs.length := by have := pok p hp; omega
        rw [List.getElem?_map, List.getD_eq_getElem?_getD, List.getElem?_eq_getElem hp2]; rfl)))
    rw [filter_true] at lc
    have lc2 : EvN _ _ _ (MInts K (hts ls hs a)) _ := lc.is (by unfold MInts hts; rw [List.map_map]; rfl)
    have mx : Ev _ _ _ (D K (.int (top0 (hts ls hs a)))) _ := (ev_cb (ea_cons (ev_newL lc2) ea_nil) (rc_max (by rw [List.length_pos_iff]; exact htm))).weak fun F v ⟨m, hm, h⟩ => by rw [top0_eq hm.1 hm.2 ht0]; exact h
    refine (q_asg (ev_op mx (ev_op (ev_var (i := 2) rfl) (ev_var (i := 5) rfl) (rv_ixDL (K := K) (ds := ts.map PyData.int) (d := .int (tm ts a)) ha.1 (by rw [List.getElem?_map, TO.get ha.1 ha.2]; rfl))) (rv_i0 (g := fun i j => i + j))) ?_)
    dsimp only [List.set]
    refine (q_forT ((ev_var (i := 6) rfl).weak le_dT) (fun j Γ M => ∃ g8 : Option MP, Γ = [some (PAl T n ls), some (D K (dW b wd)), some (D K (dL ts)), some (Own h0), some (Own r), some (D K (.int a)), some (D K (dT (pl ls a))), some (D K (.int (top0 (hts ls hs a) + tm ts a))), g8] ∧
        M = [(r, MInts K ds), (h0, MInts K (setAll hs ((pl ls a).take j) (top0 (hts ls hs a) + tm ts a)))]) ⟨g8, rfl, rfl⟩ ?_ ?_)
    · rintro E2 hE2 j P hP _ _ ⟨g8, rfl, rfl⟩
      rw [List.getElem?_map] at hP
      obtain ⟨p, hp, rfl⟩ := Option.map_eq_some_iff.mp hP
      have hp2 := pok p (List.mem_of_getElem? hp)
      refine go_setL (j := 1) (ev_var (i := 7) rfl) (ev_var (i := 3) rfl) (ev_var (i := 8) rfl) rfl hp2.1 (by rw [List.length_map, setAll_len]; omega) (JA.of ⟨_, rfl, ?_⟩)
      rw [List.take_add_one, hp]
      unfold setAll
      rw [List.foldl_append]
      simp [MInts, List.map_set]
    · rintro _ _ ⟨g8, rfl, rfl⟩
      rw [List.length_map, List.take_length]
      refine go_app (j := 0) (ev_var (i := 4) rfl) (ev_var (i := 7) rfl) rfl rfl (by rw [List.length_map]; omega) (JA.of ⟨_, _, _, _, rfl, ?_⟩)
      rw [step]
      show _ = [(r, MInts K (ds ++ [_])), (h0, MInts K (setAll hs (pl ls a) _))]
      simp only [MInts, List.map_append, List.map_cons, List.map_nil, List.set]
  · rintro _ _ ⟨g5, g6, g7, g8, rfl, rfl⟩
    rw [List.take_length]
    refine nx_own (K := K) (i := 4) (j := 0) rfl hr rfl ?_
    exact go_ret Le.refl (ev_var (i := 4) rfl) (Rt.drop (List.nil_sublist _) k)
theorem use_ending_times {T : Txt K mg} {tr : TA} {Γ : Gm} {M M1 : Ms} {k : Int} {ls : Lets} {wd ts : List Int} {b : Bool} {X : XK} (h : EvA tr Γ M [PAl T k ls, D K (dW b wd), D K (dL ts)] M1) (hn : AlphaOk k ls ∧ WordOk ls wd ∧ wd.length ≤ 1000 ∧ TOk ls ts) : Ev (tCall (sp_ending_times T) [] X tr) Γ M (D K (dL (due ls ts k wd))) M1 :=
  call0 h fun vs H Q z => ⟨k, ls, wd, ts, b, hn, z⟩
/-! ### least_time -/
theorem sc_least_time : FnScope ["alphabet", "word", "times"] ["alphabet", "word", "times"] (defScope s_least_time) := ⟨rfl, rfl, rfl, by decide +kernel, rfl, by decide +kernel, by decide +kernel⟩
theorem due_nn {ls : Lets} {ts wd : List Int} {k : Int} (A : AlphaOk k ls) (TO : TOk ls ts) (hw : WordOk ls wd) : ∀ y ∈ due ls ts k wd, 1 ≤ y := fun y hy => by
  have I := tim_inv A TO hw
  obtain ⟨i, hi, rfl⟩ := List.mem_iff_getElem.mp hy
  have hi2 : i < wd.length := by have := I.cnt; unfold due at hi; omega
  have hx := hw _ (List.getElem_mem hi2)
  have := I.pos i wd[i] _ (List.getElem?_eq_getElem hi2) (List.getElem?_eq_getElem hi)
  have := TO.tm1 hx.1 hx.2
  omega
def sp_least_time (T : Txt K mg) : Sp := fun vs H Q _ => ∃ (k : Int) (ls : Lets) (wd ts : List Int) (b : Bool), (AlphaOk k ls ∧ WordOk ls wd ∧ wd.length ≤ 1000 ∧ TOk ls ts) ∧ Prom [PAl T k ls, D K (dW b wd), D K (dL ts)] [] (D K (.int (top0 (due ls ts k wd)))) [] vs H Q
theorem sp_least_time_len {T : Txt K mg} {vs H Q E} (h : sp_least_time T vs H Q E) : vs.length = 3 := by obtain ⟨_, _, _, _, _, _, h⟩ := h; exact h.len
set_option maxHeartbeats 4000000 in
theorem ok_least_time (T : Txt K mg) : FnOk P wo K mg base CX0 2 T.f_least_time T.d_least_time ["alphabet", "word", "times"] (sp_least_time T) := by
  have nd := (sc_least_time).nd
  refine T.F_least_time.ok sc_least_time (fun vs H Q E h => (sp_least_time_len h)) (fun cdv A outer s H vs Q E hr h => ?_)
  obtain ⟨n, ls, wd, ts, b, ⟨A, hw, hl, TO⟩, F, w, ps, k⟩ := h
  refine ⟨_, (pss_one (ps_ret (pe_callBK (cr_maxD rfl) (by rfl) T.z_max (by decide +kernel) (pa_cons (pe_call (ok_ending_times T) (hr.mono (by decide)) rfl T.m_ending_times T.F_ending_times.kp T.b_ending_times .nil pass0 (pa_cons (pv 0) (pa_cons (pv 1) (pa_cons (pv 2) pa_nil)))) pa_nil) (pk_cons pe_int pk_nil)))), ?_⟩
  refine go_start w ps (Γ := [some (PAl T n ls), some (D K (dW b wd)), some (D K (dL ts))]) rfl ?_
  refine go_ret Le.refl ((ev_maxD ((use_ending_times (ea_cons (ev_var rfl) (ea_cons (ev_var rfl) (ea_cons (ev_var rfl) ea_nil))) ⟨A, hw, hl, TO⟩).weak le_dL) (ev_int (K := K) (i := 0))).weak fun F v ⟨m, hm, h⟩ => ?_) k
  have e : top0 (due ls ts n wd) = m := by
    rcases hm with ⟨h1, h2⟩ | ⟨h1, h2⟩
    · rw [h1, h2]; rfl
    · exact top0_eq h1 h2 fun y hy => by have := due_nn A TO hw y hy; omega
  rw [e]
  exact h
theorem use_least_time {T : Txt K mg} {tr : TA} {Γ : Gm} {M M1 : Ms} {k : Int} {ls : Lets} {wd ts : List Int} {b : Bool} {X : XK} (h : EvA tr Γ M [PAl T k ls, D K (dW b wd), D K (dL ts)] M1) (hn : AlphaOk k ls ∧ WordOk ls wd ∧ wd.length ≤ 1000 ∧ TOk ls ts) : Ev (tCall (sp_least_time T) [] X tr) Γ M (D K (.int (top0 (due ls ts k wd)))) M1 :=
  call0 h fun vs H Q z => ⟨k, ls, wd, ts, b, hn, z⟩
/-! ### _event_before -/
theorem sc__event_before : FnScope ["alphabet", "word", "times", "ends", "event", "begin", "found"] ["alphabet", "word", "times", "ends", "event"] (defScope s__event_before) := ⟨rfl, rfl, rfl, by decide +kernel, rfl, by decide +kernel, by decide +kernel⟩
abbrev Bfr (ls : Lets) (wd ts ds : List Int) (x f : Nat) : Prop := f < x ∧ ds.getD f 0 = ds.getD x 0 - tm ts (wd.getD x 0) ∧ free ls (wd.getD f 0) (wd.getD x 0) = false
theorem i_d {l : List Int} {n : Nat} (h : n < l.length) : (l.map PyData.int)[((n : Int)).toNat]? = some (.int (l.getD n 0)) := by
  rw [Int.toNat_natCast, List.getElem?_map, List.getD_eq_getElem?_getD, List.getElem?_eq_getElem h]; rfl
theorem getD_ok {ls : Lets} {wd : List Int} (hw : WordOk ls wd) {n : Nat} (h : n < wd.length) : 0 ≤ wd.getD n 0 ∧ wd.getD n 0 < (ls.length : Int) := by
  rw [List.getD_eq_getElem?_getD, List.getElem?_eq_getElem h]; exact hw _ (List.getElem_mem h)
def sp__event_before (T : Txt K mg) : Sp := fun vs H Q _ => ∃ (k : Int) (ls : Lets) (wd ts ds : List Int) (x : Nat), (AlphaOk k ls ∧ WordOk ls wd ∧ TOk ls ts ∧ ds.length = wd.length ∧ x < wd.length ∧ ∃ f, Bfr ls wd ts ds x f) ∧
  Prom [PAl T k ls, D K (dT wd), D K (dL ts), D K (dL ds), D K (.int (x : Int))] [] (PEx fun f : Nat => PAn (Bfr ls wd ts ds x f) (D K (.int (f : Int)))) [] vs H Q
theorem sp__event_before_len {T : Txt K mg} {vs H Q E} (h : sp__event_before T vs H Q E) : vs.length = 5 := by obtain ⟨_, _, _, _, _, _, _, h⟩ := h; exact h.len
set_option maxHeartbeats 4000000 in
theorem ok__event_before (T : Txt K mg) : FnOk P wo K mg base CX0 2 T.f__event_before T.d__event_before ["alphabet", "word", "times", "ends", "event"] (sp__event_before T) := by
  have nd := (sc__event_before).nd
  refine T.F__event_before.ok sc__event_before (fun vs H Q E h => (sp__event_before_len h)) (fun cdv A outer s H vs Q E hr h => ?_)
  obtain ⟨n, ls, wd, ts, ds, x, ⟨A, hw, TO, hds, hx, f0, hf⟩, F, w, ps, k⟩ := h
  refine ⟨_, (pss_cons (ps_set (i := 5) nd rfl (Or.inl rfl) (pe_op op_sub (pe_ix (c_ix (K := K) rfl) (pv 3) (pv 4) (fun _ _ => rfl)) (pe_ix (c_ix (K := K) rfl) (pv 2) (pe_ix (c_ix (K := K) rfl) (pv 1) (pv 4) (fun _ _ => rfl)) (fun _ _ => rfl))))
    (pss_cons (ps_set (i := 6) nd rfl (Or.inl rfl) (pe_op op_sub (pv 4) pe_int))
    (pss_cons (ps_while PassesOwn.never (PW.pt (pw_or (pt_cmpR op_ne (pe_ix (c_ix (K := K) rfl) (pv 3) (pv 6) (fun _ _ => rfl)) (pv 5) (nomark _)) (pw_or1 (pt_val (pe_call (ok_independent T) (hr.mono (by decide)) rfl T.m_independent T.F_independent.kp T.b_independent .nil pass0 (pa_cons (pv 0) (pa_cons (pe_ix (c_ix (K := K) rfl) (pv 1) (pv 6) (fun _ _ => rfl)) (pa_cons (pe_ix (c_ix (K := K) rfl) (pv 1) (pv 4) (fun _ _ => rfl)) pa_nil)))))))) (pss_one (ps_aug (i := 6) nd rfl (Or.inl rfl) pe_int ip_sub)))
    (pss_one (ps_ret (pv 6)))))), ?_⟩
  refine go_start w ps (Γ := [some (PAl T n ls), some (D K (dT wd)), some (D K (dL ts)), some (D K (dL ds)), some (D K (.int (x : Int))), none, none]) rfl ?_
  have ox := getD_ok hw hx
  refine (q_asg (ev_op (ev_op (ev_var (i := 3) rfl) (ev_var (i := 4) rfl) (rv_ixDL (K := K) (ds := ds.map PyData.int) (by omega) (i_d (by omega)))) (ev_op (ev_var (i := 2) rfl) (ev_op (ev_var (i := 1) rfl) (ev_var (i := 4) rfl) (rv_ixDT (K := K) (ds := wd.map PyData.int) (by omega) (i_d hx))) (rv_ixDL (K := K) (ds := ts.map PyData.int) (d := .int (tm ts (wd.getD x 0))) ox.1 (by rw [List.getElem?_map, TO.get ox.1 ox.2]; rfl))) (rv_i0 (g := fun i j => i - j))) ?_)
  dsimp only [List.set]
  refine (q_asg (ev_op (ev_var (i := 4) rfl) (ev_int (K := K) (i := 1)) (rv_i0 (g := fun i j => i - j))) ?_)
  dsimp only [List.set]
  refine (q_while (fun m Γ M => ∃ c : Nat, Γ = [some (PAl T n ls), some (D K (dT wd)), some (D K (dL ts)), some (D K (dL ds)), some (D K (.int (x : Int))), some (D K (.int (ds.getD x 0 - tm ts (wd.getD x 0)))), some (D K (.int (c : Int)))] ∧ M = [] ∧ m = c ∧ f0 ≤ c ∧ c < x) (x - 1) ⟨x - 1, ?_, rfl, rfl, by have := hf.1; omega, by have := hf.1; omega⟩ ?_)
  · rw [show ((x - 1 : Nat) : Int) = (x : Int) - 1 by have := hf.1; omega]
  rintro m _ _ ⟨c, rfl, rfl, rfl, h1, h2⟩
  have oc := getD_ok hw (show m < wd.length by omega)
  refine ⟨_, _, et_or (et_test (ev_op (ev_op (ev_var (i := 3) rfl) (ev_var (i := 6) rfl) (rv_ixDL (K := K) (ds := ds.map PyData.int) (by omega) (i_d (by omega)))) (ev_var (i := 5) rfl) rv_neI)) fun _ => et_val (use_independent (ea_cons (ev_var (i := 0) rfl) (ea_cons (ev_op (ev_var (i := 1) rfl) (ev_var (i := 6) rfl) (rv_ixDT (K := K) (ds := wd.map PyData.int) (by omega) (i_d (by omega)))) (ea_cons (ev_op (ev_var (i := 1) rfl) (ev_var (i := 4) rfl) (rv_ixDT (K := K) (ds := wd.map PyData.int) (by omega) (i_d hx))) ea_nil))) ⟨A, oc, ox⟩), fun hz => ?_, fun hz => ?_⟩
  · have hne : m ≠ f0 := by
      rintro rfl
      rw [hf.2.1, hf.2.2] at hz
      simp at hz
    refine go_asg (ev_op (ev_var (i := 6) rfl) (ev_int (K := K) (i := 1)) (rv_i0 (g := fun i j => i - j))) (JA.of ⟨m - 1, by omega, m - 1, ?_, rfl, rfl, by omega, by omega⟩)
    rw [show ((m - 1 : Nat) : Int) = (m : Int) - 1 by omega]
    rfl
  · have hz := hz.symm
    rw [Bool.or_eq_false_iff] at hz
    have z1 : ds.getD m 0 = ds.getD x 0 - tm ts (wd.getD x 0) := by simpa using hz.1
    exact go_ret Le.refl (ev_var (i := 6) rfl) (k.weak (MP.le_trans (PAn.in (φ := Bfr ls wd ts ds x m) ⟨h2, z1, hz.2⟩) (PEx.in (R := fun f : Nat => PAn (Bfr ls wd ts ds x f) (D K (.int (f : Int)))) m)))
theorem use__event_before {T : Txt K mg} {tr : TA} {Γ : Gm} {M M1 : Ms} {k : Int} {ls : Lets} {wd ts ds : List Int} {x : Nat} {X : XK} (h : EvA tr Γ M [PAl T k ls, D K (dT wd), D K (dL ts), D K (dL ds), D K (.int (x : Int))] M1) (hn : AlphaOk k ls ∧ WordOk ls wd ∧ TOk ls ts ∧ ds.length = wd.length ∧ x < wd.length ∧ ∃ f, Bfr ls wd ts ds x f) :
    Ev (tCall (sp__event_before T) [] X tr) Γ M (PEx fun f : Nat => PAn (Bfr ls wd ts ds x f) (D K (.int (f : Int)))) M1 :=
  call0 h fun vs H Q z => ⟨k, ls, wd, ts, ds, x, hn, z⟩
/-! ### critical_chain -/
theorem sc_critical_chain : FnScope ["alphabet", "word", "times", "ends", "chain"] ["alphabet", "word", "times"] (defScope s_critical_chain) := ⟨rfl, rfl, rfl, by decide +kernel, rfl, by decide +kernel, by decide +kernel⟩
structure Crit (ls : Lets) (wd ts : List Int) (m : Int) (c : List Int) : Prop where
  ok : ∀ x ∈ c, 0 ≤ x ∧ x < (wd.length : Int)
  adj : ∀ (i : Nat) (x y : Int), c[i]? = some x → c[i + 1]? = some y → x < y ∧ free ls (wd.getD x.toNat 0) (wd.getD y.toNat 0) = false
  sum : (c.map fun j => tm ts (wd.getD j.toNat 0)).sum = m
  len : c.length ≤ wd.length
abbrev PCr (K : PySem.W.Frag) (ls : Lets) (wd ts : List Int) (m : Int) : MP := PEx fun c : List Int => PAn (Crit ls wd ts m c) (D K (dL c))
theorem Chn.done {ls : Lets} {ts wd ds : List Int} {m : Int} {c : List Int} (C : Chn ls ts wd ds m c) {x : Int} (hx : c.getLast? = some x) (he : ds.getD x.toNat 0 = tm ts (wd.getD x.toNat 0)) (hl : c.length ≤ wd.length) : Crit ls wd ts m c.reverse := by
  refine ⟨fun y hy => C.ok y (List.mem_reverse.mp hy), fun i y z h1 h2 => ?_, ?_, by rw [List.length_reverse]; exact hl⟩
  · have l2 : i + 1 < c.reverse.length := by
      rcases Nat.lt_or_ge (i + 1) c.reverse.length with q | q
      · exact q
      · rw [List.getElem?_eq_none q] at h2; cases h2
    rw [List.length_reverse] at l2
    rw [List.getElem?_reverse (by omega)] at h1 h2
    rw [show c.length - 1 - i = (c.length - 1 - (i + 1)) + 1 by omega] at h1
    exact C.adj _ _ _ h2 h1
  · rw [List.map_reverse, List.sum_reverse]
    have := C.sum x hx
    omega
def sp_critical_chain (T : Txt K mg) : Sp := fun vs H Q _ => ∃ (k : Int) (ls : Lets) (wd ts : List Int), (AlphaOk k ls ∧ WordOk ls wd ∧ wd.length ≤ 50 ∧ TOk ls ts) ∧ Prom [PAl T k ls, D K (dT wd), D K (dL ts)] [] (PCr K ls wd ts (top0 (due ls ts k wd))) [] vs H Q
theorem sp_critical_chain_len {T : Txt K mg} {vs H Q E} (h : sp_critical_chain T vs H Q E) : vs.length = 3 := by obtain ⟨_, _, _, _, _, h⟩ := h; exact h.len
set_option maxHeartbeats 4000000 in
theorem ok_critical_chain (T : Txt K mg) : FnOk P wo K mg base CX0 3 T.f_critical_chain T.d_critical_chain ["alphabet", "word", "times"] (sp_critical_chain T) := by
  have nd := (sc_critical_chain).nd
  refine T.F_critical_chain.ok sc_critical_chain (fun vs H Q E h => (sp_critical_chain_len h)) (fun cdv A outer s H vs Q E hr h => ?_)
  obtain ⟨n, ls, wd, ts, ⟨A, hw, hl, TO⟩, F, w, ps, k⟩ := h
  refine ⟨_, (pss_cons (ps_set (i := 3) nd rfl (Or.inl rfl) (pe_call (ok_ending_times T) (hr.mono (by decide)) rfl T.m_ending_times T.F_ending_times.kp T.b_ending_times .nil pass0 (pa_cons (pv 0) (pa_cons (pv 1) (pa_cons (pv 2) pa_nil)))))
    (pss_cons (ps_if (pt_cmpR op_eq (pe_callB (c_len (K := K) rfl) (by rfl) T.z_len PySem.boot_len (pa_cons (pv 3) pa_nil)) pe_int (nomark _)) (pss_one (ps_ret (pe_lst pa_nil))) pss_nil)
    (pss_cons (ps_set (i := 4) nd rfl (Or.inl rfl) (pe_lst (pa_cons (c_bm (K := K) rfl PySem.F.plainAttrs_list PySem.F.slot_list_index PySem.F.type_list_index (c_indexD (K := K) rfl (units65 hr)) (pv 3) (pa_cons (pe_callB (c_max (K := K) rfl rfl) (by rfl) T.z_max (by decide +kernel) (pa_cons (pv 3) pa_nil)) pa_nil)) pa_nil)))
    (pss_cons (ps_while PassesOwn.never (pt_cmpR op_gt (pe_ix (c_ix (K := K) rfl) (pv 3) (pe_ix (c_ix (K := K) rfl) (pv 4) (pe_un un_neg pe_int) (fun _ _ => rfl)) (fun _ _ => rfl)) (pe_ix (c_ix (K := K) rfl) (pv 2) (pe_ix (c_ix (K := K) rfl) (pv 1) (pe_ix (c_ix (K := K) rfl) (pv 4) (pe_un un_neg pe_int) (fun _ _ => rfl)) (fun _ _ => rfl)) (fun _ _ => rfl)) (nomark _)) (pss_one (ps_expr (pe_bm PySem.F.plainAttrs_list PySem.F.slot_list_append PySem.F.type_list_append mt_append (pv 4) (pa_cons (pe_call (ok__event_before T) (hr.mono (by decide)) rfl T.m__event_before T.F__event_before.kp T.b__event_before .nil pass0 (pa_cons (pv 0) (pa_cons (pv 1) (pa_cons (pv 2) (pa_cons (pv 3) (pa_cons (pe_ix (c_ix (K := K) rfl) (pv 4) (pe_un un_neg pe_int) (fun _ _ => rfl)) pa_nil)))))) pa_nil)))))
    (pss_one (ps_ret (pe_listRev rfl (by rfl) T.z_list (by rfl) T.z_reversed (pv 4)))))))), ?_⟩
  refine go_start w ps (Γ := [some (PAl T n ls), some (D K (dT wd)), some (D K (dL ts)), none, none]) rfl ?_
  have out : ∀ {c : List Int}, Crit ls wd ts (top0 (due ls ts n wd)) c → (D K (dL c)).le (PCr K ls wd ts (top0 (due ls ts n wd))) := fun {c} h => MP.le_trans (PAn.in h) (PEx.in (R := fun c : List Int => PAn (Crit ls wd ts (top0 (due ls ts n wd)) c) (D K (dL c))) c)
  have I := tim_inv A TO hw
  have dn := due_nn A TO hw
  refine (q_asg (use_ending_times (b := true) (ea_cons (ev_var rfl) (ea_cons (ev_var rfl) (ea_cons (ev_var rfl) ea_nil))) ⟨A, hw, by omega, TO⟩) ?_)
  dsimp only [List.set]
  have cnt : (due ls ts n wd).length = wd.length := I.cnt
  have bef : ∀ x : Nat, x < wd.length → tm ts (wd.getD x 0) < (due ls ts n wd).getD x 0 → ∃ f, Bfr ls wd ts (due ls ts n wd) x f := fun x hx ht => by
    have gx : wd[x]? = some (wd.getD x 0) := by rw [List.getD_eq_getElem?_getD, List.getElem?_eq_getElem hx]; rfl
    have gd : (due ls ts n wd)[x]? = some ((due ls ts n wd).getD x 0) := by rw [List.getD_eq_getElem?_getD, List.getElem?_eq_getElem (by omega)]; rfl
    obtain ⟨f, y, h1, h2, h3, h4⟩ := I.bef x _ _ gx gd ht
    refine ⟨f, h1, ?_, ?_⟩
    · show (tim ls ts n wd).2.getD f 0 = _
      rw [List.getD_eq_getElem?_getD, h3]; rfl
    · rw [show wd.getD f 0 = y by rw [List.getD_eq_getElem?_getD, h2]; rfl]; exact h4
  have atl : ∀ x : Nat, x < wd.length → tm ts (wd.getD x 0) ≤ (due ls ts n wd).getD x 0 := fun x hx => by
    have gx : wd[x]? = some (wd.getD x 0) := by rw [List.getD_eq_getElem?_getD, List.getElem?_eq_getElem hx]; rfl
    have gd : (due ls ts n wd)[x]? = some ((due ls ts n wd).getD x 0) := by rw [List.getD_eq_getElem?_getD, List.getElem?_eq_getElem (by omega)]; rfl
    exact I.pos x _ _ gx gd
  clear I
  generalize due ls ts n wd = ds at *
  refine (q_if (et_test (ev_op (ev_cb (ea_cons ((ev_var (i := 3) rfl).weak le_dL) ea_nil) (rc_len (K := K))) (ev_int (K := K) (i := 0)) rv_eqI)) (fun hz => ?_) fun hz => go_next ?_)
  · have hz : ds = [] := by
      have : ((ds.map fun n => D K (.int n)).length : Int) = 0 := by simpa using hz.symm
      rw [List.length_map] at this
      exact List.eq_nil_of_length_eq_zero (by omega)
    subst hz
    exact go_ret Le.refl ((ev_newL (K := K) (evn_lst ea_nil (by decide))).weak (MP.le_trans (dL_le (l := [])) (out ⟨fun _ h => (by cases h), fun i x y h => (by simp at h), rfl, Nat.zero_le _⟩))) k
  have hne : 0 < ds.length := by
    rcases Nat.eq_zero_or_pos ds.length with h | h
    · rw [List.length_map, h] at hz; simp at hz
    · exact h
  have mx : ∀ {Γ : Gm} {M : Ms}, Γ[3]? = some (some (D K (dL ds))) → Ev (tCB (rMax K) (tCons (tVar 3) tNil)) Γ M (D K (.int (top0 ds))) M := fun e => (ev_cb (ea_cons ((ev_var e).weak le_dL) ea_nil) (rc_max hne)).weak fun F v ⟨m, hm, h⟩ => by rw [top0_eq hm.1 hm.2 fun y hy => by have := dn y hy; omega]; exact h
  have hmem : top0 ds ∈ ds := top0_mem (fun e => by rw [e] at hne; cases hne) fun y hy => by have := dn y hy; omega
  have hix := List.idxOf_lt_length_of_mem hmem
  refine (q_asgN (evn_lst (ea_cons (ev_indexD enc_int (by decide) (ev_var (i := 3) rfl) (mx rfl) hmem) ea_nil) (by simp)) fun r hr => ?_)
  dsimp only [List.set]
  have gi : ds.getD (ds.idxOf (top0 ds)) 0 = top0 ds := by rw [List.getD_eq_getElem?_getD, List.getElem?_eq_getElem hix, List.getElem_idxOf hix]; rfl
  refine (q_while (fun m Γ M => ∃ (c : List Int) (x : Nat), Γ = [some (PAl T n ls), some (D K (dT wd)), some (D K (dL ts)), some (D K (dL ds)), some (Own r)] ∧ M = [(r, MInts K c)] ∧ m = x ∧ Chn ls ts wd ds (top0 ds) c ∧ c.getLast? = some (x : Int) ∧ x + c.length ≤ wd.length) (ds.idxOf (top0 ds)) ⟨[((ds.idxOf (top0 ds) : Nat) : Int)], _, rfl, rfl, rfl, ⟨by simp, fun y hy => ?_, fun i a b h1 h2 => by simp at h2, fun y hy => ?_⟩, rfl, ?_⟩ ?_)
  · rw [List.mem_singleton.mp hy]; omega
  · have hy : ((ds.idxOf (top0 ds) : Nat) : Int) = y := by simpa using hy
    subst hy
    simp only [List.map_cons, List.map_nil, List.sum_cons, List.sum_nil, Int.toNat_natCast, gi]
    omega
  · simp only [List.length_singleton]; omega
  rintro m _ _ ⟨c, x, rfl, rfl, rfl, C, hx, hlen⟩
  have ox := C.ok _ (List.mem_of_getLast? hx)
  have hxw : m < wd.length := by omega
  have lst : (c.map fun n => D K (.int n)).getLast? = some (D K (.int (m : Int))) := by rw [List.getLast?_map, hx]; rfl
  have ol := getD_ok hw hxw
  have ech : ∀ {Γ : Gm}, Γ[4]? = some (some (Own r)) → Ev (tOp (rIx K) (tVar 4) (tUn (rU fun i => .int (-i)) (tC (.int 1)))) Γ [(r, MInts K c)] (D K (.int (m : Int))) [(r, MInts K c)] := fun e => ev_op (ev_var e) (ev_neg (ev_int (K := K) (i := 1))) (rv_ixEnd (j := 0) rfl lst)
  refine ⟨_, _, et_test (ev_op (ev_op (ev_var (i := 3) rfl) (ech rfl) (rv_ixDL (K := K) (ds := ds.map PyData.int) (by omega) (i_d (by omega)))) (ev_op (ev_var (i := 2) rfl) (ev_op (ev_var (i := 1) rfl) (ech rfl) (rv_ixDT (K := K) (ds := wd.map PyData.int) (by omega) (i_d hxw))) (rv_ixDL (K := K) (ds := ts.map PyData.int) (d := .int (tm ts (wd.getD m 0))) ol.1 (by rw [List.getElem?_map, TO.get ol.1 ol.2]; rfl))) (rv_b0 (g := fun i j => decide (i > j)))), fun hz => ?_, fun hz => ?_⟩
  · have hz := of_decide_eq_true hz.symm
    have clen : c.length ≤ 50 := by omega
    refine go_appE (j := 0) (φ := Bfr ls wd ts ds m) (R := fun f : Nat => D K (.int (f : Int))) (ev_var (i := 4) rfl) (use__event_before (ea_cons (ev_var (i := 0) rfl) (ea_cons (ev_var (i := 1) rfl) (ea_cons (ev_var (i := 2) rfl) (ea_cons (ev_var (i := 3) rfl) (ea_cons (ech rfl) ea_nil))))) ⟨A, hw, TO, by omega, hxw, bef m hxw (by omega)⟩) rfl rfl (by rw [List.length_map]; omega) fun f hf => JA.of ⟨f, hf.1, c ++ [(f : Int)], f, rfl, ?_, rfl, C.snoc hx (by omega) (by have := hf.1; omega) (by rw [Int.toNat_natCast, Int.toNat_natCast]; exact hf.2.2) (by rw [Int.toNat_natCast, Int.toNat_natCast]; exact hf.2.1), by simp, ?_⟩
    · simp only [MInts, List.map_append, List.map_cons, List.map_nil]; rfl
    · have := hf.1
      rw [List.length_append, List.length_singleton]; omega
  · have hz := of_decide_eq_false hz.symm
    have := atl m hxw
    have cr : Crit ls wd ts (top0 ds) c.reverse := C.done hx (by rw [Int.toNat_natCast]; omega) (by omega)
    refine go_ret Le.refl (P := PCr K ls wd ts (top0 ds)) ((ev_newL (K := K) ((evn_listRevO (ps := c.map fun n => D K (.int n)) (ev_var (i := 4) rfl) (j := 0) rfl).is ?_)).weak (MP.le_trans (dL_le (l := c.reverse)) (out cr))) (Rt.drop (List.nil_sublist _) k)
    rw [List.map_reverse]
theorem use_critical_chain {T : Txt K mg} {tr : TA} {Γ : Gm} {M M1 : Ms} {k : Int} {ls : Lets} {wd ts : List Int} {X : XK} (h : EvA tr Γ M [PAl T k ls, D K (dT wd), D K (dL ts)] M1) (hn : AlphaOk k ls ∧ WordOk ls wd ∧ wd.length ≤ 50 ∧ TOk ls ts) : Ev (tCall (sp_critical_chain T) [] X tr) Γ M (PCr K ls wd ts (top0 (due ls ts k wd))) M1 :=
  call0 h fun vs H Q z => ⟨k, ls, wd, ts, hn, z⟩
/-! ### law -/
theorem sc_law : FnScope ["script", "draws", "count", "letters", "alphabet", "word", "times", "clock", "due", "letter", "end", "place", "found", "most", "chain", "k"] ["script"] (defScope s_law) := ⟨rfl, rfl, rfl, by decide +kernel, rfl, by decide +kernel, by decide +kernel⟩
def spLaw (K : PySem.W.Frag) : Sp := fun vs H Q _ => ∃ (a : Addr) (ns : List Int), vs = [.ref a] ∧ SqL K H a (ns.map V.int) ∧ ns.length ≤ 63 ∧ ∀ H', Q (.bl true) H'
def sp_law (T : Txt K mg) : Sp := spLaw K
theorem sp_law_len {T : Txt K mg} {vs H Q E} (h : sp_law T vs H Q E) : vs.length = 1 := by obtain ⟨a, ns, rfl, _⟩ := h; rfl
set_option maxHeartbeats 4000000 in
theorem ok_law (T : Txt K mg) : FnOk P wo K mg base CX0 4 T.f_law T.d_law ["script"] (sp_law T) := by
  have nd := (sc_law).nd
  refine T.F_law.ok sc_law (fun vs H Q E h => (sp_law_len h)) (fun cdv A outer s H vs Q E hr h => ?_)
  obtain ⟨a0, ns, rfl, hS, hns, k0⟩ := h
  have w : Wd H [] H := ⟨Evl.Ex.refl _, List.nodup_nil, fun r hr => by cases hr⟩
  have ps : Ps H [.ref a0] [PLi K (ns.map fun n => D K (.int n))] := .cons ⟨a0, _, rfl, hS, map_ints ns⟩ .nil
  have k : ∀ M, Rt ⟨H, H, keys []⟩ M (D K (.bool true)) Q := fun M v F H' _ hv => by cases dp_bl hv; exact k0 H'
  refine ⟨_, (pss_cons (ps_set (i := 1) nd rfl (Or.inr rfl) (pe_call (ok__law_draws T) (hr.mono (by decide)) rfl T.m__law_draws T.F__law_draws.kp T.b__law_draws .nil pass0 (pa_cons (pv 0) (pa_cons pe_int pa_nil))))
    (pss_cons (ps_asg (pe_call (ok__law_alphabet T) (hr.mono (by decide)) rfl T.m__law_alphabet T.F__law_alphabet.kp T.b__law_alphabet .nil pass0 (pa_cons (pv 1) (pa_cons pe_int (pa_cons pe_int pa_nil)))) (pg_tupK (K := K) (n := 2) rfl (by rfl) (pgs_cons (pg_name (i := 2) nd rfl (by first | exact Or.inl rfl | exact Or.inr rfl)) (pgs_cons (pg_name (i := 3) nd rfl (by first | exact Or.inl rfl | exact Or.inr rfl)) pgs_nil))))
    (pss_cons (ps_set (i := 4) nd rfl (Or.inl rfl) (pe_make ⟨T.mk_Alphabet, T.in_Alphabet, T.if_Alphabet, T.kc_Alphabet⟩ (ok_Alphabet_init T) (hr.mono (by decide)) rfl T.mc_Alphabet T.b_Alphabet_init .nil pass0 (pa_cons (pv 2) (pa_cons (pe_callTy (c_list (K := K) rfl) (by rfl) T.z_list (by decide +kernel) (pa_cons (pv 3) pa_nil)) pa_nil))))
    (pss_cons (ps_set (i := 5) nd rfl (Or.inr rfl) (pe_call (ok__law_word T) (hr.mono (by decide)) rfl T.m__law_word T.F__law_word.kp T.b__law_word .nil pass0 (pa_cons (pv 1) (pa_cons (pe_callB (c_len (K := K) rfl) (by rfl) T.z_len PySem.boot_len (pa_cons (pv 3) pa_nil)) (pa_cons pe_int pa_nil)))))
    (pss_cons (ps_set (i := 6) nd rfl (Or.inr rfl) (pe_lc (own := [("letter", 9)]) (by rfl) nd (pi_listK (K := K) rfl (pv 3)) (blkOk_by (N := ["script", "draws", "count", "letters", "alphabet", "word", "times", "clock", "due", "letter", "end", "place", "found", "most", "chain", "k"]) (sc := defScope s_law) (own := [("letter", 9)]) (by decide +kernel)) (fun _ _ _ _ _ => pg_name (i := 9) nd rfl (by first | exact Or.inl rfl | exact Or.inr rfl)) (fun _ _ _ _ _ => pts_nil) (fun _ _ _ _ _ => (pe_op op_add pe_int (pe_call (ok__law_take T) (hr.mono (by decide)) rfl T.m__law_take T.F__law_take.kp T.b__law_take .nil pass0 (pa_cons (pv 1) (pa_cons pe_int pa_nil)))))))
    (Evl.pss_cut (ps_if (pt_cmpR op_eq (pe_call (ok__law_take T) (hr.mono (by decide)) rfl T.m__law_take T.F__law_take.kp T.b__law_take .nil pass0 (pa_cons (pv 1) (pa_cons pe_int pa_nil))) pe_int (nomark _)) (pss_one (ps_asg (pe_op op_add pe_int (pe_op op_mod (pe_callB call_abs (by rfl) T.z_abs (by decide +kernel) (pa_cons (pe_callTy call_int1 (by rfl) T.z_int (by decide +kernel) (pa_cons (pe_call (ok__law_cell T) (hr.mono (by decide)) rfl T.m__law_cell T.F__law_cell.kp T.b__law_cell .nil pass0 (pa_cons (pv 0) (pa_cons pe_int pa_nil))) pa_nil)) pa_nil)) (pe_op op_pow pe_int pe_int))) (pg_sub (pv 6) pe_int set_list))) pss_nil)
    (pss_cons (ps_set (i := 7) nd rfl (Or.inr rfl) (pe_op op_rep (pe_lst (pa_cons pe_int pa_nil)) (pv 2)))
    (pss_cons (ps_set (i := 8) nd rfl (Or.inl rfl) (pe_lst pa_nil))
    (pss_cons (ps_for PassesOwn.never rfl (pi_tupK (K := K) rfl (pv 5)) (pg_name (i := 9) nd rfl (by first | exact Or.inl rfl | exact Or.inr rfl))
     (pss_cons (ps_set (i := 10) nd rfl (Or.inl rfl) (pe_op op_add (pe_callB (c_max (K := K) rfl rfl) (by rfl) T.z_max (by decide +kernel) (pa_cons (pe_lc (own := [("place", 11)]) (by rfl) nd (pi_tupK (K := K) rfl (pe_ix (c_ix (K := K) rfl) (pv 3) (pv 9) (fun _ _ => rfl))) (blkOk_by (N := ["script", "draws", "count", "letters", "alphabet", "word", "times", "clock", "due", "letter", "end", "place", "found", "most", "chain", "k"]) (sc := defScope s_law) (own := [("place", 11)]) (by decide +kernel)) (fun _ _ _ _ _ => pg_name (i := 11) nd rfl (by first | exact Or.inl rfl | exact Or.inr rfl)) (fun _ _ _ _ _ => pts_nil) (fun _ _ _ _ _ => (pe_ix (c_ix (K := K) rfl) (pv 7) (pv 11) (fun _ _ => rfl)))) pa_nil)) (pe_ix (c_ix (K := K) rfl) (pv 6) (pv 9) (fun _ _ => rfl))))
     (pss_cons (ps_for PassesOwn.never rfl (pi_tupK (K := K) rfl (pe_ix (c_ix (K := K) rfl) (pv 3) (pv 9) (fun _ _ => rfl))) (pg_name (i := 11) nd rfl (by first | exact Or.inl rfl | exact Or.inr rfl))
      (pss_one (ps_asg (pv 10) (pg_sub (pv 7) (pv 11) set_list))))
     (pss_one (ps_expr (pe_bm PySem.F.plainAttrs_list PySem.F.slot_list_append PySem.F.type_list_append mt_append (pv 8) (pa_cons (pv 10) pa_nil)))))))
    (pss_cons (ps_set (i := 12) nd rfl (Or.inl rfl) (pe_call (ok_ending_times T) (hr.mono (by decide)) rfl T.m_ending_times T.F_ending_times.kp T.b_ending_times .nil pass0 (pa_cons (pv 4) (pa_cons (pv 5) (pa_cons (pe_callTy (c_list (K := K) rfl) (by rfl) T.z_list (by decide +kernel) (pa_cons (pv 6) pa_nil)) pa_nil)))))
    (pss_cons (ps_if (PW.pt (pw_or (pt_not (pt_val (pe_callB (c_isi (K := K) rfl) (by rfl) T.z_isinstance (by decide +kernel) (pa_cons (pv 12) (pa_cons (pe_bltn (v := .ty "list") (by rfl) T.z_list (by decide +kernel) rfl) pa_nil))))) (pw_or1 (pt_cmpR (c_ne (K := K) rfl hr.units) (pv 12) (pv 8) (nomark _))))) (pss_one (ps_ret pe_bl)) pss_nil)
    (pss_cons (ps_set (i := 13) nd rfl (Or.inl rfl) (pe_callB (c_max (K := K) rfl rfl) (by rfl) T.z_max (by decide +kernel) (pa_cons (pe_op op_cat (pv 8) (pe_lst (pa_cons pe_int pa_nil))) pa_nil)))
    (pss_cons (ps_if (pt_cmpR op_ne (pe_call (ok_least_time T) (hr.mono (by decide)) rfl T.m_least_time T.F_least_time.kp T.b_least_time .nil pass0 (pa_cons (pv 4) (pa_cons (pe_callTy (c_list (K := K) rfl) (by rfl) T.z_list (by decide +kernel) (pa_cons (pv 5) pa_nil)) (pa_cons (pe_callTy (c_list (K := K) rfl) (by rfl) T.z_list (by decide +kernel) (pa_cons (pv 6) pa_nil)) pa_nil)))) (pv 13) (nomark _)) (pss_one (ps_ret pe_bl)) pss_nil)
    (pss_cons (ps_if (pt_cmpR op_ne (pe_call (ok_least_time T) (hr.mono (by decide)) rfl T.m_least_time T.F_least_time.kp T.b_least_time .nil pass0 (pa_cons (pv 4) (pa_cons (pe_call (ok__law_shuffled T) (hr.mono (by decide)) rfl T.m__law_shuffled T.F__law_shuffled.kp T.b__law_shuffled .nil pass0 (pa_cons (pv 1) (pa_cons (pv 3) (pa_cons (pv 5) (pa_cons pe_int pa_nil))))) (pa_cons (pe_callTy (c_list (K := K) rfl) (by rfl) T.z_list (by decide +kernel) (pa_cons (pv 6) pa_nil)) pa_nil)))) (pv 13) (nomark _)) (pss_one (ps_ret pe_bl)) pss_nil)
    (pss_cons (ps_set (i := 14) nd rfl (Or.inl rfl) (pe_call (ok_critical_chain T) (hr.mono (by decide)) rfl T.m_critical_chain T.F_critical_chain.kp T.b_critical_chain .nil pass0 (pa_cons (pv 4) (pa_cons (pv 5) (pa_cons (pe_callTy (c_list (K := K) rfl) (by rfl) T.z_list (by decide +kernel) (pa_cons (pv 6) pa_nil)) pa_nil)))))
    (pss_cons (ps_if (PW.pt (pw_or (pt_not (pt_val (pe_callB (c_isi (K := K) rfl) (by rfl) T.z_isinstance (by decide +kernel) (pa_cons (pv 14) (pa_cons (pe_bltn (v := .ty "list") (by rfl) T.z_list (by decide +kernel) rfl) pa_nil))))) (pw_or1 (pt_cmpR op_gt (pe_callB (c_len (K := K) rfl) (by rfl) T.z_len PySem.boot_len (pa_cons (pe_lc (own := [("k", 15)]) (by rfl) nd (pi_listK (K := K) rfl (pv 14)) (blkOk_by (N := ["script", "draws", "count", "letters", "alphabet", "word", "times", "clock", "due", "letter", "end", "place", "found", "most", "chain", "k"]) (sc := defScope s_law) (own := [("k", 15)]) (by decide +kernel)) (fun _ _ _ _ _ => pg_name (i := 15) nd rfl (by first | exact Or.inl rfl | exact Or.inr rfl)) (fun _ _ _ _ _ => (pts_one (PW.pt (pw_or (pt_not (pt_val (pe_call (ok__law_is_integer T) (hr.mono (by decide)) rfl T.m__law_is_integer T.F__law_is_integer.kp T.b__law_is_integer .nil pass0 (pa_cons (pv 15) pa_nil)))) (pw_or (pt_cmpR op_lt (pv 15) pe_int (nomark _)) (pw_or1 (pt_cmpR op_ge (pv 15) (pe_callB (c_len (K := K) rfl) (by rfl) T.z_len PySem.boot_len (pa_cons (pv 5) pa_nil)) (nomark _)))))))) (fun _ _ _ _ _ => (pv 15))) pa_nil)) pe_int (nomark _))))) (pss_one (ps_ret pe_bl)) pss_nil)
    (pss_cons (ps_for PassesOwn.never rfl (pi_range2 (by rfl) T.z_range (pa_cons pe_int (pa_cons (pe_callB (c_len (K := K) rfl) (by rfl) T.z_len PySem.boot_len (pa_cons (pv 14) pa_nil)) pa_nil))) (pg_name (i := 15) nd rfl (by first | exact Or.inl rfl | exact Or.inr rfl))
     (pss_one (ps_if (PW.pt (pw_or (pt_cmpR op_ge (pe_ix (c_ix (K := K) rfl) (pv 14) (pe_op op_sub (pv 15) pe_int) (fun _ _ => rfl)) (pe_ix (c_ix (K := K) rfl) (pv 14) (pv 15) (fun _ _ => rfl)) (nomark _)) (pw_or1 (pt_val (pe_call (ok__law_free T) (hr.mono (by decide)) rfl T.m__law_free T.F__law_free.kp T.b__law_free .nil pass0 (pa_cons (pv 3) (pa_cons (pe_ix (c_ix (K := K) rfl) (pv 5) (pe_ix (c_ix (K := K) rfl) (pv 14) (pe_op op_sub (pv 15) pe_int) (fun _ _ => rfl)) (fun _ _ => rfl)) (pa_cons (pe_ix (c_ix (K := K) rfl) (pv 5) (pe_ix (c_ix (K := K) rfl) (pv 14) (pv 15) (fun _ _ => rfl)) (fun _ _ => rfl)) pa_nil)))))))) (pss_one (ps_ret pe_bl)) pss_nil)))
    (pss_one (ps_ret (pe_cmpR op_eq (pe_callB (c_sum (K := K) rfl rfl) (by rfl) T.z_sum (by decide +kernel) (pa_cons (pe_lc (own := [("k", 15)]) (by rfl) nd (pi_listK (K := K) rfl (pv 14)) (blkOk_by (N := ["script", "draws", "count", "letters", "alphabet", "word", "times", "clock", "due", "letter", "end", "place", "found", "most", "chain", "k"]) (sc := defScope s_law) (own := [("k", 15)]) (by decide +kernel)) (fun _ _ _ _ _ => pg_name (i := 15) nd rfl (by first | exact Or.inl rfl | exact Or.inr rfl)) (fun _ _ _ _ _ => pts_nil) (fun _ _ _ _ _ => (pe_ix (c_ix (K := K) rfl) (pv 6) (pe_ix (c_ix (K := K) rfl) (pv 5) (pv 15) (fun _ _ => rfl)) (fun _ _ => rfl)))) pa_nil)) (pv 13) (nomark _))))))))))))))))))))), ?_⟩
  refine go_start w ps (Γ := [some (PLi K (ns.map fun n => D K (.int n))), none, none, none, none, none, none, none, none, none, none, none, none, none, none, none]) rfl ?_
  refine (q_asgN (use__law_draws (ea_cons (ev_var rfl) (ea_cons (ev_int (K := K)) ea_nil)) (by decide) (by decide) (by omega)) fun d hd => ?_)
  have ec : ∀ {Γ : Gm} {M : Ms}, Γ[0]? = some (some (PLi K (ns.map fun n => D K (.int n)))) → Ev (tCall (sp__law_cell T) [] E0 (tCons (tVar 0) (tCons (tC (.int 0)) tNil))) Γ M (PEx fun z : Int => PAn True (D K (.int z))) M := fun h => use__law_cell (c := 0) (ea_cons (ev_var h) (ea_cons (ev_int (K := K) (i := 0)) ea_nil))
  generalize PLi K (ns.map fun n => D K (.int n)) = S at *
  refine (q_unp2 (φ := fun x : Int × Lets => AlphaOk x.1 x.2 ∧ x.1 ≤ 4 ∧ (x.2.length : Int) ≤ 5) (R1 := fun x => D K (.int x.1)) (R2 := fun x => D K (dLT x.2)) ((use__law_alphabet (ea_cons (ev_var rfl) (ea_cons (ev_int (K := K)) (ea_cons (ev_int (K := K)) ea_nil))) (by decide) (j := 0) rfl).weak (PEx.le fun x => PAn.le fun _ => D_PTu)) fun x hx => ?_)
  obtain ⟨n, ls⟩ := x
  obtain ⟨A, n4, l6⟩ := hx
  dsimp only at A n4 l6
  have n1 := A.k1
  have ll := A.l1
  have llen : ∀ l ∈ ls, l.length ≤ 1000 := fun l hl => by
    obtain ⟨_, h2, h3⟩ := A.ok l hl
    have := pw_len h2 h3 (by omega)
    omega
  have evlen : ∀ {Γ : Gm} {M : Ms}, Γ[3]? = some (some (D K (dLT ls))) → Ev (tCB (rLn K) (tCons (tVar 3) tNil)) Γ M (D K (.int ls.length)) M := fun e => ev_lenM (f := dT) (ev_var e)
  have tk : ∀ {Γ : Gm} {M : Ms} {j : Nat} {te : TE} {z : Int}, Γ[1]? = some (some (Own d)) → M[j]? = some (d, MDr K) → Ev te Γ M (D K (.int z)) M → 0 < z → Ev (tCall (sp__law_take T) [] E0 (tCons (tVar 1) (tCons te tNil))) Γ M (PIn K 0 z) M := fun {Γ M j te z} e em h hz => use__law_take (j := j) (ea_cons (ev_var e) (ea_cons h ea_nil)) hz em
  dsimp only [List.set]
  refine (q_asg (use_Alphabet (ea_cons (ev_var (i := 2) rfl) (ea_cons (ev_newL (evn_cb (ea_cons ((ev_var (i := 3) rfl).weak le_Lm) ea_nil) rcn_listL)) ea_nil)) A) ?_)
  dsimp only [List.set]
  refine (q_asg (use__law_word (ea_cons (ev_var (i := 1) rfl) (ea_cons (evlen rfl) (ea_cons (ev_int (K := K) (i := 10)) ea_nil))) (by omega) (j := 0) rfl) (nx_ex (i := 5) rfl fun wd => nx_an (i := 5) rfl fun hwd => ?_))
  obtain ⟨hl, hok⟩ := hwd
  have hok : WordOk ls wd := hok
  dsimp only [List.set]
  have lc := evn_lcL (K := K) (xs := ls) (R := fun l => D K (dT l)) (G := fun _ => PIn K (1 + 0) (1 + 9)) (i := 9) (M := [(d, MDr K)]) (M1 := [(d, MDr K)]) (Γ := [some S, some (Own d), some (D K (.int n)), some (D K (dLT ls)), some (PAl T n ls), some (D K (dT wd)), none, none, none, none, none, none, none, none, none, none]) (fun _ => true) ((ev_var (i := 3) rfl).weak le_Lm) (by omega) (fun _ _ => et_yes)
    (fun _ _ _ => ev_op (ev_int (K := K) (i := 1)) (tk (j := 0) rfl rfl (ev_int (K := K) (i := 9)) (by decide)) rv_addIn)
  rw [filter_true, map_const] at lc
  refine (q_asgN ((lc.weak ml_name).weak (O' := MX fun ts : List Int => MA (TOk ls ts) (MInts K ts)) fun F o ⟨xs, h, q⟩ => ⟨xs, ⟨h.1, fun t ht => by have := h.2 t ht; omega⟩, q⟩) fun t ht => nx_openX (j := 0) rfl fun ts0 TO0 => ?_)
  dsimp only [List.set]
  refine go_cut (fun Γ M => ∃ ts : List Int, TOk ls ts ∧ Γ = [some S, some (Own d), some (D K (.int n)), some (D K (dLT ls)), some (PAl T n ls), some (D K (dT wd)), some (Own t), none, none, none, none, none, none, none, none, none] ∧ M = [(t, MInts K ts), (d, MDr K)]) ?_ ?rest
  · refine go_if (et_testX (φ := fun _ => True) (ev_op (tk (j := 1) rfl rfl (ev_int (K := K) (i := 4)) (by decide)) (ev_int (K := K) (i := 0)) rv_eqX)) (fun _ => ?_) fun _ => go_next (JA.of ⟨ts0, TO0, rfl, rfl⟩)
    refine go_setLE (j := 0) (φ := fun z : Int => 1 ≤ z) (R := fun z : Int => D K (.int z)) (ev_op (P2 := PEx fun z : Int => PAn (0 ≤ z) (D K (.int z))) (ev_int (K := K) (i := 1)) (ev_op (P1 := PEx fun z : Int => PAn True (D K (.int z))) (ev_cbX1 (φ := fun _ : Int => True) (R := fun z : Int => D K (.int z)) (ev_cbX1 (φ := fun _ : Int => True) (R := fun z : Int => D K (.int z)) (ec rfl) fun z _ => rc_int.weak (MP.le_trans (PAn.in trivial) (PEx.in (R := fun z : Int => PAn True (D K (.int z))) z))) fun z _ => rc_abs.weak (MP.le_trans (PAn.in trivial) (PEx.in (R := fun z : Int => PAn True (D K (.int z))) _))) (ev_op (ev_int (K := K) (i := 10)) (ev_int (K := K) (i := 20)) (rv_ic (g := fun i j => i ^ j.toNat) ⟨by decide, by decide, by decide⟩)) (RV.ex1 fun z => RV.an1 fun _ => (rv_ic (g := fun i j => i % j) (by decide)).weak (MP.le_trans (PAn.in (Int.emod_nonneg _ (by decide))) (PEx.in (R := fun z : Int => PAn (0 ≤ z) (D K (.int z))) _)))) (RV.ex2 fun z => RV.an2 fun hz => (rv_i0 (g := fun i j => i + j)).weak (MP.le_trans (PAn.in (show 1 ≤ 1 + z by omega)) (PEx.in (R := fun t : Int => PAn (1 ≤ t) (D K (.int t))) (1 + z))))) (ev_var (i := 6) rfl) (ev_int (K := K) (i := 0)) rfl (by decide) (by rw [List.length_map, TO0.1]; exact ll) fun z hz => JA.of ⟨ts0.set 0 z, ⟨by rw [List.length_set]; exact TO0.1, fun y hy => ?_⟩, rfl, ?_⟩
    · rcases List.mem_or_eq_of_mem_set hy with h | h
      · exact TO0.2 y h
      · rw [h]; exact hz
    · simp [MInts, List.map_set]
  case rest =>
    rintro _ _ ⟨ts, TO, rfl, rfl⟩
    clear lc
    refine nx_own (K := K) (i := 6) (j := 0) rfl ht rfl ?_
    dsimp only [List.set, List.eraseIdx]
    have hl10 : wd.length ≤ 10 := by omega
    have repn := evn_rep (K := K) (M := [(d, MDr K)]) (M1 := [(d, MDr K)]) (Γ := [some S, some (Own d), some (D K (.int n)), some (D K (dLT ls)), some (PAl T n ls), some (D K (dT wd)), some (D K (dL ts)), none, none, none, none, none, none, none, none, none]) (P := D K (.int 0)) (z := n) (evn_lst (ea_cons (ev_int (K := K)) ea_nil) (by simp)) (fun M => ev_var (i := 2) rfl) (by omega)
    refine (q_asgN (repn.is (show ML (List.replicate n.toNat (D K (.int 0))) = MInts K (List.replicate n.toNat 0) by simp [MInts])) fun h0 hh0 => ?_)
    refine (q_asgN (evn_lst ea_nil (by decide)) fun r hr => ?_)
    show Nx _ [some S, some (Own d), some (D K (.int n)), some (D K (dLT ls)), some (PAl T n ls), some (D K (dT wd)), some (D K (dL ts)), some (Own h0), some (Own r), none, none, none, none, none, none, none] [(r, MInts K []), (h0, MInts K (List.replicate n.toNat 0)), (d, MDr K)] _
    refine (q_forT ((ev_var (i := 5) rfl).weak le_dT) (fun i Γ M => ∃ (g9 g10 g11 : Option MP), Γ = [some S, some (Own d), some (D K (.int n)), some (D K (dLT ls)), some (PAl T n ls), some (D K (dT wd)), some (D K (dL ts)), some (Own h0), some (Own r), g9, g10, g11, none, none, none, none] ∧
      M = [(r, MInts K (tim ls ts n (wd.take i)).2), (h0, MInts K (tim ls ts n (wd.take i)).1), (d, MDr K)]) ⟨_, _, _, rfl, rfl⟩ ?_ ?_)
    · rintro E1 hE i P hP _ _ ⟨g9, g10, g11, rfl, rfl⟩
      rw [List.getElem?_map] at hP
      obtain ⟨a, hi, rfl⟩ := Option.map_eq_some_iff.mp hP
      have ha := hok a (List.mem_of_getElem? hi)
      have I := tim_inv A TO (fun x hx => hok x (List.mem_of_mem_take hx) : WordOk ls (wd.take i))
      have step : tim ls ts n (wd.take (i + 1)) = tstep ls ts (tim ls ts n (wd.take i)) a := by
        rw [List.take_add_one, hi]; exact tim_snoc
      obtain ⟨pne, _, pok⟩ := A.ok _ (pl_mem ha.1 ha.2)
      have hcnt := I.cnt
      rw [List.length_take] at hcnt
      generalize hs0 : tim ls ts n (wd.take i) = s at *
      obtain ⟨hs, ds⟩ := s
      dsimp only at *
      have hsl : hs.length = n.toNat := I.len
      have htm : hts ls hs a ≠ [] := by simp [hts, pne]
      have ht0 : ∀ y ∈ hts ls hs a, 0 ≤ y := fun y hy => by
        obtain ⟨p, hp, rfl⟩ := List.mem_map.mp hy
        exact I.nn p.toNat
      have hpl : (ls.map dT)[a.toNat]? = some (dT (pl ls a)) := by rw [List.getElem?_map, pl_get ha.1 ha.2]; rfl
      dsimp only [List.set]
      have lc := evn_lcT (K := K) (xs := pl ls a) (R := fun x => D K (.int x)) (G := fun p => D K (.int (hs.getD p.toNat 0))) (i := 11) (M := [(r, MInts K ds), (h0, MInts K hs), (d, MDr K)]) (M1 := [(r, MInts K ds), (h0, MInts K hs), (d, MDr K)]) (Γ := [some S, some (Own d), some (D K (.int n)), some (D K (dLT ls)), some (PAl T n ls), some (D K (dT wd)), some (D K (dL ts)), some (Own h0), some (Own r), some (D K (.int a)), g10, g11, none, none, none, none]) (fun _ => true) ((ev_op (ev_var (i := 3) rfl) (ev_var (i := 9) rfl) (rv_ixDL (K := K) (ds := ls.map dT) ha.1 hpl)).weak le_dT) (by have := pw_len (A.ok _ (pl_mem ha.1 ha.2)).2.1 pok (by omega); omega) (fun _ _ => et_yes)
        (fun p hp _ => ev_op (ev_var (i := 7) rfl) (ev_var (i := 11) rfl) (rv_ixO (j := 1) rfl (pok p hp).1 (by
          have hp2 : p.toNat < hs.length := by have := pok p hp; omega
          rw [List.getElem?_map, List.getD_eq_getElem?_getD, List.getElem?_eq_getElem hp2]; rfl)))
      rw [filter_true] at lc
      have lc2 : EvN _ _ _ (MInts K (hts ls hs a)) _ := lc.is (by unfold MInts hts; rw [List.map_map]; rfl)
      have mx : Ev _ _ _ (D K (.int (top0 (hts ls hs a)))) _ := (ev_cb (ea_cons (ev_newL lc2) ea_nil) (rc_max (by rw [List.length_pos_iff]; exact htm))).weak fun F v ⟨m, hm, h⟩ => by rw [top0_eq hm.1 hm.2 ht0]; exact h
      refine (q_asg (ev_op mx (ev_op (ev_var (i := 6) rfl) (ev_var (i := 9) rfl) (rv_ixDL (K := K) (ds := ts.map PyData.int) (d := .int (tm ts a)) ha.1 (by rw [List.getElem?_map, TO.get ha.1 ha.2]; rfl))) (rv_i0 (g := fun i j => i + j))) ?_)
      dsimp only [List.set]
      refine (q_forT ((ev_op (ev_var (i := 3) rfl) (ev_var (i := 9) rfl) (rv_ixDL (K := K) (ds := ls.map dT) ha.1 hpl)).weak le_dT) (fun j Γ M => ∃ g11 : Option MP, Γ = [some S, some (Own d), some (D K (.int n)), some (D K (dLT ls)), some (PAl T n ls), some (D K (dT wd)), some (D K (dL ts)), some (Own h0), some (Own r), some (D K (.int a)), some (D K (.int (top0 (hts ls hs a) + tm ts a))), g11, none, none, none, none] ∧
          M = [(r, MInts K ds), (h0, MInts K (setAll hs ((pl ls a).take j) (top0 (hts ls hs a) + tm ts a))), (d, MDr K)]) ⟨g11, rfl, rfl⟩ ?_ ?_)
      · rintro E2 hE2 j P hP _ _ ⟨g11, rfl, rfl⟩
        rw [List.getElem?_map] at hP
        obtain ⟨p, hp, rfl⟩ := Option.map_eq_some_iff.mp hP
        have hp2 := pok p (List.mem_of_getElem? hp)
        refine go_setL (j := 1) (ev_var (i := 10) rfl) (ev_var (i := 7) rfl) (ev_var (i := 11) rfl) rfl hp2.1 (by rw [List.length_map, setAll_len]; omega) (JA.of ⟨_, rfl, ?_⟩)
        rw [List.take_add_one, hp]
        unfold setAll
        rw [List.foldl_append]
        simp [MInts, List.map_set]
      · rintro _ _ ⟨g11, rfl, rfl⟩
        rw [List.length_map, List.take_length]
        refine go_app (j := 0) (ev_var (i := 8) rfl) (ev_var (i := 10) rfl) rfl rfl (by rw [List.length_map]; omega) (JA.of ⟨_, _, _, rfl, ?_⟩)
        rw [step]
        show _ = [(r, MInts K (ds ++ [_])), (h0, MInts K (setAll hs (pl ls a) _)), (d, MDr K)]
        simp only [MInts, List.map_append, List.map_cons, List.map_nil, List.set]
    · rintro _ _ ⟨g9, g10, g11, rfl, rfl⟩
      rw [List.length_map, List.take_length]
      refine nx_freezeFr (i := 8) 0 rfl hr rfl ?_
      dsimp only [List.set, List.eraseIdx]
      have dn := due_nn A TO hok
      have cnt : (due ls ts n wd).length = wd.length := (tim_inv A TO hok).cnt
      have bsw := @due_swp ls ts n wd
      show Nx _ [some S, some (Own d), some (D K (.int n)), some (D K (dLT ls)), some (PAl T n ls), some (D K (dT wd)), some (D K (dL ts)), some (Own h0), some (Fr (MInts K (due ls ts n wd))), g9, g10, g11, none, none, none, none] [(h0, MInts K (tim ls ts n wd).1), (d, MDr K)] _
      generalize MInts K (tim ls ts n wd).1 = O1
      have etm : ∀ {Γ : Gm} {M : Ms}, Γ[6]? = some (some (D K (dL ts))) → Ev (tCB (rList K) (tCons (tVar 6) tNil)) Γ M (D K (dL ts)) M := fun e => (ev_newL (evn_cb (ea_cons ((ev_var e).weak le_dL) ea_nil) rcn_listL)).weak dL_le
      refine (q_asg (use_ending_times (wd := wd) (ts := ts) (b := true) (ea_cons (ev_var (i := 4) rfl) (ea_cons (ev_var (i := 5) rfl) (ea_cons (etm rfl) ea_nil))) ⟨A, hok, by omega, TO⟩) ?_)
      dsimp only [List.set]
      refine (q_if (et_or (et_not (et_val (ev_cb (ea_cons (ev_var (i := 12) rfl) (ea_cons ev_pv ea_nil)) (rc_isi (d := dL (due ls ts n wd)) (b := true) (by show kitB "list" "list" = some true; decide +kernel))))) fun _ => et_test (ev_op (ev_var (i := 12) rfl) ((ev_var (i := 8) rfl).weak (MP.le_trans fr_L dL_le)) (rv_neE enc_dL (by decide)))) (fun hz => absurd hz (by simp)) fun _ => go_next ?_)
      refine (q_asg (P := D K (.int (top0 (due ls ts n wd)))) ((ev_cb (P := PEx fun m : Int => PAn (m ∈ due ls ts n wd ++ [0] ∧ ∀ y ∈ due ls ts n wd ++ [0], y ≤ m) (D K (.int m))) (ea_cons ((ev_newL (evn_catFr (ps := (due ls ts n wd).map fun n => D K (.int n)) (qs := [D K (.int 0)]) (ev_var (i := 8) rfl) (ev_fr (evn_lst (ea_cons (ev_int (K := K)) ea_nil) (by simp))) (by rw [List.length_map, List.length_singleton]; omega))).is (show PLi K _ = PLi K ((due ls ts n wd ++ [0]).map fun n => D K (.int n)) by rw [List.map_append]; rfl)) ea_nil) (rc_max (by simp))).weak fun F v ⟨m, hm, h⟩ => ?_) ?_)
      · have e1 := top0_eq hm.1 hm.2 fun y hy => by
          rcases List.mem_append.mp hy with h | h
          · have := dn y h; omega
          · rw [List.mem_singleton.mp h]; exact Int.le_refl _
        have e2 := top0_snoc (due ls ts n wd) 0
        have e3 := top0_nn (due ls ts n wd)
        rw [show top0 (due ls ts n wd) = m by omega]
        exact h
      dsimp only [List.set]
      refine (q_if (et_test (ev_op (use_least_time (wd := wd) (ts := ts) (b := false) (ea_cons (ev_var (i := 4) rfl) (ea_cons ((ev_newL (evn_cb (ea_cons ((ev_var (i := 5) rfl).weak le_dT) ea_nil) rcn_listT)).weak dL_le) (ea_cons (etm rfl) ea_nil))) ⟨A, hok, by omega, TO⟩) (ev_var (i := 13) rfl) rv_neI)) (fun hz => absurd hz (by simp)) fun _ => go_next ?_)
      have sh : ∀ {Γ : Gm} {M : Ms} {j : Nat}, Γ[1]? = some (some (Own d)) → Γ[3]? = some (some (D K (dLT ls))) → Γ[4]? = some (some (PAl T n ls)) → Γ[5]? = some (some (D K (dT wd))) → Γ[6]? = some (some (D K (dL ts))) → M[j]? = some (d, MDr K) → Ev (tCall (sp_least_time T) [] E0 (tCons (tVar 4) (tCons (tCall (sp__law_shuffled T) [] E0 (tCons (tVar 1) (tCons (tVar 3) (tCons (tVar 5) (tCons (tC (.int 12)) tNil))))) (tCons (tCB (rList K) (tCons (tVar 6) tNil)) tNil)))) Γ M (D K (.int (top0 (due ls ts n wd)))) M := fun {Γ M j} e1 e3 e4 e5 e6 em => by
        have h1 : Ev (tCall (sp__law_shuffled T) [] E0 (tCons (tVar 1) (tCons (tVar 3) (tCons (tVar 5) (tCons (tC (.int 12)) tNil))))) Γ M (PSw K ls wd) M := use__law_shuffled (j := j) (ea_cons (ev_var e1) (ea_cons (ev_var e3) (ea_cons (ev_var e5) (ea_cons (ev_int (K := K) (i := 12)) ea_nil)))) ⟨hok, by omega, by decide, by decide, llen⟩ em
        refine call0 (ea_cons (ev_var e4) (ea_cons h1 (ea_cons (etm e6) ea_nil))) fun vs H Q ⟨F, w, ps, rt⟩ => ?_
        cases ps with
        | cons p1 q1 =>
          cases q1 with
          | cons p2 q2 =>
            cases q2 with
            | cons p3 q3 =>
              cases q3
              obtain ⟨w', hw', p2⟩ := p2
              have hh := hw'.word hok
              exact ⟨n, ls, w', ts, true, ⟨A, hh.1, by omega, TO⟩, F, w, .cons p1 (.cons p2 (.cons p3 .nil)), by rw [bsw A TO hw' hok]; exact rt⟩
      refine (q_if (et_test (ev_op (sh (j := 1) rfl rfl rfl rfl rfl rfl) (ev_var (i := 13) rfl) rv_neI)) (fun hz => absurd hz (by simp)) fun _ => go_next ?_)
      refine (q_asg (use_critical_chain (wd := wd) (ts := ts) (ea_cons (ev_var (i := 4) rfl) (ea_cons (ev_var (i := 5) rfl) (ea_cons (etm rfl) ea_nil))) ⟨A, hok, by omega, TO⟩) (nx_ex (i := 14) rfl fun c => nx_an (i := 14) rfl fun C => ?_))
      dsimp only [List.set]
      generalize top0 (due ls ts n wd) = m at *
      have lcc := evn_lcL (K := K) (xs := c) (R := fun x => D K (.int x)) (G := fun x => D K (.int x)) (i := 15) (M := [(h0, O1), (d, MDr K)]) (M1 := [(h0, O1), (d, MDr K)]) (Γ := [some S, some (Own d), some (D K (.int n)), some (D K (dLT ls)), some (PAl T n ls), some (D K (dT wd)), some (D K (dL ts)), some (Own h0), some (Fr (MInts K (due ls ts n wd))), g9, g10, g11, some (D K (dL (due ls ts n wd))), some (D K (.int m)), some (D K (dL c)), none]) (fun x => !true || (decide (x < 0) || decide (x ≥ (wd.length : Int)))) ((ev_var (i := 14) rfl).weak le_dL) (by have := C.len; omega)
        (fun x _ => et_or (et_not (et_val (use__law_is_integer (T := T) (X := E0) (ea_cons (ev_var (i := 15) rfl) ea_nil)))) fun _ => et_or (et_test (ev_op (ev_var (i := 15) rfl) (ev_int (K := K) (i := 0)) (rv_b0 (g := fun i j => decide (i < j))))) fun _ => et_test (ev_op (ev_var (i := 15) rfl) (ev_lenMT (f := PyData.int) (ev_var (i := 5) rfl)) (rv_b0 (g := fun i j => decide (i ≥ j))))) (fun x _ _ => ev_var (i := 15) rfl)
      have e0 : (c.filter fun x => !true || (decide (x < 0) || decide (x ≥ (wd.length : Int)))) = [] := by
        rw [List.filter_eq_nil_iff]
        intro x hx
        have := C.ok x hx
        simp only [Bool.not_true, Bool.false_or, Bool.or_eq_true, decide_eq_true_eq]
        omega
      rw [e0] at lcc
      refine (q_if (et_or (et_not (et_val (ev_cb (ea_cons (ev_var (i := 14) rfl) (ea_cons ev_pv ea_nil)) (rc_isi (d := dL c) (b := true) (by show kitB "list" "list" = some true; decide +kernel))))) fun _ => et_test (ev_op (ev_cb (ea_cons (ev_newL lcc) ea_nil) (rc_len (K := K))) (ev_int (K := K) (i := 0)) (rv_b0 (g := fun i j => decide (i > j))))) (fun hz => absurd hz (by simp)) fun _ => go_next ?_)
      have clen : c.length ≤ 10 := by have := C.len; omega
      have eix : ∀ {Γ : Gm} {M : Ms} {te : TE} {a : Int}, Γ[14]? = some (some (D K (dL c))) → Ev te Γ M (D K (.int a)) M → 0 ≤ a → a.toNat < c.length → Ev (tOp (rIx K) (tVar 14) te) Γ M (D K (.int (c.getD a.toNat 0))) M := fun {Γ M te a} e h h0 hlt => ev_op (ev_var e) h (rv_ixDL (K := K) (ds := c.map PyData.int) h0 (by rw [List.getElem?_map, List.getD_eq_getElem?_getD, List.getElem?_eq_getElem hlt]; rfl))
      have cok : ∀ i, i < c.length → 0 ≤ c.getD i 0 ∧ c.getD i 0 < (wd.length : Int) := fun i hi => by
        rw [List.getD_eq_getElem?_getD, List.getElem?_eq_getElem hi]; exact C.ok _ (List.getElem_mem hi)
      have ewd : ∀ {Γ : Gm} {M : Ms} {te : TE} {a : Int}, Γ[5]? = some (some (D K (dT wd))) → Ev te Γ M (D K (.int a)) M → 0 ≤ a → a < (wd.length : Int) → Ev (tOp (rIx K) (tVar 5) te) Γ M (D K (.int (wd.getD a.toNat 0))) M := fun {Γ M te a} e h h0 hlt => ev_op (ev_var e) h (rv_ixDT (K := K) (ds := wd.map PyData.int) h0 (by rw [List.getElem?_map, List.getD_eq_getElem?_getD, List.getElem?_eq_getElem (show a.toNat < wd.length by omega)]; rfl))
      have ewo : ∀ a : Int, 0 ≤ a → a < (wd.length : Int) → 0 ≤ wd.getD a.toNat 0 ∧ wd.getD a.toNat 0 < (ls.length : Int) := fun a h1 h2 => getD_ok hok (by omega)
      refine (q_forR2 (lo := 1) (z := (c.length : Int)) (ea_cons (ev_int (K := K) (i := 1)) (ea_cons ((ev_cb (ea_cons ((ev_var (i := 14) rfl).weak le_dL) ea_nil) (rc_len (K := K))).is (by rw [List.length_map])) ea_nil)) ⟨by omega, by omega, by decide, by decide⟩ (fun i Γ M => ∃ g15 : Option MP, Γ = [some S, some (Own d), some (D K (.int n)), some (D K (dLT ls)), some (PAl T n ls), some (D K (dT wd)), some (D K (dL ts)), some (Own h0), some (Fr (MInts K (due ls ts n wd))), g9, g10, g11, some (D K (dL (due ls ts n wd))), some (D K (.int m)), some (D K (dL c)), g15] ∧ M = [(h0, O1), (d, MDr K)]) ⟨_, rfl, rfl⟩ ?_ ?_)
      · rintro i hi _ _ ⟨g15, rfl, rfl⟩
        dsimp only [List.set]
        have i1 : ((1 : Int) + (i : Int) - 1).toNat < c.length := by omega
        have i2 : ((1 : Int) + (i : Int)).toNat < c.length := by omega
        have x1 := eix (Γ := [some S, some (Own d), some (D K (.int n)), some (D K (dLT ls)), some (PAl T n ls), some (D K (dT wd)), some (D K (dL ts)), some (Own h0), some (Fr (MInts K (due ls ts n wd))), g9, g10, g11, some (D K (dL (due ls ts n wd))), some (D K (.int m)), some (D K (dL c)), some (D K (.int (1 + (i : Int))))]) (M := [(h0, O1), (d, MDr K)]) rfl (ev_op (ev_var (i := 15) rfl) (ev_int (K := K) (i := 1)) (rv_i0 (g := fun i j => i - j))) (by omega) i1
        have x2 := eix (Γ := [some S, some (Own d), some (D K (.int n)), some (D K (dLT ls)), some (PAl T n ls), some (D K (dT wd)), some (D K (dL ts)), some (Own h0), some (Fr (MInts K (due ls ts n wd))), g9, g10, g11, some (D K (dL (due ls ts n wd))), some (D K (.int m)), some (D K (dL c)), some (D K (.int (1 + (i : Int))))]) (M := [(h0, O1), (d, MDr K)]) rfl (ev_var (i := 15) rfl) (by omega) i2
        have o1 := cok _ i1
        have o2 := cok _ i2
        have ad := C.adj ((1 : Int) + (i : Int) - 1).toNat (c.getD ((1 : Int) + (i : Int) - 1).toNat 0) (c.getD ((1 : Int) + (i : Int)).toNat 0) (by rw [List.getD_eq_getElem?_getD, List.getElem?_eq_getElem i1]; rfl) (by rw [show ((1 : Int) + (i : Int) - 1).toNat + 1 = ((1 : Int) + (i : Int)).toNat by omega, List.getD_eq_getElem?_getD, List.getElem?_eq_getElem i2]; rfl)
        have w1 := ewo _ o1.1 o1.2
        have w2 := ewo _ o2.1 o2.2
        refine go_if (et_or (et_test (ev_op x1 x2 (rv_b0 (g := fun i j => decide (i ≥ j))))) fun _ => et_val (use__law_free (ea_cons (ev_var (i := 3) rfl) (ea_cons (ewd rfl x1 o1.1 o1.2) (ea_cons (ewd rfl x2 o2.1 o2.2) ea_nil))) ⟨w1.1, w1.2, w2.1, w2.2, llen⟩)) (fun hz => absurd hz ?_) fun _ => go_next (JA.of ⟨_, rfl, rfl⟩)
        rw [ad.2, decide_eq_false (by omega)]
        decide
      · rintro _ _ ⟨g15, rfl, rfl⟩
        have lcs := evn_lcL (K := K) (xs := c) (R := fun x => D K (.int x)) (G := fun x => D K (.int (tm ts (wd.getD x.toNat 0)))) (i := 15) (M := [(h0, O1), (d, MDr K)]) (M1 := [(h0, O1), (d, MDr K)]) (Γ := [some S, some (Own d), some (D K (.int n)), some (D K (dLT ls)), some (PAl T n ls), some (D K (dT wd)), some (D K (dL ts)), some (Own h0), some (Fr (MInts K (due ls ts n wd))), g9, g10, g11, some (D K (dL (due ls ts n wd))), some (D K (.int m)), some (D K (dL c)), g15]) (fun _ => true) ((ev_var (i := 14) rfl).weak le_dL) (by omega) (fun _ _ => et_yes)
          (fun x hx _ => by
            have o1 := C.ok x hx
            have w1 := ewo _ o1.1 o1.2
            exact ev_op (ev_var (i := 6) rfl) (ewd rfl (ev_var (i := 15) rfl) o1.1 o1.2) (rv_ixDL (K := K) (ds := ts.map PyData.int) w1.1 (by rw [List.getElem?_map, TO.get w1.1 w1.2]; rfl)))
        rw [filter_true] at lcs
        refine go_ret Le.refl ((ev_op (ev_cb (ea_cons (ev_newL (lcs.is (show _ = MInts K (c.map fun x => tm ts (wd.getD x.toNat 0)) by unfold MInts; rw [List.map_map]; rfl))) ea_nil) rc_sum) (ev_var (i := 13) rfl) rv_eqI).is ?_) (k _)
        rw [C.sum, decide_eq_true rfl]
end
end My
namespace My
open PySem L2 Hq
theorem all_mk {l : PySem.W.OpenLaw} {wo : World} {K : PySem.W.Frag} {h : Heap} {mg : Str → Option Value} {fa c_Alphabet f__law_take f__law_draws f__check_letter f_Alphabet_init f__law_free f__law_alphabet f__law_word f__law_is_integer f__law_shuffled f_independent f__law_cell f_ending_times f_least_time f__event_before f_critical_chain f_law : Addr} (X : K.In h) (G : h.Ns mainGlobals mg) (hfa : mg "law" = some (.ref fa))
    {od0 od1 od2 od3 od4 od5 od6 od7 od8 od9 od10 od11 od12 od13 od14 od15 an0 an1 an2 an3 an4 an5 an6 an7 an8 an9 an10 an11 an12 an13 an14 an15 : Option Addr} {sl0 sl1 sl2 sl3 sl4 sl5 sl6 sl7 sl8 sl9 sl10 sl11 sl12 sl13 sl14 sl15 : Array (Option Value)} {oc0 oc1 oc2 oc3 oc4 oc5 oc6 oc7 oc8 oc9 oc10 oc11 oc12 oc13 oc14 oc15 kV0 kV1 kV2 kV3 kV4 kV5 kV6 kV7 kV8 kV9 kV10 kV11 kV12 kV13 kV14 kV15 dc0 dc1 dc2 dc3 dc4 dc5 dc6 dc7 dc8 dc9 dc10 dc11 dc12 dc13 dc14 dc15 pm0 pm1 pm2 pm3 pm4 pm5 pm6 pm7 pm8 pm9 pm10 pm11 pm12 pm13 pm14 pm15 cd0 cd1 cd2 cd3 cd4 cd5 cd6 cd7 cd8 cd9 cd10 cd11 cd12 cd13 cd14 cd15 ct0 ct1 ct2 ct3 ct4 ct5 ct6 ct7 ct8 ct9 ct10 ct11 ct12 ct13 ct14 ct15 : Value}
    {t_MOST_LETTERS : Tok}
    {t_MOST_PLACES : Tok}
    (aC_Alphabet : PySem.W.nsIn K mainGlobals "Alphabet" = some (some (.ref c_Alphabet)))
    (a0 : PySem.W.nsIn K mainGlobals "_law_take" = some (some (.ref f__law_take)))
    (l0 : K.lookup f__law_take = some ⟨oc0, od0, .func (PySem.W.fnOf "_law_take" "_law_take" (defArgs s__law_take) (defBody s__law_take) (defScope s__law_take) .none kV0 dc0 pm0 an0 cd0 ct0), sl0⟩)
    (c0 : PySem.W.codeIn K cd0 "_law_take" = true)
    (k0 : PySem.W.keepIn K (.ref f__law_take) = true)
    (a1 : PySem.W.nsIn K mainGlobals "_law_draws" = some (some (.ref f__law_draws)))
    (l1 : K.lookup f__law_draws = some ⟨oc1, od1, .func (PySem.W.fnOf "_law_draws" "_law_draws" (defArgs s__law_draws) (defBody s__law_draws) (defScope s__law_draws) .none kV1 dc1 pm1 an1 cd1 ct1), sl1⟩)
    (c1 : PySem.W.codeIn K cd1 "_law_draws" = true)
    (k1 : PySem.W.keepIn K (.ref f__law_draws) = true)
    (a2 : PySem.W.nsIn K mainGlobals "_check_letter" = some (some (.ref f__check_letter)))
    (l2 : K.lookup f__check_letter = some ⟨oc2, od2, .func (PySem.W.fnOf "_check_letter" "_check_letter" (defArgs s__check_letter) (defBody s__check_letter) (defScope s__check_letter) .none kV2 dc2 pm2 an2 cd2 ct2), sl2⟩)
    (c2 : PySem.W.codeIn K cd2 "_check_letter" = true)
    (k2 : PySem.W.keepIn K (.ref f__check_letter) = true)
    (a3 : PySem.W.findIn K (.ref c_Alphabet) "__init__" = some (some (.ref f_Alphabet_init)))
    (i3 : PySem.W.isFn K (.ref f_Alphabet_init) = true)
    (l3 : K.lookup f_Alphabet_init = some ⟨oc3, od3, .func (PySem.W.fnOf "__init__" "Alphabet.__init__" (defArgs s_Alphabet_init) (defBody s_Alphabet_init) (defScope s_Alphabet_init) .none kV3 dc3 pm3 an3 cd3 ct3), sl3⟩)
    (c3 : PySem.W.codeIn K cd3 "Alphabet.__init__" = true)
    (k3 : PySem.W.keepIn K (.ref f_Alphabet_init) = true)
    (a4 : PySem.W.nsIn K mainGlobals "_law_free" = some (some (.ref f__law_free)))
    (l4 : K.lookup f__law_free = some ⟨oc4, od4, .func (PySem.W.fnOf "_law_free" "_law_free" (defArgs s__law_free) (defBody s__law_free) (defScope s__law_free) .none kV4 dc4 pm4 an4 cd4 ct4), sl4⟩)
    (c4 : PySem.W.codeIn K cd4 "_law_free" = true)
    (k4 : PySem.W.keepIn K (.ref f__law_free) = true)
    (a5 : PySem.W.nsIn K mainGlobals "_law_alphabet" = some (some (.ref f__law_alphabet)))
    (l5 : K.lookup f__law_alphabet = some ⟨oc5, od5, .func (PySem.W.fnOf "_law_alphabet" "_law_alphabet" (defArgs s__law_alphabet) (defBody s__law_alphabet) (defScope s__law_alphabet) .none kV5 dc5 pm5 an5 cd5 ct5), sl5⟩)
    (c5 : PySem.W.codeIn K cd5 "_law_alphabet" = true)
    (k5 : PySem.W.keepIn K (.ref f__law_alphabet) = true)
    (a6 : PySem.W.nsIn K mainGlobals "_law_word" = some (some (.ref f__law_word)))
    (l6 : K.lookup f__law_word = some ⟨oc6, od6, .func (PySem.W.fnOf "_law_word" "_law_word" (defArgs s__law_word) (defBody s__law_word) (defScope s__law_word) .none kV6 dc6 pm6 an6 cd6 ct6), sl6⟩)
    (c6 : PySem.W.codeIn K cd6 "_law_word" = true)
    (k6 : PySem.W.keepIn K (.ref f__law_word) = true)
    (a7 : PySem.W.nsIn K mainGlobals "_law_is_integer" = some (some (.ref f__law_is_integer)))
    (l7 : K.lookup f__law_is_integer = some ⟨oc7, od7, .func (PySem.W.fnOf "_law_is_integer" "_law_is_integer" (defArgs s__law_is_integer) (defBody s__law_is_integer) (defScope s__law_is_integer) .none kV7 dc7 pm7 an7 cd7 ct7), sl7⟩)
    (c7 : PySem.W.codeIn K cd7 "_law_is_integer" = true)
    (k7 : PySem.W.keepIn K (.ref f__law_is_integer) = true)
    (a8 : PySem.W.nsIn K mainGlobals "_law_shuffled" = some (some (.ref f__law_shuffled)))
    (l8 : K.lookup f__law_shuffled = some ⟨oc8, od8, .func (PySem.W.fnOf "_law_shuffled" "_law_shuffled" (defArgs s__law_shuffled) (defBody s__law_shuffled) (defScope s__law_shuffled) .none kV8 dc8 pm8 an8 cd8 ct8), sl8⟩)
    (c8 : PySem.W.codeIn K cd8 "_law_shuffled" = true)
    (k8 : PySem.W.keepIn K (.ref f__law_shuffled) = true)
    (a9 : PySem.W.nsIn K mainGlobals "independent" = some (some (.ref f_independent)))
    (l9 : K.lookup f_independent = some ⟨oc9, od9, .func (PySem.W.fnOf "independent" "independent" (defArgs s_independent) (defBody s_independent) (defScope s_independent) .none kV9 dc9 pm9 an9 cd9 ct9), sl9⟩)
    (c9 : PySem.W.codeIn K cd9 "independent" = true)
    (k9 : PySem.W.keepIn K (.ref f_independent) = true)
    (a10 : PySem.W.nsIn K mainGlobals "_law_cell" = some (some (.ref f__law_cell)))
    (l10 : K.lookup f__law_cell = some ⟨oc10, od10, .func (PySem.W.fnOf "_law_cell" "_law_cell" (defArgs s__law_cell) (defBody s__law_cell) (defScope s__law_cell) .none kV10 dc10 pm10 an10 cd10 ct10), sl10⟩)
    (c10 : PySem.W.codeIn K cd10 "_law_cell" = true)
    (k10 : PySem.W.keepIn K (.ref f__law_cell) = true)
    (a11 : PySem.W.nsIn K mainGlobals "ending_times" = some (some (.ref f_ending_times)))
    (l11 : K.lookup f_ending_times = some ⟨oc11, od11, .func (PySem.W.fnOf "ending_times" "ending_times" (defArgs s_ending_times) (defBody s_ending_times) (defScope s_ending_times) .none kV11 dc11 pm11 an11 cd11 ct11), sl11⟩)
    (c11 : PySem.W.codeIn K cd11 "ending_times" = true)
    (k11 : PySem.W.keepIn K (.ref f_ending_times) = true)
    (a12 : PySem.W.nsIn K mainGlobals "least_time" = some (some (.ref f_least_time)))
    (l12 : K.lookup f_least_time = some ⟨oc12, od12, .func (PySem.W.fnOf "least_time" "least_time" (defArgs s_least_time) (defBody s_least_time) (defScope s_least_time) .none kV12 dc12 pm12 an12 cd12 ct12), sl12⟩)
    (c12 : PySem.W.codeIn K cd12 "least_time" = true)
    (k12 : PySem.W.keepIn K (.ref f_least_time) = true)
    (a13 : PySem.W.nsIn K mainGlobals "_event_before" = some (some (.ref f__event_before)))
    (l13 : K.lookup f__event_before = some ⟨oc13, od13, .func (PySem.W.fnOf "_event_before" "_event_before" (defArgs s__event_before) (defBody s__event_before) (defScope s__event_before) .none kV13 dc13 pm13 an13 cd13 ct13), sl13⟩)
    (c13 : PySem.W.codeIn K cd13 "_event_before" = true)
    (k13 : PySem.W.keepIn K (.ref f__event_before) = true)
    (a14 : PySem.W.nsIn K mainGlobals "critical_chain" = some (some (.ref f_critical_chain)))
    (l14 : K.lookup f_critical_chain = some ⟨oc14, od14, .func (PySem.W.fnOf "critical_chain" "critical_chain" (defArgs s_critical_chain) (defBody s_critical_chain) (defScope s_critical_chain) .none kV14 dc14 pm14 an14 cd14 ct14), sl14⟩)
    (c14 : PySem.W.codeIn K cd14 "critical_chain" = true)
    (k14 : PySem.W.keepIn K (.ref f_critical_chain) = true)
    (a15 : PySem.W.nsIn K mainGlobals "law" = some (some (.ref f_law)))
    (l15 : K.lookup f_law = some ⟨oc15, od15, .func (PySem.W.fnOf "law" "law" (defArgs s_law) (defBody s_law) (defScope s_law) .none kV15 dc15 pm15 an15 cd15 ct15), sl15⟩)
    (c15 : PySem.W.codeIn K cd15 "law" = true)
    (k15 : PySem.W.keepIn K (.ref f_law) = true)
    (pg_Alphabet : PySem.W.plainGet K c_Alphabet Str.empty = true)
    (hd_Alphabet : PySem.W.hasDictIn K c_Alphabet = true)
    (po_Alphabet : PySem.W.plainOver K c_Alphabet = true)
    (sa_Alphabet : PySem.W.findIn K (.ref c_Alphabet) "__setattr__" = some (some (.builtin "object.__setattr__")))
    (mk_Alphabet : PySem.W.makesIn K c_Alphabet = true)
    (kc_Alphabet : PySem.W.keepIn K (.ref c_Alphabet) = true)
    (na_Alphabet_places : PySem.W.findIn K (.ref c_Alphabet) "places" = some none)
    (na_Alphabet_letters : PySem.W.findIn K (.ref c_Alphabet) "letters" = some none)
    (z_abs : PySem.W.nsIn K mainGlobals "abs" = some none)
    (z_bool : PySem.W.nsIn K mainGlobals "bool" = some none)
    (z_int : PySem.W.nsIn K mainGlobals "int" = some none)
    (z_isinstance : PySem.W.nsIn K mainGlobals "isinstance" = some none)
    (z_len : PySem.W.nsIn K mainGlobals "len" = some none)
    (z_list : PySem.W.nsIn K mainGlobals "list" = some none)
    (z_max : PySem.W.nsIn K mainGlobals "max" = some none)
    (z_range : PySem.W.nsIn K mainGlobals "range" = some none)
    (z_reversed : PySem.W.nsIn K mainGlobals "reversed" = some none)
    (z_set : PySem.W.nsIn K mainGlobals "set" = some none)
    (z_sorted : PySem.W.nsIn K mainGlobals "sorted" = some none)
    (z_sum : PySem.W.nsIn K mainGlobals "sum" = some none)
    (z_tuple : PySem.W.nsIn K mainGlobals "tuple" = some none)
    (v_MOST_LETTERS : PySem.W.nsIn K mainGlobals "MOST_LETTERS" = some (some (.int 6 t_MOST_LETTERS)))
    (v_MOST_PLACES : PySem.W.nsIn K mainGlobals "MOST_PLACES" = some (some (.int 4 t_MOST_PLACES)))
    : ∃ fd : FuncData, (∀ (s : Shared) (v : Value), BindsTo s fd ⟨[v], []⟩ [("script", v)]) ∧ ∀ base : Heap, K.In base → base.Ns mainGlobals mg → FnOk l.prog wo K mg base CX0 4 fa fd ["script"] (spLaw K) := by
  have e := hfa.symm.trans (PySem.W.mg_of X G a15)
  cases e
  let T : Txt K mg := {
    f__law_take := f__law_take, d__law_take := PySem.W.fnOf "_law_take" "_law_take" (defArgs s__law_take) (defBody s__law_take) (defScope s__law_take) .none kV0 dc0 pm0 an0 cd0 ct0,
    F__law_take := fun_mk l0 c0 k0,
    m__law_take := PySem.W.mg_of X G a0,
    b__law_take := (fun_mk (st := s__law_take) l0 c0 k0).binds (ps := ["draws", "limit"]) fun _ _ _ _ _ _ us hl => match us, hl with | [_, _], _ => rfl,
    f__law_draws := f__law_draws, d__law_draws := PySem.W.fnOf "_law_draws" "_law_draws" (defArgs s__law_draws) (defBody s__law_draws) (defScope s__law_draws) .none kV1 dc1 pm1 an1 cd1 ct1,
    F__law_draws := fun_mk l1 c1 k1,
    m__law_draws := PySem.W.mg_of X G a1,
    b__law_draws := (fun_mk (st := s__law_draws) l1 c1 k1).binds (ps := ["script", "count"]) fun _ _ _ _ _ _ us hl => match us, hl with | [_, _], _ => rfl,
    f__check_letter := f__check_letter, d__check_letter := PySem.W.fnOf "_check_letter" "_check_letter" (defArgs s__check_letter) (defBody s__check_letter) (defScope s__check_letter) .none kV2 dc2 pm2 an2 cd2 ct2,
    F__check_letter := fun_mk l2 c2 k2,
    m__check_letter := PySem.W.mg_of X G a2,
    b__check_letter := (fun_mk (st := s__check_letter) l2 c2 k2).binds (ps := ["places", "row"]) fun _ _ _ _ _ _ us hl => match us, hl with | [_, _], _ => rfl,
    f_Alphabet_init := f_Alphabet_init, d_Alphabet_init := PySem.W.fnOf "__init__" "Alphabet.__init__" (defArgs s_Alphabet_init) (defBody s_Alphabet_init) (defScope s_Alphabet_init) .none kV3 dc3 pm3 an3 cd3 ct3,
    F_Alphabet_init := fun_mk l3 c3 k3,
    b_Alphabet_init := (fun_mk (st := s_Alphabet_init) l3 c3 k3).binds (ps := ["self", "places", "letters"]) fun _ _ _ _ _ _ us hl => match us, hl with | [_, _, _], _ => rfl,
    f__law_free := f__law_free, d__law_free := PySem.W.fnOf "_law_free" "_law_free" (defArgs s__law_free) (defBody s__law_free) (defScope s__law_free) .none kV4 dc4 pm4 an4 cd4 ct4,
    F__law_free := fun_mk l4 c4 k4,
    m__law_free := PySem.W.mg_of X G a4,
    b__law_free := (fun_mk (st := s__law_free) l4 c4 k4).binds (ps := ["letters", "first", "second"]) fun _ _ _ _ _ _ us hl => match us, hl with | [_, _, _], _ => rfl,
    f__law_alphabet := f__law_alphabet, d__law_alphabet := PySem.W.fnOf "_law_alphabet" "_law_alphabet" (defArgs s__law_alphabet) (defBody s__law_alphabet) (defScope s__law_alphabet) .none kV5 dc5 pm5 an5 cd5 ct5,
    F__law_alphabet := fun_mk l5 c5 k5,
    m__law_alphabet := PySem.W.mg_of X G a5,
    b__law_alphabet := (fun_mk (st := s__law_alphabet) l5 c5 k5).binds (ps := ["draws", "places", "most"]) fun _ _ _ _ _ _ us hl => match us, hl with | [_, _, _], _ => rfl,
    f__law_word := f__law_word, d__law_word := PySem.W.fnOf "_law_word" "_law_word" (defArgs s__law_word) (defBody s__law_word) (defScope s__law_word) .none kV6 dc6 pm6 an6 cd6 ct6,
    F__law_word := fun_mk l6 c6 k6,
    m__law_word := PySem.W.mg_of X G a6,
    b__law_word := (fun_mk (st := s__law_word) l6 c6 k6).binds (ps := ["draws", "letters", "most"]) fun _ _ _ _ _ _ us hl => match us, hl with | [_, _, _], _ => rfl,
    f__law_is_integer := f__law_is_integer, d__law_is_integer := PySem.W.fnOf "_law_is_integer" "_law_is_integer" (defArgs s__law_is_integer) (defBody s__law_is_integer) (defScope s__law_is_integer) .none kV7 dc7 pm7 an7 cd7 ct7,
    F__law_is_integer := fun_mk l7 c7 k7,
    m__law_is_integer := PySem.W.mg_of X G a7,
    b__law_is_integer := (fun_mk (st := s__law_is_integer) l7 c7 k7).binds (ps := ["actual"]) fun _ _ _ _ _ _ us hl => match us, hl with | [_], _ => rfl,
    f__law_shuffled := f__law_shuffled, d__law_shuffled := PySem.W.fnOf "_law_shuffled" "_law_shuffled" (defArgs s__law_shuffled) (defBody s__law_shuffled) (defScope s__law_shuffled) .none kV8 dc8 pm8 an8 cd8 ct8,
    F__law_shuffled := fun_mk l8 c8 k8,
    m__law_shuffled := PySem.W.mg_of X G a8,
    b__law_shuffled := (fun_mk (st := s__law_shuffled) l8 c8 k8).binds (ps := ["draws", "letters", "word", "times"]) fun _ _ _ _ _ _ us hl => match us, hl with | [_, _, _, _], _ => rfl,
    f_independent := f_independent, d_independent := PySem.W.fnOf "independent" "independent" (defArgs s_independent) (defBody s_independent) (defScope s_independent) .none kV9 dc9 pm9 an9 cd9 ct9,
    F_independent := fun_mk l9 c9 k9,
    m_independent := PySem.W.mg_of X G a9,
    b_independent := (fun_mk (st := s_independent) l9 c9 k9).binds (ps := ["alphabet", "first", "second"]) fun _ _ _ _ _ _ us hl => match us, hl with | [_, _, _], _ => rfl,
    f__law_cell := f__law_cell, d__law_cell := PySem.W.fnOf "_law_cell" "_law_cell" (defArgs s__law_cell) (defBody s__law_cell) (defScope s__law_cell) .none kV10 dc10 pm10 an10 cd10 ct10,
    F__law_cell := fun_mk l10 c10 k10,
    m__law_cell := PySem.W.mg_of X G a10,
    b__law_cell := (fun_mk (st := s__law_cell) l10 c10 k10).binds (ps := ["script", "k"]) fun _ _ _ _ _ _ us hl => match us, hl with | [_, _], _ => rfl,
    f_ending_times := f_ending_times, d_ending_times := PySem.W.fnOf "ending_times" "ending_times" (defArgs s_ending_times) (defBody s_ending_times) (defScope s_ending_times) .none kV11 dc11 pm11 an11 cd11 ct11,
    F_ending_times := fun_mk l11 c11 k11,
    m_ending_times := PySem.W.mg_of X G a11,
    b_ending_times := (fun_mk (st := s_ending_times) l11 c11 k11).binds (ps := ["alphabet", "word", "times"]) fun _ _ _ _ _ _ us hl => match us, hl with | [_, _, _], _ => rfl,
    f_least_time := f_least_time, d_least_time := PySem.W.fnOf "least_time" "least_time" (defArgs s_least_time) (defBody s_least_time) (defScope s_least_time) .none kV12 dc12 pm12 an12 cd12 ct12,
    F_least_time := fun_mk l12 c12 k12,
    m_least_time := PySem.W.mg_of X G a12,
    b_least_time := (fun_mk (st := s_least_time) l12 c12 k12).binds (ps := ["alphabet", "word", "times"]) fun _ _ _ _ _ _ us hl => match us, hl with | [_, _, _], _ => rfl,
    f__event_before := f__event_before, d__event_before := PySem.W.fnOf "_event_before" "_event_before" (defArgs s__event_before) (defBody s__event_before) (defScope s__event_before) .none kV13 dc13 pm13 an13 cd13 ct13,
    F__event_before := fun_mk l13 c13 k13,
    m__event_before := PySem.W.mg_of X G a13,
    b__event_before := (fun_mk (st := s__event_before) l13 c13 k13).binds (ps := ["alphabet", "word", "times", "ends", "event"]) fun _ _ _ _ _ _ us hl => match us, hl with | [_, _, _, _, _], _ => rfl,
    f_critical_chain := f_critical_chain, d_critical_chain := PySem.W.fnOf "critical_chain" "critical_chain" (defArgs s_critical_chain) (defBody s_critical_chain) (defScope s_critical_chain) .none kV14 dc14 pm14 an14 cd14 ct14,
    F_critical_chain := fun_mk l14 c14 k14,
    m_critical_chain := PySem.W.mg_of X G a14,
    b_critical_chain := (fun_mk (st := s_critical_chain) l14 c14 k14).binds (ps := ["alphabet", "word", "times"]) fun _ _ _ _ _ _ us hl => match us, hl with | [_, _, _], _ => rfl,
    f_law := fa, d_law := PySem.W.fnOf "law" "law" (defArgs s_law) (defBody s_law) (defScope s_law) .none kV15 dc15 pm15 an15 cd15 ct15,
    F_law := fun_mk l15 c15 k15,
    m_law := PySem.W.mg_of X G a15,
    b_law := (fun_mk (st := s_law) l15 c15 k15).binds (ps := ["script"]) fun _ _ _ _ _ _ us hl => match us, hl with | [_], _ => rfl,
    c_Alphabet := c_Alphabet, mc_Alphabet := PySem.W.mg_of X G aC_Alphabet, mk_Alphabet := mk_Alphabet, in_Alphabet := a3, if_Alphabet := i3, kc_Alphabet := kc_Alphabet, cl_Alphabet := ⟨pg_Alphabet, hd_Alphabet, po_Alphabet, sa_Alphabet⟩,
    na_Alphabet_places := na_Alphabet_places,
    na_Alphabet_letters := na_Alphabet_letters,
    z_abs := PySem.W.mg_none_of X G z_abs,
    z_bool := PySem.W.mg_none_of X G z_bool,
    z_int := PySem.W.mg_none_of X G z_int,
    z_isinstance := PySem.W.mg_none_of X G z_isinstance,
    z_len := PySem.W.mg_none_of X G z_len,
    z_list := PySem.W.mg_none_of X G z_list,
    z_max := PySem.W.mg_none_of X G z_max,
    z_range := PySem.W.mg_none_of X G z_range,
    z_reversed := PySem.W.mg_none_of X G z_reversed,
    z_set := PySem.W.mg_none_of X G z_set,
    z_sorted := PySem.W.mg_none_of X G z_sorted,
    z_sum := PySem.W.mg_none_of X G z_sum,
    z_tuple := PySem.W.mg_none_of X G z_tuple,
    t_MOST_LETTERS := t_MOST_LETTERS, v_MOST_LETTERS := PySem.W.mg_of X G v_MOST_LETTERS,
    t_MOST_PLACES := t_MOST_PLACES, v_MOST_PLACES := PySem.W.mg_of X G v_MOST_PLACES }
  exact ⟨_, fun s v => .of_eq rfl, fun base _ _ => ok_law T⟩
theorem walk {l : PySem.W.OpenLaw} {q : Program} {loose : List Str} {XP : (Str → Option Value) → Heap → Prop} {YP : World → Heap → Prop} {d : DefRec} {K : Params → PySem.W.Frag} (hn : l.most = some 63) (hdf : d.params.defaults = [])
    (hY : ∀ (w : World) (h : Heap), YP w h → (K w.params).In h)
    (F : ∀ (w : World) (mg : Str → Option Value) (fa : Addr) (h : Heap), (K w.params).In h → h.Ns mainGlobals mg → mg d.name = some (.ref fa) →
      ∃ fd : FuncData, (∀ (s : Shared) (u : Value), BindsTo s fd ⟨[u], []⟩ [("script", u)]) ∧ ∀ base : Heap, (K w.params).In base → base.Ns mainGlobals mg → FnOk l.prog w (K w.params) mg base CX0 4 fa fd ["script"] (spLaw (K w.params))) :
    PySem.W.WalkO q loose XP YP l.row.toRowW d [] (fun f vs => PySem.call f vs) :=
  L2.walk_of (n := 63) (k := 4) (x := "script") (CX := fun _ => CX0) (sp := fun w => spLaw (K w.params)) hn (by decide) hdf ⟨rfl, by decide, by decide⟩ hY F (fun _ _ a ns hl _ hS => ⟨a, ns, rfl, hS, hl, fun _ => rfl⟩) fun _ _ _ _ _ z => z
end My
open PySem PySem.W PyProof.Rows in
set_option maxRecDepth 100000 in
set_option maxHeartbeats 0 in
theorem PySem.Challenge.cw_placewords_k52_times_holds : PySem.Challenge.rw_placewords_k52_times.Holds := by
  w_on; o_law; k_head; (case hw => w_witness2)
  k_fill
  refine My.walk (l := PySem.Challenge.rw_placewords_k52_times) rfl rfl (fun w h Y => PySem.W.kIn_of Y) ?F
  case F =>
    intro w mg fa h KX G hmg
    refine' My.all_mk KX G hmg ?aC_Alphabet ?a0 ?l0 ?c0 ?k0 ?a1 ?l1 ?c1 ?k1 ?a2 ?l2 ?c2 ?k2 ?a3 ?i3 ?l3 ?c3 ?k3 ?a4 ?l4 ?c4 ?k4 ?a5 ?l5 ?c5 ?k5 ?a6 ?l6 ?c6 ?k6 ?a7 ?l7 ?c7 ?k7 ?a8 ?l8 ?c8 ?k8 ?a9 ?l9 ?c9 ?k9 ?a10 ?l10 ?c10 ?k10 ?a11 ?l11 ?c11 ?k11 ?a12 ?l12 ?c12 ?k12 ?a13 ?l13 ?c13 ?k13 ?a14 ?l14 ?c14 ?k14 ?a15 ?l15 ?c15 ?k15 ?pg_Alphabet ?hd_Alphabet ?po_Alphabet ?sa_Alphabet ?mk_Alphabet ?kc_Alphabet ?na_Alphabet_places ?na_Alphabet_letters ?z_abs ?z_bool ?z_int ?z_isinstance ?z_len ?z_list ?z_max ?z_range ?z_reversed ?z_set ?z_sorted ?z_sum ?z_tuple ?v_MOST_LETTERS ?v_MOST_PLACES
    (case aC_Alphabet => k_is)
    (case a0 => k_is)
    (case l0 => k_is)
    (case c0 => k_is)
    (case k0 => k_is)
    (case a1 => k_is)
    (case l1 => k_is)
    (case c1 => k_is)
    (case k1 => k_is)
    (case a2 => k_is)
    (case l2 => k_is)
    (case c2 => k_is)
    (case k2 => k_is)
    (case a3 => k_is)
    (case i3 => k_is)
    (case l3 => k_is)
    (case c3 => k_is)
    (case k3 => k_is)
    (case a4 => k_is)
    (case l4 => k_is)
    (case c4 => k_is)
    (case k4 => k_is)
    (case a5 => k_is)
    (case l5 => k_is)
    (case c5 => k_is)
    (case k5 => k_is)
    (case a6 => k_is)
    (case l6 => k_is)
    (case c6 => k_is)
    (case k6 => k_is)
    (case a7 => k_is)
    (case l7 => k_is)
    (case c7 => k_is)
    (case k7 => k_is)
    (case a8 => k_is)
    (case l8 => k_is)
    (case c8 => k_is)
    (case k8 => k_is)
    (case a9 => k_is)
    (case l9 => k_is)
    (case c9 => k_is)
    (case k9 => k_is)
    (case a10 => k_is)
    (case l10 => k_is)
    (case c10 => k_is)
    (case k10 => k_is)
    (case a11 => k_is)
    (case l11 => k_is)
    (case c11 => k_is)
    (case k11 => k_is)
    (case a12 => k_is)
    (case l12 => k_is)
    (case c12 => k_is)
    (case k12 => k_is)
    (case a13 => k_is)
    (case l13 => k_is)
    (case c13 => k_is)
    (case k13 => k_is)
    (case a14 => k_is)
    (case l14 => k_is)
    (case c14 => k_is)
    (case k14 => k_is)
    (case a15 => k_is)
    (case l15 => k_is)
    (case c15 => k_is)
    (case k15 => k_is)
    (case pg_Alphabet => k_is)
    (case hd_Alphabet => k_is)
    (case po_Alphabet => k_is)
    (case sa_Alphabet => k_is)
    (case mk_Alphabet => k_is)
    (case kc_Alphabet => k_is)
    (case na_Alphabet_places => k_is)
    (case na_Alphabet_letters => k_is)
    (case z_abs => k_is)
    (case z_bool => k_is)
    (case z_int => k_is)
    (case z_isinstance => k_is)
    (case z_len => k_is)
    (case z_list => k_is)
    (case z_max => k_is)
    (case z_range => k_is)
    (case z_reversed => k_is)
    (case z_set => k_is)
    (case z_sorted => k_is)
    (case z_sum => k_is)
    (case z_tuple => k_is)
    (case v_MOST_LETTERS => k_is)
    (case v_MOST_PLACES => k_is)

