import PyProof.Rows.All
import Wide.All
import OpenK.AllK
import Wide.FinOn
import HandS.ForMost
import HandS.ForExc
import HandS.Evl
import HandS.Zip
import HandS.TupAny
import HandS.SetFor
import HandS.Conv
import HandS.IsInst
import HandS.SortInts
import HandS.Strs
import HandS.RevRange
import PyProof.SeqIndex
import HandS.Deep
import KE.KDictDisplayH
import KE.SortData
import HandS.Style
import KE.GoesEnum
import HandS.Walk
import HandS.Star
import KE.DataMinMax
import HandS.DictComp
import HandS.TupMul
import KE.KUnpack
import HandS.TryOnly
import HandS.Gcd
import HandS.SortKw
import HandS.Rev
import HandS.DictTup
import KE.KDictList
import KE.KDictWalk
import KE.GoesZip
import KE.GoesMore
import KE.KDictKeyed
import KE.KeyNested
import HandS.WordsDict
import HandS.ExcIs
import HandS.More
import HandS.Comp
import PySem.Challenge.RW_placewords_k30_actions
set_option Elab.async false
set_option linter.all false
set_option maxRecDepth 100000
namespace Hq
open PySem L2
abbrev Ex := Evl.Ex
structure MP where
  p : Hp → V → Prop
  mono : ∀ {F F' : Hp} {v : V}, Ex F F' → p F v → p F' v
structure MO where
  p : Hp → HO → Prop
  mono : ∀ {F F' : Hp} {o : HO}, Ex F F' → p F o → p F' o
  nt : ∀ {F : Hp} {o : HO}, p F o → ∀ xs, o ≠ .tup xs
abbrev Ms := List (Addr × MO)
abbrev Gm := List (Option MP)
def keys (M : Ms) : List Addr := M.map (·.1)
structure Wd (F : Hp) (M : Ms) (H : Hp) : Prop where
  ex : Ex F H
  nd : (keys M).Nodup
  own : ∀ q ∈ M, F q.1 = none ∧ ∃ o, H q.1 = some o ∧ q.2.p F o
structure Gr (ks : List Addr) (F H F' H' : Hp) : Prop where
  ex : Ex F F'
  keep : ∀ a o, a ∉ ks → H a = some o → H' a = some o
  off : ∀ a, F a = none → H a ≠ none → (∀ xs, H a ≠ some (.tup xs)) → F' a = none
  stay : ∀ a, H a ≠ none → H' a ≠ none
  nott : ∀ a, H a ≠ none → (∀ xs, H a ≠ some (.tup xs)) → ∀ xs, H' a ≠ some (.tup xs)
structure Ent where
  F : Hp
  H : Hp
  ks : List Addr
structure Pt (E : Ent) (F : Hp) (M : Ms) (H : Hp) : Prop where
  gr : Gr E.ks E.F E.H F H
  wd : Wd F M H
  fr : ∀ q ∈ M, q.1 ∈ E.ks ∨ E.H q.1 = none
theorem Gr.refl {ks F H} : Gr ks F H F H := ⟨Evl.Ex.refl _, fun _ _ _ h => h, fun _ h _ _ => h, fun _ h => h, fun _ _ h => h⟩
theorem Pt.start {F M H} (w : Wd F M H) : Pt ⟨F, H, keys M⟩ F M H := ⟨Gr.refl, w, fun q hq => .inl (List.mem_map_of_mem hq)⟩
theorem Pt.enter {E F M H} (h : Pt E F M H) : Pt ⟨F, H, keys M⟩ F M H := Pt.start h.wd
theorem Pt.back {E F M H F' M' H'} (h : Pt E F M H) (g : Pt ⟨F, H, keys M⟩ F' M' H') : Pt E F' M' H' := by
  have notin : ∀ a o, a ∉ E.ks → E.H a = some o → a ∉ keys M := by
    intro a o h1 h2 h3
    obtain ⟨q, hq, rfl⟩ := List.mem_map.mp h3
    rcases h.fr q hq with h4 | h4
    · exact h1 h4
    · rw [h4] at h2; cases h2
  refine ⟨⟨h.gr.ex.trans g.gr.ex, fun a o h1 h2 => ?_, fun a h1 h2 h3 => ?_, fun a h1 => ?_, fun a h1 h2 => ?_⟩, g.wd, fun q hq => ?_⟩
  · exact g.gr.keep a o (notin a o h1 h2) (h.gr.keep a o h1 h2)
  · exact g.gr.off a (h.gr.off a h1 h2 h3) (h.gr.stay a h2) (h.gr.nott a h2 h3)
  · exact g.gr.stay a (h.gr.stay a h1)
  · exact g.gr.nott a (h.gr.stay a h1) (h.gr.nott a h1 h2)
  · rcases g.fr q hq with h1 | h1
    · obtain ⟨r, hr, e⟩ := List.mem_map.mp h1
      rw [← e]
      exact h.fr r hr
    · right
      refine Classical.byContradiction fun h2 => ?_
      exact h.gr.stay _ h2 h1
structure Le (E' E : Ent) : Prop where
  to : ∀ F M H, Pt E' F M H → Pt E F M H
  new : ∀ a, E'.H a = none → E.H a = none
theorem Pt.le {E F M H} (h : Pt E F M H) : Le ⟨F, H, keys M⟩ E := ⟨fun _ _ _ g => h.back g, fun a e => Classical.byContradiction fun n => h.gr.stay a n e⟩
theorem Le.refl {E : Ent} : Le E E := ⟨fun _ _ _ h => h, fun _ h => h⟩
theorem Le.trans {E1 E2 E3 : Ent} (a : Le E1 E2) (b : Le E2 E3) : Le E1 E3 := ⟨fun _ _ _ h => b.to _ _ _ (a.to _ _ _ h), fun x h => b.new x (a.new x h)⟩
def EnvOk (F : Hp) (σ : St) (Γ : Gm) : Prop := Paired (fun (s : Option V) (g : Option MP) => ∀ P, g = some P → ∃ v, s = some v ∧ P.p F v) σ Γ
theorem EnvOk.mono {F F' σ Γ} (e : Ex F F') (h : EnvOk F σ Γ) : EnvOk F' σ Γ :=
  Paired.mapP h fun _ _ k P hP => let ⟨v, a, b⟩ := k P hP; ⟨v, a, P.mono e b⟩
theorem paired_get {α β : Type} {R : α → β → Prop} : ∀ {xs : List α} {ys : List β} {i : Nat} {y : β}, Paired R xs ys → ys[i]? = some y → ∃ x, xs[i]? = some x ∧ R x y
  | _, _, _, _, .nil, h => by simp at h
  | _, _, 0, _, .cons a _, h => by
    have e := Option.some.inj h
    subst e
    exact ⟨_, rfl, a⟩
  | _, _, i + 1, y, .cons _ t, h => paired_get (i := i) t h
theorem paired_get' {α β : Type} {R : α → β → Prop} : ∀ {xs : List α} {ys : List β} {i : Nat} {x : α}, Paired R xs ys → xs[i]? = some x → ∃ y, ys[i]? = some y ∧ R x y
  | _, _, _, _, .nil, h => by simp at h
  | _, _, 0, _, .cons a _, h => by
    have e := Option.some.inj h
    subst e
    exact ⟨_, rfl, a⟩
  | _, _, i + 1, y, .cons _ t, h => paired_get' (i := i) t h
theorem paired_set {α β : Type} {R : α → β → Prop} {x : α} {y : β} (r : R x y) : ∀ {xs : List α} {ys : List β} (i : Nat), Paired R xs ys → Paired R (xs.set i x) (ys.set i y)
  | _, _, _, .nil => .nil
  | _, _, 0, .cons _ t => .cons r t
  | _, _, i + 1, .cons a t => .cons a (paired_set r i t)
theorem paired_len {α β : Type} {R : α → β → Prop} : ∀ {xs : List α} {ys : List β}, Paired R xs ys → xs.length = ys.length
  | _, _, .nil => rfl
  | _, _, .cons _ t => by rw [List.length_cons, List.length_cons, paired_len t]
theorem paired_app {α β : Type} {R : α → β → Prop} : ∀ {xs xs' : List α} {ys ys' : List β}, Paired R xs ys → Paired R xs' ys' → Paired R (xs ++ xs') (ys ++ ys')
  | _, _, _, _, .nil, h => h
  | _, _, _, _, .cons a t, h => .cons a (paired_app t h)
theorem EnvOk.set {F σ} {Γ : Gm} {P : MP} {v : V} (i : Nat) (h : EnvOk F σ Γ) (hv : P.p F v) : EnvOk F (σ.set i (some v)) (Γ.set i (some P)) :=
  paired_set (fun Q hQ => by cases hQ; exact ⟨v, rfl, hv⟩) i h
theorem EnvOk.forget {F σ} {Γ : Gm} (i : Nat) (h : EnvOk F σ Γ) : EnvOk F (σ.set i none) (Γ.set i none) := paired_set (fun Q hQ => by cases hQ) i h
theorem EnvOk.get {F σ} {Γ : Gm} {i : Nat} {P : MP} (h : EnvOk F σ Γ) (e : Γ[i]? = some (some P)) : ∃ v, σ[i]? = some (some v) ∧ P.p F v := by
  obtain ⟨s, hs, k⟩ := paired_get h e
  obtain ⟨v, rfl, hv⟩ := k P rfl
  exact ⟨v, hs, hv⟩
def At (E : Ent) (Γ : Gm) (M : Ms) (σ : St) (H : Hp) : Prop := ∃ F, Pt E F M H ∧ EnvOk F σ Γ
def Nx (E : Ent) (Γ : Gm) (M : Ms) (f : St → Hp → Prop) : Prop := ∀ σ H, At E Γ M σ H → f σ H
def Rt (E : Ent) (M : Ms) (P : MP) (f : VK) : Prop := ∀ v F H, Pt E F M H → P.p F v → f v H
theorem At.le {E E' Γ M σ H} (l : Le E' E) (h : At E' Γ M σ H) : At E Γ M σ H := let ⟨F, a, b⟩ := h; ⟨F, l.to _ _ _ a, b⟩
theorem Nx.le {E E' Γ M f} (l : Le E' E) (h : Nx E Γ M f) : Nx E' Γ M f := fun σ H a => h σ H (a.le l)
theorem Rt.le {E E' M P f} (l : Le E' E) (h : Rt E M P f) : Rt E' M P f := fun v F H a b => h v F H (l.to _ _ _ a) b
def Ev (te : TE) (Γ : Gm) (M : Ms) (P : MP) (M' : Ms) : Prop := ∀ E F σ H, Pt E F M H → EnvOk F σ Γ → ∀ Q : VK, (∀ v F' H', Ex F F' → Pt E F' M' H' → P.p F' v → Q v H') → te σ H Q
def EvT (t : TT) (Γ : Gm) (M : Ms) (B : Bool → Prop) (M' : Ms) : Prop := ∀ E F σ H, Pt E F M H → EnvOk F σ Γ → ∀ Q : Bool → Hp → Prop, (∀ b F' H', Ex F F' → Pt E F' M' H' → B b → Q b H') → t σ H Q
/-- arguments: their predicates -/
def Ps (F : Hp) (vs : List V) (ps : List MP) : Prop := Paired (fun (v : V) (P : MP) => P.p F v) vs ps
theorem Ps.mono {F F' vs ps} (e : Ex F F') (h : Ps F vs ps) : Ps F' vs ps := Paired.mapP h fun _ P k => P.mono e k
def EvA (ta : TA) (Γ : Gm) (M : Ms) (ps : List MP) (M' : Ms) : Prop := ∀ E F σ H, Pt E F M H → EnvOk F σ Γ → ∀ Q : List V → Hp → Prop, (∀ vs F' H', Ex F F' → Pt E F' M' H' → Ps F' vs ps → Q vs H') → ta σ H Q
def MP.le (P P' : MP) : Prop := ∀ F v, P.p F v → P'.p F v
theorem Ev.weak {te Γ M P P' M'} (h : Ev te Γ M P M') (l : P.le P') : Ev te Γ M P' M' := fun E F σ H a b Q k => h E F σ H a b Q fun v F' H' e p q => k v F' H' e p (l _ _ q)
theorem EvT.is {t Γ M M'} {b b' : Bool} (h : EvT t Γ M (· = b) M') (e : b = b') : EvT t Γ M (· = b') M' := by rw [← e]; exact h
/-! ### data -/
mutual
theorem Dp.mono {K : PySem.W.Frag} {F F' : Hp} (e : Ex F F') : ∀ {v d}, Dp K F v d → Dp K F' v d
  | _, _, .non => .non
  | _, _, .bl b => .bl b
  | _, _, .int i => .int i
  | _, _, .str x => .str x
  | _, _, .lst h a => .lst (Evl.ex_l e h) (DpAll.mono e a)
  | _, _, .tup h a => .tup (Evl.ex_t e h) (DpAll.mono e a)
theorem DpAll.mono {K : PySem.W.Frag} {F F' : Hp} (e : Ex F F') : ∀ {vs ds}, DpAll K F vs ds → DpAll K F' vs ds
  | _, _, .nil => .nil
  | _, _, .cons a t => .cons (Dp.mono e a) (DpAll.mono e t)
end
def D (K : PySem.W.Frag) (d : PyData) : MP := ⟨fun F v => Dp K F v d, fun e h => Dp.mono e h⟩
theorem dp_int {K F v i} (h : Dp K F v (.int i)) : v = .int i := by cases h; rfl
theorem dp_bl {K F v b} (h : Dp K F v (.bool b)) : v = .bl b := by cases h; rfl
theorem dp_non {K F v} (h : Dp K F v .none) : v = .non := by cases h; rfl
theorem dp_lst {K F v ds} (h : Dp K F v (.list ds)) : ∃ a xs, v = .ref a ∧ SqL K F a xs ∧ DpAll K F xs ds := by cases h with | lst a b => exact ⟨_, _, rfl, a, b⟩
theorem dp_tup {K F v ds} (h : Dp K F v (.tuple ds)) : ∃ a xs, v = .ref a ∧ SqT K F a xs ∧ DpAll K F xs ds := by cases h with | tup a b => exact ⟨_, _, rfl, a, b⟩
theorem all_ps {K F} : ∀ {vs ds}, DpAll K F vs ds → Ps F vs (ds.map (D K))
  | _, _, .nil => .nil
  | _, _, .cons a t => .cons a (all_ps t)
theorem ps_all {K F} : ∀ {ds : List PyData} {vs}, Ps F vs (ds.map (D K)) → DpAll K F vs ds
  | [], _, h => by cases h; exact .nil
  | d :: ds, _, h => by cases h with | cons a t => exact .cons a (ps_all t)
/-- a list, a tuple that stands, of predicates -/
def PLi (K : PySem.W.Frag) (ps : List MP) : MP := ⟨fun F v => ∃ a vs, v = .ref a ∧ SqL K F a vs ∧ Ps F vs ps, fun e ⟨a, vs, h, s, q⟩ => ⟨a, vs, h, Evl.ex_l e s, q.mono e⟩⟩
def PTu (K : PySem.W.Frag) (ps : List MP) : MP := ⟨fun F v => ∃ a vs, v = .ref a ∧ SqT K F a vs ∧ Ps F vs ps, fun e ⟨a, vs, h, s, q⟩ => ⟨a, vs, h, Evl.ex_t e s, q.mono e⟩⟩
theorem D_PLi {K ds} : MP.le (D K (.list ds)) (PLi K (ds.map (D K))) := fun F v h => let ⟨a, xs, e, s, q⟩ := dp_lst h; ⟨a, xs, e, s, all_ps q⟩
theorem D_PTu {K ds} : MP.le (D K (.tuple ds)) (PTu K (ds.map (D K))) := fun F v h => let ⟨a, xs, e, s, q⟩ := dp_tup h; ⟨a, xs, e, s, all_ps q⟩
theorem PLi_D {K ds} : MP.le (PLi K (ds.map (D K))) (D K (.list ds)) := fun F v ⟨a, xs, e, s, q⟩ => by subst e; exact .lst s (ps_all q)
theorem PTu_D {K ds} : MP.le (PTu K (ds.map (D K))) (D K (.tuple ds)) := fun F v ⟨a, xs, e, s, q⟩ => by subst e; exact .tup s (ps_all q)
/-- some -/
def PEx {α : Type} (P : α → MP) : MP := ⟨fun F v => ∃ x, (P x).p F v, fun e ⟨x, h⟩ => ⟨x, (P x).mono e h⟩⟩
/-- with a fact -/
def PAn (φ : Prop) (P : MP) : MP := ⟨fun F v => φ ∧ P.p F v, fun e h => ⟨h.1, P.mono e h.2⟩⟩
def Own (q : Addr) : MP := ⟨fun _ v => v = .ref q, fun _ h => h⟩
/-- an own list of items -/
def ML (ps : List MP) : MO := ⟨fun F o => ∃ vs, o = .lst vs ∧ Ps F vs ps, fun e ⟨vs, h, q⟩ => ⟨vs, h, q.mono e⟩, fun ⟨vs, h, _⟩ xs z => by rw [h] at z; cases z⟩
def MX {α : Type} (P : α → MO) : MO := ⟨fun F v => ∃ x, (P x).p F v, fun e ⟨x, h⟩ => ⟨x, (P x).mono e h⟩, fun ⟨x, h⟩ => (P x).nt h⟩
def MA (φ : Prop) (P : MO) : MO := ⟨fun F v => φ ∧ P.p F v, fun e h => ⟨h.1, P.mono e h.2⟩, fun h => P.nt h.2⟩
end Hq
namespace Hq
open PySem L2
/-! ### steps of a point -/
theorem keys_set {M : Ms} {j : Nat} {q : Addr} {O O' : MO} : M[j]? = some (q, O) → keys (M.set j (q, O')) = keys M := by
  induction M generalizing j with
  | nil => intro h; simp at h
  | cons m M ih =>
    intro h
    cases j with
    | zero =>
      have e : m = (q, O) := Option.some.inj h
      subst e
      rfl
    | succ j =>
      have h' : M[j]? = some (q, O) := h
      show m.1 :: keys (M.set j (q, O')) = m.1 :: keys M
      rw [ih h']
theorem mem_set_ne {M : Ms} {j : Nat} {q : Addr} {O O' : MO} (nd : (keys M).Nodup) : M[j]? = some (q, O) → ∀ r ∈ M.set j (q, O'), r = (q, O') ∨ (r ∈ M ∧ r.1 ≠ q) := by
  induction M generalizing j with
  | nil => intro h; simp at h
  | cons m M ih =>
    intro h r hr
    have nd' := List.nodup_cons.mp (show (m.1 :: keys M).Nodup from nd)
    cases j with
    | zero =>
      have e : m = (q, O) := Option.some.inj h
      subst e
      have hr' : r ∈ (q, O') :: M := hr
      rcases List.mem_cons.mp hr' with e | hm
      · exact .inl e
      · exact .inr ⟨List.mem_cons_of_mem _ hm, fun e => nd'.1 (by rw [← e]; exact List.mem_map_of_mem (f := (·.1)) hm)⟩
    | succ j =>
      have h' : M[j]? = some (q, O) := h
      have hr' : r ∈ m :: M.set j (q, O') := hr
      have hq : q ∈ keys M := List.mem_map_of_mem (f := (·.1)) (List.mem_of_getElem? h')
      rcases List.mem_cons.mp hr' with e | hm
      · subst e
        exact .inr ⟨List.mem_cons_self, fun e => nd'.1 (by rw [e]; exact hq)⟩
      · rcases ih nd'.2 h' r hm with e | ⟨e, e2⟩
        · exact .inl e
        · exact .inr ⟨List.mem_cons_of_mem _ e, e2⟩
section
variable {K : PySem.W.Frag} {E E' : Ent} {F F' H H' : Hp} {M M' M1 M2 M3 : Ms} {Γ Γ' : Gm} {P P' P1 P2 : MP} {O O' : MO} {q : Addr} {σ : St} {o o' : HO} {j : Nat}
theorem Pt.at (h : Pt E F M H) (e : M[j]? = some (q, O)) : F q = none ∧ ∃ o, H q = some o ∧ O.p F o := h.wd.own _ (List.mem_of_getElem? e)
theorem Pt.ex (h : Pt E F M H) : Ex F H := h.wd.ex
theorem Pt.fresh (h : Pt E F M H) (hp : H q = none) : E.H q = none := Classical.byContradiction fun n => h.gr.stay _ n hp
theorem Pt.new (h : Pt E F M H) (hp : H q = none) (ho : O.p F o) : Pt E F ((q, O) :: M) (upd H q o) := by
  have ne : ∀ {a u}, H a = some u → a ≠ q := fun e => ne_of_none e hp
  refine ⟨⟨h.gr.ex, fun a u h1 h2 => ?_, h.gr.off, fun a h1 => ?_, fun a h1 h2 => ?_⟩, ⟨h.wd.ex.trans (Evl.Ex.new hp), ?_, fun r hr => ?_⟩, fun r hr => ?_⟩
  · have := h.gr.keep a u h1 h2
    rw [upd_ne (ne this)]; exact this
  · by_cases e : a = q
    · subst e; rw [upd_same]; exact fun z => by cases z
    · rw [upd_ne e]; exact h.gr.stay a h1
  · rw [upd_ne (fun e => h.gr.stay a h1 (by rw [e]; exact hp))]; exact h.gr.nott a h1 h2
  · refine List.nodup_cons.mpr ⟨fun hm => ?_, h.wd.nd⟩
    obtain ⟨r, hr, e⟩ := List.mem_map.mp hm
    obtain ⟨_, u, hu, _⟩ := h.wd.own r hr
    exact ne hu e
  · rcases List.mem_cons.mp hr with e | hm
    · subst e; exact ⟨Evl.fresh_back h.wd.ex hp, o, upd_same, ho⟩
    · obtain ⟨a, u, hu, b⟩ := h.wd.own r hm
      exact ⟨a, u, by rw [upd_ne (ne hu)]; exact hu, b⟩
  · rcases List.mem_cons.mp hr with e | hm
    · subst e; exact .inr (h.fresh hp)
    · exact h.fr r hm
theorem Pt.laid (h : Pt E F M H) (hp : H q = none) : Pt E (upd F q o) M (upd H q o) := by
  have ne : ∀ {a u}, H a = some u → a ≠ q := fun e => ne_of_none e hp
  have fq : F q = none := Evl.fresh_back h.wd.ex hp
  refine ⟨⟨h.gr.ex.trans (Evl.Ex.new fq), fun a u h1 h2 => ?_, fun a h1 h2 h3 => ?_, fun a h1 => ?_, fun a h1 h2 => ?_⟩, ⟨fun a u e => ?_, h.wd.nd, fun r hr => ?_⟩, h.fr⟩
  · have := h.gr.keep a u h1 h2
    rw [upd_ne (ne this)]; exact this
  · have n : a ≠ q := fun e => h2 (by rw [e]; exact h.fresh hp)
    rw [upd_ne n]; exact h.gr.off a h1 h2 h3
  · by_cases e : a = q
    · subst e; rw [upd_same]; exact fun z => by cases z
    · rw [upd_ne e]; exact h.gr.stay a h1
  · rw [upd_ne (fun e => h.gr.stay a h1 (by rw [e]; exact hp))]; exact h.gr.nott a h1 h2
  · by_cases e2 : a = q
    · subst e2; rw [upd_same] at e ⊢; exact e
    · rw [upd_ne e2] at e ⊢; exact h.wd.ex a u e
  · obtain ⟨a, u, hu, b⟩ := h.wd.own r hr
    have n : r.1 ≠ q := ne hu
    exact ⟨by rw [upd_ne n]; exact a, u, by rw [upd_ne n]; exact hu, r.2.mono (Evl.Ex.new fq) b⟩
theorem Pt.freeze (h : Pt E F M H) (e : M[j]? = some (q, O)) (hq : E.H q = none) (ho : H q = some o) : Pt E (upd F q o) (M.eraseIdx j) H := by
  obtain ⟨fq, _⟩ := h.at e
  have nd : ∀ r ∈ M.eraseIdx j, r.1 ≠ q := by
    have key : ∀ {M : Ms} {j : Nat}, (keys M).Nodup → M[j]? = some (q, O) → ∀ r ∈ M.eraseIdx j, r.1 ≠ q := by
      intro M
      induction M with
      | nil => intro j _ h; simp at h
      | cons m M ih =>
        intro j nd e r hr
        have nd' := List.nodup_cons.mp (show (m.1 :: keys M).Nodup from nd)
        cases j with
        | zero =>
          have e1 : m = (q, O) := Option.some.inj e
          subst e1
          have hr : r ∈ M := hr
          exact fun z => nd'.1 (by rw [← z]; exact List.mem_map_of_mem (f := (·.1)) hr)
        | succ j =>
          have e1 : M[j]? = some (q, O) := e
          have hr : r ∈ m :: M.eraseIdx j := hr
          have hq : q ∈ keys M := List.mem_map_of_mem (f := (·.1)) (List.mem_of_getElem? e1)
          rcases List.mem_cons.mp hr with z | z
          · subst z; exact fun z => nd'.1 (by rw [z]; exact hq)
          · exact ih nd'.2 e1 r z
    exact key h.wd.nd e
  refine ⟨⟨h.gr.ex.trans (Evl.Ex.new fq), h.gr.keep, fun a h1 h2 h3 => ?_, h.gr.stay, h.gr.nott⟩, ⟨fun a u z => ?_, ?_, fun r hr => ?_⟩, fun r hr => h.fr r (List.mem_of_mem_eraseIdx hr)⟩
  · have n : a ≠ q := fun z => h2 (by rw [z]; exact hq)
    rw [upd_ne n]; exact h.gr.off a h1 h2 h3
  · by_cases e2 : a = q
    · subst e2; rw [upd_same] at z; rw [ho]; exact z
    · rw [upd_ne e2] at z; exact h.wd.ex a u z
  · exact h.wd.nd.sublist ((List.eraseIdx_sublist _ _).map _)
  · obtain ⟨a, u, hu, b⟩ := h.wd.own r (List.mem_of_mem_eraseIdx hr)
    exact ⟨by rw [upd_ne (nd r hr)]; exact a, u, hu, r.2.mono (Evl.Ex.new fq) b⟩
theorem Pt.mut (h : Pt E F M H) (e : M[j]? = some (q, O)) (ho : O'.p F o') : Pt E F (M.set j (q, O')) (upd H q o') := by
  have hm := List.mem_of_getElem? e
  obtain ⟨fq, u0, hu0, _⟩ := h.at e
  refine ⟨⟨h.gr.ex, fun a u h1 h2 => ?_, h.gr.off, fun a h1 => ?_, fun a h1 h2 => ?_⟩, ⟨fun a u z => ?_, by rw [keys_set e]; exact h.wd.nd, fun r hr => ?_⟩, fun r hr => ?_⟩
  · have n : a ≠ q := fun z => by
      subst z
      rcases h.fr _ hm with f | f
      · exact h1 f
      · rw [show E.H a = none from f] at h2; cases h2
    rw [upd_ne n]; exact h.gr.keep a u h1 h2
  · by_cases z : a = q
    · subst z; rw [upd_same]; exact fun z => by cases z
    · rw [upd_ne z]; exact h.gr.stay a h1
  · by_cases z : a = q
    · subst z; rw [upd_same]; exact fun xs e => O'.nt ho xs (Option.some.inj e)
    · rw [upd_ne z]; exact h.gr.nott a h1 h2
  · rw [upd_ne (ne_of_none z fq)]; exact h.wd.ex a u z
  · rcases mem_set_ne h.wd.nd e r hr with z | ⟨z, n⟩
    · subst z; exact ⟨fq, o', upd_same, ho⟩
    · obtain ⟨a, u, hu, b⟩ := h.wd.own r z
      exact ⟨a, u, by rw [upd_ne n]; exact hu, b⟩
  · rcases mem_set_ne h.wd.nd e r hr with z | ⟨z, n⟩
    · subst z; exact (show q ∈ E.ks ∨ E.H q = none from h.fr (q, O) hm)
    · exact h.fr r z
/-- a tuple that stands may be known -/
theorem Pt.learn {xs : List V} (h : Pt E F M H) (hq : H q = some (.tup xs)) : ∃ F', Ex F F' ∧ F' q = some (.tup xs) ∧ Pt E F' M H := by
  cases fq : F q with
  | some o =>
    refine ⟨F, Evl.Ex.refl _, ?_, h⟩
    have := h.wd.ex _ _ fq
    rw [hq] at this
    rw [fq, ← Option.some.inj this]
  | none =>
    refine ⟨upd F q (.tup xs), Evl.Ex.new fq, upd_same, ⟨h.gr.ex.trans (Evl.Ex.new fq), h.gr.keep, fun a h1 h2 h3 => ?_, h.gr.stay, h.gr.nott⟩, ⟨fun a u e => ?_, h.wd.nd, fun r hr => ?_⟩, h.fr⟩
    · have n : a ≠ q := fun e => h.gr.nott a h2 h3 xs (by rw [e]; exact hq)
      rw [upd_ne n]; exact h.gr.off a h1 h2 h3
    · by_cases e2 : a = q
      · subst e2; rw [upd_same] at e; rw [hq]; exact e
      · rw [upd_ne e2] at e; exact h.wd.ex a u e
    · obtain ⟨a, u, hu, b⟩ := h.wd.own r hr
      have n : r.1 ≠ q := fun e => by rw [e, hq] at hu; exact r.2.nt b xs (Option.some.inj hu).symm
      exact ⟨by rw [upd_ne n]; exact a, u, hu, r.2.mono (Evl.Ex.new fq) b⟩
theorem Pt.drop (h : Pt E F M H) (s : List.Sublist M' M) : Pt E F M' H :=
  ⟨h.gr, ⟨h.wd.ex, h.wd.nd.sublist (s.map _), fun r hr => h.wd.own r (s.subset hr)⟩, fun r hr => h.fr r (s.subset hr)⟩
theorem Pt.to (h : Pt E F M H) (l : ∀ F o, O.p F o → O'.p F o) (e : M[j]? = some (q, O)) : Pt E F (M.set j (q, O')) H := by
  obtain ⟨fq, u0, hu0, hO⟩ := h.at e
  have := h.mut (o' := u0) (O' := O') e (l _ _ hO)
  have e2 : upd H q u0 = H := by
    funext a
    by_cases z : a = q
    · subst z; rw [upd_same, hu0]
    · rw [upd_ne z]
  rw [e2] at this
  exact this
/-! ### changes of what is known -/
theorem Nx.imp {f} (h : Nx E Γ' M' f) (i : ∀ σ H, At E Γ M σ H → At E Γ' M' σ H) : Nx E Γ M f := fun σ H a => h σ H (i σ H a)
theorem EnvOk.upd {i : Nat} (h : EnvOk F σ Γ) (e : Γ[i]? = some (some P)) (l : ∀ v, P.p F v → P'.p F v) : EnvOk F σ (Γ.set i (some P')) := by
  have key : ∀ {σ : St} {Γ : Gm} {i : Nat}, EnvOk F σ Γ → Γ[i]? = some (some P) → EnvOk F σ (Γ.set i (some P')) := by
    intro σ Γ
    induction Γ generalizing σ with
    | nil => intro i _ h; simp at h
    | cons g Γ ih =>
      intro i h e
      cases h with
      | cons a t =>
        cases i with
        | zero =>
          have e : g = some P := Option.some.inj e
          refine .cons (fun Q hQ => ?_) t
          cases hQ
          obtain ⟨v, hv, k⟩ := a P e
          exact ⟨v, hv, l v k⟩
        | succ i => exact .cons a (ih t e)
  exact key h e
theorem nx_le {f} {i : Nat} (e : Γ[i]? = some (some P)) (l : P.le P') (h : Nx E (Γ.set i (some P')) M f) : Nx E Γ M f :=
  h.imp fun _ _ ⟨F, a, b⟩ => ⟨F, a, b.upd e (l F)⟩
theorem nx_ex {α : Type} {f} {i : Nat} {R : α → MP} (e : Γ[i]? = some (some (PEx R))) (h : ∀ x, Nx E (Γ.set i (some (R x))) M f) : Nx E Γ M f := by
  rintro σ H ⟨F, a, b⟩
  obtain ⟨v, hv, x, k⟩ := b.get e
  refine h x σ H ⟨F, a, ?_⟩
  have : EnvOk F (σ.set i (some v)) (Γ.set i (some (R x))) := b.set i k
  have e2 : σ.set i (some v) = σ := by
    have hi := (List.getElem?_eq_some_iff.mp hv)
    obtain ⟨hi, hv⟩ := hi
    rw [← hv, List.set_getElem_self]
  rw [e2] at this
  exact this
theorem nx_an {φ : Prop} {f} {i : Nat} {R : MP} (e : Γ[i]? = some (some (PAn φ R))) (h : φ → Nx E (Γ.set i (some R)) M f) : Nx E Γ M f := by
  rintro σ H ⟨F, a, b⟩
  obtain ⟨v, hv, k1, k2⟩ := b.get e
  refine h k1 σ H ⟨F, a, b.upd e fun v q => q.2⟩
/-- an own list is given away: it stands from now on -/
theorem nx_freeze {f} {i : Nat} {ps : List MP} (j : Nat) (e : M[j]? = some (q, ML ps)) (hq : E.H q = none) (hg : Γ[i]? = some (some (Own q))) (h : Nx E (Γ.set i (some (PLi K ps))) (M.eraseIdx j) f) : Nx E Γ M f := by
  rintro σ H ⟨F, a, b⟩
  obtain ⟨fq, o, ho, vs, rfl, hp⟩ := a.at e
  have ex : Ex F (upd F q (.lst vs)) := Evl.Ex.new fq
  refine h σ H ⟨_, a.freeze e hq ho, (b.mono ex).upd hg fun v hv => ⟨q, vs, hv, .inl (.inl upd_same), hp.mono ex⟩⟩
theorem nx_forget {f} (i : Nat) (h : Nx E (Γ.set i none) M f) : Nx E Γ M f := h.imp fun σ H ⟨F, a, b⟩ => ⟨F, a, by
  have key : ∀ {σ : St} {Γ : Gm} {i : Nat}, EnvOk F σ Γ → EnvOk F σ (Γ.set i none) := by
    intro σ Γ
    induction Γ generalizing σ with
    | nil => intro i h; exact h
    | cons g Γ ih =>
      intro i h
      cases h with
      | cons a t => cases i with
        | zero => exact .cons (fun Q hQ => by cases hQ) t
        | succ i => exact .cons a (ih t)
  exact key b⟩
theorem nx_drop {f} (s : List.Sublist M' M) (h : Nx E Γ M' f) : Nx E Γ M f := h.imp fun σ H ⟨F, a, b⟩ => ⟨F, a.drop s, b⟩
/-! ### expressions -/
variable {te ta tb tc tl : TE} {t u : TT} {r : R2}
theorem ev_var {i : Nat} (e : Γ[i]? = some (some P)) : Ev (tVar i) Γ M P M := fun E F σ H a b Q k => by
  obtain ⟨v, hv, hp⟩ := b.get e
  exact ⟨v, hv, k v F H (Evl.Ex.refl _) a hp⟩
theorem ev_cv {v : V} (h : ∀ F, P.p F v) : Ev (tC v) Γ M P M := fun E F σ H a b Q k => k v F H (Evl.Ex.refl _) a (h F)
theorem ev_int {i : Int} : Ev (tC (.int i)) Γ M (D K (.int i)) M := ev_cv fun _ => .int i
theorem ev_bl {b : Bool} : Ev (tC (.bl b)) Γ M (D K (.bool b)) M := ev_cv fun _ => .bl b
theorem ev_non : Ev (tC .non) Γ M (D K .none) M := ev_cv fun _ => .non
def Cont (E : Ent) (F : Hp) (M : Ms) (P : MP) (Q : VK) : Prop := ∀ v F' H', Ex F F' → Pt E F' M H' → P.p F' v → Q v H'
def RV (r : R2) (P1 P2 : MP) (M : Ms) (P : MP) (M' : Ms) : Prop := ∀ E F H x y, Pt E F M H → P1.p F x → P2.p F y → ∀ Q : VK, Cont E F M' P Q → r x y H Q
theorem ev_op (ha : Ev ta Γ M P1 M1) (hb : Ev tb Γ M1 P2 M2) (hr : RV r P1 P2 M2 P M3) : Ev (tOp r ta tb) Γ M P M3 := fun E F σ H a b Q k =>
  ha E F σ H a b _ fun x F1 H1 e1 a1 p1 => hb E F1 σ H1 a1 (b.mono e1) _ fun y F2 H2 e2 a2 p2 =>
    hr E F2 H2 x y a2 (P1.mono e2 p1) p2 Q fun v F3 H3 e3 a3 p3 => k v F3 H3 ((e1.trans e2).trans e3) a3 p3
theorem RV.ex1 {α : Type} {R : α → MP} (h : ∀ x, RV r (R x) P2 M P M') : RV r (PEx R) P2 M P M' := fun E F H x y a ⟨z, p1⟩ p2 Q k => h z E F H x y a p1 p2 Q k
theorem RV.ex2 {α : Type} {R : α → MP} (h : ∀ x, RV r P1 (R x) M P M') : RV r P1 (PEx R) M P M' := fun E F H x y a p1 ⟨z, p2⟩ Q k => h z E F H x y a p1 p2 Q k
theorem RV.an1 {φ : Prop} {R : MP} (h : φ → RV r R P2 M P M') : RV r (PAn φ R) P2 M P M' := fun E F H x y a p1 p2 Q k => h p1.1 E F H x y a p1.2 p2 Q k
theorem RV.an2 {φ : Prop} {R : MP} (h : φ → RV r P1 R M P M') : RV r P1 (PAn φ R) M P M' := fun E F H x y a p1 p2 Q k => h p2.1 E F H x y a p1 p2.2 Q k
theorem RV.weak (h : RV r P1 P2 M P M') (l : P.le P') : RV r P1 P2 M P' M' := fun E F H x y a p1 p2 Q k => h E F H x y a p1 p2 Q fun v F' H' e g p => k v F' H' e g (l _ _ p)
theorem PEx.in {α : Type} {R : α → MP} (x : α) : (R x).le (PEx R) := fun _ _ h => ⟨x, h⟩
theorem PAn.in {φ : Prop} {R : MP} (h : φ) : R.le (PAn φ R) := fun _ _ k => ⟨h, k⟩
theorem MP.le_trans {A B C : MP} (h : A.le B) (k : B.le C) : A.le C := fun F v q => k F v (h F v q)
theorem rv_val {z : V} (hz : ∀ F, P.p F z) (h : ∀ F H x y, P1.p F x → P2.p F y → Ex F H → ∀ Q : VK, Q z H → r x y H Q) : RV r P1 P2 M P M := fun E F H x y a p1 p2 Q k =>
  h F H x y p1 p2 a.ex Q (k z F H (Evl.Ex.refl _) a (hz F))
theorem rv_i0 {g : Int → Int → Int} {i j : Int} : RV (rI0 fun i j => .int (g i j)) (D K (.int i)) (D K (.int j)) M (D K (.int (g i j))) M := rv_val (z := .int (g i j)) (fun _ => .int _) fun F H x y p1 p2 _ Q q => by
  cases dp_int p1; cases dp_int p2
  exact ⟨i, j, rfl, rfl, q⟩
theorem rv_b0 {g : Int → Int → Bool} {i j : Int} : RV (rI0 fun i j => .bl (g i j)) (D K (.int i)) (D K (.int j)) M (D K (.bool (g i j))) M := rv_val (z := .bl (g i j)) (fun _ => .bl _) fun F H x y p1 p2 _ Q q => by
  cases dp_int p1; cases dp_int p2
  exact ⟨i, j, rfl, rfl, q⟩
theorem rv_ic {C : Int → Int → Prop} {g : Int → Int → Int} {i j : Int} (hc : C i j) : RV (rI C fun i j => .int (g i j)) (D K (.int i)) (D K (.int j)) M (D K (.int (g i j))) M := rv_val (z := .int (g i j)) (fun _ => .int _) fun F H x y p1 p2 _ Q q => by
  cases dp_int p1; cases dp_int p2
  exact ⟨i, j, rfl, rfl, hc, q⟩
theorem rv_eqD {d e : PyData} (hd : SeqAt.shaped d = true) (he : SeqAt.shaped e = true) : RV (rEqD K) (D K d) (D K e) M (D K (.bool (PyData.eqv d e))) M := rv_val (z := .bl _) (fun _ => .bl _) fun F H x y p1 p2 ex Q q =>
  ⟨d, e, Dp.mono ex p1, Dp.mono ex p2, hd, he, q⟩
theorem rv_neD {d e : PyData} (hd : SeqAt.shaped d = true) (he : SeqAt.shaped e = true) : RV (rNeD K) (D K d) (D K e) M (D K (.bool (!PyData.eqv d e))) M := rv_val (z := .bl _) (fun _ => .bl _) fun F H x y p1 p2 ex Q q =>
  ⟨d, e, Dp.mono ex p1, Dp.mono ex p2, hd, he, q⟩
theorem atI_of {xs : List V} {i : Int} {v : V} (h0 : 0 ≤ i) (h : xs[i.toNat]? = some v) : atI xs i = some v := by
  have hl := (List.getElem?_eq_some_iff.mp h).1
  obtain ⟨n, rfl⟩ := Int.eq_ofNat_of_zero_le h0
  unfold atI
  rw [Evl.ixN_nat (by simpa using hl)]
  simpa using h
theorem rv_ixL {ps : List MP} {i : Int} (h0 : 0 ≤ i) (h : ps[i.toNat]? = some P) : RV (rIx K) (PLi K ps) (D K (.int i)) M P M := fun E F H x y a p1 p2 Q k => by
  cases dp_int p2
  obtain ⟨b, vs, rfl, s, q⟩ := p1
  obtain ⟨v, hv, hp⟩ := paired_get q h
  exact .inl ⟨b, vs, i, v, rfl, rfl, Evl.ex_l a.ex s, atI_of h0 hv, k v F H (Evl.Ex.refl _) a hp⟩
theorem rv_ixT {ps : List MP} {i : Int} (h0 : 0 ≤ i) (h : ps[i.toNat]? = some P) : RV (rIx K) (PTu K ps) (D K (.int i)) M P M := fun E F H x y a p1 p2 Q k => by
  cases dp_int p2
  obtain ⟨b, vs, rfl, s, q⟩ := p1
  obtain ⟨v, hv, hp⟩ := paired_get q h
  exact .inr (.inl ⟨b, vs, i, v, rfl, rfl, Evl.ex_t a.ex s, atI_of h0 hv, k v F H (Evl.Ex.refl _) a hp⟩)
theorem rv_ixDL {ds : List PyData} {i : Int} {d : PyData} (h0 : 0 ≤ i) (h : ds[i.toNat]? = some d) : RV (rIx K) (D K (.list ds)) (D K (.int i)) M (D K d) M := fun E F H x y a p1 p2 Q k =>
  rv_ixL (K := K) (ps := ds.map (D K)) h0 (by rw [List.getElem?_map, h]; rfl) E F H x y a (D_PLi _ _ p1) p2 Q k
theorem rv_ixDT {ds : List PyData} {i : Int} {d : PyData} (h0 : 0 ≤ i) (h : ds[i.toNat]? = some d) : RV (rIx K) (D K (.tuple ds)) (D K (.int i)) M (D K d) M := fun E F H x y a p1 p2 Q k =>
  rv_ixT (K := K) (ps := ds.map (D K)) h0 (by rw [List.getElem?_map, h]; rfl) E F H x y a (D_PTu _ _ p1) p2 Q k
theorem rv_ixO {ps : List MP} {i : Int} {j : Nat} (e : M[j]? = some (q, ML ps)) (h0 : 0 ≤ i) (h : ps[i.toNat]? = some P) : RV (rIx K) (Own q) (D K (.int i)) M P M := fun E F H x y a p1 p2 Q k => by
  cases dp_int p2
  have p1 : x = .ref q := p1
  subst p1
  obtain ⟨fq, o, ho, vs, rfl, s⟩ := a.at e
  obtain ⟨v, hv, hp⟩ := paired_get s h
  exact .inl ⟨q, vs, i, v, rfl, rfl, SqL.of ho, atI_of h0 hv, k v F H (Evl.Ex.refl _) a hp⟩
theorem flat_ints : ∀ {F : Hp} {xs : List V} {ns : List Int}, DpAll K F xs (ns.map PyData.int) → xs = ns.map V.int
  | _, _, [], h => by cases h; rfl
  | _, _, n :: ns, h => by cases h with | cons a t => rw [List.map_cons, ← flat_ints t, dp_int a]
theorem flat_all (ns : List Int) : (ns.map V.int).all flatV = true := by
  rw [List.all_eq_true]
  intro x hx
  obtain ⟨n, _, rfl⟩ := List.mem_map.mp hx
  rfl
theorem inV_ints (i : Int) (ns : List Int) : inV (.int i) (ns.map V.int) = decide (i ∈ ns) := by
  induction ns with
  | nil => rfl
  | cons n ns ih =>
    show (eqV (.int n) (.int i) || inV (.int i) (ns.map V.int)) = _
    rw [ih]
    show (decide (n = i) || decide (i ∈ ns)) = _
    by_cases h : i = n
    · subst h; simp
    · have h2 : ¬ n = i := fun e => h e.symm
      simp [h, h2]
theorem rv_inT {i : Int} {ns : List Int} {neg : Bool} : RV (rIn K neg) (D K (.int i)) (D K (.tuple (ns.map .int))) M (D K (.bool (if neg then !decide (i ∈ ns) else decide (i ∈ ns)))) M := rv_val (z := .bl _) (fun _ => .bl _) fun F H x y p1 p2 ex Q k => by
  cases dp_int p1
  obtain ⟨b, vs, rfl, s, q⟩ := dp_tup p2
  cases flat_ints q
  refine ⟨b, _, rfl, .inr (Evl.ex_t ex s), rfl, flat_all ns, ?_⟩
  rw [inV_ints]
  exact k
theorem rv_inL {i : Int} {ns : List Int} {neg : Bool} : RV (rIn K neg) (D K (.int i)) (D K (.list (ns.map .int))) M (D K (.bool (if neg then !decide (i ∈ ns) else decide (i ∈ ns)))) M := rv_val (z := .bl _) (fun _ => .bl _) fun F H x y p1 p2 ex Q k => by
  cases dp_int p1
  obtain ⟨b, vs, rfl, s, q⟩ := dp_lst p2
  cases flat_ints q
  refine ⟨b, _, rfl, .inl (Evl.ex_l ex s), rfl, flat_all ns, ?_⟩
  rw [inV_ints]
  exact k
/-! ### arguments, calls -/
theorem ea_nil : EvA tNil Γ M [] M := fun E F σ H a b Q k => k [] F H (Evl.Ex.refl _) a .nil
theorem ea_cons {tr : TA} {ps : List MP} (h : Ev te Γ M P M1) (hr : EvA tr Γ M1 ps M2) : EvA (tCons te tr) Γ M (P :: ps) M2 := fun E F σ H a b Q k =>
  h E F σ H a b _ fun x F1 H1 e1 a1 p1 => hr E F1 σ H1 a1 (b.mono e1) _ fun vs F2 H2 e2 a2 p2 => k (x :: vs) F2 H2 (e1.trans e2) a2 (.cons (P.mono e2 p1) p2)
def RC (rc : List V → Hp → VK → Prop) (ps : List MP) (M : Ms) (P : MP) (M' : Ms) : Prop := ∀ E F H vs, Pt E F M H → Ps F vs ps → ∀ Q : VK, Cont E F M' P Q → rc vs H Q
theorem ev_cb {rc : List V → Hp → VK → Prop} {tr : TA} {ps : List MP} (h : EvA tr Γ M ps M1) (hr : RC rc ps M1 P M2) : Ev (tCB rc tr) Γ M P M2 := fun E F σ H a b Q k =>
  h E F σ H a b _ fun vs F1 H1 e1 a1 p1 => hr E F1 H1 vs a1 p1 Q fun v F2 H2 e2 a2 p2 => k v F2 H2 (e1.trans e2) a2 p2
theorem ev_call {sp : Sp} {dvs : List V} {X : XK} {tr : TA} {ps : List MP} (h : EvA tr Γ M ps M1) (hr : RC (fun vs H Q => sp (vs ++ dvs) H Q X) ps M1 P M2) : Ev (tCall sp dvs X tr) Γ M P M2 := fun E F σ H a b Q k =>
  h E F σ H a b _ fun vs F1 H1 e1 a1 p1 => hr E F1 H1 vs a1 p1 Q fun v F2 H2 e2 a2 p2 => k v F2 H2 (e1.trans e2) a2 p2
theorem RC.weak {rc : List V → Hp → VK → Prop} {ps : List MP} (h : RC rc ps M P M') (l : P.le P') : RC rc ps M P' M' := fun E F H vs a p Q k => h E F H vs a p Q fun v F' H' e g p => k v F' H' e g (l _ _ p)
theorem rc_len {ps : List MP} : RC (fun xs H Q => ∃ p ys, xs = [.ref p] ∧ (SqL K H p ys ∨ SqT K H p ys) ∧ Q (.int ys.length) H) [PLi K ps] M (D K (.int ps.length)) M := fun E F H vs a p Q k => by
  cases p with
  | cons p t =>
    cases t
    obtain ⟨b, ys, rfl, s, q⟩ := p
    refine ⟨b, ys, rfl, .inl (Evl.ex_l a.ex s), k _ F H (Evl.Ex.refl _) a ?_⟩
    rw [← paired_len q]
    exact .int _
theorem rc_lenT {ps : List MP} : RC (fun xs H Q => ∃ p ys, xs = [.ref p] ∧ (SqL K H p ys ∨ SqT K H p ys) ∧ Q (.int ys.length) H) [PTu K ps] M (D K (.int ps.length)) M := fun E F H vs a p Q k => by
  cases p with
  | cons p t =>
    cases t
    obtain ⟨b, ys, rfl, s, q⟩ := p
    refine ⟨b, ys, rfl, .inr (Evl.ex_t a.ex s), k _ F H (Evl.Ex.refl _) a ?_⟩
    rw [← paired_len q]
    exact .int _
theorem rc_lenO {ps : List MP} {j : Nat} (e : M[j]? = some (q, ML ps)) : RC (fun xs H Q => ∃ p ys, xs = [.ref p] ∧ (SqL K H p ys ∨ SqT K H p ys) ∧ Q (.int ys.length) H) [Own q] M (D K (.int ps.length)) M := fun E F H vs a p Q k => by
  cases p with
  | cons p t =>
    cases t
    have p : _ = V.ref q := p
    subst p
    obtain ⟨fq, o, ho, vs, rfl, s⟩ := a.at e
    refine ⟨q, vs, rfl, .inl (SqL.of ho), k _ F H (Evl.Ex.refl _) a ?_⟩
    rw [← paired_len s]
    exact .int _
theorem le_L {ds : List PyData} : (D K (.list ds)).le (PLi K (ds.map (D K))) := D_PLi
theorem le_T {ds : List PyData} : (D K (.tuple ds)).le (PTu K (ds.map (D K))) := D_PTu
theorem rc_lenD {ds : List PyData} : RC (fun xs H Q => ∃ p ys, xs = [.ref p] ∧ (SqL K H p ys ∨ SqT K H p ys) ∧ Q (.int ys.length) H) [D K (.list ds)] M (D K (.int ds.length)) M := fun E F H vs a p Q k => by
  cases p with
  | cons p t =>
    cases t
    have := rc_len (K := K) (ps := ds.map (D K)) E F H [_] a (.cons (D_PLi _ _ p) .nil) Q (M := M)
    rw [List.length_map] at this
    exact this k
theorem rc_lenDT {ds : List PyData} : RC (fun xs H Q => ∃ p ys, xs = [.ref p] ∧ (SqL K H p ys ∨ SqT K H p ys) ∧ Q (.int ys.length) H) [D K (.tuple ds)] M (D K (.int ds.length)) M := fun E F H vs a p Q k => by
  cases p with
  | cons p t =>
    cases t
    have := rc_lenT (K := K) (ps := ds.map (D K)) E F H [_] a (.cons (D_PTu _ _ p) .nil) Q (M := M)
    rw [List.length_map] at this
    exact this k
end
end Hq
namespace Hq
open PySem L2
section
variable {K : PySem.W.Frag} {E E' : Ent} {F F' H H' : Hp} {M M' M1 M2 M3 : Ms} {Γ Γ' : Gm} {P P' P1 P2 : MP} {O O' : MO} {q : Addr} {σ : St} {o o' : HO} {j : Nat}
variable {te ta tb tc tl : TE} {t u : TT} {r : R2} {D1 : Ends} {tu tw : TS}
/-! ### new objects -/
def ContN (E : Ent) (F : Hp) (O : MO) (M : Ms) (Q : VK) : Prop := ∀ q F' H', E.H q = none → Ex F F' → Pt E F' ((q, O) :: M) H' → Q (.ref q) H'
def EvN (te : TE) (Γ : Gm) (M : Ms) (O : MO) (M' : Ms) : Prop := ∀ E F σ H, Pt E F M H → EnvOk F σ Γ → ∀ Q : VK, ContN E F O M' Q → te σ H Q
def RCN (rc : List V → Hp → VK → Prop) (ps : List MP) (M : Ms) (O : MO) (M' : Ms) : Prop := ∀ E F H vs, Pt E F M H → Ps F vs ps → ∀ Q : VK, ContN E F O M' Q → rc vs H Q
/-- an object that stands -/
def Fr (O : MO) : MP := ⟨fun F v => ∃ q o, v = .ref q ∧ F q = some o ∧ O.p F o, fun e ⟨q, o, a, b, c⟩ => ⟨q, o, a, e _ _ b, O.mono e c⟩⟩
theorem fr_L {ps : List MP} : (Fr (ML ps)).le (PLi K ps) := fun F v ⟨q, o, a, b, vs, e, h⟩ => by subst e; exact ⟨q, vs, a, SqL.of b, h⟩
theorem fr_X {α : Type} {R : α → MO} : (Fr (MX R)).le (PEx fun x => Fr (R x)) := fun F v ⟨q, o, a, b, x, h⟩ => ⟨x, q, o, a, b, h⟩
theorem fr_A {φ : Prop} {R : MO} : (Fr (MA φ R)).le (PAn φ (Fr R)) := fun F v ⟨q, o, a, b, x, h⟩ => ⟨x, q, o, a, b, h⟩
theorem PEx.le {α : Type} {R R' : α → MP} (h : ∀ x, (R x).le (R' x)) : (PEx R).le (PEx R') := fun F v ⟨x, k⟩ => ⟨x, h x F v k⟩
theorem PAn.le {φ : Prop} {R R' : MP} (h : φ → R.le R') : (PAn φ R).le (PAn φ R') := fun F v k => ⟨k.1, h k.1 F v k.2⟩
theorem ev_fr (h : EvN te Γ M O M') : Ev te Γ M (Fr O) M' := fun E F σ H a b Q k => h E F σ H a b Q fun q F' H' f e g => by
  obtain ⟨fq, o, ho, hO⟩ := g.at (j := 0) rfl
  have ex : Ex F' (upd F' q o) := Evl.Ex.new fq
  exact k _ _ _ (e.trans ex) (g.freeze (j := 0) rfl f ho) ⟨q, o, rfl, upd_same, O.mono ex hO⟩
theorem ev_newL {ps : List MP} (h : EvN te Γ M (ML ps) M') : Ev te Γ M (PLi K ps) M' := (ev_fr h).weak fr_L
theorem EvN.weak (h : EvN te Γ M O M') (l : ∀ F o, O.p F o → O'.p F o) : EvN te Γ M O' M' := fun E F σ H a b Q k => h E F σ H a b Q fun q F' H' f e g => k q F' H' f e (by
  have := g.to (j := 0) (O' := O') l rfl
  exact this)
theorem EvN.is {O2 : MO} (h : EvN te Γ M O M') (e : O = O2) : EvN te Γ M O2 M' := e ▸ h
theorem Ev.is (h : Ev te Γ M P M') (e : P = P') : Ev te Γ M P' M' := e ▸ h
theorem sz_of {n : Nat} (h : n ≤ 100000) : n ≤ sizeLine := Nat.le_trans h (by decide)
theorem sz_lt {n : Nat} (h : n < 100000) : n < sizeLine := Nat.lt_of_lt_of_le h (by decide)
theorem evn_lst {tr : TA} {ps : List MP} (h : EvA tr Γ M ps M1) (hl : ps.length ≤ 100000) : EvN (tLst tr) Γ M (ML ps) M1 := fun E F σ H a b Q k =>
  h E F σ H a b _ fun vs F1 H1 e1 a1 p1 => ⟨sz_of (by rw [paired_len p1]; exact hl), fun p hp => k p F1 _ (a1.fresh hp) e1 (a1.new hp ⟨vs, rfl, p1⟩)⟩
theorem ev_tup {tr : TA} {ps : List MP} (h : EvA tr Γ M ps M1) (hl : ps.length ≤ 100000) : Ev (tTup tr) Γ M (PTu K ps) M1 := fun E F σ H a b Q k =>
  h E F σ H a b _ fun vs F1 H1 e1 a1 p1 => ⟨sz_of (by rw [paired_len p1]; exact hl), fun p hp => k _ _ _ (e1.trans (Evl.Ex.new (Evl.fresh_back a1.ex hp))) (a1.laid hp)
    ⟨p, vs, rfl, SqT.of upd_same, p1.mono (Evl.Ex.new (Evl.fresh_back a1.ex hp))⟩⟩
theorem evn_cb {rc : List V → Hp → VK → Prop} {tr : TA} {ps : List MP} (h : EvA tr Γ M ps M1) (hr : RCN rc ps M1 O M2) : EvN (tCB rc tr) Γ M O M2 := fun E F σ H a b Q k =>
  h E F σ H a b _ fun vs F1 H1 e1 a1 p1 => hr E F1 H1 vs a1 p1 Q fun q F2 H2 f e2 a2 => k q F2 H2 f (e1.trans e2) a2
theorem ps1 {F : Hp} {vs : List V} {P : MP} (h : Ps F vs [P]) : ∃ v, vs = [v] ∧ P.p F v := by cases h with | cons a t => cases t; exact ⟨_, rfl, a⟩
theorem ps2 {F : Hp} {vs : List V} {P P' : MP} (h : Ps F vs [P, P']) : ∃ v w, vs = [v, w] ∧ P.p F v ∧ P'.p F w := by cases h with | cons a t => obtain ⟨w, rfl, b⟩ := ps1 t; exact ⟨_, w, rfl, a, b⟩
theorem ps3 {F : Hp} {vs : List V} {P P' P2 : MP} (h : Ps F vs [P, P', P2]) : ∃ v w x, vs = [v, w, x] ∧ P.p F v ∧ P'.p F w ∧ P2.p F x := by cases h with | cons a t => obtain ⟨w, x, rfl, b, c⟩ := ps2 t; exact ⟨_, w, x, rfl, a, b, c⟩
/-- list(x) -/
abbrev rList (K : PySem.W.Frag) : List V → Hp → VK → Prop := fun xs H Q => ∃ p ys, xs = [.ref p] ∧ (SqL K H p ys ∨ SqT K H p ys) ∧ ∀ l, H l = none → Q (.ref l) (upd H l (.lst ys))
theorem rcn_listL {ps : List MP} : RCN (rList K) [PLi K ps] M (ML ps) M := fun E F H vs a h Q k => by
  obtain ⟨v, rfl, b, ws, rfl, s, p⟩ := ps1 h
  exact ⟨b, ws, rfl, .inl (Evl.ex_l a.ex s), fun l hl => k l F _ (a.fresh hl) (Evl.Ex.refl _) (a.new hl ⟨ws, rfl, p⟩)⟩
theorem rcn_listT {ps : List MP} : RCN (rList K) [PTu K ps] M (ML ps) M := fun E F H vs a h Q k => by
  obtain ⟨v, rfl, b, ws, rfl, s, p⟩ := ps1 h
  exact ⟨b, ws, rfl, .inr (Evl.ex_t a.ex s), fun l hl => k l F _ (a.fresh hl) (Evl.Ex.refl _) (a.new hl ⟨ws, rfl, p⟩)⟩
theorem rcn_listO {ps : List MP} (e : M[j]? = some (q, ML ps)) : RCN (rList K) [Own q] M (ML ps) M := fun E F H vs a h Q k => by
  obtain ⟨v, rfl, hv⟩ := ps1 h
  have hv : v = .ref q := hv
  subst hv
  obtain ⟨_, o, ho, ws, rfl, p⟩ := a.at e
  exact ⟨q, ws, rfl, .inl (SqL.of ho), fun l hl => k l F _ (a.fresh hl) (Evl.Ex.refl _) (a.new hl ⟨ws, rfl, p⟩)⟩
/-- tuple(x) -/
abbrev rTuple (K : PySem.W.Frag) : List V → Hp → VK → Prop := fun xs H Q => ∃ p ys, xs = [.ref p] ∧ ((SqL K H p ys ∧ ∀ l, H l = none → Q (.ref l) (upd H l (.tup ys))) ∨ (SqT K H p ys ∧ Q (.ref p) H))
theorem rc_tupleL {ps : List MP} : RC (rTuple K) [PLi K ps] M (PTu K ps) M := fun E F H vs a h Q k => by
  obtain ⟨v, rfl, b, ws, rfl, s, p⟩ := ps1 h
  refine ⟨b, ws, rfl, .inl ⟨Evl.ex_l a.ex s, fun l hl => ?_⟩⟩
  have ex : Ex F (upd F l (.tup ws)) := Evl.Ex.new (Evl.fresh_back a.ex hl)
  exact k _ _ _ ex (a.laid hl) ⟨l, ws, rfl, SqT.of upd_same, p.mono ex⟩
theorem rc_tupleT {ps : List MP} : RC (rTuple K) [PTu K ps] M (PTu K ps) M := fun E F H vs a h Q k => by
  obtain ⟨v, rfl, b, ws, rfl, s, p⟩ := ps1 h
  exact ⟨b, ws, rfl, .inr ⟨Evl.ex_t a.ex s, k _ F H (Evl.Ex.refl _) a ⟨b, ws, rfl, s, p⟩⟩⟩
theorem rc_tupleO {ps : List MP} (e : M[j]? = some (q, ML ps)) : RC (rTuple K) [Own q] M (PTu K ps) M := fun E F H vs a h Q k => by
  obtain ⟨v, rfl, hv⟩ := ps1 h
  have hv : v = .ref q := hv
  subst hv
  obtain ⟨_, o, ho, ws, rfl, p⟩ := a.at e
  refine ⟨q, ws, rfl, .inl ⟨SqL.of ho, fun l hl => ?_⟩⟩
  have ex : Ex F (upd F l (.tup ws)) := Evl.Ex.new (Evl.fresh_back a.ex hl)
  exact k _ _ _ ex (a.laid hl) ⟨l, ws, rfl, SqT.of upd_same, p.mono ex⟩
abbrev rInt : List V → Hp → VK → Prop := fun xs H Q => (∃ i, xs = [.int i] ∧ Q (.int i) H) ∨ ∃ k, xs = [.bl k] ∧ Q (.int (if k then 1 else 0)) H
theorem rc_int {i : Int} : RC rInt [D K (.int i)] M (D K (.int i)) M := fun E F H vs a h Q k => by
  obtain ⟨v, rfl, hv⟩ := ps1 h
  cases dp_int hv
  exact .inl ⟨i, rfl, k _ F H (Evl.Ex.refl _) a (.int i)⟩
theorem RC.ex1 {α : Type} {rc : List V → Hp → VK → Prop} {R : α → MP} {ps : List MP} (h : ∀ x, RC rc (R x :: ps) M P M') : RC rc (PEx R :: ps) M P M' := fun E F H vs a p Q k => by
  cases p with
  | cons b t => obtain ⟨x, b⟩ := b; exact h x E F H _ a (.cons b t) Q k
theorem RC.an1 {φ : Prop} {rc : List V → Hp → VK → Prop} {R : MP} {ps : List MP} (h : φ → RC rc (R :: ps) M P M') : RC rc (PAn φ R :: ps) M P M' := fun E F H vs a p Q k => by
  cases p with
  | cons b t => exact h b.1 E F H _ a (.cons b.2 t) Q k
theorem RCN.ex1 {α : Type} {rc : List V → Hp → VK → Prop} {R : α → MP} {ps : List MP} (h : ∀ x, RCN rc (R x :: ps) M O M') : RCN rc (PEx R :: ps) M O M' := fun E F H vs a p Q k => by
  cases p with
  | cons b t => obtain ⟨x, b⟩ := b; exact h x E F H _ a (.cons b t) Q k
theorem RCN.an1 {φ : Prop} {rc : List V → Hp → VK → Prop} {R : MP} {ps : List MP} (h : φ → RCN rc (R :: ps) M O M') : RCN rc (PAn φ R :: ps) M O M' := fun E F H vs a p Q k => by
  cases p with
  | cons b t => exact h b.1 E F H _ a (.cons b.2 t) Q k
theorem RC.in1 {rc : List V → Hp → VK → Prop} {R R' : MP} {ps : List MP} (l : R.le R') (h : RC rc (R' :: ps) M P M') : RC rc (R :: ps) M P M' := fun E F H vs a p Q k => by
  cases p with
  | cons b t => exact h E F H _ a (.cons (l _ _ b) t) Q k
theorem RCN.in1 {rc : List V → Hp → VK → Prop} {R R' : MP} {ps : List MP} (l : R.le R') (h : RCN rc (R' :: ps) M O M') : RCN rc (R :: ps) M O M' := fun E F H vs a p Q k => by
  cases p with
  | cons b t => exact h E F H _ a (.cons (l _ _ b) t) Q k
theorem RC.ex0 {α : Type} {rc : List V → Hp → VK → Prop} {R : α → MP} {ps : List MP} (x : α) (h : RC rc ps M (R x) M') : RC rc ps M (PEx R) M' := h.weak (PEx.in x)
theorem RCN.weak {rc : List V → Hp → VK → Prop} {ps : List MP} (h : RCN rc ps M O M') (l : ∀ F o, O.p F o → O'.p F o) : RCN rc ps M O' M' := fun E F H vs a p Q k => h E F H vs a p Q fun q F' H' f e g => k q F' H' f e (g.to (j := 0) (O' := O') l rfl)
theorem MX.in {α : Type} {R : α → MO} (x : α) : ∀ F o, (R x).p F o → (MX R).p F o := fun _ _ h => ⟨x, h⟩
/-! ### tests -/
theorem et_val {b : Bool} (h : Ev te Γ M (D K (.bool b)) M') : EvT (tB te) Γ M (· = b) M' := fun E F σ H a c Q k => h E F σ H a c _ fun v F' H' e g p => by
  cases dp_bl p; exact ⟨b, rfl, k b F' H' e g rfl⟩
theorem et_test {b : Bool} (h : Ev te Γ M (D K (.bool b)) M') : EvT (tTest te) Γ M (· = b) M' := fun E F σ H a c Q k => h E F σ H a c _ fun v F' H' e g p => by
  cases dp_bl p; exact ⟨b, rfl, k b F' H' e g rfl⟩
theorem et_testX {φ : Bool → Prop} (h : Ev te Γ M (PEx fun b => PAn (φ b) (D K (.bool b))) M') : EvT (tTest te) Γ M φ M' := fun E F σ H a c Q k => h E F σ H a c _ fun v F' H' e g ⟨b, hb, p⟩ => by
  cases dp_bl p; exact ⟨b, rfl, k b F' H' e g hb⟩
theorem et_and {a b : Bool} (h1 : EvT t Γ M (· = a) M1) (h2 : a = true → EvT u Γ M1 (· = b) M1) : EvT (tAnd t u) Γ M (· = (a && b)) M1 := fun E F σ H x c Q k => h1 E F σ H x c _ fun z F1 H1 e1 g1 hz => by
  subst hz
  cases z with
  | true => exact h2 rfl E F1 σ H1 g1 (c.mono e1) _ fun z F2 H2 e2 g2 hz => k z F2 H2 (e1.trans e2) g2 hz
  | false => exact k false F1 H1 e1 g1 rfl
theorem et_or {a b : Bool} (h1 : EvT t Γ M (· = a) M1) (h2 : a = false → EvT u Γ M1 (· = b) M1) : EvT (tOr t u) Γ M (· = (a || b)) M1 := fun E F σ H x c Q k => h1 E F σ H x c _ fun z F1 H1 e1 g1 hz => by
  subst hz
  cases z with
  | true => exact k true F1 H1 e1 g1 rfl
  | false => exact h2 rfl E F1 σ H1 g1 (c.mono e1) _ fun z F2 H2 e2 g2 hz => k z F2 H2 (e1.trans e2) g2 hz
theorem et_not {a : Bool} (h : EvT t Γ M (· = a) M') : EvT (tNot t) Γ M (· = !a) M' := fun E F σ H x c Q k => h E F σ H x c _ fun z F1 H1 e1 g1 hz => k _ F1 H1 e1 g1 (by rw [hz])
theorem ev_andV {a b : Bool} (h1 : Ev ta Γ M (D K (.bool a)) M1) (h2 : a = true → Ev tb Γ M1 (D K (.bool b)) M1) : Ev (tAndV ta tb) Γ M (D K (.bool (a && b))) M1 := fun E F σ H x c Q k => h1 E F σ H x c _ fun z F1 H1 e1 g1 hz => by
  cases dp_bl hz
  refine ⟨a, rfl, ?_⟩
  cases a with
  | true => exact h2 rfl E F1 σ H1 g1 (c.mono e1) _ fun z F2 H2 e2 g2 hz => k z F2 H2 (e1.trans e2) g2 hz
  | false => exact k _ F1 H1 e1 g1 (.bl false)
theorem ev_orV {a b : Bool} (h1 : Ev ta Γ M (D K (.bool a)) M1) (h2 : a = false → Ev tb Γ M1 (D K (.bool b)) M1) : Ev (tOrV ta tb) Γ M (D K (.bool (a || b))) M1 := fun E F σ H x c Q k => h1 E F σ H x c _ fun z F1 H1 e1 g1 hz => by
  cases dp_bl hz
  refine ⟨a, rfl, ?_⟩
  cases a with
  | true => exact k _ F1 H1 e1 g1 (.bl true)
  | false => exact h2 rfl E F1 σ H1 g1 (c.mono e1) _ fun z F2 H2 e2 g2 hz => k z F2 H2 (e1.trans e2) g2 hz
theorem ev_notV {a : Bool} (h1 : Ev ta Γ M (D K (.bool a)) M1) : Ev (tNotV ta) Γ M (D K (.bool !a)) M1 := fun E F σ H x c Q k => h1 E F σ H x c _ fun z F1 H1 e1 g1 hz => by
  cases dp_bl hz
  exact ⟨a, rfl, k _ F1 H1 e1 g1 (.bl _)⟩
theorem ev_chain {r' : R2} {a b : Bool} {P3 : MP} (ha : Ev ta Γ M P1 M) (hb : Ev tb Γ M P2 M) (hr : RV r P1 P2 M (D K (.bool a)) M) (hc : a = true → Ev tc Γ M P3 M) (hr' : RV r' P2 P3 M (D K (.bool b)) M) : Ev (tChain r r' ta tb tc) Γ M (D K (.bool (a && b))) M := fun E F σ H x c Q k =>
  ha E F σ H x c _ fun v F1 H1 e1 g1 p1 => hb E F1 σ H1 g1 (c.mono e1) _ fun w F2 H2 e2 g2 p2 => hr E F2 H2 v w g2 (P1.mono e2 p1) p2 _ fun z F3 H3 e3 g3 p3 => by
    cases dp_bl p3
    refine ⟨a, rfl, ?_⟩
    cases a with
    | true => exact hc rfl E F3 σ H3 g3 (c.mono ((e1.trans e2).trans e3)) _ fun y F4 H4 e4 g4 p4 => hr' E F4 H4 w y g4 (P2.mono (e3.trans e4) p2) p4 Q fun y F5 H5 e5 g5 p5 => k y F5 H5 ((((e1.trans e2).trans e3).trans e4).trans e5) g5 p5
    | false => exact k _ F3 H3 ((e1.trans e2).trans e3) g3 (.bl false)
theorem ev_if {b : Bool} (h : EvT t Γ M (· = b) M1) (h1 : b = true → Ev ta Γ M1 P M2) (h2 : b = false → Ev tb Γ M1 P M2) : Ev (tIf t ta tb) Γ M P M2 := fun E F σ H x c Q k => h E F σ H x c _ fun z F1 H1 e1 g1 hz => by
  subst hz
  cases z with
  | true => exact h1 rfl E F1 σ H1 g1 (c.mono e1) _ fun v F2 H2 e2 g2 p => k v F2 H2 (e1.trans e2) g2 p
  | false => exact h2 rfl E F1 σ H1 g1 (c.mono e1) _ fun v F2 H2 e2 g2 p => k v F2 H2 (e1.trans e2) g2 p
/-! ### statements -/
theorem go_seq (h : Nx E Γ M (tu { D1 with nx := tw D1 })) : Nx E Γ M (tSeq tu tw D1) := h
theorem go_asg {i : Nat} (h : Ev te Γ M P M1) (k : Nx E (Γ.set i (some P)) M1 D1.nx) : Nx E Γ M (tAsg te (gName i) D1) := fun σ H ⟨F, a, b⟩ =>
  h E F σ H a b _ fun v F' H' e g p => k _ _ ⟨F', g, (b.mono e).set i p⟩
theorem go_asgN {i : Nat} (h : EvN te Γ M O M1) (k : ∀ q, E.H q = none → Nx E (Γ.set i (some (Own q))) ((q, O) :: M1) D1.nx) : Nx E Γ M (tAsg te (gName i) D1) := fun σ H ⟨F, a, b⟩ =>
  h E F σ H a b _ fun q F' H' f e g => k q f _ _ ⟨F', g, (b.mono e).set i (P := Own q) rfl⟩
theorem go_drop (h : Ev te Γ M P M1) (k : Nx E Γ M1 D1.nx) : Nx E Γ M (tDrop te D1) := fun σ H ⟨F, a, b⟩ => h E F σ H a b _ fun v F' H' e g p => k _ _ ⟨F', g, b.mono e⟩
theorem go_if {B : Bool → Prop} (h : EvT t Γ M B M1) (h1 : B true → Nx E Γ M1 (tu D1)) (h2 : B false → Nx E Γ M1 (tw D1)) : Nx E Γ M (tIfS t tu tw D1) := fun σ H ⟨F, a, b⟩ => h E F σ H a b _ fun z F' H' e g hz => by
  cases z with
  | true => exact h1 hz σ H' ⟨F', g, b.mono e⟩
  | false => exact h2 hz σ H' ⟨F', g, b.mono e⟩
theorem go_ret {E0 : Ent} (l : Le E E0) (h : Ev te Γ M P M1) (k : Rt E0 M1 P D1.rt) : Nx E Γ M (tRet te D1) := fun σ H ⟨F, a, b⟩ => h E F σ H a b _ fun v F' H' e g p => k v F' H' (l.to _ _ _ g) p
theorem go_next (k : Nx E Γ M D1.nx) : Nx E Γ M (tNext D1) := k
theorem Rt.drop {f : VK} (s : List.Sublist M M') (h : Rt E M P f) : Rt E M' P f := fun v F H a p => h v F H (a.drop s) p
theorem Rt.weak {f : VK} (l : P.le P') (h : Rt E M P' f) : Rt E M P f := fun v F H a p => h v F H a (l _ _ p)
/-- xs.append(e) -/
theorem go_app {ps : List MP} (ho : Ev ta Γ M (Own q) M) (h : Ev te Γ M P M1) (e0 : M[j]? = some (q, ML ps)) (e : M1[j]? = some (q, ML ps)) (hz : ps.length < 100000) (k : Nx E Γ (M1.set j (q, ML (ps ++ [P]))) D1.nx) :
    Nx E Γ M (tDrop (tBM K "list" rAppend ta (tCons te tNil)) D1) := fun σ H ⟨F, a, b⟩ => ho E F σ H a b _ fun v F1 H1 e1 g1 p1 => by
  have p1 : v = .ref q := p1
  subst p1
  obtain ⟨_, o, ho1, ws0, rfl, _⟩ := g1.at e0
  refine ⟨.inl ⟨rfl, ws0, SqL.of ho1⟩, ?_⟩
  refine h E F1 σ H1 g1 (b.mono e1) _ fun w F2 H2 e2 g2 p2 => ?_
  obtain ⟨_, o, ho2, ws, rfl, s⟩ := g2.at e
  refine ⟨q, ws, w, rfl, rfl, ho2, sz_lt (by rw [paired_len s]; exact hz), ?_⟩
  exact k _ _ ⟨F2, g2.mut e ⟨_, rfl, paired_app s (.cons p2 .nil)⟩, b.mono (e1.trans e2)⟩
/-- xs[i] = e -/
theorem go_setL {ps : List MP} {i : Int} (h : Ev te Γ M P M1) (ho : Ev ta Γ M1 (Own q) M1) (hi : Ev tb Γ M1 (D K (.int i)) M2) (e : M2[j]? = some (q, ML ps)) (h0 : 0 ≤ i) (h1 : i.toNat < ps.length) (k : Nx E Γ (M2.set j (q, ML (ps.set i.toNat P))) D1.nx) :
    Nx E Γ M (tAsg te (gSub ta tb rSetL) D1) := fun σ H ⟨F, a, b⟩ => h E F σ H a b _ fun w F0 H0 e0 g0 p0 => ho E F0 σ H0 g0 (b.mono e0) _ fun v F1 H1 e1 g1 p1 => by
  have p1 : v = .ref q := p1
  subst p1
  refine hi E F1 σ H1 g1 (b.mono (e0.trans e1)) _ fun x F2 H2 e2 g2 p2 => ?_
  cases dp_int p2
  obtain ⟨_, o, ho2, ws, rfl, s⟩ := g2.at e
  obtain ⟨n, rfl⟩ := Int.eq_ofNat_of_zero_le h0
  have hn : n < ws.length := by rw [paired_len s]; exact h1
  refine ⟨q, ws, n, n, rfl, rfl, ho2, Evl.ixN_nat hn, ?_⟩
  exact k _ _ ⟨F2, g2.mut e ⟨_, rfl, paired_set (R := fun (v : V) (P : MP) => P.p F2 v) (P.mono (e1.trans e2) p0) n s⟩, b.mono ((e0.trans e1).trans e2)⟩
/-- xs.reverse() -/
theorem go_rev {ps : List MP} (ho : Ev ta Γ M (Own q) M) (e : M[j]? = some (q, ML ps)) (k : Nx E Γ (M.set j (q, ML ps.reverse)) D1.nx) : Nx E Γ M (tDrop (tBM0 K "list" rReverse ta) D1) := fun σ H ⟨F, a, b⟩ => ho E F σ H a b _ fun v F1 H1 e1 g1 p1 => by
  have p1 : v = .ref q := p1
  subst p1
  obtain ⟨_, o, ho1, ws, rfl, s⟩ := g1.at e
  refine ⟨.inl ⟨rfl, ws, SqL.of ho1⟩, q, ws, rfl, rfl, ho1, ?_⟩
  have srev : ∀ {ws : List V} {ps : List MP}, Ps F1 ws ps → Ps F1 ws.reverse ps.reverse := by
    intro ws ps s
    induction s with
    | nil => exact .nil
    | cons a t ih => rw [List.reverse_cons, List.reverse_cons]; exact paired_app ih (.cons a .nil)
  exact k _ _ ⟨F1, g1.mut e ⟨_, rfl, srev s⟩, b.mono e1⟩
/-- name += e -/
theorem go_aug {i : Nat} {f : Int → Int → Int} {x y : Int} (hx : Γ[i]? = some (some (D K (.int x)))) (h : Ev te Γ M (D K (.int y)) M1) (k : Nx E (Γ.set i (some (D K (.int (f x y))))) M1 D1.nx) : Nx E Γ M (tAug i te (ipI f) D1) := fun σ H ⟨F, a, b⟩ => by
  obtain ⟨v, hv, p⟩ := b.get hx
  cases dp_int p
  refine ⟨_, hv, h E F σ H a b _ fun w F1 H1 e1 g1 p1 => ?_⟩
  cases dp_int p1
  exact ⟨x, y, rfl, rfl, k _ _ ⟨F1, g1, (b.mono e1).set i (P := D K (.int (f x y))) (.int _)⟩⟩
/-! ### loops -/
def JA (E : Ent) (J : Gm → Ms → Prop) (σ : St) (H : Hp) : Prop := ∃ Γ M, J Γ M ∧ At E Γ M σ H
theorem JA.of {J : Gm → Ms → Prop} (h : J Γ M) : Nx E Γ M (JA E J) := fun σ H a => ⟨Γ, M, h, a⟩
theorem go_forL {ps : List MP} {i : Nat} (h : Ev tl Γ M (PLi K ps) M1) (J : Nat → Gm → Ms → Prop) (h0 : J 0 Γ M1)
    (hs : ∀ E', Le E' E → ∀ n P, ps[n]? = some P → ∀ Γ' M', J n Γ' M' → Nx E' (Γ'.set i (some P)) M' (tu { D1 with nx := JA E' (J (n + 1)), ct := JA E' (J (n + 1)), bk := D1.nx }))
    (hd : ∀ Γ' M', J ps.length Γ' M' → Nx E Γ' M' D1.nx) : Nx E Γ M (tFor (iList K tl) (gName i) tu D1) := fun σ H ⟨F, a, b⟩ => h E F σ H a b _ fun v F1 H1 e1 g1 ⟨p, vs, hp, s, q⟩ => by
  refine ⟨p, hp, ⟨vs, Evl.ex_l g1.ex s⟩, for_list (xs := vs) (fun n σ H => JA ⟨F1, H1, keys M1⟩ (J n) σ H) ⟨Γ, M1, h0, F1, g1.enter, b.mono e1⟩ (fun n σ2 H2 _ ⟨Γ', M', _, F2, g2, _⟩ => Evl.ex_l (g2.gr.ex.trans g2.ex) s)
    (fun n x σ2 H2 hx ⟨Γ', M', hJ, F2, g2, b2⟩ => ?_) (fun σ2 H2 hJ => ?_)⟩
  · obtain ⟨P, hP, hx2⟩ := paired_get' q hx
    exact hs ⟨F1, H1, keys M1⟩ g1.le n P hP Γ' M' hJ _ _ ⟨F2, g2, b2.set i (P.mono g2.gr.ex hx2)⟩
  · rw [paired_len q] at hJ
    obtain ⟨Γ', M', hJ, at2⟩ := hJ
    exact hd Γ' M' hJ _ _ (at2.le g1.le)
theorem go_forT {ps : List MP} {i : Nat} (h : Ev tl Γ M (PTu K ps) M1) (J : Nat → Gm → Ms → Prop) (h0 : J 0 Γ M1)
    (hs : ∀ E', Le E' E → ∀ n P, ps[n]? = some P → ∀ Γ' M', J n Γ' M' → Nx E' (Γ'.set i (some P)) M' (tu { D1 with nx := JA E' (J (n + 1)), ct := JA E' (J (n + 1)), bk := D1.nx }))
    (hd : ∀ Γ' M', J ps.length Γ' M' → Nx E Γ' M' D1.nx) : Nx E Γ M (tFor (iTup K tl) (gName i) tu D1) := fun σ H ⟨F, a, b⟩ => h E F σ H a b _ fun v F1 H1 e1 g1 ⟨p, vs, hp, s, q⟩ => by
  refine ⟨p, hp, ⟨vs, Evl.ex_t g1.ex s⟩, for_tup (xs := vs) (fun n σ H => JA ⟨F1, H1, keys M1⟩ (J n) σ H) ⟨Γ, M1, h0, F1, g1.enter, b.mono e1⟩ (fun n σ2 H2 _ ⟨Γ', M', _, F2, g2, _⟩ => Evl.ex_t (g2.gr.ex.trans g2.ex) s)
    (fun n x σ2 H2 hx ⟨Γ', M', hJ, F2, g2, b2⟩ => ?_) (fun σ2 H2 hJ => ?_)⟩
  · obtain ⟨P, hP, hx2⟩ := paired_get' q hx
    exact hs ⟨F1, H1, keys M1⟩ g1.le n P hP Γ' M' hJ _ _ ⟨F2, g2, b2.set i (P.mono g2.gr.ex hx2)⟩
  · rw [paired_len q] at hJ
    obtain ⟨Γ', M', hJ, at2⟩ := hJ
    exact hd Γ' M' hJ _ _ (at2.le g1.le)
theorem go_forR {tr : TA} {z : Int} {i : Nat} (h : EvA tr Γ M [D K (.int z)] M1) (hz : z ≤ 1000000) (hz2 : -1000000 ≤ z) (J : Nat → Gm → Ms → Prop) (h0 : J 0 Γ M1)
    (hs : ∀ n : Nat, (n : Int) < z → ∀ Γ' M', J n Γ' M' → Nx E (Γ'.set i (some (D K (.int n)))) M' (tu { D1 with nx := JA E (J (n + 1)), ct := JA E (J (n + 1)), bk := D1.nx }))
    (hd : ∀ Γ' M', J z.toNat Γ' M' → Nx E Γ' M' D1.nx) : Nx E Γ M (tFor (iRng1 tr) (gName i) tu D1) := fun σ H ⟨F, a, b⟩ => h E F σ H a b _ fun vs F1 H1 e1 g1 p => by
  obtain ⟨v, rfl, hv⟩ := ps1 p
  cases dp_int hv
  refine ⟨z, rfl, by omega, by omega, for_range (lo := 0) (n := z.toNat) (fun n σ H => JA E (J n) σ H) ⟨Γ, M1, h0, F1, g1, b.mono e1⟩ (fun n σ2 H2 hn ⟨Γ', M', hJ, F2, g2, b2⟩ => ?_) (fun σ2 H2 ⟨Γ', M', hJ, at2⟩ => hd Γ' M' hJ _ _ at2)⟩
  refine hs n (by omega) Γ' M' hJ _ _ ⟨F2, g2, b2.set i ?_⟩
  have e0 : (0 : Int) + (n : Int) = (n : Int) := Int.zero_add _
  rw [e0]
  exact .int _
theorem go_forR2 {tr : TA} {lo z : Int} {i : Nat} (h : EvA tr Γ M [D K (.int lo), D K (.int z)] M1) (hz : z ≤ 1000000 ∧ -1000000 ≤ z ∧ lo ≤ 1000000 ∧ -1000000 ≤ lo) (J : Nat → Gm → Ms → Prop) (h0 : J 0 Γ M1)
    (hs : ∀ n : Nat, lo + (n : Int) < z → ∀ Γ' M', J n Γ' M' → Nx E (Γ'.set i (some (D K (.int (lo + n))))) M' (tu { D1 with nx := JA E (J (n + 1)), ct := JA E (J (n + 1)), bk := D1.nx }))
    (hd : ∀ Γ' M', J (z - lo).toNat Γ' M' → Nx E Γ' M' D1.nx) : Nx E Γ M (tFor (iRng2 tr) (gName i) tu D1) := fun σ H ⟨F, a, b⟩ => h E F σ H a b _ fun vs F1 H1 e1 g1 p => by
  obtain ⟨v, w, rfl, hv, hw⟩ := ps2 p
  cases dp_int hv; cases dp_int hw
  refine ⟨lo, z, rfl, ⟨by omega, by omega, by omega, by omega⟩, for_range (lo := lo) (n := (z - lo).toNat) (fun n σ H => JA E (J n) σ H) ⟨Γ, M1, h0, F1, g1, b.mono e1⟩ (fun n σ2 H2 hn ⟨Γ', M', hJ, F2, g2, b2⟩ => ?_) (fun σ2 H2 ⟨Γ', M', hJ, at2⟩ => hd Γ' M' hJ _ _ at2)⟩
  exact hs n (by omega) Γ' M' hJ _ _ ⟨F2, g2, b2.set i (P := D K (.int (lo + n))) (.int _)⟩
theorem go_while (J : Nat → Gm → Ms → Prop) (m0 : Nat) (h0 : J m0 Γ M)
    (hs : ∀ m Γ' M', J m Γ' M' → ∃ B M1, EvT t Γ' M' B M1 ∧ (B true → Nx E Γ' M1 (tu { D1 with nx := JA E (fun Γ M => ∃ m', m' < m ∧ J m' Γ M), ct := JA E (fun Γ M => ∃ m', m' < m ∧ J m' Γ M), bk := D1.nx })) ∧ (B false → Nx E Γ' M1 D1.nx)) : Nx E Γ M (tWhile t tu D1) := fun σ H a =>
  ⟨fun m σ H => JA E (J m) σ H, ⟨m0, Γ, M, h0, a⟩, fun m σ2 H2 ⟨Γ', M', hJ, F2, g2, b2⟩ => by
    obtain ⟨B, M1, hb, h1, h2⟩ := hs m Γ' M' hJ
    refine hb E F2 σ2 H2 g2 b2 _ fun z F3 H3 e3 g3 hz => ?_
    cases z with
    | true => exact ⟨JA E (fun Γ M => ∃ m', m' < m ∧ J m' Γ M), fun σ4 H4 ⟨Γ4, M4, ⟨m', hm, hJ4⟩, a4⟩ => ⟨m', hm, Γ4, M4, hJ4, a4⟩, h1 hz σ2 H3 ⟨F3, g3, b2.mono e3⟩⟩
    | false => exact h2 hz σ2 H3 ⟨F3, g3, b2.mono e3⟩⟩
/-! ### comprehensions -/
theorem wipe_one {σ : St} {i : Nat} {x : V} : wipe ((wipe σ [i]).set i (some x)) [i] = wipe σ [i] := by
  show ((σ.set i none).set i (some x)).set i none = σ.set i none
  rw [List.set_set, List.set_set]
theorem env_wipe {i : Nat} (h : EnvOk F σ Γ) : EnvOk F (wipe σ [i]) (Γ.set i none) := h.forget i
/-- one turn of a comprehension -/
theorem lc_turn {Γ2 : Gm} {σ2 : St} {D2 : Addr} {ps : List MP} {b : Bool} {F1 H1 : Hp} (g1 : Pt E F1 ((D2, ML ps) :: M) H1) (bo : EnvOk F1 σ2 Γ2) (ht : EvT t Γ2 M (· = b) M) (he : b = true → Ev te Γ2 M P M) (hz : ps.length < 100000) (Nxt : Hp → Prop)
    (hN : ∀ F2 H2, Ex F1 F2 → Pt E F2 ((D2, ML (if b = true then ps ++ [P] else ps)) :: M) H2 → Nxt H2) : t σ2 H1 fun c H3 => if c = true then te σ2 H3 fun y H4 => ∃ acc, H4 D2 = some (.lst acc) ∧ acc.length < sizeLine ∧ Nxt (upd H4 D2 (.lst (acc ++ [y]))) else Nxt H3 := by
  have gM : Pt ⟨F1, H1, keys M⟩ F1 M H1 := Pt.start (g1.drop (List.sublist_cons_self _ _)).wd
  have nk : D2 ∉ keys M := (List.nodup_cons.mp (show (D2 :: keys M).Nodup from g1.wd.nd)).1
  obtain ⟨fD, o, hD, ws, rfl, s⟩ := g1.at (j := 0) rfl
  -- a point of M alone, the list beside it
  have up : ∀ {F' H'}, Pt ⟨F1, H1, keys M⟩ F' M H' → Pt E F' ((D2, ML ps) :: M) H' := fun {F' H'} g => by
    have hh : F' D2 = none := g.gr.off D2 fD (show H1 D2 ≠ none by rw [hD]; exact fun z => by cases z) (fun xs z => by have z : H1 D2 = some (HO.tup xs) := z; rw [hD] at z; cases z)
    have hd : H' D2 = some (.lst ws) := g.gr.keep D2 _ nk hD
    have big : Pt ⟨F1, H1, keys ((D2, ML ps) :: M)⟩ F' ((D2, ML ps) :: M) H' := by
      refine ⟨⟨g.gr.ex, fun a u h1 h2 => g.gr.keep a u (fun z => h1 (List.mem_cons_of_mem _ z)) h2, g.gr.off, g.gr.stay, g.gr.nott⟩, ⟨g.wd.ex, List.nodup_cons.mpr ⟨nk, g.wd.nd⟩, fun r hr => ?_⟩, fun r hr => ?_⟩
      · rcases List.mem_cons.mp hr with e | hm
        · subst e; exact ⟨hh, _, hd, ws, rfl, s.mono g.gr.ex⟩
        · exact g.wd.own r hm
      · rcases List.mem_cons.mp hr with e | hm
        · subst e; exact .inl List.mem_cons_self
        · rcases g.fr r hm with z | z
          · exact .inl (List.mem_cons_of_mem _ z)
          · exact .inr z
    exact g1.back big
  refine ht _ F1 σ2 H1 gM bo _ fun c F3 H3 e3 g3 hc => ?_
  subst hc
  cases c with
  | true =>
    refine he rfl _ F3 σ2 H3 g3 (bo.mono e3) _ fun y F4 H4 e4 g4 p4 => ?_
    have g5 := up g4
    obtain ⟨_, o5, h5, ws5, rfl, s5⟩ := g5.at (j := 0) rfl
    refine ⟨ws5, h5, sz_lt (by rw [paired_len s5]; exact hz), ?_⟩
    exact hN F4 _ (e3.trans e4) (g5.mut (j := 0) (O' := ML (ps ++ [P])) rfl ⟨_, rfl, paired_app s5 (.cons p4 .nil)⟩)
  | false => exact hN F3 _ e3 (up g3)
theorem take_filter {α : Type} (xs : List α) (f : α → Bool) (n : Nat) (x : α) (h : xs[n]? = some x) : (xs.take (n + 1)).filter f = (xs.take n).filter f ++ (if f x = true then [x] else []) := by
  rw [List.take_add_one, h, List.filter_append]
  congr 1
  cases hf : f x <;> simp [hf]
theorem evn_lcL {α : Type} {xs : List α} {R G : α → MP} {i : Nat} (f : α → Bool) (h : Ev tl Γ M (PLi K (xs.map R)) M1) (hz : xs.length ≤ 50000)
    (ht : ∀ x ∈ xs, EvT t ((Γ.set i none).set i (some (R x))) M1 (· = f x) M1) (he : ∀ x ∈ xs, f x = true → Ev te ((Γ.set i none).set i (some (R x))) M1 (G x) M1) :
    EvN (tLc (iList K tl) (gName i) t te [i]) Γ M (ML ((xs.filter f).map G)) M1 := fun E F σ H a b Q k => h E F σ H a b _ fun v F1 H1 e1 g1 ⟨p, vs, hp, s, q⟩ => by
  refine ⟨p, hp, ⟨vs, Evl.ex_l g1.ex s⟩, fun D2 hD => ?_⟩
  have gn : Pt ⟨F1, H1, keys M1⟩ F1 ((D2, ML []) :: M1) (upd H1 D2 (.lst [])) := g1.enter.new hD ⟨[], rfl, .nil⟩
  refine lc_list (xs := vs) (fun n H' => ∃ F', Pt ⟨F1, H1, keys M1⟩ F' ((D2, ML (((xs.take n).filter f).map G)) :: M1) H') ⟨F1, gn⟩ (fun n H2 _ ⟨F2, g2⟩ => Evl.ex_l (g2.gr.ex.trans g2.ex) s) (fun n x H2 hx ⟨F2, g2⟩ => ⟨wipe_one, ?_⟩) (fun H2 ⟨F2, g2⟩ => ?_)
  · obtain ⟨P, hP, hx2⟩ := paired_get' q hx
    rw [List.getElem?_map] at hP
    cases hy : xs[n]? with
    | none => rw [hy] at hP; cases hP
    | some y =>
      rw [hy] at hP
      have hP : R y = P := Option.some.inj hP
      subst hP
      have hm := List.mem_of_getElem? hy
      refine lc_turn g2 ((env_wipe (b.mono (e1.trans g2.gr.ex))).set i ((R y).mono g2.gr.ex hx2)) (ht y hm) (he y hm) ?_ _ fun F3 H3 e3 g3 => ⟨F3, ?_⟩
      · rw [List.length_map]
        exact Nat.lt_of_le_of_lt (Nat.le_trans (List.length_filter_le _ _) (by rw [List.length_take]; omega)) (by omega : xs.length < 100000)
      · rw [take_filter xs f n y hy, List.map_append]
        cases hf : f y
        · rw [hf] at g3; simpa using g3
        · rw [hf] at g3; simpa using g3
  · rw [paired_len q, List.length_map, List.take_length] at g2
    exact k D2 F2 H2 (g1.fresh hD) (e1.trans g2.gr.ex) (g1.back g2)
theorem evn_lcT {α : Type} {xs : List α} {R G : α → MP} {i : Nat} (f : α → Bool) (h : Ev tl Γ M (PTu K (xs.map R)) M1) (hz : xs.length ≤ 50000)
    (ht : ∀ x ∈ xs, EvT t ((Γ.set i none).set i (some (R x))) M1 (· = f x) M1) (he : ∀ x ∈ xs, f x = true → Ev te ((Γ.set i none).set i (some (R x))) M1 (G x) M1) :
    EvN (tLc (iTup K tl) (gName i) t te [i]) Γ M (ML ((xs.filter f).map G)) M1 := fun E F σ H a b Q k => h E F σ H a b _ fun v F1 H1 e1 g1 ⟨p, vs, hp, s, q⟩ => by
  refine ⟨p, hp, ⟨vs, Evl.ex_t g1.ex s⟩, fun D2 hD => ?_⟩
  have gn : Pt ⟨F1, H1, keys M1⟩ F1 ((D2, ML []) :: M1) (upd H1 D2 (.lst [])) := g1.enter.new hD ⟨[], rfl, .nil⟩
  refine lc_tup (xs := vs) (fun n H' => ∃ F', Pt ⟨F1, H1, keys M1⟩ F' ((D2, ML (((xs.take n).filter f).map G)) :: M1) H') ⟨F1, gn⟩ (fun n H2 _ ⟨F2, g2⟩ => Evl.ex_t (g2.gr.ex.trans g2.ex) s) (fun n x H2 hx ⟨F2, g2⟩ => ⟨wipe_one, ?_⟩) (fun H2 ⟨F2, g2⟩ => ?_)
  · obtain ⟨P, hP, hx2⟩ := paired_get' q hx
    rw [List.getElem?_map] at hP
    cases hy : xs[n]? with
    | none => rw [hy] at hP; cases hP
    | some y =>
      rw [hy] at hP
      have hP : R y = P := Option.some.inj hP
      subst hP
      have hm := List.mem_of_getElem? hy
      refine lc_turn g2 ((env_wipe (b.mono (e1.trans g2.gr.ex))).set i ((R y).mono g2.gr.ex hx2)) (ht y hm) (he y hm) ?_ _ fun F3 H3 e3 g3 => ⟨F3, ?_⟩
      · rw [List.length_map]
        exact Nat.lt_of_le_of_lt (Nat.le_trans (List.length_filter_le _ _) (by rw [List.length_take]; omega)) (by omega : xs.length < 100000)
      · rw [take_filter xs f n y hy, List.map_append]
        cases hf : f y
        · rw [hf] at g3; simpa using g3
        · rw [hf] at g3; simpa using g3
  · rw [paired_len q, List.length_map, List.take_length] at g2
    exact k D2 F2 H2 (g1.fresh hD) (e1.trans g2.gr.ex) (g1.back g2)
theorem evn_lcR {tr : TA} {z : Int} {i : Nat} {G : Nat → MP} (f : Nat → Bool) (h : EvA tr Γ M [D K (.int z)] M1) (hz : z ≤ 50000 ∧ -50000 ≤ z)
    (ht : ∀ x : Nat, (x : Int) < z → EvT t ((Γ.set i none).set i (some (D K (.int x)))) M1 (· = f x) M1) (he : ∀ x : Nat, (x : Int) < z → f x = true → Ev te ((Γ.set i none).set i (some (D K (.int x)))) M1 (G x) M1) :
    EvN (tLc (iRng1 tr) (gName i) t te [i]) Γ M (ML (((List.range z.toNat).filter f).map G)) M1 := fun E F σ H a b Q k => h E F σ H a b _ fun vs F1 H1 e1 g1 p => by
  obtain ⟨v, rfl, hv⟩ := ps1 p
  cases dp_int hv
  refine ⟨z, rfl, by omega, by omega, fun D2 hD => ?_⟩
  have gn : Pt ⟨F1, H1, keys M1⟩ F1 ((D2, ML []) :: M1) (upd H1 D2 (.lst [])) := g1.enter.new hD ⟨[], rfl, .nil⟩
  refine lc_range (lo := 0) (n := z.toNat) (fun n H' => ∃ F', Pt ⟨F1, H1, keys M1⟩ F' ((D2, ML (((List.range n).filter f).map G)) :: M1) H') ⟨F1, gn⟩ (fun n H2 hn ⟨F2, g2⟩ => ⟨wipe_one, ?_⟩) (fun H2 ⟨F2, g2⟩ => ?_)
  · have e0 : (0 : Int) + (n : Int) = (n : Int) := Int.zero_add _
    rw [e0]
    have hn2 : (n : Int) < z := by omega
    refine lc_turn g2 ((env_wipe (b.mono (e1.trans g2.gr.ex))).set i (P := D K (.int n)) (.int _)) (ht n hn2) (he n hn2) ?_ _ fun F3 H3 e3 g3 => ⟨F3, ?_⟩
    · rw [List.length_map]
      exact Nat.lt_of_le_of_lt (List.length_filter_le _ _) (by rw [List.length_range]; omega)
    · rw [List.range_succ, List.filter_append, List.map_append]
      cases hf : f n
      · rw [hf] at g3; simpa [hf] using g3
      · rw [hf] at g3; simpa [hf] using g3
  · exact k D2 F2 H2 (g1.fresh hD) (e1.trans g2.gr.ex) (g1.back g2)
theorem et_yes : EvT tYes Γ M (· = true) M := fun E F σ H a b Q k => k true F H (Evl.Ex.refl _) a rfl
end
end Hq
/-! set(x) of a list of ints, told with the order of its table -/
namespace Hq
open PySem PySem.Spec PyProof.Rows L2
/-- the set as it is made -/
abbrev bareSet (w : World) : Obj := { cls := .type "set", dict := none, data := .set #[] 0 (.fresh 0 0 (!w.params.followText "set-order")) }
section
variable {P : Program} {w : World} {A : Around} {E : Value → Shared → Prop} {s : Shared}
set_option maxHeartbeats 3200000 in
theorem setL_call {l : Addr} {its : Array Value} (ns : List Int) {Q : Value → Shared → Prop} (calm : A.handled = none) (hl : s.heap.IsList l its) (hn : IntsAre its.toList ns) (few : ns.length + 1 < scanBound)
    (fin : ∀ (g : Heap) (tk c : Nat), SetR w g s.heap.objs.size (fun j => decide (j ∈ ns)) c → c ≤ ns.length → (∀ b o, s.heap.get? b = some o → g.get? b = some o) → Q (.ref s.heap.objs.size) { s with heap := g, toks := tk }) :
    wpAny (model P w) A (call (.type "set") [.ref l]) Q E s := by
  have same : its.size = ns.length := by simpa using IntsAre.length hn
  obtain ⟨c0, r0, walk0⟩ := F.called_set.mro
  have fact1 := F.called_set.made; have fact2 := F.called_set.sub
  apply wpAny_call; apply codeAny_of_tree
  show wpAny _ _ (callAny (.type "set") ⟨_, _⟩) _ _ _
  apply wpAny_pure; refine ⟨Code.quiet_builtin _ (by decide +kernel), ?_⟩; apply codeAny_builtin F.entry_type_call
  rw [show _ = _ from Around.under_plain (weight_type_call_type "set" [Value.ref l] []) rfl]
  have fact3 := F.called_set.notType; have fact4 := F.called_set.canCreate
  have fact5 := F.typeCall_set_1 (Value.ref l)
  repeat any_goals (first | assumption | wp_step)
  apply codeAny_mono (code_set_led1 (P := P) (w := w) (s := s) (.ref l) (E := E) (Q₁ := fun v z => v = .ref s.heap.objs.size ∧ z = { s with heap := s.heap.push (bareSet w) }) ⟨rfl, rfl⟩)
  intro res z hz
  match res, hz with
  | .error _, hz => exact hz
  | .ok fl, hz => ?_
  cases fl with
  | ret v =>
    obtain ⟨rfl, rfl⟩ := hz
    have at0 : (s.heap.push (bareSet w)).get? s.heap.objs.size = some (bareSet w) := Heap.get?_push_size _ rfl
    have ty0 : Shared.TypeIs { s with heap := s.heap.push (bareSet w) } (.ref s.heap.objs.size) "set" := ⟨bareSet w, at0, rfl⟩
    have fact6 := F.called_set.init.lookup
    have fact7 := F.called_set.init.bind (Value.ref s.heap.objs.size)
    repeat any_goals (first | assumption | wp_step)
    apply codeAny_mono (codeAny_call_builtin (R := wants (fun v z => v = Value.none ∧ ∃ g tk c, z = { s with heap := g, toks := tk } ∧ SetR w g s.heap.objs.size (fun j => decide (j ∈ ns)) c ∧ c ≤ ns.length ∧
      ∀ b o, s.heap.get? b = some o → g.get? b = some o) E) F.called_set.init.plain F.entry_set_init (check_set_init_1 ty0 ?first))
    case first =>
      obtain ⟨ob, hob, hcls, cnt, hdat⟩ := hl
      obtain ⟨k1, k2, k3, k4⟩ := ob
      dsimp only at hcls hdat; subst hcls hdat
      have at1 : (s.heap.push (bareSet w)).get? l = some ⟨.type "list", k2, .seq its cnt, k4⟩ := Heap.get?_push_of_some _ hob
      have n1 := F.sub_list_set; have n2 := F.sub_list_frozenset
      have n3 : (Value.type "list" == Value.type "dict") = false := by decide
      have l1 : (s.heap.push (bareSet w)).IsList l its := ⟨_, at1, rfl, cnt, rfl⟩
      unfold Builtin.«set.__init__» Builtin.Frozenset.updateFrom noKeywords
      generalize iter_is : pyIter = walkers
      wp_walk
      subst iter_is
      apply wpAny_pyIter_list l1
      apply wpAny_bind; apply wpAny_runValue
      have lt0 : l < s.heap.objs.size := Heap.lt_size hob
      have sz1 : (s.heap.push (bareSet w)).objs.size = s.heap.objs.size + 1 := Heap.size_push ..
      have off1 : l ≠ (s.heap.push (bareSet w)).objs.size := by rw [sz1]; exact Nat.ne_of_lt (Nat.lt_succ_of_lt lt0)
      have off2 : s.heap.objs.size ∉ [(s.heap.push (bareSet w)).objs.size, l] := by
        rw [sz1]; intro m
        rcases List.mem_cons.mp m with e | m
        · exact Nat.ne_of_lt (Nat.lt_succ_self _) e
        · exact Nat.ne_of_gt lt0 (List.mem_singleton.mp m)
      have vals : ∀ (i : Nat) (v : Value), its[i]? = some v → ∃ k t, ns[i]? = some k ∧ v = .int k t := by
        intro i v hv
        obtain ⟨h1, h2⟩ := Array.getElem?_eq_some_iff.mp hv
        have h3 : i < ns.length := same ▸ h1
        obtain ⟨t, e⟩ := IntsAre.int_at hn i v (by simpa using hv)
        refine ⟨ns[i], t, List.getElem?_eq_getElem h3, e.trans ?_⟩
        rw [List.getD_eq_getElem?_getD, List.getElem?_eq_getElem h3]; rfl
      apply set_update_ints ((Walks.list (show A.in1.in1.in1.handled = none by simp [calm]) _ l off1 its).toS) s.heap.objs.size off2 ns same few vals (its.size - 0) 0 _ (by omega) (Nat.zero_le _)
        ⟨⟨_, Heap.get?_push_size _ rfl, rfl, rfl⟩, l1.push _⟩
      · exact ⟨0, Nat.le_refl 0, setR_new_at (Heap.get?_push_of_some _ at0)⟩
      · rintro ⟨g, g2, g3, g4, g5⟩ c moved hc hS
        obtain rfl : g2 = s.gens := moved.gens
        obtain rfl : g3 = s.drawn := moved.drawn
        obtain rfl : g5 = s.os := moved.os
        show wpAny _ _ (pure _) _ _ _
        apply wpAny_pure
        show wpAny _ _ (ret Value.none) _ _ _
        refine wpAny_pure ⟨rfl, g, g4, c, rfl, hS, same ▸ hc, fun b o e => ?_⟩
        have lt1 : b < s.heap.objs.size := Heap.lt_size e
        refine moved.heap b o (fun m => ?_) (Heap.get?_push_of_some _ (Heap.get?_push_of_some _ e))
        rcases List.mem_cons.mp m with e | m
        · exact Nat.ne_of_lt lt1 e
        · rw [sz1] at m; exact Nat.ne_of_lt (Nat.lt_succ_of_lt lt1) (List.mem_singleton.mp m)
    · intro res z hz
      match res, hz with
      | .error _, hz => exact hz
      | .ok fl, hz => ?_
      cases fl with
      | ret v =>
        obtain ⟨rfl, g, tk, c, rfl, hS, hc, stood⟩ := hz
        repeat any_goals (first | assumption | wp_step)
        exact fin g tk c hS hc stood
      | _ => exact hz.elim
  | _ => exact hz.elim
end
end Hq
namespace Hq
open PySem L2
/-! ### promises -/
def Prom (ps : List MP) (M : Ms) (P : MP) (M' : Ms) (vs : List V) (H : Hp) (Q : VK) : Prop := ∃ F, Wd F M H ∧ Ps F vs ps ∧ Rt ⟨F, H, keys M⟩ M' P Q
section
variable {K : PySem.W.Frag} {E E' : Ent} {F F' H H' : Hp} {M M' Mc Mc' M1 M2 M3 : Ms} {Γ Γ' : Gm} {P P' P1 P2 : MP} {O O' : MO} {q : Addr} {σ : St} {o o' : HO} {j : Nat}
variable {te ta tb tc tl : TE} {t u : TT} {r : R2} {D1 : Ends} {tu tw : TS} {ps : List MP} {sp : Sp} {X : XK} {tr : TA} {C : Addr} {fps : List (Str × MP)}
theorem Pt.frame {ks : List Addr} (h : Pt E F M H) (g : Pt ⟨F, H, ks⟩ F' Mc H') (hk : ∀ a ∈ ks, a ∈ keys M) (hM : keys M' = keys M) (hr : ∀ r ∈ M', (r.1 ∉ ks ∧ r ∈ M) ∨ r ∈ Mc) : Pt E F' M' H' := by
  refine h.back ⟨⟨g.gr.ex, fun a u h1 h2 => g.gr.keep a u (fun z => h1 (hk a z)) h2, g.gr.off, g.gr.stay, g.gr.nott⟩, ⟨g.wd.ex, by rw [hM]; exact h.wd.nd, fun r hm => ?_⟩, fun r hm => .inl ?_⟩
  · rcases hr r hm with ⟨n, hm2⟩ | hm2
    · obtain ⟨a, u, hu, b⟩ := h.wd.own r hm2
      exact ⟨g.gr.off _ a (show H r.1 ≠ none by rw [hu]; exact fun z => by cases z) (fun xs z => r.2.nt b xs (by have z : H r.1 = some (HO.tup xs) := z; rw [hu] at z; exact Option.some.inj z)), u, g.gr.keep _ _ n hu, r.2.mono g.gr.ex b⟩
    · exact g.wd.own r hm2
  · show r.1 ∈ keys M
    rw [← hM]
    exact List.mem_map_of_mem (f := (·.1)) hm
theorem set_same {α : Type} {l : List α} {j : Nat} {x : α} (e : l[j]? = some x) : l.set j x = l := by
  obtain ⟨h, e⟩ := List.getElem?_eq_some_iff.mp e
  rw [← e, List.set_getElem_self]
theorem rc_prom0 {dvs : List V} (hs : ∀ vs H Q, Prom ps [] P [] vs H Q → sp (vs ++ dvs) H Q X) : RC (fun vs H Q => sp (vs ++ dvs) H Q X) ps M P M := fun E F H vs a p Q k =>
  hs vs H Q ⟨F, ⟨a.ex, List.nodup_nil, fun r hr => by cases hr⟩, p, fun v F' H' g hp => k v F' H' g.gr.ex (a.frame g (fun _ z => by cases z) rfl fun r hr => .inl ⟨by simp [keys], hr⟩) hp⟩
theorem rc_prom1 {dvs : List V} (e : M[j]? = some (q, O)) (hs : ∀ vs H Q, Prom ps [(q, O)] P [(q, O')] vs H Q → sp (vs ++ dvs) H Q X) : RC (fun vs H Q => sp (vs ++ dvs) H Q X) ps M P (M.set j (q, O')) := fun E F H vs a p Q k => by
  have hm := List.mem_of_getElem? e
  refine hs vs H Q ⟨F, ⟨a.ex, by simp [keys], fun r hr => ?_⟩, p, fun v F' H' g hp => k v F' H' g.gr.ex (a.frame g (fun z hz => ?_) (keys_set e) fun r hr => ?_) hp⟩
  · rw [List.mem_singleton.mp hr]; exact a.wd.own _ hm
  · rw [List.mem_singleton.mp hz]; exact List.mem_map_of_mem (f := (·.1)) hm
  · rcases mem_set_ne a.wd.nd e r hr with z | ⟨z, n⟩
    · rw [z]; exact .inr List.mem_cons_self
    · exact .inl ⟨fun w => n (List.mem_singleton.mp w), z⟩
theorem rc_prom1s {dvs : List V} (e : M[j]? = some (q, O)) (hs : ∀ vs H Q, Prom ps [(q, O)] P [(q, O)] vs H Q → sp (vs ++ dvs) H Q X) : RC (fun vs H Q => sp (vs ++ dvs) H Q X) ps M P M := by
  have := rc_prom1 (O' := O) e hs
  rw [set_same e] at this
  exact this
/-- calls -/
theorem ev_call0 (h : EvA tr Γ M ps M1) (hs : ∀ vs H Q, Prom ps [] P [] vs H Q → sp (vs ++ []) H Q X) : Ev (tCall sp [] X tr) Γ M P M1 := ev_call h (rc_prom0 hs)
theorem ev_call1 (h : EvA tr Γ M ps M1) (e : M1[j]? = some (q, O)) (hs : ∀ vs H Q, Prom ps [(q, O)] P [(q, O)] vs H Q → sp (vs ++ []) H Q X) : Ev (tCall sp [] X tr) Γ M P M1 := ev_call h (rc_prom1s e hs)
/-- the beginning of a def -/
theorem go_start {N : List Str} {vs : List V} {f : St → Hp → Prop} (w : Wd F M H) (p : Ps F vs ps) (hΓ : Γ = ps.map some ++ List.replicate (N.length - ps.length) none) (h : Nx ⟨F, H, keys M⟩ Γ M f) : f (L2.start N vs) H := by
  refine h _ _ ⟨F, Pt.start w, ?_⟩
  subst hΓ
  unfold L2.start
  rw [paired_len p]
  have base : ∀ {vs : List V} {ps : List MP}, Ps F vs ps → EnvOk F (vs.map some) (ps.map some) := by
    intro vs ps p
    induction p with
    | nil => exact .nil
    | cons a t ih => exact .cons (fun Q hQ => by cases hQ; exact ⟨_, rfl, a⟩) ih
  refine paired_app (base p) ?_
  · generalize N.length - ps.length = n
    induction n with
    | zero => exact .nil
    | succ n ih => exact .cons (fun Q hQ => by cases hQ) ih
theorem nx_exM {α : Type} {R : α → MO} {f} (e : M[j]? = some (q, MX R)) (h : ∀ x, Nx E Γ (M.set j (q, R x)) f) : Nx E Γ M f := by
  rintro σ H ⟨F, a, b⟩
  obtain ⟨fq, u, hu, x, hx⟩ := a.at e
  refine h x σ H ⟨F, ?_, b⟩
  have g := a.mut (o' := u) (O' := R x) e hx
  have e2 : upd H q u = H := by
    funext z
    by_cases y : z = q
    · subst y; rw [upd_same, hu]
    · rw [upd_ne y]
  rw [e2] at g
  exact g
theorem nx_anM {φ : Prop} {R : MO} {f} (e : M[j]? = some (q, MA φ R)) (h : φ → Nx E Γ (M.set j (q, R)) f) : Nx E Γ M f := by
  rintro σ H ⟨F, a, b⟩
  obtain ⟨fq, u, hu, hx⟩ := a.at e
  exact h hx.1 σ H ⟨F, a.to (O := MA φ R) (O' := R) (fun _ _ z => z.2) e, b⟩
theorem Rt.to {f : VK} (h : Rt E M' P f) (e : M[j]? = some (q, O)) (l : ∀ F o, O.p F o → O'.p F o) (hM : M' = M.set j (q, O')) : Rt E M P f := fun v F H a p => h v F H (by rw [hM]; exact a.to l e) p
/-- xs.pop() -/
theorem ev_pop (ho : Ev ta Γ M (Own q) M) (e : M[j]? = some (q, ML ps)) (hp : ps[ps.length - 1]? = some P) : Ev (tBM0 K "list" rPop ta) Γ M P (M.set j (q, ML ps.dropLast)) := fun E F σ H a b Q k => ho E F σ H a b _ fun v F1 H1 e1 g1 p1 => by
  have p1 : v = .ref q := p1
  subst p1
  obtain ⟨_, o, ho1, ws, rfl, s⟩ := g1.at e
  obtain ⟨x, hx, px⟩ := paired_get s hp
  refine ⟨.inl ⟨rfl, ws, SqL.of ho1⟩, q, ws, x, rfl, rfl, ho1, by rw [paired_len s]; exact hx, ?_⟩
  have sd : ∀ {ws : List V} {ps : List MP}, Ps F1 ws ps → Ps F1 ws.dropLast ps.dropLast := by
    intro ws ps s
    induction s with
    | nil => exact .nil
    | cons a t ih =>
      cases t with
      | nil => exact .nil
      | cons a2 t2 => exact .cons a ih
  exact k x F1 _ e1 (g1.mut e ⟨_, rfl, sd s⟩) px
/-! ### instances -/
def PIns (C : Addr) (fps : List (Str × MP)) : MP := ⟨fun F v => ∃ a dx fs, v = .ref a ∧ F a = some (.ins C dx fs) ∧ ∀ f ∈ fps, ∃ x, fs.lookup f.1 = some x ∧ f.2.p F x,
  fun e ⟨a, dx, fs, h1, h2, h3⟩ => ⟨a, dx, fs, h1, e _ _ h2, fun f hf => let ⟨x, y, z⟩ := h3 f hf; ⟨x, y, f.2.mono e z⟩⟩⟩
def MIns (C : Addr) (n : Nat) (fps : List (Str × MP)) : MO := ⟨fun F o => ∃ dx fs, o = .ins C dx fs ∧ fs.length ≤ n ∧ ∀ f ∈ fps, ∃ x, fs.lookup f.1 = some x ∧ f.2.p F x,
  fun e ⟨dx, fs, h1, h2, h3⟩ => ⟨dx, fs, h1, h2, fun f hf => let ⟨x, y, z⟩ := h3 f hf; ⟨x, y, f.2.mono e z⟩⟩, fun ⟨dx, fs, h, _⟩ xs z => by rw [h] at z; cases z⟩
theorem fr_Ins {n : Nat} : (Fr (MIns C n fps)).le (PIns C fps) := fun F v ⟨q, o, a, b, dx, fs, e, h⟩ => by subst e; exact ⟨q, dx, fs, a, b, h.2⟩
theorem ev_fld {f : Str} (h : Ev ta Γ M (PIns C fps) M1) (hf : (f, P) ∈ fps) (hc : Cls K C) (hn : NoAttr K C f) : Ev (tFld K ta f) Γ M P M1 := fun E F σ H a b Q k => h E F σ H a b _ fun v F1 H1 e1 g1 ⟨p, dx, fs, h1, h2, h3⟩ => by
  obtain ⟨x, hx, px⟩ := h3 _ hf
  exact ⟨p, C, dx, fs, x, h1, g1.ex _ _ h2, hc, hn, hx, k x F1 H1 e1 g1 px⟩
theorem putF_le (f : Str) (v : V) : ∀ fs : List (Str × V), (putF f v fs).length ≤ fs.length + 1
  | [] => Nat.le_refl _
  | (g, x) :: r => by
    unfold putF
    split
    · exact Nat.le_succ _
    · exact Nat.succ_le_succ (putF_le f v r)
theorem go_fld {f : Str} {n : Nat} (hv : Ev tb Γ M P M1) (ho : Ev ta Γ M1 (Own q) M1) (e : M1[j]? = some (q, MIns C n fps)) (hz : n < 999) (hf : ∀ g ∈ fps, g.1 ≠ f) (hc : Cls K C) (hn : NoAttr K C f) (k : Nx E Γ (M1.set j (q, MIns C (n + 1) ((f, P) :: fps))) D1.nx) :
    Nx E Γ M (sFld K ta tb f D1) := fun σ H ⟨F, a, b⟩ => hv E F σ H a b _ fun y F1 H1 e1 g1 p1 => ho E F1 σ H1 g1 (b.mono e1) _ fun v F2 H2 e2 g2 p2 => by
  have p2 : v = .ref q := p2
  subst p2
  obtain ⟨_, o, ho1, dx, fs, rfl, hl, h3⟩ := g2.at e
  refine ⟨q, C, dx, fs, rfl, ho1, hc, hn, by omega, ?_⟩
  refine k _ _ ⟨F2, g2.mut e ⟨dx, _, rfl, Nat.le_trans (putF_le f y fs) (by omega), fun g hg => ?_⟩, b.mono (e1.trans e2)⟩
  rcases List.mem_cons.mp hg with z | z
  · subst z
    exact ⟨y, by rw [lookup_putF, if_pos rfl], P.mono e2 p1⟩
  · obtain ⟨x, hx, px⟩ := h3 g z
    exact ⟨x, by rw [lookup_putF, if_neg (hf g z)]; exact hx, px⟩
theorem Pt.junk (h : Pt E F M H) (hp : H q = none) : Pt E F M (upd H q o) := by
  have ne : ∀ {a u}, H a = some u → a ≠ q := fun e => ne_of_none e hp
  refine ⟨⟨h.gr.ex, fun a u h1 h2 => ?_, h.gr.off, fun a h1 => ?_, fun a h1 h2 => ?_⟩, ⟨h.wd.ex.trans (Evl.Ex.new hp), h.wd.nd, fun r hr => ?_⟩, h.fr⟩
  · have := h.gr.keep a u h1 h2
    rw [upd_ne (ne this)]; exact this
  · by_cases e : a = q
    · subst e; rw [upd_same]; exact fun z => by cases z
    · rw [upd_ne e]; exact h.gr.stay a h1
  · rw [upd_ne (fun e => h.gr.stay a h1 (by rw [e]; exact hp))]; exact h.gr.nott a h1 h2
  · obtain ⟨a, u, hu, b⟩ := h.wd.own r hr
    exact ⟨a, u, by rw [upd_ne (ne hu)]; exact hu, b⟩
theorem evn_make (h : EvA tr Γ M ps M1) (hs : ∀ x vs H Q, Prom (Own x :: ps) [(x, MIns C 0 [])] (D K .none) [(x, O)] vs H Q → sp (vs ++ []) H Q X) : EvN (tMake C sp [] X tr) Γ M O M1 := fun E F σ H a b Q k =>
  h E F σ H a b _ fun vs F1 H1 e1 g1 p1 => fun x dx hx hdx hne => by
    have hx2 : upd H1 dx (.own x) x = none := by rw [upd_ne hne.symm]; exact hx
    have g2 : Pt E F1 ((x, MIns C 0 []) :: M1) (upd (upd H1 dx (.own x)) x (.ins C dx [])) := (g1.junk hdx).new hx2 ⟨dx, [], rfl, Nat.le_refl _, fun f hf => by cases hf⟩
    refine hs x (.ref x :: vs) _ _ ⟨F1, ⟨g2.ex, by simp [keys], fun r hr => ?_⟩, .cons rfl p1, fun v F' H' g hv => ⟨dp_non hv, ?_⟩⟩
    · rw [List.mem_singleton.mp hr]; exact g2.wd.own _ List.mem_cons_self
    · refine k x F' H' (g1.fresh hx) (e1.trans g.gr.ex) (g2.frame g (fun z hz => ?_) rfl fun r hr => ?_)
      · rw [List.mem_singleton.mp hz]; exact List.mem_cons_self
      · rcases List.mem_cons.mp hr with z | z
        · rw [z]; exact .inr List.mem_cons_self
        · exact .inl ⟨fun w => (List.nodup_cons.mp (show (x :: keys M1).Nodup from g2.wd.nd)).1 (by rw [show x = r.1 from (List.mem_singleton.mp w).symm]; exact List.mem_map_of_mem (f := (·.1)) z), List.mem_cons_of_mem _ z⟩
/-! ### isinstance of data -/
def PV (v : V) : MP := ⟨fun _ x => x = v, fun _ h => h⟩
theorem ev_pv {v : V} : Ev (tC v) Γ M (PV v) M := ev_cv fun _ => rfl
def tyName : PyData → String
  | .none => "NoneType" | .bool _ => "bool" | .int _ => "int" | .str _ => "str" | .list _ => "list" | .tuple _ => "tuple" | .dict _ => "dict"
theorem sql_ty {a : Addr} {xs : List V} (h : SqL K H a xs) : TyX K H (.ref a) (.type "list") := by
  rcases h with (h | ⟨o, h⟩) | ⟨o, its, n, h1, h2, _⟩
  · exact .base (.lst h)
  · exact .base (.frz h)
  · exact .kList h1 h2
theorem sqt_ty {a : Addr} {xs : List V} (h : SqT K H a xs) : TyX K H (.ref a) (.type "tuple") := by
  rcases h with (h | ⟨o, h⟩) | ⟨o, its, n, h1, h2, _⟩
  · exact .base (.tup h)
  · exact .fTuple h
  · exact .kTuple h1 h2
theorem dp_ty {v : V} {d : PyData} (h : Dp K H v d) : TyX K H v (.type (tyName d)) := by
  cases h with
  | non => exact .base .non
  | bl b => exact .base (.bl b)
  | int i => exact .base (.int i)
  | str x => exact .base (.str x)
  | lst s _ => exact sql_ty s
  | tup s _ => exact sqt_ty s
theorem rc_isi {d : PyData} {T : String} {b : Bool} (hb : kitB (tyName d) T = some b) : RC (rIsi K) [D K d, PV (.ty T)] M (D K (.bool b)) M := fun E F H vs a h Q k => by
  obtain ⟨v, w, rfl, hv, hw⟩ := ps2 h
  have hw : w = .ty T := hw
  subst hw
  exact ⟨v, .ty T, .type (tyName d), .type T, b, rfl, .ty T, dp_ty (Dp.mono a.ex hv), kit_ty hb, k _ F H (Evl.Ex.refl _) a (.bl b)⟩
/-! ### sorted -/
theorem ints_map {ns : List Int} {vs : List V} (h : Ps F vs (ns.map fun n => D K (.int n))) : vs = ns.map V.int := by
  have := ps_all (K := K) (ds := ns.map PyData.int) (by rw [List.map_map]; exact h)
  exact flat_ints this
theorem map_ints (ns : List Int) : Ps F (ns.map V.int) (ns.map fun n => D K (.int n)) := by
  induction ns with
  | nil => exact .nil
  | cons n ns ih => exact .cons (.int n) ih
abbrev MInts (K : PySem.W.Frag) (ns : List Int) : MO := ML (ns.map fun n => D K (.int n))
theorem rcn_sortedI {ns : List Int} : RCN (rSortedI K) [PLi K (ns.map fun n => D K (.int n))] M (MX fun ns' : List Int => MA (ns'.Perm ns ∧ ns'.Pairwise (· ≤ ·)) (MInts K ns')) M := fun E F H vs a h Q k => by
  obtain ⟨v, rfl, b, ws, rfl, s, p⟩ := ps1 h
  cases ints_map p
  exact ⟨b, ns, rfl, Evl.ex_l a.ex s, fun ns' l h1 h2 hl => k l F _ (a.fresh hl) (Evl.Ex.refl _) (a.new hl ⟨ns', ⟨h1, h2⟩, _, rfl, map_ints ns'⟩)⟩
/-- set(x): a list or tuple of ints -/
def rSetI (K : PySem.W.Frag) (w : World) : List V → Hp → VK → Prop := fun xs H Q => ∃ (a : Addr) (ns : List Int), xs = [V.ref a] ∧ (SqL K H a (ns.map V.int) ∨ SqT K H a (ns.map V.int)) ∧ ns.length < 63 ∧
  ∀ p c, H p = none → c ≤ ns.length → Q (.ref p) (upd H p (SetO w p (fun j => decide (j ∈ ns)) c))
theorem vals_ints {ns : List Int} {us : List Value} (r : Vals (ns.map V.int) us) : PyProof.Rows.IntsAre us ns := by
  induction ns generalizing us with
  | nil => cases r; exact .nil
  | cons n ns ih =>
    cases r with
    | cons a t =>
      obtain ⟨tk, rfl⟩ := a
      exact .cons n tk (ih t)
theorem cr_setI {X : Cx} (hc : X.calm = true) : CallR X (.type "set") (rSetI X.K X.w) := by
  intro pins s σ H xs us Q I r h
  obtain ⟨a, ns, rfl, hs, few, q⟩ := h
  have few2 : ns.length + 1 < scanBound := Nat.lt_trans (by omega : ns.length + 1 < 64) (by decide)
  rw [Vals.ref1 r]
  have fin : ∀ (g : Heap) (tk c : Nat), SetR X.w g s.heap.objs.size (fun j => decide (j ∈ ns)) c → c ≤ ns.length → (∀ b o, s.heap.get? b = some o → g.get? b = some o) → EP X pins σ Q (.ref s.heap.objs.size) { s with heap := g, toks := tk } := by
    intro g tk c hS hc k
    exact ⟨.ref _, upd H s.heap.objs.size (SetO X.w s.heap.objs.size (fun j => decide (j ∈ ns)) c), I.laid (t' := tk) k (Nat.le_refl _) (setO_new hS), rfl, q _ c (I.hok.fresh (Nat.le_refl _)) hc⟩
  rcases hs with hs | hs
  · obtain ⟨its, rv, hl, _⟩ := I.list hs
    exact setL_call ns (I.ok.hd hc) hl.isList (by simpa using vals_ints rv) few2 fin
  · obtain ⟨its, rv, hl, _⟩ := I.tuple hs
    exact call_set_tupI ns (I.ok.hd hc) hl (by simpa using vals_ints rv) few2 fin
theorem evn_sortedSet {w : World} {ns : List Int} (h : Ev te Γ M P M1) (hP : ∀ E F H v, Pt E F M1 H → P.p F v → ∃ a, v = .ref a ∧ (SqL K H a (ns.map V.int) ∨ SqT K H a (ns.map V.int))) (hn : ns.length < 63) :
    EvN (tCB (rSortedSet w) (tCons (tCB (rSetI K w) (tCons te tNil)) tNil)) Γ M (MX fun ns' : List Int => MA (ns'.Pairwise (· < ·) ∧ ∀ k, k ∈ ns' ↔ k ∈ ns) (MInts K ns')) M1 := fun E F σ H a b Q k => h E F σ H a b _ fun v F1 H1 e1 g1 p1 => by
  obtain ⟨x, rfl, hs⟩ := hP _ _ _ _ g1 p1
  refine ⟨x, ns, rfl, hs, hn, fun p c hp hc => ⟨p, _, c, rfl, upd_same, by omega, fun ns' l h1 h2 h3 hl => ?_⟩⟩
  have g2 : Pt E F1 M1 (upd H1 p (SetO w p (fun j => decide (j ∈ ns)) c)) := g1.junk hp
  exact k l F1 _ (g2.fresh hl) e1 (g2.new hl ⟨ns', ⟨h1, fun k => by rw [h2]; exact decide_eq_true_iff⟩, _, rfl, map_ints ns'⟩)
theorem pli_ints {ns : List Int} : ∀ E F H v, Pt E F M1 H → (PLi K (ns.map fun n => D K (.int n))).p F v → ∃ a, v = .ref a ∧ (SqL K H a (ns.map V.int) ∨ SqT K H a (ns.map V.int)) := fun E F H v g ⟨a, vs, e, s, p⟩ => by cases ints_map p; exact ⟨a, e, .inl (Evl.ex_l g.ex s)⟩
theorem own_ints {ns : List Int} (h : M1[j]? = some (q, MInts K ns)) : ∀ E F H v, Pt E F M1 H → (Own q).p F v → ∃ a, v = .ref a ∧ (SqL K H a (ns.map V.int) ∨ SqT K H a (ns.map V.int)) := fun E F H v g p => by
  obtain ⟨_, o, ho, vs, rfl, s⟩ := g.at h
  cases ints_map s
  exact ⟨q, p, .inl (SqL.of ho)⟩
theorem dtup_ints {ns : List Int} : ∀ E F H v, Pt E F M1 H → (D K (.tuple (ns.map PyData.int))).p F v → ∃ a, v = .ref a ∧ (SqL K H a (ns.map V.int) ∨ SqT K H a (ns.map V.int)) := fun E F H v g h => by
  obtain ⟨a, xs, e, s, p⟩ := dp_tup h
  cases flat_ints p
  exact ⟨a, e, .inr (Evl.ex_t g.ex s)⟩
/-! ### the draws -/
def MDr (K : PySem.W.Frag) : MO := MX fun ns : List Int => MA (ns.length ≤ 1000) (MInts K ns)
abbrev PIn (K : PySem.W.Frag) (lo hi : Int) : MP := PEx fun x : Int => PAn (lo ≤ x ∧ x < hi) (D K (.int x))
end
end Hq
namespace Hq
open PySem L2
section
variable {K : PySem.W.Frag} {E E' : Ent} {F F' H H' : Hp} {M M' Mc Mc' M1 M2 M3 : Ms} {Γ Γ' : Gm} {P P' P1 P2 : MP} {O O' : MO} {q : Addr} {σ : St} {o o' : HO} {j : Nat}
variable {te ta tb tc tl : TE} {t u : TT} {r : R2} {D1 : Ends} {tu tw : TS} {ps : List MP} {sp : Sp} {X : XK} {tr : TA} {C : Addr} {fps : List (Str × MP)}
theorem Prom.len {vs : List V} {Q : VK} (h : Prom ps M P M' vs H Q) : vs.length = ps.length := by obtain ⟨F, _, p, _⟩ := h; exact paired_len p
theorem rv_eqI {i k : Int} : RV rEq (D K (.int i)) (D K (.int k)) M (D K (.bool (decide (i = k)))) M := rv_val (z := .bl _) (fun _ => .bl _) fun F H x y p1 p2 _ Q q => by
  cases dp_int p1; cases dp_int p2
  refine ⟨rfl, ?_⟩
  have e : decide (V.int i = V.int k) = decide (i = k) := by simp
  rw [e]; exact q
theorem rv_neI {i k : Int} : RV rNe (D K (.int i)) (D K (.int k)) M (D K (.bool (!decide (i = k)))) M := rv_val (z := .bl _) (fun _ => .bl _) fun F H x y p1 p2 _ Q q => by
  cases dp_int p1; cases dp_int p2
  refine ⟨rfl, ?_⟩
  have e : decide (V.int i = V.int k) = decide (i = k) := by simp
  rw [e]; exact q
theorem ev_neg {i : Int} (h : Ev ta Γ M (D K (.int i)) M1) : Ev (tUn (rU fun i => .int (-i)) ta) Γ M (D K (.int (-i))) M1 := fun E F σ H a b Q k => h E F σ H a b _ fun v F1 H1 e1 g1 p1 => by
  cases dp_int p1
  exact ⟨i, rfl, k _ F1 H1 e1 g1 (.int _)⟩
theorem call0 (h : EvA tr Γ M ps M1) (hs : ∀ vs H Q, Prom ps [] P [] vs H Q → sp vs H Q X) : Ev (tCall sp [] X tr) Γ M P M1 := ev_call0 h fun vs H Q z => by rw [List.append_nil]; exact hs vs H Q z
theorem call1 (h : EvA tr Γ M ps M1) (e : M1[j]? = some (q, O)) (hs : ∀ vs H Q, Prom ps [(q, O)] P [(q, O)] vs H Q → sp vs H Q X) : Ev (tCall sp [] X tr) Γ M P M1 := ev_call1 h e fun vs H Q z => by rw [List.append_nil]; exact hs vs H Q z
theorem make0 (h : EvA tr Γ M ps M1) (hs : ∀ x vs H Q, Prom (Own x :: ps) [(x, MIns C 0 [])] (D K .none) [(x, O)] vs H Q → sp vs H Q X) : EvN (tMake C sp [] X tr) Γ M O M1 := evn_make h fun x vs H Q z => by rw [List.append_nil]; exact hs x vs H Q z
theorem EvA.ex1 : True := True.intro
/-- the first argument named -/
theorem ev_cbX {α : Type} {R : α → MP} {rc : List V → Hp → VK → Prop} (h : Ev te Γ M (PEx R) M1) (hr : ∀ x, RC rc [R x] M1 P M2) : Ev (tCB rc (tCons te tNil)) Γ M P M2 := ev_cb (ea_cons h ea_nil) (RC.ex1 hr)
theorem go_forX : True := True.intro
/-- something that is there, named ahead of what follows -/
theorem nx_anyE {α : Type} {R : α → MP} {tu : TE → TS} (h : True) : True := True.intro
theorem EvA.in1 {R R' : MP} (l : R.le R') (h : EvA tr Γ M (R :: ps) M1) : EvA tr Γ M (R' :: ps) M1 := fun E F σ H a b Q k => h E F σ H a b Q fun vs F' H' e g p => k vs F' H' e g (by
  cases p with
  | cons z t => exact .cons (l _ _ z) t)
/-- arguments with something to name -/
def EvAX {α : Type} (ta : TA) (Γ : Gm) (M : Ms) (ps : α → List MP) (M' : Ms) : Prop := ∀ E F σ H, Pt E F M H → EnvOk F σ Γ → ∀ Q : List V → Hp → Prop, (∀ x vs F' H', Ex F F' → Pt E F' M' H' → Ps F' vs (ps x) → Q vs H') → ta σ H Q
theorem eax1 {α : Type} {R : α → MP} (h : Ev te Γ M (PEx R) M1) : EvAX (tCons te tNil) Γ M (fun x => [R x]) M1 := fun E F σ H a b Q k => h E F σ H a b _ fun v F1 H1 e1 g1 ⟨x, p1⟩ => k x _ F1 H1 e1 g1 (.cons p1 .nil)
/-- range(e), e within known bounds -/
theorem go_forRX {i : Nat} {φ : Int → Prop} (h : Ev te Γ M (PEx fun z : Int => PAn (φ z) (D K (.int z))) M1) (hb : ∀ z, φ z → z ≤ 1000000 ∧ -1000000 ≤ z)
    (k : ∀ z, φ z → ∀ tr', EvA tr' Γ M1 [D K (.int z)] M1 → Nx E Γ M1 (tFor (iRng1 tr') (gName i) tu D1)) : Nx E Γ M (tFor (iRng1 (tCons te tNil)) (gName i) tu D1) := fun σ H ⟨F, a, b⟩ => h E F σ H a b _ fun v F1 H1 e1 g1 ⟨z, hz, p1⟩ => by
  cases dp_int p1
  have := k z hz (tCons (tC (.int z)) tNil) (ea_cons ev_int ea_nil) σ H1 ⟨F1, g1, b.mono e1⟩
  exact this
theorem evn_lcRX {i : Nat} {φ : Int → Prop} (h : Ev te Γ M (PEx fun z : Int => PAn (φ z) (D K (.int z))) M1) (k : ∀ z, φ z → EvN (tLc (iRng1 (tCons (tC (.int z)) tNil)) (gName i) t tb [i]) Γ M1 O M1) : EvN (tLc (iRng1 (tCons te tNil)) (gName i) t tb [i]) Γ M O M1 := fun E F σ H a b Q kk => h E F σ H a b _ fun v F1 H1 e1 g1 ⟨z, hz, p1⟩ => by
  cases dp_int p1
  exact k z hz E F1 σ H1 g1 (b.mono e1) Q fun q F' H' f e g => kk q F' H' f (e1.trans e) g
/-- a list of items each of which is some x with φ x -/
theorem ps_name {α : Type} {φ : α → Prop} {R : α → MP} : ∀ {n : Nat} {vs : List V}, Ps F vs (List.replicate n (PEx fun x => PAn (φ x) (R x))) → ∃ xs : List α, xs.length = n ∧ (∀ x ∈ xs, φ x) ∧ Ps F vs (xs.map R)
  | 0, _, h => by cases h; exact ⟨[], rfl, fun _ h => (by cases h), .nil⟩
  | n + 1, _, h => by
    cases h with
    | cons a t =>
      obtain ⟨x, hx, p⟩ := a
      obtain ⟨xs, h1, h2, h3⟩ := ps_name t
      exact ⟨x :: xs, by rw [List.length_cons, h1], fun y hy => by
        rcases List.mem_cons.mp hy with e | e
        · rw [e]; exact hx
        · exact h2 y e, .cons p h3⟩
/-- the same as an own list -/
theorem ml_name {α : Type} {φ : α → Prop} {R : α → MP} {n : Nat} : ∀ F o, (ML (List.replicate n (PEx fun x => PAn (φ x) (R x)))).p F o → (MX fun xs : List α => MA (xs.length = n ∧ ∀ x ∈ xs, φ x) (ML (xs.map R))).p F o := fun F o ⟨vs, e, p⟩ => by
  obtain ⟨xs, h1, h2, h3⟩ := ps_name p
  exact ⟨xs, ⟨h1, h2⟩, vs, e, h3⟩
theorem map_const {α β : Type} (l : List α) (b : β) : l.map (fun _ => b) = List.replicate l.length b := by
  induction l with
  | nil => rfl
  | cons a l ih => rw [List.map_cons, ih]; rfl
theorem filter_true {α : Type} (l : List α) : l.filter (fun _ => true) = l := by simp
end
end Hq
namespace Hq
open PySem L2
section
variable {K : PySem.W.Frag} {E E' : Ent} {F F' H H' : Hp} {M M' Mc Mc' M1 M2 M3 : Ms} {Γ Γ' : Gm} {P P' P1 P2 : MP} {O O' : MO} {q : Addr} {σ : St} {o o' : HO} {j : Nat}
variable {te ta tb tc tl : TE} {t u : TT} {r : R2} {D1 : Ends} {tu tw : TS} {ps : List MP} {sp : Sp} {X : XK} {tr : TA} {C : Addr} {fps : List (Str × MP)}
variable {tz : TS}
theorem q_asg {i : Nat} (h : Ev te Γ M P M1) (k : Nx E (Γ.set i (some P)) M1 (tz D1)) : Nx E Γ M (tSeq (tAsg te (gName i)) tz D1) :=
  go_asg (D1 := { D1 with nx := tz D1 }) h k
theorem q_asgN {i : Nat} (h : EvN te Γ M O M1) (k : ∀ q, E.H q = none → Nx E (Γ.set i (some (Own q))) ((q, O) :: M1) (tz D1)) : Nx E Γ M (tSeq (tAsg te (gName i)) tz D1) :=
  go_asgN (D1 := { D1 with nx := tz D1 }) h k
theorem q_drop (h : Ev te Γ M P M1) (k : Nx E Γ M1 (tz D1)) : Nx E Γ M (tSeq (tDrop te) tz D1) :=
  go_drop (D1 := { D1 with nx := tz D1 }) h k
theorem q_if {B : Bool → Prop} (h : EvT t Γ M B M1) (h1 : B true → Nx E Γ M1 (tu { D1 with nx := tz D1 })) (h2 : B false → Nx E Γ M1 (tw { D1 with nx := tz D1 })) : Nx E Γ M (tSeq (tIfS t tu tw) tz D1) :=
  go_if (D1 := { D1 with nx := tz D1 }) h h1 h2
theorem q_app {ps : List MP} (ho : Ev ta Γ M (Own q) M) (h : Ev te Γ M P M1) (e0 : M[j]? = some (q, ML ps)) (e : M1[j]? = some (q, ML ps)) (hz : ps.length < 100000) (k : Nx E Γ (M1.set j (q, ML (ps ++ [P]))) (tz D1)) :
    Nx E Γ M (tSeq (tDrop (tBM K "list" rAppend ta (tCons te tNil))) tz D1) :=
  go_app (D1 := { D1 with nx := tz D1 }) ho h e0 e hz k
theorem q_setL {ps : List MP} {i : Int} (h : Ev te Γ M P M1) (ho : Ev ta Γ M1 (Own q) M1) (hi : Ev tb Γ M1 (D K (.int i)) M2) (e : M2[j]? = some (q, ML ps)) (h0 : 0 ≤ i) (h1 : i.toNat < ps.length) (k : Nx E Γ (M2.set j (q, ML (ps.set i.toNat P))) (tz D1)) :
    Nx E Γ M (tSeq (tAsg te (gSub ta tb rSetL)) tz D1) :=
  go_setL (D1 := { D1 with nx := tz D1 }) h ho hi e h0 h1 k
theorem q_rev {ps : List MP} (ho : Ev ta Γ M (Own q) M) (e : M[j]? = some (q, ML ps)) (k : Nx E Γ (M.set j (q, ML ps.reverse)) (tz D1)) : Nx E Γ M (tSeq (tDrop (tBM0 K "list" rReverse ta)) tz D1) :=
  go_rev (D1 := { D1 with nx := tz D1 }) ho e k
theorem q_aug {i : Nat} {f : Int → Int → Int} {x y : Int} (hx : Γ[i]? = some (some (D K (.int x)))) (h : Ev te Γ M (D K (.int y)) M1) (k : Nx E (Γ.set i (some (D K (.int (f x y))))) M1 (tz D1)) : Nx E Γ M (tSeq (tAug i te (ipI f)) tz D1) :=
  go_aug (D1 := { D1 with nx := tz D1 }) hx h k
theorem q_forL {ps : List MP} {i : Nat} (h : Ev tl Γ M (PLi K ps) M1) (J : Nat → Gm → Ms → Prop) (h0 : J 0 Γ M1)
    (hs : ∀ E', Le E' E → ∀ n P, ps[n]? = some P → ∀ Γ' M', J n Γ' M' → Nx E' (Γ'.set i (some P)) M' (tu { D1 with nx := JA E' (J (n + 1)), ct := JA E' (J (n + 1)), bk := tz D1 }))
    (hd : ∀ Γ' M', J ps.length Γ' M' → Nx E Γ' M' (tz D1)) : Nx E Γ M (tSeq (tFor (iList K tl) (gName i) tu) tz D1) :=
  go_forL (D1 := { D1 with nx := tz D1 }) h J h0 hs hd
theorem q_forT {ps : List MP} {i : Nat} (h : Ev tl Γ M (PTu K ps) M1) (J : Nat → Gm → Ms → Prop) (h0 : J 0 Γ M1)
    (hs : ∀ E', Le E' E → ∀ n P, ps[n]? = some P → ∀ Γ' M', J n Γ' M' → Nx E' (Γ'.set i (some P)) M' (tu { D1 with nx := JA E' (J (n + 1)), ct := JA E' (J (n + 1)), bk := tz D1 }))
    (hd : ∀ Γ' M', J ps.length Γ' M' → Nx E Γ' M' (tz D1)) : Nx E Γ M (tSeq (tFor (iTup K tl) (gName i) tu) tz D1) :=
  go_forT (D1 := { D1 with nx := tz D1 }) h J h0 hs hd
theorem q_forR {tr : TA} {z : Int} {i : Nat} (h : EvA tr Γ M [D K (.int z)] M1) (hz : z ≤ 1000000) (hz2 : -1000000 ≤ z) (J : Nat → Gm → Ms → Prop) (h0 : J 0 Γ M1)
    (hs : ∀ n : Nat, (n : Int) < z → ∀ Γ' M', J n Γ' M' → Nx E (Γ'.set i (some (D K (.int n)))) M' (tu { D1 with nx := JA E (J (n + 1)), ct := JA E (J (n + 1)), bk := tz D1 }))
    (hd : ∀ Γ' M', J z.toNat Γ' M' → Nx E Γ' M' (tz D1)) : Nx E Γ M (tSeq (tFor (iRng1 tr) (gName i) tu) tz D1) :=
  go_forR (D1 := { D1 with nx := tz D1 }) h hz hz2 J h0 hs hd
theorem q_forR2 {tr : TA} {lo z : Int} {i : Nat} (h : EvA tr Γ M [D K (.int lo), D K (.int z)] M1) (hz : z ≤ 1000000 ∧ -1000000 ≤ z ∧ lo ≤ 1000000 ∧ -1000000 ≤ lo) (J : Nat → Gm → Ms → Prop) (h0 : J 0 Γ M1)
    (hs : ∀ n : Nat, lo + (n : Int) < z → ∀ Γ' M', J n Γ' M' → Nx E (Γ'.set i (some (D K (.int (lo + n))))) M' (tu { D1 with nx := JA E (J (n + 1)), ct := JA E (J (n + 1)), bk := tz D1 }))
    (hd : ∀ Γ' M', J (z - lo).toNat Γ' M' → Nx E Γ' M' (tz D1)) : Nx E Γ M (tSeq (tFor (iRng2 tr) (gName i) tu) tz D1) :=
  go_forR2 (D1 := { D1 with nx := tz D1 }) h hz J h0 hs hd
theorem q_while (J : Nat → Gm → Ms → Prop) (m0 : Nat) (h0 : J m0 Γ M)
    (hs : ∀ m Γ' M', J m Γ' M' → ∃ B M1, EvT t Γ' M' B M1 ∧ (B true → Nx E Γ' M1 (tu { D1 with nx := JA E (fun Γ M => ∃ m', m' < m ∧ J m' Γ M), ct := JA E (fun Γ M => ∃ m', m' < m ∧ J m' Γ M), bk := tz D1 })) ∧ (B false → Nx E Γ' M1 (tz D1))) : Nx E Γ M (tSeq (tWhile t tu) tz D1) :=
  go_while (D1 := { D1 with nx := tz D1 }) J m0 h0 hs
/-- hands back an object of the caller's own -/
def RtN (E : Ent) (M : Ms) (O : MO) (f : VK) : Prop := ∀ q F H, E.H q = none → Pt E F ((q, O) :: M) H → f (.ref q) H
def PromN (ps : List MP) (M : Ms) (O : MO) (M' : Ms) (vs : List V) (H : Hp) (Q : VK) : Prop := ∃ F, Wd F M H ∧ Ps F vs ps ∧ RtN ⟨F, H, keys M⟩ M' O Q
theorem PromN.len {vs : List V} {Q : VK} (h : PromN ps M O M' vs H Q) : vs.length = ps.length := by obtain ⟨F, _, p, _⟩ := h; exact paired_len p
theorem Pt.frameN {ks : List Addr} (h : Pt E F M H) (hq : H q = none) (g : Pt ⟨F, H, ks⟩ F' ((q, O) :: Mc) H') (hk : ∀ a ∈ ks, a ∈ keys M) (hM : keys M' = keys M) (hr : ∀ r ∈ M', (r.1 ∉ ks ∧ r ∈ M) ∨ r ∈ Mc) : Pt E F' ((q, O) :: M') H' := by
  have nq : q ∉ keys M := fun z => by
    obtain ⟨r, hr, e⟩ := List.mem_map.mp z
    obtain ⟨_, u, hu, _⟩ := h.wd.own r hr
    rw [e, hq] at hu; cases hu
  refine h.back ⟨⟨g.gr.ex, fun a u h1 h2 => g.gr.keep a u (fun z => h1 (hk a z)) h2, g.gr.off, g.gr.stay, g.gr.nott⟩, ⟨g.wd.ex, List.nodup_cons.mpr ⟨by rw [show List.map _ M' = keys M from hM]; exact nq, by rw [show List.map _ M' = keys M from hM]; exact h.wd.nd⟩, fun r hm => ?_⟩, fun r hm => ?_⟩
  · rcases List.mem_cons.mp hm with z | hm
    · rw [z]; exact g.wd.own _ List.mem_cons_self
    · rcases hr r hm with ⟨n, hm2⟩ | hm2
      · obtain ⟨a, u, hu, b⟩ := h.wd.own r hm2
        exact ⟨g.gr.off _ a (show H r.1 ≠ none by rw [hu]; exact fun z => by cases z) (fun xs z => r.2.nt b xs (by have z : H r.1 = some (HO.tup xs) := z; rw [hu] at z; exact Option.some.inj z)), u, g.gr.keep _ _ n hu, r.2.mono g.gr.ex b⟩
      · exact g.wd.own r (List.mem_cons_of_mem _ hm2)
  · rcases List.mem_cons.mp hm with z | hm
    · rw [z]; exact .inr hq
    · refine .inl ?_
      show r.1 ∈ keys M
      rw [← hM]
      exact List.mem_map_of_mem (f := (·.1)) hm
theorem calln0 (h : EvA tr Γ M ps M1) (hs : ∀ vs H Q, PromN ps [] O [] vs H Q → sp vs H Q X) : EvN (tCall sp [] X tr) Γ M O M1 := fun E F σ H a b Q k =>
  h E F σ H a b _ fun vs F1 H1 e1 a1 p1 => by
    show sp (vs ++ []) H1 Q X
    rw [List.append_nil]
    exact hs vs H1 Q ⟨F1, ⟨a1.ex, List.nodup_nil, fun r hr => by cases hr⟩, p1, fun q F' H' hq g => k q F' H' (a1.fresh hq) (e1.trans g.gr.ex) (a1.frameN hq g (fun _ z => by cases z) rfl fun r hr => .inl ⟨by simp [keys], hr⟩)⟩
theorem calln1 (h : EvA tr Γ M ps M1) {d : Addr} {O2 : MO} (e : M1[j]? = some (d, O2)) (hs : ∀ vs H Q, PromN ps [(d, O2)] O [(d, O2)] vs H Q → sp vs H Q X) : EvN (tCall sp [] X tr) Γ M O M1 := fun E F σ H a b Q k =>
  h E F σ H a b _ fun vs F1 H1 e1 a1 p1 => by
    show sp (vs ++ []) H1 Q X
    rw [List.append_nil]
    have hm := List.mem_of_getElem? e
    refine hs vs H1 Q ⟨F1, ⟨a1.ex, by simp [keys], fun r hr => by rw [List.mem_singleton.mp hr]; exact a1.wd.own _ hm⟩, p1, fun q F' H' hq g => k q F' H' (a1.fresh hq) (e1.trans g.gr.ex) (a1.frameN hq g (fun z hz => ?_) rfl fun r hr => ?_)⟩
    · rw [List.mem_singleton.mp hz]; exact List.mem_map_of_mem (f := (·.1)) hm
    · have hr2 : r ∈ M1.set j (d, O2) := by rw [set_same e]; exact hr
      rcases mem_set_ne a1.wd.nd e r hr2 with z | ⟨z, n⟩
      · rw [z]; exact .inr List.mem_cons_self
      · exact .inl ⟨fun w => n (List.mem_singleton.mp w), z⟩
theorem go_retO {E0 : Ent} (l : Le E E0) (h : Ev te Γ M (Own q) M1) (hq : E0.H q = none) (hM : M1 = (q, O) :: M2) (k : RtN E0 M2 O D1.rt) : Nx E Γ M (tRet te D1) := fun σ H ⟨F, a, b⟩ => h E F σ H a b _ fun v F' H' e g p => by
  have p : v = .ref q := p
  subst p
  subst hM
  exact k q F' H' hq (l.to _ _ _ g)
theorem go_retN {E0 : Ent} (l : Le E E0) (h : EvN te Γ M O M1) (k : RtN E0 M1 O D1.rt) : Nx E Γ M (tRet te D1) := fun σ H ⟨F, a, b⟩ => by
  refine h ⟨F, H, keys M⟩ F σ H a.enter b _ fun q F' H' f e g => ?_
  have gE := (a.le.trans l).to _ _ _ g
  exact k q F' H' ((l.to _ _ _ a).fresh f) gE
theorem RtN.to {f : VK} (h : RtN E M O' f) (l : ∀ F o, O.p F o → O'.p F o) : RtN E M O f := fun q F H hq a => h q F H hq (a.to (j := 0) (O' := O') l rfl)
theorem RtN.drop {f : VK} (h : RtN E M O f) (s : List.Sublist M M') : RtN E M' O f := fun q F H hq a => h q F H hq (a.drop (s.cons₂ _))
theorem nx_perm0 {f} {a b : Addr × MO} (h : Nx E Γ [a, b] f) : Nx E Γ [b, a] f := h.imp fun σ H ⟨F, x, y⟩ => ⟨F, ⟨x.gr, ⟨x.wd.ex, by
    have := x.wd.nd
    simp [keys] at this ⊢
    exact fun z => this z.symm, fun r hr => x.wd.own r (by
      rcases List.mem_cons.mp hr with e | e
      · rw [e]; exact List.mem_cons_of_mem _ List.mem_cons_self
      · rw [List.mem_singleton.mp e]; exact List.mem_cons_self)⟩, fun r hr => x.fr r (by
      rcases List.mem_cons.mp hr with e | e
      · rw [e]; exact List.mem_cons_of_mem _ List.mem_cons_self
      · rw [List.mem_singleton.mp e]; exact List.mem_cons_self)⟩, y⟩
theorem go_cut (J : Gm → Ms → Prop) (h1 : Nx E Γ M (tu { D1 with nx := JA E J })) (h2 : ∀ Γ' M', J Γ' M' → Nx E Γ' M' (tw D1)) : Nx E Γ M (Evl.tCut tu tw D1) := fun σ H a =>
  ⟨JA E J, h1 σ H a, fun σ' H' ⟨Γ', M', hJ, a'⟩ => h2 Γ' M' hJ σ' H' a'⟩
end
end Hq
namespace Hq
open PySem L2
def dT (l : List Int) : PyData := .tuple (l.map .int)
def dL (l : List Int) : PyData := .list (l.map .int)
def dTT (ls : List (List Int)) : PyData := .tuple (ls.map dT)
def dLT (ls : List (List Int)) : PyData := .list (ls.map dT)
section
variable {K : PySem.W.Frag} {E E' : Ent} {F F' H H' : Hp} {M M' Mc Mc' M1 M2 M3 : Ms} {Γ Γ' : Gm} {P P' P1 P2 : MP} {O O' : MO} {q : Addr} {σ : St} {o o' : HO} {j : Nat}
variable {te ta tb tc tl : TE} {t u : TT} {r : R2} {D1 : Ends} {tu tw tz : TS} {ps : List MP} {sp : Sp} {X : XK} {tr : TA} {C : Addr} {fps : List (Str × MP)}
theorem le_dT {l : List Int} : (D K (dT l)).le (PTu K (l.map fun n => D K (.int n))) := fun F v h => by
  have := D_PTu (K := K) (ds := l.map PyData.int) F v h
  rw [List.map_map] at this
  exact this
theorem dT_le {l : List Int} : (PTu K (l.map fun n => D K (.int n))).le (D K (dT l)) := fun F v h => PTu_D (K := K) (ds := l.map PyData.int) F v (by rw [List.map_map]; exact h)
theorem le_dL {l : List Int} : (D K (dL l)).le (PLi K (l.map fun n => D K (.int n))) := fun F v h => by
  have := D_PLi (K := K) (ds := l.map PyData.int) F v h
  rw [List.map_map] at this
  exact this
theorem dL_le {l : List Int} : (PLi K (l.map fun n => D K (.int n))).le (D K (dL l)) := fun F v h => PLi_D (K := K) (ds := l.map PyData.int) F v (by rw [List.map_map]; exact h)
theorem le_Lm {α : Type} {f : α → PyData} {l : List α} : (D K (.list (l.map f))).le (PLi K (l.map fun n => D K (f n))) := fun F v h => by
  have := D_PLi (K := K) (ds := l.map f) F v h
  rw [List.map_map] at this
  exact this
theorem Lm_le {α : Type} {f : α → PyData} {l : List α} : (PLi K (l.map fun n => D K (f n))).le (D K (.list (l.map f))) := fun F v h => PLi_D (K := K) (ds := l.map f) F v (by rw [List.map_map]; exact h)
theorem le_Tm {α : Type} {f : α → PyData} {l : List α} : (D K (.tuple (l.map f))).le (PTu K (l.map fun n => D K (f n))) := fun F v h => by
  have := D_PTu (K := K) (ds := l.map f) F v h
  rw [List.map_map] at this
  exact this
theorem Tm_le {α : Type} {f : α → PyData} {l : List α} : (PTu K (l.map fun n => D K (f n))).le (D K (.tuple (l.map f))) := fun F v h => PTu_D (K := K) (ds := l.map f) F v (by rw [List.map_map]; exact h)
theorem rv_addIn {a lo hi : Int} : RV (rI0 fun i j => .int (i + j)) (D K (.int a)) (PIn K lo hi) M (PIn K (a + lo) (a + hi)) M :=
  RV.ex2 fun x => RV.an2 fun hx => rv_i0.weak (MP.le_trans (PAn.in (φ := a + lo ≤ a + x ∧ a + x < a + hi) (by omega)) (PEx.in (R := fun z : Int => PAn (a + lo ≤ z ∧ z < a + hi) (D K (.int z))) (a + x)))
theorem q_forRX {i : Nat} {φ : Int → Prop} (h : Ev te Γ M (PEx fun z : Int => PAn (φ z) (D K (.int z))) M1) (k : ∀ z, φ z → ∀ tr', EvA tr' Γ M1 [D K (.int z)] M1 → Nx E Γ M1 (tSeq (tFor (iRng1 tr') (gName i) tu) tz D1)) : Nx E Γ M (tSeq (tFor (iRng1 (tCons te tNil)) (gName i) tu) tz D1) := fun σ H ⟨F, a, b⟩ => h E F σ H a b _ fun v F1 H1 e1 g1 ⟨z, hz, p1⟩ => by
  cases dp_int p1
  exact k z hz (tCons (tC (.int z)) tNil) (ea_cons ev_int ea_nil) σ H1 ⟨F1, g1, b.mono e1⟩
theorem ev_tupOf {φ : List Int → Prop} (h : EvN te Γ M (MX fun ns : List Int => MA (φ ns) (MInts K ns)) M1) : Ev (tCB (rTuple K) (tCons te tNil)) Γ M (PEx fun ns : List Int => PAn (φ ns) (D K (dT ns))) M1 :=
  ev_cb (ea_cons ((ev_fr h).weak (MP.le_trans fr_X (PEx.le fun x => MP.le_trans fr_A (PAn.le fun _ => fr_L (K := K))))) ea_nil) (RC.ex1 fun ns => RC.an1 fun hφ => rc_tupleL.weak (MP.le_trans dT_le (MP.le_trans (PAn.in hφ) (PEx.in (R := fun ns : List Int => PAn (φ ns) (D K (dT ns))) ns))))
theorem nx_lastM {α : Type} {f} {φ : α → Prop} {R : α → MP} (e : M[j]? = some (q, ML (ps ++ [PEx fun x => PAn (φ x) (R x)]))) (h : ∀ x, φ x → Nx E Γ (M.set j (q, ML (ps ++ [R x]))) f) : Nx E Γ M f := by
  rintro σ H ⟨F, a, b⟩
  obtain ⟨fq, o, ho, vs, rfl, s⟩ := a.at e
  have key : ∀ {ps : List MP} {vs : List V}, Ps F vs (ps ++ [PEx fun x => PAn (φ x) (R x)]) → ∃ x, φ x ∧ Ps F vs (ps ++ [R x]) := by
    intro ps
    induction ps with
    | nil =>
      intro vs s
      obtain ⟨v, rfl, x, hx, hp⟩ := ps1 s
      exact ⟨x, hx, .cons hp .nil⟩
    | cons p ps ih =>
      intro vs s
      cases s with
      | cons a t =>
        obtain ⟨x, hx, t2⟩ := ih t
        exact ⟨x, hx, .cons a t2⟩
  obtain ⟨x, hx, s2⟩ := key s
  refine h x hx σ H ⟨F, ?_, b⟩
  have g := a.mut (o' := .lst vs) (O' := ML (ps ++ [R x])) e ⟨vs, rfl, s2⟩
  have e2 : upd H q (.lst vs) = H := by
    funext z
    by_cases y : z = q
    · subst y; rw [upd_same, ho]
    · rw [upd_ne y]
  rw [e2] at g
  exact g
theorem nx_perm {f} (p : M.Perm M') (h : Nx E Γ M' f) : Nx E Γ M f := h.imp fun σ H ⟨F, x, y⟩ => ⟨F, ⟨x.gr, ⟨x.wd.ex, (p.map _).nodup_iff.mp x.wd.nd, fun r hr => x.wd.own r (p.mem_iff.mpr hr)⟩, fun r hr => x.fr r (p.mem_iff.mpr hr)⟩, y⟩
theorem q_appN {i : Nat} (ho : Ev ta Γ M (Own q) M) (h : EvN te Γ M O M1) (e0 : M[j]? = some (q, ML ps)) (e : M1[i]? = some (q, ML ps)) (hz : ps.length < 100000) (k : ∀ p, E.H p = none → Nx E Γ ((p, O) :: M1.set i (q, ML (ps ++ [Own p]))) D1.nx) :
    Nx E Γ M (tDrop (tBM K "list" rAppend ta (tCons te tNil)) D1) := fun σ H ⟨F, a, b⟩ => ho E F σ H a b _ fun v F1 H1 e1 g1 p1 => by
  have p1 : v = .ref q := p1
  subst p1
  obtain ⟨_, o, ho1, ws0, rfl, _⟩ := g1.at e0
  refine ⟨.inl ⟨rfl, ws0, SqL.of ho1⟩, ?_⟩
  refine h E F1 σ H1 g1 (b.mono e1) _ fun p F2 H2 f e2 g2 => ?_
  obtain ⟨_, o, ho2, ws, rfl, s⟩ := g2.at (j := i + 1) e
  refine ⟨q, ws, .ref p, rfl, rfl, ho2, sz_lt (by rw [paired_len s]; exact hz), ?_⟩
  exact k p f _ _ ⟨F2, g2.mut (j := i + 1) e ⟨_, rfl, paired_app s (.cons (show (Own p).p F2 (.ref p) from rfl) .nil)⟩, b.mono (e1.trans e2)⟩
/-- max(xs) -/
theorem rc_max {ns : List Int} (h0 : 0 < ns.length) : RC (rMax K) [PLi K (ns.map fun n => D K (.int n))] M (PEx fun m : Int => PAn (m ∈ ns ∧ ∀ y ∈ ns, y ≤ m) (D K (.int m))) M := fun E F H vs a h Q k => by
  obtain ⟨v, rfl, b, ws, rfl, s, p⟩ := ps1 h
  cases ints_map p
  exact ⟨b, ns, rfl, Evl.ex_l a.ex s, h0, fun m h1 h2 => k _ F H (Evl.Ex.refl _) a ⟨m, ⟨h1, h2⟩, .int m⟩⟩
/-- own lists within an own list -/
def inner (K : PySem.W.Frag) (as : List Addr) (ls : List (List Int)) : Ms := (as.zip ls).map fun p => (p.1, MInts K p.2)
theorem freeze_inner : ∀ {as : List Addr} {ls : List (List Int)} {M0 : Ms} {F H}, as.length = ls.length → (∀ a ∈ as, E.H a = none) → Pt E F (M0 ++ inner K as ls) H → ∃ F', Ex F F' ∧ Pt E F' M0 H ∧ Paired (fun a l => Dp K F' (.ref a) (dL l)) as ls
  | [], [], M0, F, H, _, _, g => ⟨F, Evl.Ex.refl _, by simpa [inner] using g, .nil⟩
  | a :: as, l :: ls, M0, F, H, hl, ha, g => by
    have at0 : (M0 ++ inner K (a :: as) (l :: ls))[M0.length]? = some (a, MInts K l) := by
      rw [List.getElem?_append_right (Nat.le_refl _), Nat.sub_self]; rfl
    obtain ⟨fq, o, ho, vs, rfl, s⟩ := g.at at0
    have g2 := g.freeze at0 (ha a List.mem_cons_self) ho
    have er : (M0 ++ inner K (a :: as) (l :: ls)).eraseIdx M0.length = M0 ++ inner K as ls := by
      rw [List.eraseIdx_append_of_length_le (Nat.le_refl _), Nat.sub_self]; rfl
    rw [er] at g2
    obtain ⟨F', e, g3, p⟩ := freeze_inner (by simpa using hl) (fun b hb => ha b (List.mem_cons_of_mem _ hb)) g2
    have ex1 : Ex F (upd F a (.lst vs)) := Evl.Ex.new fq
    refine ⟨F', ex1.trans e, g3, .cons (Dp.mono e ?_) p⟩
    exact dL_le (K := K) _ _ ⟨a, vs, rfl, SqL.of upd_same, s.mono ex1⟩
theorem nx_nested {f} {i : Nat} {as : List Addr} {ls : List (List Int)} {M0 : Ms} (hl : as.length = ls.length) (hq : E.H q = none) (ha : ∀ a ∈ as, E.H a = none) (hg : Γ[i]? = some (some (Own q))) (h : Nx E (Γ.set i (some (D K (.list (ls.map dL))))) M0 f) :
    Nx E Γ ((q, ML (as.map Own)) :: (M0 ++ inner K as ls)) f := by
  rintro σ H ⟨F, a, b⟩
  obtain ⟨F1, e1, g1, p⟩ := freeze_inner (M0 := (q, ML (as.map Own)) :: M0) hl ha a
  obtain ⟨fq, o, ho, vs, rfl, s⟩ := g1.at (j := 0) rfl
  have g2 := g1.freeze (j := 0) rfl hq ho
  have ex1 : Ex F1 (upd F1 q (.lst vs)) := Evl.Ex.new fq
  refine h σ H ⟨_, g2, (b.mono (e1.trans ex1)).upd hg fun v hv => ?_⟩
  have hv : v = .ref q := hv
  subst hv
  refine .lst (SqL.of upd_same) ?_
  have key : ∀ {as : List Addr} {ls : List (List Int)} {vs : List V}, Paired (fun a l => Dp K F1 (.ref a) (dL l)) as ls → Ps F1 vs (as.map Own) → DpAll K (upd F1 q (.lst vs)) vs (ls.map dL) → True := fun _ _ _ => trivial
  have key2 : ∀ {as : List Addr} {ls : List (List Int)} {ws : List V}, Paired (fun a l => Dp K F1 (.ref a) (dL l)) as ls → Ps F1 ws (as.map Own) → DpAll K (upd F1 q (.lst vs)) ws (ls.map dL) := by
    intro as ls ws p
    induction p generalizing ws with
    | nil => intro s; cases s; exact .nil
    | cons x t ih =>
      intro s
      cases s with
      | cons y u =>
        have y : _ = V.ref _ := y
        subst y
        exact .cons (Dp.mono ex1 x) (ih u)
  exact key2 p s
theorem q_fld {f : Str} {n : Nat} (hv : Ev tb Γ M P M1) (ho : Ev ta Γ M1 (Own q) M1) (e : M1[j]? = some (q, MIns C n fps)) (hz : n < 999) (hf : ∀ g ∈ fps, g.1 ≠ f) (hc : Cls K C) (hn : NoAttr K C f) (k : Nx E Γ (M1.set j (q, MIns C (n + 1) ((f, P) :: fps))) (tz D1)) :
    Nx E Γ M (tSeq (sFld K ta tb f) tz D1) := go_fld (D1 := { D1 with nx := tz D1 }) hv ho e hz hf hc hn k
/-! rules with the written part named -/
variable {Y : Cx}
abbrev rLn (K : PySem.W.Frag) : List V → Hp → VK → Prop := fun xs H Q => ∃ p ys, xs = [.ref p] ∧ (SqL K H p ys ∨ SqT K H p ys) ∧ Q (.int ys.length) H
theorem c_len (e : Y.K = K) : CallR Y (.builtin "len") (rLn K) := e ▸ call_len_seq
theorem c_list (e : Y.K = K) : CallR Y (.type "list") (rList K) := e ▸ call_list_of
theorem c_tuple (e : Y.K = K) : CallR Y (.type "tuple") (rTuple K) := e ▸ call_tuple_of
theorem c_ix (e : Y.K = K) : IxR Y (rIx K) := e ▸ ix_seq
theorem c_in (e : Y.K = K) : OpR Y (compareOp .In) (rIn K false) := e ▸ op_in_seq
theorem c_notIn (e : Y.K = K) : OpR Y (compareOp .NotIn) (rIn K true) := e ▸ op_notIn_seq
theorem c_eq (e : Y.K = K) (hu : Y.A.units + 64 < cLine) : OpR Y (compareOp .Eq) (rEqD K) := e ▸ op_eqD hu
theorem c_ne (e : Y.K = K) (hu : Y.A.units + 64 < cLine) : OpR Y (compareOp .NotEq) (rNeD K) := e ▸ op_neD hu
theorem c_max (e : Y.K = K) (hc : Y.calm = true) : CallR Y (.builtin "max") (rMax K) := e ▸ cr_max hc
theorem c_min (e : Y.K = K) (hc : Y.calm = true) : CallR Y (.builtin "min") (rMin K) := e ▸ cr_min hc
theorem c_sum (e : Y.K = K) (hc : Y.calm = true) : CallR Y (.builtin "sum") (rSum K) := e ▸ cr_sum hc
theorem c_sorted (e : Y.K = K) : CallR Y (.builtin "sorted") (rSortedI K) := e ▸ cr_sortedI
theorem c_sortedSet {w : World} (e : Y.w = w) (hc : Y.calm = true) : CallR Y (.builtin "sorted") (rSortedSet w) := e ▸ cr_sortedSet hc
theorem c_set {w : World} (e : Y.K = K) (e2 : Y.w = w) (hc : Y.calm = true) : CallR Y (.type "set") (rSetI K w) := by subst e; subst e2; exact cr_setI hc
theorem c_isi (e : Y.K = K) : CallR Y (.builtin "isinstance") (rIsi K) := e ▸ call_isi
theorem c_catA (e : Y.K = K) : OpR Y (binaryOp .Add) (rCatA K) := e ▸ op_catA
theorem c_slT (e : Y.K = K) : SlR Y (rSlA K) := e ▸ sl_tupA
theorem c_slL (e : Y.K = K) : SlR Y (rSlL K) := e ▸ sl_list
end
end Hq
namespace Hq
open PySem L2
/-- a way to write values of a type as data, faithfully -/
structure Enc {α : Type} [DecidableEq α] (f : α → PyData) (n : Nat) : Prop where
  eq : ∀ x y, PyData.eqv (f x) (f y) = decide (x = y)
  lay : ∀ x, PyData.canLay0 (f x) = true
  deep : ∀ x, PyData.depth (f x) ≤ n
theorem Enc.shaped {α : Type} [DecidableEq α] {f : α → PyData} {n : Nat} (e : Enc f n) (h : n ≤ 64) (x : α) : SeqAt.shaped (f x) = true := by
  unfold SeqAt.shaped
  rw [e.lay x, Bool.true_and]
  exact decide_eq_true (Nat.le_trans (e.deep x) h)
theorem enc_int : Enc PyData.int 1 := ⟨fun x y => by
    show (x == y) = decide (x = y)
    rw [Bool.eq_iff_iff]; simp, fun _ => rfl, fun _ => by show PyData.depth (.int _) ≤ 1; simp [PyData.depth]⟩
section
variable {α : Type} [DecidableEq α] {f : α → PyData} {n : Nat}
theorem eqvAll_map (e : Enc f n) : ∀ (xs ys : List α), PyData.eqvAll (xs.map f) (ys.map f) = decide (xs = ys)
  | [], [] => rfl
  | x :: xs, y :: ys => by
    show (PyData.eqv (f x) (f y) && PyData.eqvAll (xs.map f) (ys.map f)) = _
    rw [e.eq, eqvAll_map e xs ys]
    by_cases h1 : x = y <;> by_cases h2 : xs = ys <;> simp [h1, h2]
  | [], _ :: _ => rfl
  | _ :: _, [] => rfl
theorem depthAll_map (e : Enc f n) : ∀ (xs : List α), PyData.depthAll (xs.map f) ≤ n
  | [] => Nat.zero_le _
  | x :: xs => by
    have h1 := e.deep x
    have h2 := depthAll_map e xs
    simp only [List.map_cons, PyData.depthAll]
    omega
theorem enc_list (e : Enc f n) : Enc (fun xs : List α => PyData.list (xs.map f)) (n + 1) := ⟨fun x y => eqvAll_map e x y, fun xs => by
    simp only [PyData.canLay0]
    first | (rw [List.all_eq_true]; intro d hd; obtain ⟨x, _, rfl⟩ := List.mem_map.mp hd; exact e.lay x) | (induction xs with | nil => rfl | cons x xs ih => simp_all [PyData.canLay0, PyData.canLayAll0, e.lay]), fun xs => by
    have := depthAll_map e xs
    simp only [PyData.depth]
    omega⟩
theorem enc_tuple (e : Enc f n) : Enc (fun xs : List α => PyData.tuple (xs.map f)) (n + 1) := ⟨fun x y => eqvAll_map e x y, fun xs => by
    simp only [PyData.canLay0]
    first | (rw [List.all_eq_true]; intro d hd; obtain ⟨x, _, rfl⟩ := List.mem_map.mp hd; exact e.lay x) | (induction xs with | nil => rfl | cons x xs ih => simp_all [PyData.canLay0, PyData.canLayAll0, e.lay]), fun xs => by
    have := depthAll_map e xs
    simp only [PyData.depth]
    omega⟩
end
theorem enc_bool : Enc PyData.bool 1 := ⟨fun x y => by
    show (x == y) = decide (x = y)
    rw [Bool.eq_iff_iff]; simp, fun _ => rfl, fun _ => by show PyData.depth (.bool _) ≤ 1; simp [PyData.depth]⟩
theorem enc_dT : Enc dT 2 := enc_tuple enc_int
theorem enc_dL : Enc dL 2 := enc_list enc_int
theorem enc_dLT : Enc dLT 3 := enc_list enc_dT
theorem enc_dTT : Enc dTT 3 := enc_tuple enc_dT
section
variable {K : PySem.W.Frag} {M : Ms} {α : Type} [DecidableEq α] {f : α → PyData} {n : Nat}
theorem rv_eqE (e : Enc f n) (h : n ≤ 64) {x y : α} : RV (rEqD K) (D K (f x)) (D K (f y)) M (D K (.bool (decide (x = y)))) M := by
  have := rv_eqD (K := K) (M := M) (e.shaped h x) (e.shaped h y)
  rw [e.eq] at this
  exact this
theorem rv_neE (e : Enc f n) (h : n ≤ 64) {x y : α} : RV (rNeD K) (D K (f x)) (D K (f y)) M (D K (.bool (!decide (x = y)))) M := by
  have := rv_neD (K := K) (M := M) (e.shaped h x) (e.shaped h y)
  rw [e.eq] at this
  exact this
end
/-! ### a list or a tuple -/
def iOr (wi wj : TI) : TI := fun σ H R => wi σ H R ∨ wj σ H R
theorem pi_or {X : Cx} {tg l : PySem.Expr} {wi wj : TI} (h : PI X tg l wi) (h' : PI X tg l wj) : PI X tg l (iOr wi wj) := ⟨fun pins s σ H R I q => q.elim (h.run pins s σ H R I) (h'.run pins s σ H R I)⟩
section
variable {K : PySem.W.Frag} {E : Ent} {M M1 : Ms} {Γ : Gm} {O : MO} {wi wj : TI} {g : TG} {tu tz : TS} {D1 : Ends} {t : TT} {te : TE} {vs : List Nat}
theorem for_or1 (h : Nx E Γ M (tFor wi g tu D1)) : Nx E Γ M (tFor (iOr wi wj) g tu D1) := fun σ H a => .inl (h σ H a)
theorem for_or2 (h : Nx E Γ M (tFor wj g tu D1)) : Nx E Γ M (tFor (iOr wi wj) g tu D1) := fun σ H a => .inr (h σ H a)
theorem qfor_or1 (h : Nx E Γ M (tSeq (tFor wi g tu) tz D1)) : Nx E Γ M (tSeq (tFor (iOr wi wj) g tu) tz D1) := fun σ H a => .inl (h σ H a)
theorem qfor_or2 (h : Nx E Γ M (tSeq (tFor wj g tu) tz D1)) : Nx E Γ M (tSeq (tFor (iOr wi wj) g tu) tz D1) := fun σ H a => .inr (h σ H a)
theorem lc_or1 (h : EvN (tLc wi g t te vs) Γ M O M1) : EvN (tLc (iOr wi wj) g t te vs) Γ M O M1 := fun E F σ H a b Q k => .inl (h E F σ H a b Q k)
theorem lc_or2 (h : EvN (tLc wj g t te vs) Γ M O M1) : EvN (tLc (iOr wi wj) g t te vs) Γ M O M1 := fun E F σ H a b Q k => .inr (h E F σ H a b Q k)
end
/-- the word as a tuple or as a list -/
def dW (b : Bool) (l : List Int) : PyData := if b then dT l else dL l
section
variable {K : PySem.W.Frag} {E : Ent} {M M1 : Ms} {Γ : Gm} {O : MO} {P : MP} {wi wj : TI} {g : TG} {tu tz : TS} {D1 : Ends} {t : TT} {te ta tb : TE} {vs : List Nat} {l : List Int} {b : Bool} {v i : Nat}
theorem go_forW (e : Γ[v]? = some (some (D K (dW b l)))) (J : Nat → Gm → Ms → Prop) (h0 : J 0 Γ M)
    (hs : ∀ E', Le E' E → ∀ n x, l[n]? = some x → ∀ Γ' M', J n Γ' M' → Nx E' (Γ'.set i (some (D K (.int x)))) M' (tu { D1 with nx := JA E' (J (n + 1)), ct := JA E' (J (n + 1)), bk := D1.nx }))
    (hd : ∀ Γ' M', J l.length Γ' M' → Nx E Γ' M' D1.nx) : Nx E Γ M (tFor (iOr (iTup K (tVar v)) (iList K (tVar v))) (gName i) tu D1) := by
  have hs2 : ∀ E', Le E' E → ∀ n P, (l.map fun x => D K (.int x))[n]? = some P → ∀ Γ' M', J n Γ' M' → Nx E' (Γ'.set i (some P)) M' (tu { D1 with nx := JA E' (J (n + 1)), ct := JA E' (J (n + 1)), bk := D1.nx }) := fun E' hE n P hP Γ' M' hJ => by
    rw [List.getElem?_map] at hP
    obtain ⟨x, hx, rfl⟩ := Option.map_eq_some_iff.mp hP
    exact hs E' hE n x hx Γ' M' hJ
  have hd2 : ∀ Γ' M', J (l.map fun x => D K (.int x)).length Γ' M' → Nx E Γ' M' D1.nx := by rw [List.length_map]; exact hd
  cases b with
  | true => exact for_or1 (go_forT ((ev_var (P := D K (dT l)) e).weak le_dT) J h0 hs2 hd2)
  | false => exact for_or2 (go_forL ((ev_var (P := D K (dL l)) e).weak le_dL) J h0 hs2 hd2)
theorem q_forW (e : Γ[v]? = some (some (D K (dW b l)))) (J : Nat → Gm → Ms → Prop) (h0 : J 0 Γ M)
    (hs : ∀ E', Le E' E → ∀ n x, l[n]? = some x → ∀ Γ' M', J n Γ' M' → Nx E' (Γ'.set i (some (D K (.int x)))) M' (tu { D1 with nx := JA E' (J (n + 1)), ct := JA E' (J (n + 1)), bk := tz D1 }))
    (hd : ∀ Γ' M', J l.length Γ' M' → Nx E Γ' M' (tz D1)) : Nx E Γ M (tSeq (tFor (iOr (iTup K (tVar v)) (iList K (tVar v))) (gName i) tu) tz D1) := go_forW (D1 := { D1 with nx := tz D1 }) e J h0 hs hd
theorem evn_lcW {G : Int → MP} (f : Int → Bool) (e : Γ[v]? = some (some (D K (dW b l)))) (hz : l.length ≤ 50000)
    (ht : ∀ x ∈ l, EvT t ((Γ.set i none).set i (some (D K (.int x)))) M (· = f x) M) (he : ∀ x ∈ l, f x = true → Ev te ((Γ.set i none).set i (some (D K (.int x)))) M (G x) M) :
    EvN (tLc (iOr (iTup K (tVar v)) (iList K (tVar v))) (gName i) t te [i]) Γ M (ML ((l.filter f).map G)) M := by
  cases b with
  | true => exact lc_or1 (evn_lcT f ((ev_var (P := D K (dT l)) e).weak le_dT) hz ht he)
  | false => exact lc_or2 (evn_lcL f ((ev_var (P := D K (dL l)) e).weak le_dL) hz ht he)
/-- [x] * n -/
theorem evn_rep {z : Int} (h : EvN ta Γ M (ML [P]) M1) (hb : ∀ M, Ev tb Γ M (D K (.int z)) M) (hz : 0 ≤ z ∧ z ≤ 1000) : EvN (tOp rRep ta tb) Γ M (ML (List.replicate z.toNat P)) M1 := fun E F σ H a c Q k =>
  h E F σ H a c _ fun q F1 H1 f1 e1 g1 => hb _ E F1 σ H1 g1 (c.mono e1) _ fun y F2 H2 e2 g2 p2 => by
    cases dp_int p2
    obtain ⟨_, o, ho, ws, rfl, s⟩ := g2.at (j := 0) rfl
    obtain ⟨x, rfl, px⟩ := ps1 s
    refine ⟨q, z, [x], rfl, rfl, ho, by omega, by omega, sz_of (by simp; omega), fun p hp => ?_⟩
    have g3 := (g2.new (O := ML (List.replicate z.toNat P)) (o := .lst (List.replicate z.toNat [x]).flatten) hp ⟨_, rfl, ?_⟩).drop (List.Sublist.cons₂ _ (List.sublist_cons_self _ _))
    · exact k p F2 _ (g2.fresh hp) (e1.trans e2) g3
    · generalize z.toNat = m
      induction m with
      | zero => exact .nil
      | succ m ih => exact .cons px ih
end
/-! ### a, b = e -/
section
variable {K : PySem.W.Frag} {E : Ent} {M M1 : Ms} {Γ : Gm} {D1 : Ends} {tz : TS} {te : TE} {i j : Nat}
theorem q_unp2 {α : Type} {φ : α → Prop} {R1 R2 : α → MP} (h : Ev te Γ M (PEx fun x => PAn (φ x) (PTu K [R1 x, R2 x])) M1) (k : ∀ x, φ x → Nx E ((Γ.set i (some (R1 x))).set j (some (R2 x))) M1 (tz D1)) :
    Nx E Γ M (tSeq (tAsg te (gTup K 2 (gCons (gName i) (gCons (gName j) gNil)))) tz D1) := fun σ H ⟨F, a, b⟩ => h E F σ H a b _ fun v F1 H1 e1 g1 ⟨x, hx, p, vs, ev, s, q⟩ => by
  obtain ⟨y, z, rfl, hy, hz⟩ := ps2 q
  exact ⟨p, [y, z], ev, Evl.ex_t g1.ex s, rfl, y, [z], rfl, z, [], rfl, rfl, k x hx _ _ ⟨F1, g1, ((b.mono e1).set i hy).set j hz⟩⟩
theorem rv_catT {a b : List Int} (h : a.length + b.length ≤ 100000) : RV (rCatA K) (D K (dT a)) (D K (dT b)) M (D K (dT (a ++ b))) M := fun E F H x y g p1 p2 Q k => by
  obtain ⟨p, vs, rfl, s, q⟩ := le_dT _ _ p1
  obtain ⟨p', vs', rfl, s', q'⟩ := le_dT _ _ p2
  have e1 := ints_map q; have e2 := ints_map q'
  subst e1; subst e2
  refine ⟨p, p', _, _, rfl, rfl, Evl.ex_t g.ex s, Evl.ex_t g.ex s', sz_of (by simpa using h), fun e => ?_, fun _ e => ?_, fun _ _ r hr => ?_⟩
  · have : a = [] := by simpa using e
    subst this
    exact k _ F H (Evl.Ex.refl _) g (dT_le _ _ ⟨p', _, rfl, s', q'⟩)
  · have : b = [] := by simpa using e
    subst this
    rw [List.append_nil] at k
    exact k _ F H (Evl.Ex.refl _) g (dT_le _ _ ⟨p, _, rfl, s, q⟩)
  · refine k _ _ _ (Evl.Ex.new (Evl.fresh_back g.ex hr)) (g.laid hr) (dT_le _ _ ⟨r, _, rfl, SqT.of upd_same, ?_⟩)
    rw [← List.map_append]
    exact map_ints _
end
section
variable {M M' : Ms} {P P1 : MP} {ps : List MP}
theorem RC.ex2 {α : Type} {rc : List V → Hp → VK → Prop} {R : α → MP} (h : ∀ x, RC rc (P1 :: R x :: ps) M P M') : RC rc (P1 :: PEx R :: ps) M P M' := fun E F H vs a p Q k => by
  cases p with
  | cons b t => cases t with
    | cons c t => obtain ⟨x, c⟩ := c; exact h x E F H _ a (.cons b (.cons c t)) Q k
theorem RC.an2 {φ : Prop} {rc : List V → Hp → VK → Prop} {R : MP} (h : φ → RC rc (P1 :: R :: ps) M P M') : RC rc (P1 :: PAn φ R :: ps) M P M' := fun E F H vs a p Q k => by
  cases p with
  | cons b t => cases t with
    | cons c t => exact h c.1 E F H _ a (.cons b (.cons c.2 t)) Q k
end
section
variable {K : PySem.W.Frag} {M M1 : Ms} {Γ : Gm} {te : TE} {α : Type} {f : α → PyData} {xs : List α}
theorem ev_lenM (h : Ev te Γ M (D K (.list (xs.map f))) M1) : Ev (tCB (rLn K) (tCons te tNil)) Γ M (D K (.int xs.length)) M1 := by
  have := ev_cb (ea_cons h ea_nil) (rc_lenD (K := K) (ds := xs.map f) (M := M1))
  rw [List.length_map] at this
  exact this
theorem ev_lenMT (h : Ev te Γ M (D K (.tuple (xs.map f))) M1) : Ev (tCB (rLn K) (tCons te tNil)) Γ M (D K (.int xs.length)) M1 := by
  have := ev_cb (ea_cons h ea_nil) (rc_lenDT (K := K) (ds := xs.map f) (M := M1))
  rw [List.length_map] at this
  exact this
end
end Hq
namespace Hq
open PySem L2
section
variable {K : PySem.W.Frag} {E E' : Ent} {F F' H H' : Hp} {M M' Mc Mc' M0 M1 M2 M3 : Ms} {Γ Γ' : Gm} {P P' P1 P2 : MP} {O O' : MO} {q : Addr} {σ : St} {o o' : HO} {j i : Nat}
variable {te ta tb tc tl : TE} {t u : TT} {r : R2} {D1 : Ends} {tu tw tz : TS} {ps qs : List MP} {sp : Sp} {X : XK} {tr : TA}
theorem evn_cat {Ps1 : Ms → Prop} (h1 : EvN ta Γ M (ML ps) M1) (h2 : ∀ M, Ps1 M → EvN tb Γ M (ML qs) M) (hp : ∀ q, Ps1 ((q, ML ps) :: M1)) (hz : ps.length + qs.length ≤ 100000) : EvN (tOp rCat ta tb) Γ M (ML (ps ++ qs)) M1 := fun E F σ H a b Q k =>
  h1 E F σ H a b _ fun x F1 H1 f1 e1 g1 => h2 _ (hp x) E F1 σ H1 g1 (b.mono e1) _ fun y F2 H2 f2 e2 g2 => by
    obtain ⟨_, o, ho, vs, rfl, s⟩ := g2.at (j := 1) rfl
    obtain ⟨_, o, ho', ws, rfl, s'⟩ := g2.at (j := 0) rfl
    refine ⟨x, y, vs, ws, rfl, rfl, ho, ho', sz_of (by rw [paired_len s, paired_len s']; exact hz), fun p hp => ?_⟩
    have g3 := (g2.new (O := ML (ps ++ qs)) (o := .lst (vs ++ ws)) hp ⟨_, rfl, paired_app s s'⟩).drop (List.Sublist.cons₂ _ ((List.sublist_cons_self _ _).trans (List.sublist_cons_self _ _)))
    exact k p F2 _ (g2.fresh hp) (e1.trans e2) g3
/-- for i in reversed(range(n)) -/
theorem q_forRev {z : Int} (h : Ev te Γ M (D K (.int z)) M1) (hz : 0 ≤ z ∧ z ≤ 1000000) (J : Nat → Gm → Ms → Prop) (h0 : J 0 Γ M1)
    (hs : ∀ n : Nat, (n : Int) < z → ∀ Γ' M', J n Γ' M' → Nx E (Γ'.set i (some (D K (.int (z - 1 - n))))) M' (tu { D1 with nx := JA E (J (n + 1)), ct := JA E (J (n + 1)), bk := tz D1 }))
    (hd : ∀ Γ' M', J z.toNat Γ' M' → Nx E Γ' M' (tz D1)) : Nx E Γ M (tSeq (tFor (iRevR (tRg1 te)) (gName i) tu) tz D1) := fun σ H ⟨F, a, b⟩ => h E F σ H a b _ fun v F1 H1 e1 g1 p => by
  cases dp_int p
  refine ⟨z, rfl, by omega, by omega, by omega, by omega, ?_⟩
  have e0 : (z - 0).toNat = z.toNat := by rw [Int.sub_zero]
  rw [e0]
  refine L2.for_rangeC (lo := 0 + ((z.toNat : Nat) : Int) - 1) (c := -1) (n := z.toNat) (D := { D1 with nx := tz D1 }) (fun n σ H => JA E (J n) σ H) ⟨Γ, M1, h0, F1, g1, b.mono e1⟩ (fun n σ2 H2 hn hJ => ?_) (fun σ2 H2 hJ => ?_)
  · obtain ⟨Γ', M', hJ, F2, g2, b2⟩ := hJ
    refine hs n (by omega) Γ' M' hJ _ _ ⟨F2, g2, b2.set i ?_⟩
    have e : (0 : Int) + ((z.toNat : Nat) : Int) - 1 + (n : Int) * (-1) = z - 1 - n := by omega
    show Dp K F2 (.int _) _
    rw [e]
    exact .int _
  · obtain ⟨Γ', M', hJ, at2⟩ := hJ
    exact hd Γ' M' hJ _ _ at2
/-! ### lists of own lists -/
def innerE {α : Type} (K : PySem.W.Frag) (f : α → PyData) (as : List Addr) (ls : List (List α)) : Ms := (as.zip ls).map fun p => (p.1, ML (p.2.map fun x => D K (f x)))
section
variable {α : Type} {f : α → PyData}
theorem ie_snoc {as : List Addr} {rs : List (List α)} {p : Addr} {l : List α} (h : as.length = rs.length) : innerE K f (as ++ [p]) (rs ++ [l]) = innerE K f as rs ++ [(p, ML (l.map fun x => D K (f x)))] := by
  unfold innerE
  rw [List.zip_append h, List.map_append]; rfl
theorem ie_set {as : List Addr} {rs : List (List α)} {n : Nat} {l : List α} (h : as.length = rs.length) (hn : n < as.length) : (innerE K f as rs).set n (as[n], ML (l.map fun x => D K (f x))) = innerE K f as (rs.set n l) := by
  unfold innerE
  apply List.ext_getElem
  · simp [h]
  · intro i h1 h2
    simp at h1 h2
    rw [List.getElem_set]
    by_cases e : n = i
    · subst e; simp
    · rw [if_neg e]; simp [List.getElem_set, e]
theorem ie_at {as : List Addr} {rs : List (List α)} {n : Nat} (h : as.length = rs.length) (hn : n < as.length) : (innerE K f as rs)[n]? = some (as[n], ML ((rs.getD n []).map fun x => D K (f x))) := by
  unfold innerE
  have : n < rs.length := by omega
  simp [List.getElem?_eq_getElem, hn, this, h]
theorem freezeE : ∀ {as : List Addr} {ls : List (List α)} {M0 : Ms} {F H}, as.length = ls.length → (∀ a ∈ as, E.H a = none) → Pt E F (M0 ++ innerE K f as ls) H → ∃ F', Ex F F' ∧ Pt E F' M0 H ∧ Paired (fun a l => Dp K F' (.ref a) (.list (l.map f))) as ls
  | [], [], M0, F, H, _, _, g => ⟨F, Evl.Ex.refl _, by simpa [innerE] using g, .nil⟩
  | a :: as, l :: ls, M0, F, H, hl, ha, g => by
    have at0 : (M0 ++ innerE K f (a :: as) (l :: ls))[M0.length]? = some (a, ML (l.map fun x => D K (f x))) := by
      rw [List.getElem?_append_right (Nat.le_refl _), Nat.sub_self]; rfl
    obtain ⟨fq, o, ho, vs, rfl, s⟩ := g.at at0
    have g2 := g.freeze at0 (ha a List.mem_cons_self) ho
    have er : (M0 ++ innerE K f (a :: as) (l :: ls)).eraseIdx M0.length = M0 ++ innerE K f as ls := by
      rw [List.eraseIdx_append_of_length_le (Nat.le_refl _), Nat.sub_self]; rfl
    rw [er] at g2
    obtain ⟨F', e, g3, p⟩ := freezeE (by simpa using hl) (fun b hb => ha b (List.mem_cons_of_mem _ hb)) g2
    have ex1 : Ex F (upd F a (.lst vs)) := Evl.Ex.new fq
    refine ⟨F', ex1.trans e, g3, .cons (Dp.mono e ?_) p⟩
    exact Lm_le (K := K) _ _ ⟨a, vs, rfl, SqL.of upd_same, s.mono ex1⟩
theorem nx_nestedE {g : St → Hp → Prop} {i : Nat} {as : List Addr} {ls : List (List α)} {M0 : Ms} (hl : as.length = ls.length) (hq : E.H q = none) (ha : ∀ a ∈ as, E.H a = none) (hg : Γ[i]? = some (some (Own q))) (h : Nx E (Γ.set i (some (D K (.list (ls.map fun l => .list (l.map f)))))) M0 g) :
    Nx E Γ ((q, ML (as.map Own)) :: (M0 ++ innerE K f as ls)) g := by
  rintro σ H ⟨F, a, b⟩
  obtain ⟨F1, e1, g1, p⟩ := freezeE (M0 := (q, ML (as.map Own)) :: M0) hl ha a
  obtain ⟨fq, o, ho, vs, rfl, s⟩ := g1.at (j := 0) rfl
  have g2 := g1.freeze (j := 0) rfl hq ho
  have ex1 : Ex F1 (upd F1 q (.lst vs)) := Evl.Ex.new fq
  refine h σ H ⟨_, g2, (b.mono (e1.trans ex1)).upd hg fun v hv => ?_⟩
  have hv : v = .ref q := hv
  subst hv
  refine .lst (SqL.of upd_same) ?_
  have key2 : ∀ {as : List Addr} {ls : List (List α)} {ws : List V}, Paired (fun a l => Dp K F1 (.ref a) (.list (l.map f))) as ls → Ps F1 ws (as.map Own) → DpAll K (upd F1 q (.lst vs)) ws (ls.map fun l => .list (l.map f)) := by
    intro as ls ws p
    induction p generalizing ws with
    | nil => intro s; cases s; exact .nil
    | cons x t ih =>
      intro s
      cases s with
      | cons y u =>
        have y : _ = V.ref _ := y
        subst y
        exact .cons (Dp.mono ex1 x) (ih u)
  exact key2 p s
end
end
section
variable {K : PySem.W.Frag} {E : Ent} {M : Ms} {Γ : Gm} {O : Nat → MO} {D1 : Ends} {tz : TS} {te : TE} {tr : TA} {i j : Nat}
theorem Pt.perm {F H : Hp} {M M' : Ms} (h : Pt E F M H) (p : M.Perm M') : Pt E F M' H := ⟨h.gr, ⟨h.wd.ex, (p.map _).nodup_iff.mp h.wd.nd, fun r hr => h.wd.own r (p.mem_iff.mpr hr)⟩, fun r hr => h.fr r (p.mem_iff.mpr hr)⟩
def zipR (O : Nat → MO) (as : List Addr) (n : Nat) : Ms := (as.zip (List.range n)).map fun p => (p.1, O p.2)
theorem zipR_snoc {as : List Addr} {n : Nat} {q : Addr} (h : as.length = n) : zipR O (as ++ [q]) (n + 1) = zipR O as n ++ [(q, O n)] := by
  unfold zipR
  rw [List.range_succ, List.zip_append (by rw [List.length_range]; exact h), List.map_append]; rfl
theorem q_lcOwn {z : Int} (h : EvA tr Γ M [D K (.int z)] M) (hz : z ≤ 50000 ∧ 0 ≤ z) (he : ∀ x : Nat, (x : Int) < z → EvN te ((Γ.set i none).set i (some (D K (.int x)))) M (O x) M)
    (k : ∀ q as, E.H q = none → (∀ a ∈ as, E.H a = none) → as.length = z.toNat → Nx E (Γ.set j (some (Own q))) ((q, ML (as.map Own)) :: (M ++ zipR O as z.toNat)) (tz D1)) :
    Nx E Γ M (tSeq (tAsg (tLc (iRng1 tr) (gName i) tYes te [i]) (gName j)) tz D1) := fun σ H ⟨F, a, b⟩ => h E F σ H a b _ fun vs F1 H1 e1 g1 p => by
  obtain ⟨v, rfl, hv⟩ := ps1 p
  cases dp_int hv
  refine ⟨z, rfl, by omega, by omega, fun D2 hD => ?_⟩
  have gn : Pt E F1 ((D2, ML []) :: M) (upd H1 D2 (.lst [])) := g1.new hD ⟨[], rfl, .nil⟩
  refine lc_range (lo := 0) (n := z.toNat) (fun n H' => ∃ F' as, Pt E F' ((D2, ML (as.map Own)) :: (M ++ zipR O as n)) H' ∧ Ex F1 F' ∧ as.length = n ∧ ∀ a ∈ as, E.H a = none) ⟨F1, [], by simpa [zipR] using gn, Evl.Ex.refl _, rfl, fun _ h => by cases h⟩ (fun n H2 hn ⟨F2, as, g2, e2, hl, hf⟩ => ⟨wipe_one, ?_⟩) (fun H2 ⟨F2, as, g2, e2, hl, hf⟩ => ?_)
  · have e0 : (0 : Int) + (n : Int) = (n : Int) := Int.zero_add _
    rw [e0]
    have sub : List.Sublist M ((D2, ML (as.map Own)) :: (M ++ zipR O as n)) := (List.sublist_append_left _ _).trans (List.sublist_cons_self _ _)
    show te _ H2 _
    refine he n (by omega) ⟨F2, H2, keys M⟩ F2 _ H2 (Pt.start (g2.drop sub).wd) ((env_wipe (b.mono (e1.trans e2))).set i (P := D K (.int n)) (.int _)) _ fun q F3 H3 hq e3 g3 => ?_
    have g4 : Pt E F3 ((q, O n) :: (D2, ML (as.map Own)) :: (M ++ zipR O as n)) H3 := g2.frameN hq g3 (fun x hx => by
      obtain ⟨r, hr, e⟩ := List.mem_map.mp hx
      exact List.mem_map.mpr ⟨r, sub.subset hr, e⟩) rfl fun r hr => by
        by_cases hm : r.1 ∈ keys M
        · obtain ⟨s, hs, e⟩ := List.mem_map.mp hm
          -- one entry for each address
          have one : ∀ {L : Ms}, (keys L).Nodup → ∀ r ∈ L, ∀ s ∈ L, r.1 = s.1 → r = s := by
            intro L
            induction L with
            | nil => intro _ r hr; cases hr
            | cons m L ih =>
              intro nd r hr s hs e
              have nd' := List.nodup_cons.mp (show (m.1 :: keys L).Nodup from nd)
              rcases List.mem_cons.mp hr with e1 | hr <;> rcases List.mem_cons.mp hs with e2 | hs
              · rw [e1, e2]
              · exact absurd (show m.1 ∈ keys L by rw [← e1, e]; exact List.mem_map_of_mem (f := (·.1)) hs) nd'.1
              · exact absurd (show m.1 ∈ keys L by rw [← e2, ← e]; exact List.mem_map_of_mem (f := (·.1)) hr) nd'.1
              · exact ih nd'.2 r hr s hs e
          have := one g2.wd.nd r hr s (sub.subset hs) e.symm
          rw [this]; exact .inr hs
        · exact .inl ⟨hm, hr⟩
    obtain ⟨_, o, ho, ws, rfl, s⟩ := g4.at (j := 1) rfl
    refine ⟨ws, ho, sz_lt (by rw [paired_len s, List.length_map]; omega), F3, as ++ [q], ?_, e2.trans e3, by rw [List.length_append, hl]; rfl, fun x hx => ?_⟩
    · have g5 := g4.mut (j := 1) (O' := ML ((as ++ [q]).map Own)) (o' := .lst (ws ++ [.ref q])) rfl ⟨_, rfl, by rw [List.map_append]; exact paired_app s (.cons (show (Own q).p F3 (.ref q) from rfl) .nil)⟩
      rw [zipR_snoc hl]
      refine g5.perm ?_
      show ((q, O n) :: (D2, ML ((as ++ [q]).map Own)) :: (M ++ zipR O as n)).Perm _
      refine (List.Perm.swap _ _ _).trans (List.Perm.cons _ ?_)
      rw [← List.append_assoc]
      exact (List.perm_append_singleton _ _).symm
    · rcases List.mem_append.mp hx with h1 | h1
      · exact hf x h1
      · rw [List.mem_singleton.mp h1]; exact g2.fresh hq
  · exact k D2 as (g1.fresh hD) hf hl _ _ ⟨F2, g2, (b.mono (e1.trans e2)).set j (P := Own D2) rfl⟩
end
section
variable {K : PySem.W.Frag} {M M1 : Ms} {Γ : Gm} {te : TE} {b : Bool} {l ns : List Int} {q : Addr} {j : Nat}
theorem rv_ixW {i x : Int} (h0 : 0 ≤ i) (h : (l.map PyData.int)[i.toNat]? = some (.int x)) : RV (rIx K) (D K (dW b l)) (D K (.int i)) M (D K (.int x)) M := by
  cases b with
  | true => exact rv_ixDT (ds := l.map PyData.int) h0 h
  | false => exact rv_ixDL (ds := l.map PyData.int) h0 h
theorem ev_lenW (h : Ev te Γ M (D K (dW b l)) M1) : Ev (tCB (rLn K) (tCons te tNil)) Γ M (D K (.int l.length)) M1 := by
  cases b with
  | true => exact ev_lenMT (f := PyData.int) h
  | false => exact ev_lenM (f := PyData.int) h
theorem rcn_sortedO (e : M[j]? = some (q, MInts K ns)) : RCN (rSortedI K) [Own q] M (MX fun ns' : List Int => MA (ns'.Perm ns ∧ ns'.Pairwise (· ≤ ·)) (MInts K ns')) M := fun E F H vs a h Q k => by
  obtain ⟨v, rfl, hv⟩ := ps1 h
  have hv : v = .ref q := hv
  subst hv
  obtain ⟨_, o, ho, ws, rfl, s⟩ := a.at e
  cases ints_map s
  exact ⟨q, ns, rfl, SqL.of ho, fun ns' l h1 h2 hl => k l F _ (a.fresh hl) (Evl.Ex.refl _) (a.new hl ⟨ns', ⟨h1, h2⟩, _, rfl, map_ints ns'⟩)⟩
end
theorem pi_listK {Y : Cx} {K : PySem.W.Frag} {tg l : PySem.Expr} {tl : TE} (e : Y.K = K) (hl : PE Y l tl) : PI Y tg l (iList K tl) := e ▸ pi_list hl
theorem pi_tupK {Y : Cx} {K : PySem.W.Frag} {tg l : PySem.Expr} {tl : TE} (e : Y.K = K) (hl : PE Y l tl) : PI Y tg l (iTup K tl) := e ▸ pi_tup hl
end Hq
namespace Hq
open PySem L2
/-! ### xs.index(y, lo): an item of a list of ints from a place on -/
def rIndex3 (K : PySem.W.Frag) : V → List V → Hp → VK → Prop := fun x xs H Q => ∃ (a : Addr) (ns : List Int) (y lo : Int) (j : Nat), x = .ref a ∧ xs = [.int y, .int lo] ∧ SqL K H a (ns.map V.int) ∧ (0 ≤ lo ∧ lo.toNat ≤ j) ∧ ns[j]? = some y ∧
  (∀ m : Nat, lo.toNat ≤ m → m < j → ns[m]? ≠ some y) ∧ Q (.int (j : Nat)) H
theorem flatI {ns : List Int} : (ns.map V.int).all flatV = true := by
  rw [List.all_map, List.all_eq_true]
  intro x _; rfl
theorem mt_index3 {X : Cx} : MtR X "list.index" (rIndex3 X.K) := by
  intro pn st sg H x args v us Q I rx rargs h
  obtain ⟨a, ns, y, lo, j, rfl, rfl, hs, ⟨h0, hlo⟩, hj, hno, q⟩ := h
  cases rx
  obtain ⟨u1, u2, rfl, r1, r2⟩ := rargs.two
  obtain ⟨t, rfl⟩ := r2
  obtain ⟨its, rv, ⟨⟨cls, dd, dt, sl⟩, n, ho, hc, hdn, hd⟩, hz⟩ := I.list hs
  simp only at hc hd
  subst hc hd
  have hvl : ns.length = its.length := by have := rv.length; rwa [List.length_map] at this
  have hjl : j < ns.length := (List.getElem?_eq_some_iff.mp hj).1
  have szl := sizeLine_eq
  have hzn : ns.length ≤ sizeLine := by simpa using hz
  have gv : ∀ m (hm : m < its.length), eqU (.int y) its[m] = decide (ns[m]'(by omega) = y) := fun m hm => by
    have e0 : (ns.map V.int)[m]? = some (.int (ns[m]'(by omega))) := by rw [List.getElem?_map, List.getElem?_eq_getElem (by omega)]; rfl
    obtain ⟨w, hw, rw'⟩ := rv.get e0
    have e1 : its[m] = w := by
      rw [List.getElem?_eq_getElem hm] at hw
      exact Option.some.inj hw
    rw [e1, eqU_of rw' rfl]
    rfl
  refine call_meets PySem.F.slot_list_index ⟨_, ho, rfl⟩ PySem.F.entry_list_index (PySem.F.args_list_index_3 _ _ _)
    (SeqAt.list_index3_found a its.toArray n dd sl u1 (fun m => eqU (.int y) (its.toArray.getD m .none)) lo t j (by rw [List.size_toArray]; omega) (by rw [SeqAt.searchFrom_nonneg h0]; exact hlo) (by omega) ?_ ?_) ⟨ho, fun m hm => ?_, ?_⟩
  · have hj2 : j < its.length := by omega
    have : its.toArray.getD j .none = its[j] := by simp [Array.getD, hj2]
    show eqU _ _ = true
    rw [this, gv j hj2, decide_eq_true_iff]
    exact (List.getElem?_eq_some_iff.mp hj).2
  · intro m hm hl2 hmj
    have hm2 : m < its.length := by simpa using hm
    have : its.toArray.getD m .none = its[m] := by simp [Array.getD, hm2]
    show eqU _ _ = false
    rw [this, gv m hm2, decide_eq_false_iff_not]
    intro e
    rw [SeqAt.searchFrom_nonneg h0] at hl2
    exact hno m hl2 hmj (by rw [List.getElem?_eq_getElem (by omega), e])
  · have hm2 : m < its.length := by simpa using hm
    have : its.toArray.getD m .none = its.toArray[m] := by simp [Array.getD, hm2]
    rw [this]
    exact mem_eqAt r1 rfl rv flatI _ (by simp)
  · exact ⟨.int (j : Nat), H, I.tok _, ⟨_, rfl⟩, q⟩
section
variable {K : PySem.W.Frag} {E : Ent} {M M1 M2 : Ms} {Γ : Gm} {P : MP} {O : MO} {q : Addr} {j : Nat} {te ta tb ta2 tb2 tl : TE} {tr : TA} {D1 : Ends} {tz : TS}
/-- an owned list's index -/
theorem ev_index3 {ns : List Int} {y lo : Int} {k : Nat} (ho : Ev ta Γ M (Own q) M) (h : EvA tr Γ M [D K (.int y), D K (.int lo)] M) (e : M[j]? = some (q, MInts K ns)) (h0 : 0 ≤ lo ∧ lo.toNat ≤ k) (hk : ns[k]? = some y) (hno : ∀ m : Nat, lo.toNat ≤ m → m < k → ns[m]? ≠ some y) :
    Ev (tBM K "list" (rIndex3 K) ta tr) Γ M (D K (.int k)) M := fun E F σ H a b Q kk => ho E F σ H a b _ fun v F1 H1 e1 g1 p1 => by
  have p1 : v = .ref q := p1
  subst p1
  obtain ⟨_, o, ho1, ws0, rfl, _⟩ := g1.at e
  refine ⟨.inl ⟨rfl, ws0, SqL.of ho1⟩, ?_⟩
  refine h E F1 σ H1 g1 (b.mono e1) _ fun vs F2 H2 e2 g2 p2 => ?_
  obtain ⟨x1, x2, rfl, h1, h2⟩ := ps2 p2
  cases dp_int h1; cases dp_int h2
  obtain ⟨_, o, ho2, ws, rfl, s⟩ := g2.at e
  have es := ints_map s
  subst es
  exact ⟨q, ns, y, lo, k, rfl, rfl, SqL.of ho2, h0, hk, hno, kk _ _ _ (e1.trans e2) g2 (.int _)⟩
/-! ### xs[i] += e -/
def rGetL (K : PySem.W.Frag) : V → V → Hp → VK → Prop := fun o i H Q => ∃ p xs k v, o = .ref p ∧ i = .int k ∧ SqL K H p xs ∧ (0 ≤ k ∧ k < 1000000) ∧ xs[k.toNat]? = some v ∧ Q v H
theorem get_list {X : Cx} : PGet X (rGetL X.K) := by
  intro pn st sg H x y v u Q I rx ry h
  obtain ⟨p, xs, k, z, rfl, rfl, hs, ⟨h0, h1⟩, hz, q⟩ := h
  cases rx
  obtain ⟨t, rfl⟩ := ry
  obtain ⟨its, rv, pl, hl⟩ := I.list hs
  obtain ⟨w, hw, rw'⟩ := rv.get hz
  exact wpAny_getItem_list pl.isList h0 (by omega) (by simpa using hw) ⟨z, H, I, rw', q⟩
theorem c_fld {Y : Cx} {e : PySem.Expr} {f : Str} {pos : Pos} (e2 : Y.K = K) (he : PE Y e ta) (hb : attributeBase e f Y.env (eval e Y.env) = eval e Y.env) : PE Y (.Attribute e f pos) (tFld K ta f) := e2 ▸ pe_fld he hb
theorem c_getL {Y : Cx} (e : Y.K = K) : PGet Y (rGetL K) := e ▸ get_list
theorem go_augS {ns : List Int} {f : Int → Int → Int} {i x y : Int} (ho : Ev ta Γ M (Own q) M) (hi : Ev tb Γ M (D K (.int i)) M) (h : Ev te Γ M (D K (.int y)) M) (e : M[j]? = some (q, MInts K ns)) (h0 : 0 ≤ i ∧ i < 1000000) (hx : ns[i.toNat]? = some x)
    (k : Nx E Γ (M.set j (q, MInts K (ns.set i.toNat (f x y)))) D1.nx) : Nx E Γ M (tAugS ta tb te (rGetL K) (ipI f) rSetL D1) := fun σ H ⟨F, a, b⟩ => ho E F σ H a b _ fun v F1 H1 e1 g1 p1 => by
  have p1 : v = .ref q := p1
  subst p1
  refine hi E F1 σ H1 g1 (b.mono e1) _ fun w F2 H2 e2 g2 p2 => ?_
  cases dp_int p2
  obtain ⟨_, o, ho2, ws, rfl, s⟩ := g2.at e
  have es := ints_map s
  subst es
  refine ⟨q, _, i, .int x, rfl, rfl, SqL.of ho2, h0, by rw [List.getElem?_map, hx]; rfl, ?_⟩
  refine h E F2 σ H2 g2 (b.mono (e1.trans e2)) _ fun w F3 H3 e3 g3 p3 => ?_
  cases dp_int p3
  refine ⟨x, y, rfl, rfl, ?_⟩
  obtain ⟨_, o, ho3, ws, rfl, s3⟩ := g3.at e
  have hn : i.toNat < ns.length := (List.getElem?_eq_some_iff.mp hx).1
  obtain ⟨n, rfl⟩ := Int.eq_ofNat_of_zero_le h0.1
  refine ⟨q, ws, n, n, rfl, rfl, ho3, Evl.ixN_nat (by rw [paired_len s3, List.length_map]; exact hn), ?_⟩
  have es := ints_map s3
  subst es
  refine k _ _ ⟨F3, g3.mut e ⟨_, rfl, ?_⟩, b.mono ((e1.trans e2).trans e3)⟩
  rw [← List.map_set]
  exact map_ints _
theorem q_augS {ns : List Int} {f : Int → Int → Int} {i x y : Int} (ho : Ev ta Γ M (Own q) M) (hi : Ev tb Γ M (D K (.int i)) M) (h : Ev te Γ M (D K (.int y)) M) (e : M[j]? = some (q, MInts K ns)) (h0 : 0 ≤ i ∧ i < 1000000) (hx : ns[i.toNat]? = some x)
    (k : Nx E Γ (M.set j (q, MInts K (ns.set i.toNat (f x y)))) (tz D1)) : Nx E Γ M (tSeq (tAugS ta tb te (rGetL K) (ipI f) rSetL) tz D1) := go_augS (D1 := { D1 with nx := tz D1 }) ho hi h e h0 hx k
/-! ### xs[i], xs[i2] = x, y -/
theorem go_setL2 {ns : List Int} {i i2 x y : Int} (h : Ev te Γ M (PTu K [D K (.int x), D K (.int y)]) M1) (ho : ∀ M, Ev ta Γ M (Own q) M) (hi : ∀ M, Ev tb Γ M (D K (.int i)) M) (ho2 : ∀ M, Ev ta2 Γ M (Own q) M) (hi2 : ∀ M, Ev tb2 Γ M (D K (.int i2)) M)
    (e : M1[j]? = some (q, MInts K ns)) (h0 : 0 ≤ i ∧ i.toNat < ns.length) (h2 : 0 ≤ i2 ∧ i2.toNat < ns.length) (k : Nx E Γ (M1.set j (q, MInts K ((ns.set i.toNat x).set i2.toNat y))) D1.nx) :
    Nx E Γ M (tAsg te (gTup K 2 (gCons (gSub ta tb rSetL) (gCons (gSub ta2 tb2 rSetL) gNil))) D1) := fun σ H ⟨F, a, b⟩ => h E F σ H a b _ fun v F1 H1 e1 g1 ⟨p, vs, ev, s, qq⟩ => by
  obtain ⟨w1, w2, rfl, p1, p2⟩ := ps2 qq
  cases dp_int p1; cases dp_int p2
  refine ⟨p, [.int x, .int y], ev, Evl.ex_t g1.ex s, rfl, .int x, [.int y], rfl, ?_⟩
  refine ho _ E F1 σ H1 g1 (b.mono e1) _ fun v F2 H2 e2 g2 p1 => ?_
  have p1 : v = .ref q := p1
  subst p1
  refine hi _ E F2 σ H2 g2 (b.mono (e1.trans e2)) _ fun w F3 H3 e3 g3 p3 => ?_
  cases dp_int p3
  obtain ⟨_, o, ho3, ws, rfl, s3⟩ := g3.at e
  have es := ints_map s3
  subst es
  obtain ⟨n, rfl⟩ := Int.eq_ofNat_of_zero_le h0.1
  refine ⟨q, _, n, n, rfl, rfl, ho3, Evl.ixN_nat (by rw [List.length_map]; exact h0.2), ?_⟩
  have g4 := g3.mut (o' := .lst ((ns.map V.int).set n (.int x))) e (O' := MInts K (ns.set n x)) ⟨_, rfl, by rw [← List.map_set]; exact map_ints _⟩
  have e4 : (M1.set j (q, MInts K (ns.set n x)))[j]? = some (q, MInts K (ns.set n x)) := by rw [List.getElem?_set_self (List.getElem?_eq_some_iff.mp e).1]
  refine ⟨.int y, [], rfl, ?_⟩
  refine ho2 _ E F3 σ _ g4 (b.mono ((e1.trans e2).trans e3)) _ fun v F5 H5 e5 g5 p1 => ?_
  have p1 : v = .ref q := p1
  subst p1
  refine hi2 _ E F5 σ H5 g5 (b.mono (((e1.trans e2).trans e3).trans e5)) _ fun w F6 H6 e6 g6 p6 => ?_
  cases dp_int p6
  obtain ⟨_, o, ho6, ws, rfl, s6⟩ := g6.at e4
  have es := ints_map s6
  subst es
  obtain ⟨m, rfl⟩ := Int.eq_ofNat_of_zero_le h2.1
  refine ⟨q, _, m, m, rfl, rfl, ho6, Evl.ixN_nat (by rw [List.length_map, List.length_set]; exact h2.2), rfl, ?_⟩
  have g7 := g6.mut (o' := .lst (((ns.set n x).map V.int).set m (.int y))) e4 (O' := MInts K ((ns.set n x).set m y)) ⟨_, rfl, by rw [← List.map_set]; exact map_ints _⟩
  rw [List.set_set] at g7
  exact k _ _ ⟨F6, g7, b.mono ((((e1.trans e2).trans e3).trans e5).trans e6)⟩
theorem q_setL2 {ns : List Int} {i i2 x y : Int} (h : Ev te Γ M (PTu K [D K (.int x), D K (.int y)]) M1) (ho : ∀ M, Ev ta Γ M (Own q) M) (hi : ∀ M, Ev tb Γ M (D K (.int i)) M) (ho2 : ∀ M, Ev ta2 Γ M (Own q) M) (hi2 : ∀ M, Ev tb2 Γ M (D K (.int i2)) M)
    (e : M1[j]? = some (q, MInts K ns)) (h0 : 0 ≤ i ∧ i.toNat < ns.length) (h2 : 0 ≤ i2 ∧ i2.toNat < ns.length) (k : Nx E Γ (M1.set j (q, MInts K ((ns.set i.toNat x).set i2.toNat y))) (tz D1)) :
    Nx E Γ M (tSeq (tAsg te (gTup K 2 (gCons (gSub ta tb rSetL) (gCons (gSub ta2 tb2 rSetL) gNil)))) tz D1) := go_setL2 (D1 := { D1 with nx := tz D1 }) h ho hi ho2 hi2 e h0 h2 k
theorem call1m {ps : List MP} {O O' : MO} {sp : Sp} {X : XK} (h : EvA tr Γ M ps M1) (e : M1[j]? = some (q, O)) (hs : ∀ vs H Q, Prom ps [(q, O)] P [(q, O')] vs H Q → sp vs H Q X) : Ev (tCall sp [] X tr) Γ M P (M1.set j (q, O')) := ev_call h (rc_prom1 e fun vs H Q z => by rw [List.append_nil]; exact hs vs H Q z)
/-! ### t[lo:hi] -/
def EvP (to : TO) (Γ : Gm) (M : Ms) (o : Option Int) : Prop := ∀ E F σ H, Pt E F M H → EnvOk F σ Γ → ∀ Q : Option Int → Hp → Prop, (∀ F' H', Ex F F' → Pt E F' M H' → Q o H') → to σ H Q
theorem ep_none : EvP tNoPart Γ M none := fun E F σ H a b Q k => k F H (Evl.Ex.refl _) a
theorem ep_some {i : Int} (h : Ev te Γ M (D K (.int i)) M) : EvP (tPart te) Γ M (some i) := fun E F σ H a b Q k => h E F σ H a b _ fun v F1 H1 e1 g1 p1 => by
  cases dp_int p1
  exact ⟨i, rfl, k _ _ e1 g1⟩
def cutI (l : List Int) (lo hi : Option Int) : List Int := (l.drop (HT.sIx l.length 0 lo)).take (HT.sIx l.length l.length hi - HT.sIx l.length 0 lo)
theorem ev_slT {l : List Int} {lo hi : Option Int} {tl th : TO} (h : Ev te Γ M (D K (dT l)) M1) (h1 : EvP tl Γ M1 lo) (h2 : EvP th Γ M1 hi) : Ev (tSl (rSlA K) te tl th) Γ M (D K (dT (cutI l lo hi))) M1 := fun E F σ H a b Q k =>
  h E F σ H a b _ fun v F1 H1 e1 g1 p1 => h1 E F1 σ H1 g1 (b.mono e1) _ fun F2 H2 e2 g2 => h2 E F2 σ H2 g2 (b.mono (e1.trans e2)) _ fun F3 H3 e3 g3 => by
    have e23 := e2.trans e3
    obtain ⟨p, vs, rfl, s, qq⟩ := le_dT _ _ ((D K (dT l)).mono e23 p1)
    have es := ints_map qq
    subst es
    have hl : (l.map V.int).length = l.length := List.length_map _
    refine ⟨p, _, rfl, Evl.ex_t g3.ex s, fun hw => ?_, fun hw r hr => ?_⟩
    · rw [hl] at hw
      have : cutI l lo hi = l := by unfold cutI; rw [hw.1, hw.2]; simp
      rw [this] at k
      exact k _ _ _ (e1.trans e23) g3 (dT_le _ _ ⟨p, _, rfl, s, map_ints _⟩)
    · have ex := Evl.Ex.new (o := .tup (cutV (l.map V.int) lo hi)) (Evl.fresh_back g3.ex hr)
      refine k _ _ _ ((e1.trans e23).trans ex) (g3.laid hr) (dT_le _ _ ⟨r, (cutI l lo hi).map V.int, rfl, ?_, map_ints _⟩)
      have : cutV (l.map V.int) lo hi = (cutI l lo hi).map V.int := by
        unfold cutV cutI
        rw [hl, List.map_take, List.map_drop]
      rw [this]
      exact SqT.of upd_same
theorem cut_take {l : List Int} {a : Nat} : cutI l none (some (a : Int)) = l.take a := by
  unfold cutI
  rw [HT.sIx_none, HT.sIx_nat]
  simp
theorem cut_drop {l : List Int} {a : Nat} : cutI l (some (a : Int)) none = l.drop a := by
  unfold cutI
  rw [HT.sIx_none, HT.sIx_nat]
  by_cases h : a ≤ l.length
  · rw [Nat.min_eq_left h]
    apply List.take_of_length_le
    rw [List.length_drop]; omega
  · rw [List.drop_of_length_le (by omega : l.length ≤ min a l.length), List.drop_of_length_le (by omega : l.length ≤ a)]; simp
/-! ### x is None -/
abbrev rIs0 : R2 := fun x y H Q => y = .non ∧ Q (.bl (decide (x = .non))) H
abbrev rNot0 : R2 := fun x y H Q => y = .non ∧ Q (.bl (!decide (x = .non))) H
theorem rv_isN1 : RV rIs0 (D K .none) (D K .none) M (D K (.bool true)) M := rv_val (z := .bl true) (fun _ => .bl _) fun F H x y p1 p2 _ Q q => by
  cases dp_non p1; cases dp_non p2
  exact ⟨rfl, q⟩
theorem rv_isN0 {ds : List PyData} : RV rIs0 (D K (.list ds)) (D K .none) M (D K (.bool false)) M := rv_val (z := .bl false) (fun _ => .bl _) fun F H x y p1 p2 _ Q q => by
  obtain ⟨a, xs, rfl, _, _⟩ := dp_lst p1
  cases dp_non p2
  exact ⟨rfl, q⟩
theorem rv_notN1 : RV rNot0 (D K .none) (D K .none) M (D K (.bool false)) M := rv_val (z := .bl false) (fun _ => .bl _) fun F H x y p1 p2 _ Q q => by
  cases dp_non p1; cases dp_non p2
  exact ⟨rfl, q⟩
theorem rv_notN0 {ds : List PyData} : RV rNot0 (D K (.list ds)) (D K .none) M (D K (.bool true)) M := rv_val (z := .bl true) (fun _ => .bl _) fun F H x y p1 p2 _ Q q => by
  obtain ⟨a, xs, rfl, _, _⟩ := dp_lst p1
  cases dp_non p2
  exact ⟨rfl, q⟩
end
end Hq
namespace Hq
open PySem L2
section
variable {K : PySem.W.Frag} {E : Ent} {M M1 M2 : Ms} {Γ : Gm} {P : MP} {O : MO} {q : Addr} {j : Nat} {te ta tb ta2 tb2 tl : TE} {tr : TA} {D1 : Ends} {tz : TS} {t u : TT}
theorem units65 {k : Nat} {A : Around} (r : Room k A) : A.units + 65 < cLine := by have := r.un; omega
/-! ### l.index(x), nested data -/
theorem c_indexD {Y : Cx} (e : Y.K = K) (hu : Y.A.units + 65 < cLine) : MtR Y "list.index" (rIndexD K) := e ▸ mt_indexD hu
theorem c_bm {Y : Cx} {o e : PySem.Expr} {es : List PySem.Expr} {to : TE} {t : TA} {name : Str} {apos cpos : Pos} {T id : String} {r : V → List V → Hp → VK → Prop} (eK : Y.K = K) (pa : PlainAttrs T) (slot : Slot T name id) (hty : typeOf (.builtin id) = pure (.type "method_descriptor")) (hm : MtR Y id r) (ho : PE Y o to) (ha : PA Y (e :: es) t)
    (hbase : attributeBase o name Y.env (eval o Y.env) = eval o Y.env := by rfl)
    (hf : ((backTo cpos (starEach (e :: es) Y.env)).all (fun x => !x.1) && (backToKw cpos (keywordEach [] Y.env)).all (fun x => x.1.isSome) && decide ((e :: es).length + ([] : List Keyword).length + (if ([] : List Keyword).isEmpty then 0 else 1) < 30)) = true := by rfl)
    (hline : (apos.endLine == cpos.line) = true := by rfl) (hs : starEach (e :: es) Y.env = (false, eval e Y.env) :: starEach es Y.env := by rfl) (hp : (backTo cpos (starEach es Y.env)).any (·.1) = false := by rfl) :
    PE Y (.Call (.Attribute o name apos) (e :: es) [] cpos) (tBM K T r to t) := by
  subst eK
  exact pe_bm pa slot hty hm ho ha hbase hf hline hs hp
theorem Enc.all_shaped {α : Type} [DecidableEq α] {f : α → PyData} {n : Nat} (e : Enc f n) (h : n + 1 ≤ 64) (l : List α) : SeqAt.shaped (.list (l.map f)) = true := (enc_list e).shaped h l
theorem ev_indexD {α : Type} [DecidableEq α] [BEq α] [LawfulBEq α] {f : α → PyData} {n : Nat} (en : Enc f n) (hn : n + 1 ≤ 64) {l : List α} {x : α} (ho : Ev ta Γ M (D K (.list (l.map f))) M) (h : Ev te Γ M (D K (f x)) M) (hx : x ∈ l) :
    Ev (tBM K "list" (rIndexD K) ta (tCons te tNil)) Γ M (D K (.int ((l.idxOf x : Nat) : Int))) M := fun E F σ H a b Q kk => ho E F σ H a b _ fun v F1 H1 e1 g1 p1 => by
  obtain ⟨p, ws, rfl, s, dp⟩ := dp_lst p1
  refine ⟨.inl ⟨rfl, ws, Evl.ex_l g1.ex s⟩, ?_⟩
  refine h E F1 σ H1 g1 (b.mono e1) _ fun w F2 H2 e2 g2 p2 => ?_
  have hl := List.idxOf_lt_length_of_mem hx
  refine ⟨p, w, f x, l.map f, l.idxOf x, f x, rfl, rfl, Dp.mono g2.ex ((D K (.list (l.map f))).mono e2 p1), Dp.mono g2.ex p2, en.all_shaped hn l, en.shaped (by omega) x, ?_, ?_, ?_, kk _ _ _ (e1.trans e2) g2 (.int _)⟩
  · rw [List.getElem?_map, List.getElem?_eq_getElem hl, List.getElem_idxOf hl]; rfl
  · rw [en.eq]; simp
  · intro m z hm hz
    rw [List.getElem?_map] at hz
    obtain ⟨y, hy, rfl⟩ := Option.map_eq_some_iff.mp hz
    rw [en.eq, decide_eq_false_iff_not]
    rintro rfl
    have hm2 : m < l.length := by omega
    have : l.idxOf y ≤ m := by
      rw [List.getElem?_eq_getElem hm2] at hy
      have hy := Option.some.inj hy
      apply Nat.le_of_not_lt
      intro hlt
      have := List.not_of_lt_findIdx hlt
      rw [hy] at this
      simp at this
    omega
/-! ### max of two, int of a truth value -/
theorem rc_max2 {a b : Int} : RC (fun xs H Q => ∃ i j, xs = [.int i, .int j] ∧ Q (.int (if j > i then j else i)) H) [D K (.int a), D K (.int b)] M (D K (.int (if b > a then b else a))) M := fun E F H vs g h Q k => by
  obtain ⟨x, y, rfl, h1, h2⟩ := ps2 h
  cases dp_int h1; cases dp_int h2
  exact ⟨a, b, rfl, k _ F H (Evl.Ex.refl _) g (.int _)⟩
theorem rc_intB {b : Bool} : RC rInt [D K (.bool b)] M (D K (.int (if b then 1 else 0))) M := fun E F H vs g h Q k => by
  obtain ⟨x, rfl, h1⟩ := ps1 h
  cases dp_bl h1
  exact .inr ⟨b, rfl, k _ F H (Evl.Ex.refl _) g (.int _)⟩
theorem et_andL {a : Bool} (h1 : EvT t Γ M (· = a) M1) (h2 : a = true → EvT u Γ M1 (fun _ => True) M1) : EvT (tAnd t u) Γ M (fun z => z = true → a = true) M1 := fun E F σ H x c Q k => h1 E F σ H x c _ fun z F1 H1 e1 g1 hz => by
  subst hz
  cases z with
  | true => exact h2 rfl E F1 σ H1 g1 (c.mono e1) _ fun z F2 H2 e2 g2 hz => k z F2 H2 (e1.trans e2) g2 fun _ => rfl
  | false => exact k false F1 H1 e1 g1 fun h => h
theorem ev_cbX1 {α : Type} {φ : α → Prop} {R : α → MP} {rc : List V → Hp → VK → Prop} (h : Ev te Γ M (PEx fun x => PAn (φ x) (R x)) M1) (hr : ∀ x, φ x → RC rc [R x] M1 P M2) : Ev (tCB rc (tCons te tNil)) Γ M P M2 := ev_cbX h fun x => RC.an1 fun hx => hr x hx
end
end Hq
namespace Hq
open PySem L2
theorem units1 {k : Nat} {A : Around} (r : Room k A) : A.units + 1 < cLine := by have := r.un; omega
/-! ### {t: e} with a tuple as key -/
def tDispT (tk tv : TE) : TE := fun σ H Q => ∀ p, H p = none → tk σ (upd H p (.dT [])) fun x H1 => tv σ H1 fun y H2 => ∃ (b : Addr) (ks : List Key), x = .ref b ∧ H2 p = some (.dT []) ∧ H2 b = some (.tup (ks.map kV)) ∧ Q (.ref p) (upd H2 p (.dT [(ks, y)]))
theorem pe_disp1T {X : Cx} {pos : Pos} {k v : PySem.Expr} {tk tv : TE} (hu : X.A.units + 64 < cLine) (hk : PE X k tk) (hv : PE X v tv) : PE X (.Dict [some k] [v] pos) (tDispT tk tv) := by
  refine ⟨fun pn st sg H Q I q => ?_⟩
  have hn := I.hok.fresh (Nat.le_refl st.heap.objs.size)
  have I1 := I.laid (a := st.heap.objs.size) (o := .dT []) (h' := st.heap.push { cls := .type "dict", data := .dict #[] }) (t' := st.toks) (fun _ _ z => Heap.get?_push_of_some _ z) (Nat.le_refl _) (dt_empty st.heap I.big)
  refine wpAny_Dict_any (keys := [some k]) (values := [v]) rfl rfl (by simp) (by simp) (pairTrees_cons_walk (thn (hk.run pn _ sg _ _ I1 (q _ hn)) fun u s1 ⟨x, H1, J1, rx, q1⟩ => thn (hv.run pn s1 sg H1 _ J1 q1) fun w2 s2 ⟨y, H2, I2, ry, q2⟩ => pairTrees_nil_walk ?_))
  obtain ⟨b, ks, rfl, e, eb, qq⟩ := q2
  cases (show u = Value.ref b from rx)
  obtain ⟨z, hd, xs, rel, dd⟩ := dt_of I2.hok e
  cases rel
  unfold storeAll
  refine wpAny_storeAllH (d := st.heap.objs.size) (knd := tupleKind (mixKind X.prog X.w)) (show (tupleKind (mixKind X.prog X.w)).room X.A from (show X.A.units < cLine by omega)) [(.ref b, w2)] [(ks, b, w2)] [] s2 _ ⟨rfl, rfl, key_of I2.hok eb, trivial⟩ dd (by show 1 ≤ sizeLine; rw [sizeLine_eq]; omega) fun h' tk dd' hs => ?_
  obtain ⟨o, es, ep, hq, h2, h3, h4, _, h5⟩ := dd'
  refine ⟨.ref _, upd H2 st.heap.objs.size (.dT [(ks, y)]), d_write I2 (by rw [e]; exact True.intro) hs ⟨o, hq⟩ ⟨by show 1 ≤ sizeLine; rw [sizeLine_eq]; omega, hd, [(ks, b, w2)], ?_, o, es, ep, hq, h2, h3, h4, h5⟩, rfl, qq⟩
  exact .cons ⟨rfl, by rw [upd_ne (ne_of eb e (fun z => nomatch z))]; exact eb, ry⟩ .nil
/-! ### tuples made here; a dict with them as keys -/
/-- a tuple of ints that stands in the heap itself -/
def NT (l : List Int) : MP := ⟨fun F v => ∃ b, v = .ref b ∧ F b = some (.tup (l.map V.int)), fun e ⟨b, h1, h2⟩ => ⟨b, h1, e _ _ h2⟩⟩
section
variable {K : PySem.W.Frag} {E : Ent} {F H : Hp} {M M1 M2 : Ms} {Γ : Gm} {P : MP} {O : MO} {q : Addr} {j : Nat} {te ta tb tk tv td : TE} {tr : TA} {D1 : Ends} {tz : TS} {t u : TT} {l a b : List Int} {L : List (List Int)}
theorem nt_T : (NT l).le (PTu K (l.map fun n => D K (.int n))) := fun F v ⟨p, h1, h2⟩ => ⟨p, l.map V.int, h1, SqT.of h2, map_ints l⟩
theorem nt_D : (NT l).le (D K (dT l)) := MP.le_trans nt_T dT_le
theorem kv_ints : (l.map Sum.inl : List Key).map kV = l.map V.int := by rw [List.map_map]; rfl
/-- the dict whose keys are these tuples, in this order -/
def MDct (L : List (List Int)) : MO := ⟨fun _ o => ∃ kvs : List (List Key × V), o = .dT kvs ∧ kvs.map (·.1) = L.map fun l => l.map Sum.inl, fun _ h => h, fun ⟨kvs, h, _⟩ xs z => by rw [h] at z; cases z⟩
theorem inl_inj {a b : List Int} : (a.map Sum.inl : List Key) = b.map Sum.inl ↔ a = b :=
  ⟨fun h => (List.map_inj_right (fun _ _ e => Sum.inl.inj e)).mp h, fun h => by rw [h]⟩
theorem dct_has {kvs : List (List Key × V)} (h : kvs.map (·.1) = L.map fun l => l.map Sum.inl) : (valV kvs (l.map Sum.inl)).isSome = decide (l ∈ L) := by
  rw [← valV_any, Bool.eq_iff_iff, List.any_eq_true, decide_eq_true_iff]
  constructor
  · rintro ⟨p, hp, e⟩
    have e : p.1 = l.map Sum.inl := by simpa using e
    have : p.1 ∈ L.map fun l => (l.map Sum.inl : List Key) := by rw [← h]; exact List.mem_map.mpr ⟨p, hp, rfl⟩
    obtain ⟨m, hm, e2⟩ := List.mem_map.mp this
    rw [e] at e2
    rw [← inl_inj.mp e2]; exact hm
  · intro hl
    have : (l.map Sum.inl : List Key) ∈ kvs.map (·.1) := by rw [h]; exact List.mem_map.mpr ⟨l, hl, rfl⟩
    obtain ⟨p, hp, e⟩ := List.mem_map.mp this
    exact ⟨p, hp, by simpa using e⟩
theorem evn_dispT (hk : ∀ M, Ev tk Γ M (NT l) M) (hv : ∀ M, Ev tv Γ M P M) : EvN (tDispT tk tv) Γ M (MDct [l]) M := fun E F σ H a b Q k p hp => by
  have g0 := a.new (q := p) (O := MDct []) (o := .dT []) hp ⟨[], rfl, rfl⟩
  refine hk _ E F σ _ g0 b _ fun x F1 H1 e1 g1 ⟨bb, ex, hb⟩ => hv _ E F1 σ H1 g1 (b.mono e1) _ fun y F2 H2 e2 g2 p2 => ?_
  subst ex
  obtain ⟨fq, o, ho, kvs, rfl, hkv⟩ := g2.at (j := 0) rfl
  have : kvs = [] := List.map_eq_nil_iff.mp hkv
  subst this
  refine ⟨bb, l.map Sum.inl, rfl, ho, by rw [kv_ints]; exact g2.ex _ _ (e2 _ _ hb), ?_⟩
  exact k p F2 _ (a.fresh hp) (e1.trans e2) (g2.mut (j := 0) rfl ⟨[(l.map Sum.inl, y)], rfl, rfl⟩)
theorem ev_dnotin (hk : Ev tk Γ M (NT l) M1) (hd : Ev td Γ M1 (Own q) M2) (e : M2[j]? = some (q, MDct L)) : Ev (tDNotIn tk td) Γ M (D K (.bool (!decide (l ∈ L)))) M2 := fun E F σ H a b Q k => by
  refine hk E F σ H a b _ fun x F1 H1 e1 g1 ⟨bb, ex, hb⟩ => hd E F1 σ H1 g1 (b.mono e1) _ fun y F2 H2 e2 g2 p2 => ?_
  subst ex
  have p2 : y = .ref q := p2
  subst p2
  obtain ⟨fq, o, ho, kvs, rfl, hkv⟩ := g2.at e
  refine ⟨q, _, rfl, DGet.t ho (by rw [kv_ints]; exact g2.ex _ _ (e2 _ _ hb)), ?_⟩
  rw [dct_has hkv]
  exact k _ F2 H2 (e1.trans e2) g2 (.bl _)
theorem go_dput (hv : Ev tv Γ M P M1) (hd : Ev td Γ M1 (Own q) M1) (hk : Ev tk Γ M1 (NT l) M1) (e : M1[j]? = some (q, MDct L)) (hl : l ∉ L) (hz : L.length < 100000) (k : Nx E Γ (M1.set j (q, MDct (L ++ [l]))) D1.nx) : Nx E Γ M (sDPut td tk tv D1) := fun σ H ⟨F, a, b⟩ => by
  refine hv E F σ H a b _ fun y F1 H1 e1 g1 p1 => hd E F1 σ H1 g1 (b.mono e1) _ fun x F2 H2 e2 g2 p2 => hk E F2 σ H2 g2 (b.mono (e1.trans e2)) _ fun z F3 H3 e3 g3 ⟨bb, ez, hb⟩ => ?_
  subst ez
  have p2 : x = .ref q := p2
  subst p2
  obtain ⟨fq, o, ho, kvs, rfl, hkv⟩ := g3.at e
  have hlen : kvs.length = L.length := by have := congrArg List.length hkv; simpa using this
  refine ⟨q, _, rfl, DPut.t ho (k := l.map Sum.inl) (by rw [kv_ints]; exact g3.ex _ _ hb) (sz_lt (by omega)), ?_⟩
  have hn : valV kvs (l.map Sum.inl) = none := by
    have := dct_has (l := l) hkv
    rw [decide_eq_false hl] at this
    cases z : valV kvs (l.map Sum.inl) with
    | none => rfl
    | some _ => rw [z] at this; cases this
  refine k _ _ ⟨F3, g3.mut e ⟨_, rfl, ?_⟩, b.mono ((e1.trans e2).trans e3)⟩
  rw [putK_new _ hn, List.map_append, List.map_append, hkv]; rfl
theorem q_dput (hv : Ev tv Γ M P M1) (hd : Ev td Γ M1 (Own q) M1) (hk : Ev tk Γ M1 (NT l) M1) (e : M1[j]? = some (q, MDct L)) (hl : l ∉ L) (hz : L.length < 100000) (k : Nx E Γ (M1.set j (q, MDct (L ++ [l]))) (tz D1)) : Nx E Γ M (tSeq (sDPut td tk tv) tz D1) :=
  go_dput (D1 := { D1 with nx := tz D1 }) hv hd hk e hl hz k
/-! made here: tuple(t), (x, y), t[a:b], t + u -/
theorem rc_tupleNT : RC (rTuple K) [NT l] M (NT l) M := fun E F H vs g h Q k => by
  obtain ⟨v, rfl, b, e, hb⟩ := ps1 h
  exact ⟨b, _, e ▸ rfl, .inr ⟨SqT.of (g.ex _ _ hb), k _ F H (Evl.Ex.refl _) g ⟨b, rfl, hb⟩⟩⟩
theorem rc_tupleNO {l : List Int} (e : M[j]? = some (q, MInts K l)) : RC (rTuple K) [Own q] M (NT l) M := fun E F H vs g h Q k => by
  obtain ⟨v, rfl, hv⟩ := ps1 h
  have hv : v = .ref q := hv
  subst hv
  obtain ⟨fq, o, ho, ws, rfl, s⟩ := g.at e
  have es := ints_map s
  subst es
  refine ⟨q, _, rfl, .inl ⟨SqL.of ho, fun p hp => ?_⟩⟩
  exact k _ _ _ (Evl.Ex.new (Evl.fresh_back g.ex hp)) (g.laid hp) ⟨p, rfl, upd_same⟩
theorem rc_tupleNL {l : List Int} : RC (rTuple K) [PLi K (l.map fun n => D K (.int n))] M (NT l) M := fun E F H vs g h Q k => by
  obtain ⟨v, rfl, b, ws, rfl, s, p⟩ := ps1 h
  have es := ints_map p
  subst es
  refine ⟨b, _, rfl, .inl ⟨Evl.ex_l g.ex s, fun r hr => ?_⟩⟩
  exact k _ _ _ (Evl.Ex.new (Evl.fresh_back g.ex hr)) (g.laid hr) ⟨r, rfl, upd_same⟩
theorem ev_tupNOf {φ : List Int → Prop} (h : EvN te Γ M (MX fun ns : List Int => MA (φ ns) (MInts K ns)) M1) : Ev (tCB (rTuple K) (tCons te tNil)) Γ M (PEx fun ns : List Int => PAn (φ ns) (NT ns)) M1 :=
  ev_cb (ea_cons ((ev_fr h).weak (MP.le_trans fr_X (PEx.le fun x => MP.le_trans fr_A (PAn.le fun _ => fr_L (K := K))))) ea_nil) (RC.ex1 fun ns => RC.an1 fun hφ => rc_tupleNL.weak (MP.le_trans (PAn.in hφ) (PEx.in (R := fun ns : List Int => PAn (φ ns) (NT ns)) ns)))
theorem ev_tupN2 {x y : Int} (h : EvA tr Γ M [D K (.int x), D K (.int y)] M1) : Ev (tTup tr) Γ M (NT [x, y]) M1 := fun E F σ H a b Q k =>
  h E F σ H a b _ fun vs F1 H1 e1 g1 p1 => by
    obtain ⟨v, w, rfl, h1, h2⟩ := ps2 p1
    cases dp_int h1; cases dp_int h2
    exact ⟨sz_of (by simp), fun p hp => k _ _ _ (e1.trans (Evl.Ex.new (Evl.fresh_back g1.ex hp))) (g1.laid hp) ⟨p, rfl, upd_same⟩⟩
theorem rv_catNT (h : a.length + b.length ≤ 100000) : RV (rCatA K) (NT a) (NT b) M (NT (a ++ b)) M := fun E F H x y g p1 p2 Q k => by
  obtain ⟨p, rfl, hp⟩ := p1
  obtain ⟨p', rfl, hp'⟩ := p2
  refine ⟨p, p', _, _, rfl, rfl, SqT.of (g.ex _ _ hp), SqT.of (g.ex _ _ hp'), sz_of (by simpa using h), fun e => ?_, fun _ e => ?_, fun _ _ r hr => ?_⟩
  · have : a = [] := by simpa using e
    subst this
    exact k _ F H (Evl.Ex.refl _) g ⟨p', rfl, hp'⟩
  · have : b = [] := by simpa using e
    subst this
    rw [List.append_nil] at k
    exact k _ F H (Evl.Ex.refl _) g ⟨p, rfl, hp⟩
  · refine k _ _ _ (Evl.Ex.new (Evl.fresh_back g.ex hr)) (g.laid hr) ⟨r, rfl, ?_⟩
    rw [List.map_append]
    exact upd_same
theorem ev_slNT {lo hi : Option Int} {tl th : TO} (h : Ev te Γ M (NT l) M1) (h1 : EvP tl Γ M1 lo) (h2 : EvP th Γ M1 hi) : Ev (tSl (rSlA K) te tl th) Γ M (NT (cutI l lo hi)) M1 := fun E F σ H a b Q k =>
  h E F σ H a b _ fun v F1 H1 e1 g1 p1 => h1 E F1 σ H1 g1 (b.mono e1) _ fun F2 H2 e2 g2 => h2 E F2 σ H2 g2 (b.mono (e1.trans e2)) _ fun F3 H3 e3 g3 => by
    have e23 := e2.trans e3
    obtain ⟨p, rfl, hp⟩ := (NT l).mono e23 p1
    have hl : (l.map V.int).length = l.length := List.length_map _
    refine ⟨p, _, rfl, SqT.of (g3.ex _ _ hp), fun hw => ?_, fun hw r hr => ?_⟩
    · rw [hl] at hw
      have : cutI l lo hi = l := by unfold cutI; rw [hw.1, hw.2]; simp
      rw [this] at k
      exact k _ _ _ (e1.trans e23) g3 ⟨p, rfl, hp⟩
    · refine k _ _ _ ((e1.trans e23).trans (Evl.Ex.new (Evl.fresh_back g3.ex hr))) (g3.laid hr) ⟨r, rfl, ?_⟩
      have : cutV (l.map V.int) lo hi = (cutI l lo hi).map V.int := by
        unfold cutV cutI
        rw [hl, List.map_take, List.map_drop]
      rw [this]
      exact upd_same
theorem ev_takeNT {n : Nat} {ti : TE} (h : Ev te Γ M (NT l) M1) (hi : Ev ti Γ M1 (D K (.int (n : Int))) M1) : Ev (tSl (rSlA K) te tNoPart (tPart ti)) Γ M (NT (l.take n)) M1 :=
  (ev_slNT h ep_none (ep_some hi)).is (by rw [cut_take])
theorem ev_dropNT {n : Nat} {ti : TE} (h : Ev te Γ M (NT l) M1) (hi : Ev ti Γ M1 (D K (.int (n : Int))) M1) : Ev (tSl (rSlA K) te (tPart ti) tNoPart) Γ M (NT (l.drop n)) M1 :=
  (ev_slNT h (ep_some hi) ep_none).is (by rw [cut_drop])
end
end Hq
namespace Hq
open PySem L2
/-! ### sorted(xs) of tuples of ints, none of them empty -/
open PySem.W in
theorem le_tups {β : Type} (x : β → List Int) : dataLe false (fun b => dT (x b)) = fun p q => decide (x p ≤ x q) := by
  funext p q
  show (!dataLt (.tuple ((x q).map .int)) (.tuple ((x p).map .int))) = _
  rw [dataLt_tuple]
  show (!rowLt ((x q).map .int) ((x p).map .int)) = _
  rw [dataLt_ints]
  rw [Bool.eq_iff_iff]
  simp [List.not_lt]
def rSortD (K : PySem.W.Frag) : List V → Hp → VK → Prop := fun vs H Q => ∃ (a : Addr) (xs : List V) (L : List (List Int)), vs = [.ref a] ∧ SqL K H a xs ∧ Paired (fun x l => Dp K H x (dT l)) xs L ∧ ((∀ l ∈ L, l ≠ []) ∨ L.length ≤ 1) ∧
  ∀ (B : List (V × List Int)) (p : Addr), B.Perm (xs.zip L) → (B.map (·.2)).Pairwise (· ≤ ·) → H p = none → Q (.ref p) (upd H p (.lst (B.map (·.1))))
theorem each_of {K : PySem.W.Frag} {H : Hp} : ∀ {xs : List V} {its : List Value} {L : List (List Int)}, Vals xs its → Paired (fun x l => Dp K H x (dT l)) xs L → PySem.W.EachIs (fun (v : Value) (b : V × List Int) => RelV b.1 v ∧ Dp K H b.1 (dT b.2)) its (xs.zip L)
  | _, _, _, .nil, .nil => .nil
  | _, _, _, .cons a t, .cons b u => .cons ⟨a, b⟩ (each_of t u)
theorem each_vals {K : PySem.W.Frag} {H : Hp} : ∀ {out : List Value} {B : List (V × List Int)}, PySem.W.EachIs (fun (v : Value) (b : V × List Int) => RelV b.1 v ∧ Dp K H b.1 (dT b.2)) out B → Vals (B.map (·.1)) out ∧ Paired (fun x l => Dp K H x (dT l)) (B.map (·.1)) (B.map (·.2))
  | _, _, .nil => ⟨.nil, .nil⟩
  | _, _, .cons a t => ⟨.cons a.1 (each_vals t).1, .cons a.2 (each_vals t).2⟩
theorem perm_short {α : Type} : ∀ {l m : List α}, l.length ≤ 1 → m.Perm l → m = l
  | [], _, _, p => p.eq_nil
  | [x], _, _, p => List.perm_singleton.mp p
  | _ :: _ :: _, _, h, _ => absurd h (by simp)
theorem pw_short {α : Type} {r : α → α → Prop} : ∀ {l : List α}, l.length ≤ 1 → l.Pairwise r
  | [], _ => .nil
  | [x], _ => List.pairwise_singleton _ _
  | _ :: _ :: _, h => absurd h (by simp)
theorem cr_sortD {X : Cx} (hu : X.A.units + 64 < cLine) : CallR X (.builtin "sorted") (rSortD X.K) := by
  intro pn st sg H vs us Q I r h
  obtain ⟨a, xs, L, rfl, hs, hp, hne, q⟩ := h
  obtain ⟨its, rv, hl, hz⟩ := I.list hs
  rw [Vals.ref1 r]
  have hlen : xs.length = L.length := paired_len hp
  have e := each_of rv hp
  rcases hne with hne | hne
  case inr =>
    refine SrtO.sorted_ord SrtO.swo_int hl.isList (by rw [← rv.length]; exact hz) (fun h2 => absurd h2 (by have := rv.length; omega)) fun out h1 h2 => ?_
    have hpm : out.Perm its := h2.perm
    have ho : out = its := perm_short (by have := rv.length; omega) hpm
    subst ho
    obtain ⟨ep, he⟩ := PyProof.Rows.sortedAll_at st.heap out out.toArray
    have hx : (xs.zip L).map (·.1) = xs := List.map_fst_zip (by omega)
    have hy : (xs.zip L).map (·.2) = L := List.map_snd_zip (by omega)
    refine ⟨.ref _, upd H (st.heap.objs.size + 1) (.lst xs), I.laid (t' := st.toks) (fun _ _ => PyProof.Rows.sortedAll_old) (Nat.le_succ _) ⟨hz, out, ep, rv, he⟩, rfl, ?_⟩
    have := q (xs.zip L) _ (.refl _) (by rw [hy]; exact pw_short hne) (I.hok.fresh (Nat.le_succ _))
    rw [hx] at this
    exact this
  refine PySem.W.sorted_data (β := V × List Int) (enc := fun b => dT b.2) hl.isList e (e.mono fun v b ⟨h1, h2⟩ => Dp.reads I _ _ _ h2 h1) (PySem.W.AllAlike.of fun b b' => ?_) (.inl fun d hd => ?_) ?_ (fun b _ => ?_) fun out ho eo => ?_
  · show PySem.W.alike (.tuple _) (.tuple _) = true
    simp only [PySem.W.alike]
    exact PySem.W.alike_ints _ _
  · obtain ⟨b, hb, rfl⟩ := List.mem_map.mp hd
    have hm : b.2 ∈ L := (List.of_mem_zip hb).2
    cases z : b.2 with
    | nil => exact absurd z (hne _ hm)
    | cons i t => exact ⟨.int i, t.map .int, rfl⟩
  · rw [List.length_zip, hlen, Nat.min_self, ← hlen]; exact hz
  · have := enc_dT.deep b.2
    omega
  · rw [le_tups (fun b : V × List Int => b.2)] at eo
    obtain ⟨v1, v2⟩ := each_vals eo
    have pm : ((xs.zip L).mergeSort fun p q => decide (p.2 ≤ q.2)).Perm (xs.zip L) := List.mergeSort_perm _ _
    have pw : ((xs.zip L).mergeSort fun p q => decide (p.2 ≤ q.2)).Pairwise fun p q => decide (p.2 ≤ q.2) = true := List.pairwise_mergeSort (fun x y z h1 h2 => by
      simp only [decide_eq_true_eq] at *
      exact List.le_trans h1 h2) (fun x y => by
      simp only [Bool.or_eq_true, decide_eq_true_eq]
      exact List.le_total _ _) _
    obtain ⟨ep, he⟩ := PyProof.Rows.sortedAll_at st.heap its out.toArray
    have hl2 : (((xs.zip L).mergeSort fun p q => decide (p.2 ≤ q.2)).map (·.1)).length ≤ sizeLine := by
      rw [List.length_map, pm.length_eq, List.length_zip, hlen, Nat.min_self, ← hlen]; exact hz
    refine ⟨.ref _, upd H (st.heap.objs.size + 1) (.lst (((xs.zip L).mergeSort fun p q => decide (p.2 ≤ q.2)).map (·.1))), I.laid (t' := st.toks) (fun _ _ => PyProof.Rows.sortedAll_old) (Nat.le_succ _) ⟨hl2, out, ep, v1, he⟩, rfl, ?_⟩
    refine q _ _ pm ?_ (I.hok.fresh (Nat.le_succ _))
    rw [List.pairwise_map]
    exact pw.imp fun h => by simpa using h
theorem c_sortD {K : PySem.W.Frag} {Y : Cx} (e : Y.K = K) (hu : Y.A.units + 64 < cLine) : CallR Y (.builtin "sorted") (rSortD K) := e ▸ cr_sortD hu
theorem nts_dp {K : PySem.W.Frag} {F H : Hp} (x : Ex F H) : ∀ {ws : List V} {L : List (List Int)}, Ps F ws (L.map NT) → Paired (fun x l => Dp K H x (dT l)) ws L
  | [], [], _ => .nil
  | _ :: _, [], h => by cases h
  | [], _ :: _, h => by cases h
  | w :: ws, l :: L, h => by
    cases h with
    | cons a t => exact .cons (Dp.mono x (nt_D (K := K) _ _ a)) (nts_dp x t)
theorem nts_zip {F : Hp} : ∀ {ws : List V} {L : List (List Int)}, Ps F ws (L.map NT) → ∀ b ∈ ws.zip L, (NT b.2).p F b.1
  | [], _, _, b, hb => by cases hb
  | _ :: _, [], _, b, hb => by cases hb
  | w :: ws, l :: L, h, b, hb => by
    cases h with
    | cons a t =>
      rcases List.mem_cons.mp hb with rfl | hb
      · exact a
      · exact nts_zip t b hb
theorem nts_of {F : Hp} : ∀ {B : List (V × List Int)}, (∀ b ∈ B, (NT b.2).p F b.1) → Ps F (B.map (·.1)) ((B.map (·.2)).map NT)
  | [], _ => .nil
  | b :: B, h => .cons (h b List.mem_cons_self) (nts_of fun c hc => h c (List.mem_cons_of_mem _ hc))
theorem rcn_sortD {K : PySem.W.Frag} {M : Ms} {q : Addr} {j : Nat} {L : List (List Int)} (e : M[j]? = some (q, ML (L.map NT))) (hne : (∀ l ∈ L, l ≠ []) ∨ L.length ≤ 1) : RCN (rSortD K) [Own q] M (MX fun L' : List (List Int) => MA (L'.Perm L ∧ L'.Pairwise (· ≤ ·)) (ML (L'.map NT))) M := fun E F H vs a h Q k => by
  obtain ⟨v, rfl, hv⟩ := ps1 h
  have hv : v = .ref q := hv
  subst hv
  obtain ⟨_, o, ho, ws, rfl, s⟩ := a.at e
  have hl : ws.length = L.length := by have := paired_len s; rwa [List.length_map] at this
  refine ⟨q, ws, L, rfl, SqL.of ho, nts_dp a.ex s, hne, fun B p hp hs hf => ?_⟩
  have hz := nts_zip s
  refine k p F _ (a.fresh hf) (Evl.Ex.refl _) (a.new hf ⟨B.map (·.2), ⟨?_, hs⟩, _, rfl, nts_of fun b hb => hz b (hp.subset hb)⟩)
  have := hp.map (·.2)
  rwa [List.map_snd_zip (by omega)] at this
theorem dps_ps {K : PySem.W.Frag} {F : Hp} : ∀ {ws : List V} {L : List (List Int)}, Paired (fun x l => Dp K F x (dT l)) ws L → Ps F ws (L.map fun l => D K (dT l))
  | _, _, .nil => .nil
  | _, _, .cons a t => .cons a (dps_ps t)
end Hq
namespace Hq
open PySem L2
theorem nts_list {K : PySem.W.Frag} {L : List (List Int)} : (PLi K (L.map NT)).le (PLi K (L.map fun l => D K (dT l))) := fun F v ⟨p, vs, h1, h2, h3⟩ => ⟨p, vs, h1, h2, by
  have : ∀ {L : List (List Int)} {vs : List V}, Ps F vs (L.map NT) → Ps F vs (L.map fun l => D K (dT l)) := by
    intro L
    induction L with
    | nil => intro vs h; cases h; exact .nil
    | cons l L ih => intro vs h; cases h with | cons a t => exact .cons (nt_D (K := K) _ _ a) (ih t)
  exact this h3⟩
theorem rv_isB {K : PySem.W.Frag} {M : Ms} {a b : Bool} : RV rIsB (D K (.bool a)) (D K (.bool b)) M (D K (.bool (decide (a = b)))) M := rv_val (z := .bl _) (fun _ => .bl _) fun F H x y p1 p2 _ Q q => by
  cases dp_bl p1; cases dp_bl p2
  exact ⟨a, b, rfl, rfl, q⟩
end Hq
namespace Hq
open PySem L2
section
variable {K : PySem.W.Frag} {E : Ent} {F H : Hp} {M M1 M2 : Ms} {Γ : Gm} {P : MP} {O : MO} {q : Addr} {j : Nat} {te ta tb tk tv td : TE} {tr : TA} {D1 : Ends} {tz : TS} {t u : TT} {l a b : List Int} {L : List (List Int)} {ps : List MP}
/-- xs[i] = x, both drawn -/
theorem go_setLX {lo hi : Int} (h : Ev te Γ M (PIn K lo hi) M1) (ho : Ev ta Γ M1 (Own q) M1) (hb : Ev tb Γ M1 (PIn K 0 l.length) M2) (e : M2[j]? = some (q, MInts K l))
    (k : ∀ (i : Nat) (x : Int), i < l.length → lo ≤ x → x < hi → Nx E Γ (M2.set j (q, MInts K (l.set i x))) D1.nx) : Nx E Γ M (tAsg te (gSub ta tb rSetL) D1) := fun σ H ⟨F, a, b⟩ => h E F σ H a b _ fun w F0 H0 e0 g0 ⟨x, hx, p0⟩ => ho E F0 σ H0 g0 (b.mono e0) _ fun v F1 H1 e1 g1 p1 => by
  have p1 : v = .ref q := p1
  subst p1
  cases dp_int p0
  refine hb E F1 σ H1 g1 (b.mono (e0.trans e1)) _ fun z F2 H2 e2 g2 ⟨i, hi, p2⟩ => ?_
  cases dp_int p2
  obtain ⟨_, o, ho2, ws, rfl, s⟩ := g2.at e
  have es := ints_map s
  subst es
  obtain ⟨n, rfl⟩ := Int.eq_ofNat_of_zero_le hi.1
  have hn : n < l.length := by omega
  refine ⟨q, _, n, n, rfl, rfl, ho2, Evl.ixN_nat (by rw [List.length_map]; exact hn), ?_⟩
  exact k n x hn hx.1 hx.2 _ _ ⟨F2, g2.mut e ⟨_, rfl, by rw [← List.map_set]; exact map_ints _⟩, b.mono ((e0.trans e1).trans e2)⟩
/-- a slice of an own list of ints -/
theorem evn_slLO {lo hi : Option Int} {tl th : TO} (ho : Ev ta Γ M (Own q) M) (h1 : EvP tl Γ M lo) (h2 : EvP th Γ M hi) (e : M[j]? = some (q, MInts K l)) : EvN (tSl (rSlL K) ta tl th) Γ M (MInts K (cutI l lo hi)) M := fun E F σ H a b Q k =>
  ho E F σ H a b _ fun v F1 H1 e1 g1 p1 => h1 E F1 σ H1 g1 (b.mono e1) _ fun F2 H2 e2 g2 => h2 E F2 σ H2 g2 (b.mono (e1.trans e2)) _ fun F3 H3 e3 g3 => by
    have p1 : v = .ref q := p1
    subst p1
    obtain ⟨_, o, ho2, ws, rfl, s⟩ := g3.at e
    have es := ints_map s
    subst es
    refine ⟨q, _, rfl, SqL.of ho2, fun p hp => ?_⟩
    refine k p F3 _ (g3.fresh hp) ((e1.trans e2).trans e3) (g3.new hp ⟨(cutI l lo hi).map V.int, ?_, map_ints _⟩)
    unfold cutV cutI
    rw [List.length_map, List.map_take, List.map_drop]
/-- in, over a list of tuples -/
theorem c_inD {Y : Cx} (e : Y.K = K) (hu : Y.A.units + 65 < cLine) : OpR Y (compareOp .In) (rInD K) := e ▸ op_inD hu
theorem c_notInD {Y : Cx} (e : Y.K = K) (hu : Y.A.units + 65 < cLine) : OpR Y (compareOp .NotIn) (rNotInD K) := e ▸ op_notInD hu
theorem any_enc {α : Type} [DecidableEq α] {f : α → PyData} {n : Nat} (en : Enc f n) (x : α) : ∀ l : List α, ((l.map f).any fun z => PyData.eqv z (f x)) = decide (x ∈ l)
  | [] => rfl
  | y :: l => by
    rw [List.map_cons, List.any_cons, en.eq, any_enc en x l]
    by_cases h1 : y = x
    · subst h1; simp
    · have h2 : ¬ x = y := fun e => h1 e.symm
      by_cases h3 : x ∈ l <;> simp [h1, h2, h3]
theorem rv_inD {α : Type} [DecidableEq α] {f : α → PyData} {n : Nat} (en : Enc f n) (hn : n + 1 ≤ 64) {x : α} {l : List α} : RV (rInD K) (D K (f x)) (D K (.list (l.map f))) M (D K (.bool (decide (x ∈ l)))) M := rv_val (z := .bl _) (fun _ => .bl _) fun F H y z p1 p2 ex Q k =>
  ⟨_, _, Dp.mono ex p1, Dp.mono ex p2, en.shaped (by omega) x, (enc_list en).shaped hn l, by rw [any_enc en]; exact k⟩
theorem rv_notInD {α : Type} [DecidableEq α] {f : α → PyData} {n : Nat} (en : Enc f n) (hn : n + 1 ≤ 64) {x : α} {l : List α} : RV (rNotInD K) (D K (f x)) (D K (.list (l.map f))) M (D K (.bool (!decide (x ∈ l)))) M := rv_val (z := .bl _) (fun _ => .bl _) fun F H y z p1 p2 ex Q k =>
  ⟨_, _, Dp.mono ex p1, Dp.mono ex p2, en.shaped (by omega) x, (enc_list en).shaped hn l, by rw [any_enc en]; exact k⟩
theorem rv_inB {α : Type} [DecidableEq α] {f : α → PyData} {n : Nat} {b : Bool} (en : Enc f n) (hn : n + 1 ≤ 64) {x : α} {l : List α} (hb : b = true ↔ x ∈ l) : RV (rInD K) (D K (f x)) (D K (.list (l.map f))) M (D K (.bool b)) M :=
  (rv_inD en hn).weak (fun F v h => by
    have : decide (x ∈ l) = b := by rw [Bool.eq_iff_iff, decide_eq_true_iff, hb]
    rwa [this] at h)
theorem rv_notInB {α : Type} [DecidableEq α] {f : α → PyData} {n : Nat} {b : Bool} (en : Enc f n) (hn : n + 1 ≤ 64) {x : α} {l : List α} (hb : b = true ↔ x ∉ l) : RV (rNotInD K) (D K (f x)) (D K (.list (l.map f))) M (D K (.bool b)) M :=
  (rv_notInD en hn).weak (fun F v h => by
    have : (!decide (x ∈ l)) = b := by rw [Bool.eq_iff_iff, hb]; simp
    rwa [this] at h)
theorem ev_lenI (h : Ev te Γ M (Own q) M1) (e : M1[j]? = some (q, MInts K l)) : Ev (tCB (rLn K) (tCons te tNil)) Γ M (D K (.int l.length)) M1 := by
  have := ev_cb (ea_cons h ea_nil) (rc_lenO (K := K) e)
  rw [List.length_map] at this
  exact this
theorem evn_cbX1 {α : Type} {φ : α → Prop} {R : α → MP} {rc : List V → Hp → VK → Prop} (h : Ev te Γ M (PEx fun x => PAn (φ x) (R x)) M1) (hr : ∀ x, φ x → RCN rc [R x] M1 O M2) : EvN (tCB rc (tCons te tNil)) Γ M O M2 := evn_cb (ea_cons h ea_nil) (RCN.ex1 fun x => RCN.an1 fun hx => hr x hx)
theorem mxa_in {φ : List Int → Prop} (h : φ l) : ∀ F o, (MInts K l).p F o → (MX fun l : List Int => MA (φ l) (MInts K l)).p F o := fun F o p => ⟨l, h, p⟩
theorem MP.of_eq {P P' : MP} (h : P = P') : P.le P' := fun _ _ p => h ▸ p
end
end Hq
namespace Hq
open PySem PySem.Spec PyProof.Rows L2
/-! ### enumerate(t), a tuple -/
set_option maxHeartbeats 1000000 in
theorem enumNew1 {v : Value} {o : Obj} {Hh : Heap → Prop} (B : Begins v o Hh) :
    Meets (Builtin.«enumerate.__new__» ⟨[.type "enumerate", v], []⟩) (fun _ R s => Hh s.heap ∧
      R (.ok (.ret (.ref (s.heap.push o).objs.size))) { s with heap := (s.heap.push o).push { cls := .type "enumerate", data := .fields #[.none, .bool false, .ref s.heap.objs.size, rawInt 0, .none, .none] } }) :=
  .of_wp fun prog w A R s hh => by
    obtain ⟨hp, g, d, tk, os⟩ := s
    obtain ⟨h1, hr⟩ := hh
    have sb := sub_enumerate
    have q1 : ∀ {A' : Around} {E : Value → Shared → Prop} {Q : Value → Shared → Prop}, Q (.ref hp.objs.size) ⟨hp.push o, g, d, tk, os⟩ → wpAny (model prog w) A' (pyIter v) Q E ⟨hp, g, d, tk, os⟩ :=
      fun q => B.iter prog w _ _ ⟨hp, g, d, tk, os⟩ _ h1 q
    wp_walk using q1
    refine wpAny_stack_any fun st => wpAny_pure ?_
    split
    · rename_i c _ _ _ _ _
      cases (c == Value.type "enumerate") <;> (wp_walk using q1; exact ⟨_, rfl, hr⟩)
    · wp_walk using q1
      exact ⟨_, rfl, hr⟩
section
variable {prog : Program} {w : World} {A : Around} {E : Value → Shared → Prop} {s : Shared}
theorem enumBegins1 {v : Value} {o : Obj} {Hh : Heap → Prop} {Q : Value → Shared → Prop} (B : Begins v o Hh) (h1 : Hh s.heap)
    (h : ∀ h', IsEnum h' (s.heap.objs.size + 1) s.heap.objs.size 0 .none → h'.get? s.heap.objs.size = some o → h'.objs.size = s.heap.objs.size + 2 →
      (∀ b o, s.heap.get? b = some o → h'.get? b = some o) → Q (.ref (s.heap.objs.size + 1)) { s with heap := h' }) :
    wpAny (model prog w) A (call (.type "enumerate") [v]) Q E s := by
  refine callType_new F.called_enumerate (by decide) (F.typeCall_enumerate_1 _) (F.newCall_enumerate_1 _) (fun obj => F.args_object_init_2 obj _) F.entry_enumerate_new (enumNew1 B) ⟨h1, ?_⟩
  have hz : (s.heap.push o).objs.size = s.heap.objs.size + 1 := Heap.size_push ..
  show _ ∧ _
  rw [hz]
  have he : IsEnum ((s.heap.push o).push { cls := .type "enumerate", data := .fields #[.none, .bool false, .ref s.heap.objs.size, rawInt 0, .none, .none] }) (s.heap.objs.size + 1) s.heap.objs.size 0 .none := by
    have z := Heap.get?_push_size (s.heap.push o) (o := { cls := .type "enumerate", data := .fields #[.none, .bool false, .ref s.heap.objs.size, rawInt 0, .none, .none] }) rfl
    rw [hz] at z; exact z
  exact ⟨⟨_, he, rfl⟩, h _ he (Heap.get?_push_of_some _ (Heap.get?_push_size _ B.free)) (by rw [Heap.size_push, hz]) fun b o x => Heap.get?_push_of_some _ (Heap.get?_push_of_some _ x)⟩
end
/-- the tuple at a as it stands at each turn, each item in a new pair -/
def IteT (K : PySem.W.Frag) (a : Addr) : It :=
  ⟨fun i H => ∃ (xs : List V) (x : V), SqT K H a xs ∧ xs[i]? = some x, fun i H v H' => ∃ T x, v = .ref T ∧ H T = none ∧ H' = upd H T (.tup [.int (i : Nat), x]) ∧ ∀ xs, SqT K H a xs → xs[i]? = some x, fun i H => ∃ xs : List V, SqT K H a xs ∧ xs.length ≤ i⟩
theorem turnEnumT {P : Program} {w : World} {K : PySem.W.Frag} {elts : List Expr} {kk : Nat} {tpos : Pos} (a e it : Addr) (hai : a ≠ it) (hae : a ≠ e) :
    Turn P w K (.Tuple elts kk tpos) (IteT K a) [e, it] e (fun i h => (∃ old, IsEnum h e it ((i : Nat) : Int) old) ∧ h.IsTupleIter it a i ∧ e ≠ it) where
  mem := by simp
  obj := fun i h st b hb => by
    obtain ⟨⟨old, he⟩, ⟨o, ho, hc, hd⟩, _⟩ := st
    have e' : b = e ∨ b = it := by simpa using hb
    rcases e' with z | z
    · rw [z]; exact ⟨_, he, fun v q => nomatch q⟩
    · rw [z]; exact ⟨o, ho, fun v q => by rw [hd] at q; cases q⟩
  keep := fun i h h' st k => by
    obtain ⟨⟨old, he⟩, hi, hne⟩ := st
    exact ⟨⟨old, k e (by simp) _ he⟩, hi.at fun o q => k it (by simp) o q, hne⟩
  item := by
    intro X hP hw hK hc i pins s σ H E I hf st hg
    subst hP hw hK
    obtain ⟨⟨old, he⟩, hit, hne⟩ := st
    obtain ⟨xs, x, hq, hx⟩ := hg
    obtain ⟨its, rv, p, hz⟩ := I.tuple hq
    obtain ⟨u, hu, ru⟩ := rv.get hx
    have p : s.heap.IsTuple a its.toArray := p
    have hel : e < s.heap.objs.size := Heap.lt_size he
    have hil : it < s.heap.objs.size := by obtain ⟨_, q, _⟩ := hit; exact Heap.lt_size q
    have hlt : i < its.toArray.size := by
      have := (List.getElem?_eq_some_iff.mp hu).1
      simpa using this
    have DD := Draws.tuple (prog := X.prog) (w := X.w) (A := X.A.in1) (I.ok.hd hc) it a hai its.toArray
    refine wpAny_pyNext_enum_itemD DD he (show s.heap.IsTupleIter it a i ∧ s.heap.IsTuple a its.toArray from ⟨hit, p⟩) hlt hne (by simp only [List.mem_cons, List.not_mem_nil, or_false, not_or]; exact ⟨hne, fun q => hae q.symm⟩) fun x2 h' tk hP ho hst' hT hsz hk => ?_
    have ex2 : u = x2 := by
      have hu2 : its.toArray[i]? = some u := by simpa using hu
      rw [hu2] at hP
      exact Option.some.inj hP
    subst ex2
    refine ⟨_, rfl, wpAny_letOwnedTupleGo_enum (s := { s with heap := h', toks := tk + 1 }) ho fun h'' he' sb => ?_⟩
    have hT2 : h''.get? s.heap.objs.size = some { cls := .type "tuple", data := .seq #[.int i tk, u] } := (sb.2 _ (Nat.ne_of_gt hel)).trans hT
    have new : ObjOk X.prog X.w (upd H s.heap.objs.size (.tup [.int (i : Nat), x])) h'' s.heap.objs.size (.tup [.int (i : Nat), x]) :=
      ⟨by show 2 ≤ sizeLine; decide, [.int i tk, u], .cons ⟨_, rfl⟩ (.cons ru .nil), ⟨_, hT2, rfl, _, rfl⟩⟩
    have I1 : Inv X pins σ (upd H s.heap.objs.size (.tup [.int (i : Nat), x])) { s with heap := h'', toks := tk + 1 } :=
      I.turnedNew (ch := [e, it]) (fun b ob hb q => (sb.2 b (fun z => hb (by simp [z]))).trans (hk b ob (fun z => hb (by simp [z])) (fun z => hb (by simp [z])) q)) hf (Nat.le_refl _) new
    refine ⟨.ref s.heap.objs.size, _, I1, rfl, ⟨_, x, rfl, I.hok.fresh (Nat.le_refl _), rfl, fun ys hy => by rw [I.tuple_inj hy hq]; exact hx⟩, ⟨⟨u, ?_⟩, hst'.1.at fun o q => (sb.2 it (Ne.symm hne)).trans q, hne⟩, fun b hb => ?_⟩
    · have e1 : ((i + 1 : Nat) : Int) = (i : Int) + 1 := by omega
      rw [e1]; exact he'
    · have hb' : b < s.heap.objs.size := by
        have e' : b = e ∨ b = it := by simpa using hb
        rcases e' with z | z
        · rw [z]; exact hel
        · rw [z]; exact hil
      rw [upd_ne (Nat.ne_of_lt hb')]
      exact (hf b hb).1
  done := by
    intro X hP hw hK hc i pins s σ H E I hf st hg
    subst hP hw hK
    obtain ⟨⟨old, he⟩, hit, hne⟩ := st
    obtain ⟨xs, hq, hx⟩ := hg
    obtain ⟨its, rv, p, hz⟩ := I.tuple hq
    obtain ⟨f0, f1, f2, f3, f4, f5⟩ := hf it (by simp)
    have hl := rv.length
    have p : s.heap.IsTuple a its.toArray := p
    have hT : s.TypeIs (.ref e) "enumerate" := ⟨_, he, rfl⟩
    unfold pyNext
    refine wpAny_bind (wpAny_attempt (wpAny_callSpecial?_slot (name := Str.ofString "__next__") hT F.slot_enumerate_next
      (wpAny_call_entry F.slot_enumerate_next hT F.entry_enumerate_next ?_ (F.args_enumerate_next_1 _))))
    show wpAny _ _ (field (.ref e) 2 >>= fun _ => _) _ _ s
    refine wpAny_bind (wpAny_field he rfl (x := .ref it) rfl ?_)
    refine wpAny_bind (wpAny_nextOf_tuple_end (A := X.A.in1) (I.ok.hd hc) hit p (by simp; omega) fun h' x he' hx' => ?_)
    obtain ⟨o, ho, hcl⟩ := hx'
    refine wpAny_bind (wpAny_isInstance (T := "StopIteration") (b := true) ⟨o, ho, hcl⟩ isSubtype_stop ?_)
    exact wpAny_pure ⟨rfl, I.turned (t' := s.toks) (fun b o hb q => he' b o hb q) f0 f1 f3 f4 f5⟩
  self := fun A i s Q E st h => let ⟨⟨_, he⟩, _⟩ := st; wpAny_pyIter_enum he h
def iEnumT (K : PySem.W.Frag) (ta : TA) : TI := fun σ H R => ta σ H fun vs H1 => ∃ a xs, vs = [.ref a] ∧ SqT K H1 a xs ∧ R (IteT K a) H1
theorem pi_enumT {X : Cx} {e : PySem.Expr} {ta : TA} {p pos tpos : Pos} {elts : List PySem.Expr} {kk : Nat} (hg : Gl X "enumerate") (hm : X.mg "enumerate" = none) (ha : PA X [e] ta) (hs : starEach [e] X.env = [(false, eval e X.env)] := by rfl) :
    PI X (.Tuple elts kk tpos) (.Call (.Name "enumerate" p) [e] [] pos) (iEnumT X.K ta) := by
  refine ⟨fun pins s σ H R I h => ?_⟩
  refine Call_ (ld_blt I hg hm boot_enumerate (PyProof.Rows.callWith_type1 (thn (ha.run pos pins s σ H _ I h) fun us s1 ⟨vs, H1, I1, r1, q1⟩ => ?_) hs rfl))
  obtain ⟨a, xs, ex, hq, q⟩ := q1
  subst ex
  cases r1 with
  | cons r rr =>
    cases rr
    cases r
    obtain ⟨its, rv, p', hz⟩ := I1.tuple hq
    have p' : s1.heap.IsTuple a its.toArray := p'
    have hal : a < s1.heap.objs.size := by obtain ⟨o, q, _⟩ := id p'; exact Heap.lt_size q
    refine enumBegins1 (begins_tuple a its.toArray) p' fun h' he hit hsz hk => wpAny_pyIter_enum he ?_
    have I2 : Inv X pins σ H1 { s1 with heap := h' } := I1.kept (t' := s1.toks) hk
    refine ⟨s1.heap.objs.size + 1, [s1.heap.objs.size + 1, s1.heap.objs.size], _, _, H1, rfl, I2, turnEnumT a (s1.heap.objs.size + 1) s1.heap.objs.size (Nat.ne_of_lt hal) (Nat.ne_of_lt (Nat.lt_succ_of_lt hal)), ⟨⟨.none, he⟩, ⟨_, hit, rfl, rfl⟩, Nat.succ_ne_self _⟩, fun b hb => ?_, q⟩
    have e' : b = s1.heap.objs.size + 1 ∨ b = s1.heap.objs.size := by simpa using hb
    have hle : s1.heap.objs.size ≤ b := by
      rcases e' with z | z
      · rw [z]; exact Nat.le_add_right _ _
      · rw [z]; exact Nat.le_refl _
    exact I1.fpOk hle (I1.hok.fresh hle)
theorem pi_enumK {X : Cx} {K : PySem.W.Frag} {e : PySem.Expr} {ta : TA} {p pos tpos : Pos} {elts : List PySem.Expr} {kk : Nat} (eK : X.K = K) (hg : Gl X "enumerate") (hm : X.mg "enumerate" = none) (ha : PA X [e] ta) (hs : starEach [e] X.env = [(false, eval e X.env)] := by rfl) :
    PI X (.Tuple elts kk tpos) (.Call (.Name "enumerate" p) [e] [] pos) (iEnum K ta) := eK ▸ pi_enum hg hm ha hs
theorem pi_enumTK {X : Cx} {K : PySem.W.Frag} {e : PySem.Expr} {ta : TA} {p pos tpos : Pos} {elts : List PySem.Expr} {kk : Nat} (eK : X.K = K) (hg : Gl X "enumerate") (hm : X.mg "enumerate" = none) (ha : PA X [e] ta) (hs : starEach [e] X.env = [(false, eval e X.env)] := by rfl) :
    PI X (.Tuple elts kk tpos) (.Call (.Name "enumerate" p) [e] [] pos) (iEnumT K ta) := eK ▸ pi_enumT hg hm ha hs
end Hq
namespace Hq
open PySem L2
section
variable {K : PySem.W.Frag} {E : Ent} {F H : Hp} {M M1 M2 : Ms} {Γ : Gm} {P : MP} {O : MO} {q : Addr} {te ta tb tl tk : TE} {tr : TA} {D1 : Ends} {tu tz : TS} {t u : TT} {ps : List MP} {i j : Nat}
abbrev gPair (K : PySem.W.Frag) (i j : Nat) : TG := gTup K 2 (gCons (gName i) (gCons (gName j) gNil))
theorem wipe_two {σ : St} {x y : V} (h : i ≠ j) : wipe (((wipe σ [i, j]).set i (some x)).set j (some y)) [i, j] = wipe σ [i, j] := by
  show ((((((σ.set j none).set i none).set i (some x)).set j (some y)).set j none).set i none) = (σ.set j none).set i none
  apply List.ext_getElem?
  intro k
  simp only [List.getElem?_set, List.length_set]
  by_cases h1 : j = k <;> by_cases h2 : i = k <;> simp [h1, h2]
theorem env_wipe2 {σ : St} (h : EnvOk F σ Γ) : EnvOk F (wipe σ [i, j]) ((Γ.set j none).set i none) := (h.forget j).forget i
section
variable {γ : Type} {zs : List γ} {RA RB G : γ → MP} {f : γ → Bool} {J : It} {Gd : Hp → Prop} {us vs : List V}
/-- a comprehension over pairs -/
theorem lc_pairs {F1 H1 : Hp} {σ : St} {Q : VK} (hij : i ≠ j) (w : Walk J zs.length Gd (YPair (fun i => us[i]?) (fun i => vs[i]?))) (hz : zs.length ≤ 50000)
    (g1 : Pt E F1 M1 H1) (b : EnvOk F1 σ Γ) (hu : Ps F1 us (zs.map RA)) (hv : Ps F1 vs (zs.map RB)) (hG : ∀ F' H', Ex F1 F' → Ex F' H' → Gd H')
    (ht : ∀ z ∈ zs, EvT t ((((Γ.set j none).set i none).set i (some (RA z))).set j (some (RB z))) M1 (· = f z) M1)
    (he : ∀ z ∈ zs, f z = true → Ev te ((((Γ.set j none).set i none).set i (some (RA z))).set j (some (RB z))) M1 (G z) M1)
    (k : ContN E F1 (ML ((zs.filter f).map G)) M1 Q) : ∀ D, H1 D = none → ∃ W : Nat → Nat → Hp → Prop, (∃ m, W 0 m (upd H1 D (.lst []))) ∧ ∀ n m H, W n m H →
      (J.stop n H ∧ Q (.ref D) H) ∨ (J.go n H ∧ ∃ Nx : Hp → Prop, (∀ H', Nx H' → ∃ m', m' < m ∧ W (n + 1) m' H') ∧ ∀ x H', J.yld n H x H' → gPair K i j x (wipe σ [i, j]) H' fun σ2 H2 => wipe σ2 [i, j] = wipe σ [i, j] ∧ t σ2 H2 fun b H3 =>
        if b = true then te σ2 H3 fun y H4 => ∃ acc, H4 D = some (.lst acc) ∧ acc.length < sizeLine ∧ Nx (upd H4 D (.lst (acc ++ [y]))) else Nx H3) := by
  intro D2 hD
  have gn : Pt ⟨F1, H1, keys M1⟩ F1 ((D2, ML []) :: M1) (upd H1 D2 (.lst [])) := g1.enter.new hD ⟨[], rfl, .nil⟩
  refine lc_it w (fun n H' => ∃ F', Pt ⟨F1, H1, keys M1⟩ F' ((D2, ML (((zs.take n).filter f).map G)) :: M1) H') ⟨F1, gn⟩ (fun n H2 _ ⟨F2, g2⟩ => hG F2 H2 g2.gr.ex g2.ex) (fun n x H2 H3 hn ⟨F2, g2⟩ y => ?_) (fun H2 ⟨F2, g2⟩ => ?_)
  · obtain ⟨T, x1, y1, rfl, hT, rfl, hx1, hy1⟩ := y
    obtain ⟨PA, hPA, hxA⟩ := paired_get' hu hx1
    obtain ⟨PB, hPB, hyB⟩ := paired_get' hv hy1
    have hzn : zs[n]? = some zs[n] := List.getElem?_eq_getElem hn
    rw [List.getElem?_map, hzn] at hPA hPB
    have hPA : RA zs[n] = PA := Option.some.inj hPA
    have hPB : RB zs[n] = PB := Option.some.inj hPB
    subst hPA; subst hPB
    generalize zs[n] = z at *
    have hm := List.mem_of_getElem? hzn
    have g3 : Pt ⟨F1, H1, keys M1⟩ F2 ((D2, ML (((zs.take n).filter f).map G)) :: M1) (upd H2 T (.tup [x1, y1])) := g2.junk hT
    refine ⟨T, [x1, y1], rfl, SqT.of upd_same, rfl, x1, [y1], rfl, y1, [], rfl, rfl, wipe_two hij, ?_⟩
    refine lc_turn g3 (((env_wipe2 (b.mono g2.gr.ex)).set i ((RA z).mono g2.gr.ex hxA)).set j ((RB z).mono g2.gr.ex hyB)) (ht z hm) (he z hm) ?_ _ fun F3 H3 e3 g4 => ⟨F3, ?_⟩
    · rw [List.length_map]
      exact Nat.lt_of_le_of_lt (Nat.le_trans (List.length_filter_le _ _) (by rw [List.length_take]; omega)) (by omega : zs.length < 100000)
    · rw [take_filter zs f n z hzn, List.map_append]
      cases hf : f z
      · rw [hf] at g4; simpa using g4
      · rw [hf] at g4; simpa using g4
  · rw [List.take_length] at g2
    exact k D2 F2 H2 (g1.fresh hD) g2.gr.ex (g1.back g2)
/-- a loop over pairs -/
theorem for_pairs {F1 H1 : Hp} {σ : St} {Q : Prop} (w : Walk J zs.length Gd (YPair (fun i => us[i]?) (fun i => vs[i]?)))
    (g1 : Pt E F1 M1 H1) (b : EnvOk F1 σ Γ) (hu : Ps F1 us (zs.map RA)) (hv : Ps F1 vs (zs.map RB)) (hG : ∀ F' H', Ex F1 F' → Ex F' H' → Gd H')
    (Jv : Nat → Gm → Ms → Prop) (h0 : Jv 0 Γ M1)
    (hs : ∀ E', Le E' E → ∀ n z, zs[n]? = some z → ∀ Γ' M', Jv n Γ' M' → Nx E' ((Γ'.set i (some (RA z))).set j (some (RB z))) M' (tu { D1 with nx := JA E' (Jv (n + 1)), ct := JA E' (Jv (n + 1)), bk := D1.nx }))
    (hd : ∀ Γ' M', Jv zs.length Γ' M' → Nx E Γ' M' D1.nx) :
    ∃ W : Nat → Nat → St → Hp → Prop, (∃ m, W 0 m σ H1) ∧ ∀ n m σ H, W n m σ H →
      (J.stop n H ∧ D1.nx σ H) ∨ (J.go n H ∧ ∃ N : St → Hp → Prop, (∀ σ' H', N σ' H' → ∃ m', m' < m ∧ W (n + 1) m' σ' H') ∧ ∀ x H', J.yld n H x H' → gPair K i j x σ H' fun σ2 H2 => tu { D1 with nx := N, ct := N, bk := D1.nx } σ2 H2) := by
  refine for_it w (fun n σ H => JA ⟨F1, H1, keys M1⟩ (Jv n) σ H) ⟨Γ, M1, h0, F1, g1.enter, b⟩ (fun n σ2 H2 _ ⟨Γ', M', _, F2, g2, _⟩ => hG F2 H2 g2.gr.ex g2.ex) (fun n x σ2 H2 H3 hn ⟨Γ', M', hJ, F2, g2, b2⟩ y => ?_) (fun σ2 H2 ⟨Γ', M', hJ, at2⟩ => hd Γ' M' hJ _ _ (at2.le g1.le))
  obtain ⟨T, x1, y1, rfl, hT, rfl, hx1, hy1⟩ := y
  obtain ⟨PA, hPA, hxA⟩ := paired_get' hu hx1
  obtain ⟨PB, hPB, hyB⟩ := paired_get' hv hy1
  have hzn : zs[n]? = some zs[n] := List.getElem?_eq_getElem hn
  rw [List.getElem?_map, hzn] at hPA hPB
  have hPA : RA zs[n] = PA := Option.some.inj hPA
  have hPB : RB zs[n] = PB := Option.some.inj hPB
  subst hPA; subst hPB
  exact ⟨T, [x1, y1], rfl, SqT.of upd_same, rfl, x1, [y1], rfl, y1, [], rfl, rfl, hs ⟨F1, H1, keys M1⟩ g1.le n _ hzn Γ' M' hJ _ _ ⟨F2, g2.junk hT, (b2.set i ((RA zs[n]).mono g2.gr.ex hxA)).set j ((RB zs[n]).mono g2.gr.ex hyB)⟩⟩
end
theorem pg_tupK {X : Cx} {es : List PySem.Expr} {k : Nat} {t : TGs} {n : Nat} {pos : Pos} (eK : X.K = K) (hc : X.calm = true) (h : PGs X es t)
    (hn : (assignEach es X.env).length = n := by rfl) (hst : (assignEach es X.env).findIdx? (·.1) = none := by rfl) : PG X (.Tuple es k pos) (gTup K n t) := eK ▸ pg_tup hc h hn hst
/-! the walks, told over what stands -/
theorem walk_enumP {a : Addr} {xs : List V} : Walk (Ite K a) xs.length (fun H => SqL K H a xs) (YPair (fun i => ((List.range xs.length).map fun n : Nat => V.int n)[i]?) (fun i => xs[i]?)) :=
  walk_enum.mono (fun _ h => h) fun n H x H' hn _ ⟨T, x1, y1, h1, h2, h3, h4, h5⟩ => ⟨T, x1, y1, h1, h2, h3, by show ((List.range xs.length).map fun n : Nat => V.int n)[n]? = some x1; rw [List.getElem?_map, List.getElem?_range hn]; exact h4, h5⟩
theorem walk_enumTP {a : Addr} {xs : List V} : Walk (IteT K a) xs.length (fun H => SqT K H a xs) (YPair (fun i => ((List.range xs.length).map fun n : Nat => V.int n)[i]?) (fun i => xs[i]?)) := by
  refine ⟨fun n _ hn q => ⟨xs, xs[n], q, by simp [hn]⟩, fun _ q => ⟨xs, q, Nat.le_refl _⟩, fun n H v H' hn q y => ?_⟩
  obtain ⟨T, x, h1, h2, h3, h4⟩ := y
  exact ⟨T, .int (n : Nat), x, h1, h2, h3, by show ((List.range xs.length).map fun n : Nat => V.int n)[n]? = _; rw [List.getElem?_map, List.getElem?_range hn]; rfl, h4 xs q⟩
theorem range_ints (n : Nat) : Ps F ((List.range n).map fun n : Nat => V.int n) ((List.range n).map fun n : Nat => D K (.int n)) := by
  generalize List.range n = l
  induction l with
  | nil => exact .nil
  | cons a l ih => exact .cons (.int _) ih
variable {α : Type} {xs : List α} {R : α → MP}
theorem zipIdx_fst {xs : List α} {R : α → MP} : (xs.zipIdx.map fun p => R p.1) = xs.map R := by
  rw [show (fun p : α × Nat => R p.1) = R ∘ Prod.fst from rfl, ← List.map_map, List.zipIdx_map_fst]
theorem zipIdx_snd {xs : List α} {K : PySem.W.Frag} : (xs.zipIdx.map fun p => D K (.int p.2)) = (List.range xs.length).map fun n : Nat => D K (.int n) := by
  rw [show (fun p : α × Nat => D K (.int p.2)) = (fun n : Nat => D K (.int n)) ∘ Prod.snd from rfl, ← List.map_map, List.zipIdx_map_snd, List.range_eq_range']
theorem evn_lcEnumT {G : α × Nat → MP} (f : α × Nat → Bool) (hij : i ≠ j) (h : Ev tl Γ M (PTu K (xs.map R)) M1) (hz : xs.length ≤ 50000)
    (ht : ∀ z ∈ xs.zipIdx, EvT t ((((Γ.set j none).set i none).set i (some (D K (.int z.2)))).set j (some (R z.1))) M1 (· = f z) M1)
    (he : ∀ z ∈ xs.zipIdx, f z = true → Ev te ((((Γ.set j none).set i none).set i (some (D K (.int z.2)))).set j (some (R z.1))) M1 (G z) M1) :
    EvN (tLc (iEnumT K (tCons tl tNil)) (gPair K i j) t te [i, j]) Γ M (ML ((xs.zipIdx.filter f).map G)) M1 := fun E F σ H a b Q k => h E F σ H a b _ fun v F1 H1 e1 g1 ⟨p, vs, hp, s, q⟩ => by
  have hl : xs.zipIdx.length = vs.length := by rw [List.length_zipIdx, paired_len q, List.length_map]
  refine ⟨p, vs, by rw [hp], Evl.ex_t g1.ex s, ?_⟩
  refine lc_pairs (K := K) (zs := xs.zipIdx) (RA := fun z => D K (.int z.2)) (RB := fun z => R z.1) (us := (List.range vs.length).map fun n : Nat => V.int n) (vs := vs) hij (by rw [hl]; exact walk_enumTP) (by rw [List.length_zipIdx]; exact hz) g1 (b.mono e1) (by rw [zipIdx_snd, ← List.length_zipIdx (l := xs), hl]; exact range_ints _) (by rw [zipIdx_fst]; exact q) (fun F' H' e e' => Evl.ex_t (e.trans e') s) ht he fun q F' H' f e g => k q F' H' f (e1.trans e) g
theorem evn_lcEnumL {G : α × Nat → MP} (f : α × Nat → Bool) (hij : i ≠ j) (h : Ev tl Γ M (PLi K (xs.map R)) M1) (hz : xs.length ≤ 50000)
    (ht : ∀ z ∈ xs.zipIdx, EvT t ((((Γ.set j none).set i none).set i (some (D K (.int z.2)))).set j (some (R z.1))) M1 (· = f z) M1)
    (he : ∀ z ∈ xs.zipIdx, f z = true → Ev te ((((Γ.set j none).set i none).set i (some (D K (.int z.2)))).set j (some (R z.1))) M1 (G z) M1) :
    EvN (tLc (iEnum K (tCons tl tNil)) (gPair K i j) t te [i, j]) Γ M (ML ((xs.zipIdx.filter f).map G)) M1 := fun E F σ H a b Q k => h E F σ H a b _ fun v F1 H1 e1 g1 ⟨p, vs, hp, s, q⟩ => by
  have hl : xs.zipIdx.length = vs.length := by rw [List.length_zipIdx, paired_len q, List.length_map]
  refine ⟨p, vs, by rw [hp], Evl.ex_l g1.ex s, ?_⟩
  refine lc_pairs (K := K) (zs := xs.zipIdx) (RA := fun z => D K (.int z.2)) (RB := fun z => R z.1) (us := (List.range vs.length).map fun n : Nat => V.int n) (vs := vs) hij (by rw [hl]; exact walk_enumP) (by rw [List.length_zipIdx]; exact hz) g1 (b.mono e1) (by rw [zipIdx_snd, ← List.length_zipIdx (l := xs), hl]; exact range_ints _) (by rw [zipIdx_fst]; exact q) (fun F' H' e e' => Evl.ex_l (e.trans e') s) ht he fun q F' H' f e g => k q F' H' f (e1.trans e) g
theorem go_forEnumL (h : Ev tl Γ M (PLi K (xs.map R)) M1) (Jv : Nat → Gm → Ms → Prop) (h0 : Jv 0 Γ M1)
    (hs : ∀ E', Le E' E → ∀ n x, xs[n]? = some x → ∀ Γ' M', Jv n Γ' M' → Nx E' ((Γ'.set i (some (D K (.int n)))).set j (some (R x))) M' (tu { D1 with nx := JA E' (Jv (n + 1)), ct := JA E' (Jv (n + 1)), bk := D1.nx }))
    (hd : ∀ Γ' M', Jv xs.length Γ' M' → Nx E Γ' M' D1.nx) : Nx E Γ M (tFor (iEnum K (tCons tl tNil)) (gPair K i j) tu D1) := fun σ H ⟨F, a, b⟩ => h E F σ H a b _ fun v F1 H1 e1 g1 ⟨p, vs, hp, s, q⟩ => by
  have hl : xs.zipIdx.length = vs.length := by rw [List.length_zipIdx, paired_len q, List.length_map]
  refine ⟨p, vs, by rw [hp], Evl.ex_l g1.ex s, ?_⟩
  refine for_pairs (K := K) (zs := xs.zipIdx) (RA := fun z => D K (.int z.2)) (RB := fun z => R z.1) (us := (List.range vs.length).map fun n : Nat => V.int n) (vs := vs) (Q := True) (by rw [hl]; exact walk_enumP) g1 (b.mono e1) (by rw [zipIdx_snd, ← List.length_zipIdx (l := xs), hl]; exact range_ints _) (by rw [zipIdx_fst]; exact q) (fun F' H' e e' => Evl.ex_l (e.trans e') s) Jv h0 (fun E' hE n z hz Γ' M' hJ => ?_) (by rw [List.length_zipIdx]; exact hd)
  have : xs[n]? = some z.1 ∧ z.2 = n := by
    rw [List.getElem?_zipIdx] at hz
    obtain ⟨x, hx, rfl⟩ := Option.map_eq_some_iff.mp hz
    exact ⟨hx, by simp⟩
  rw [this.2]
  exact hs E' hE n z.1 this.1 Γ' M' hJ
theorem go_forEnumT (h : Ev tl Γ M (PTu K (xs.map R)) M1) (Jv : Nat → Gm → Ms → Prop) (h0 : Jv 0 Γ M1)
    (hs : ∀ E', Le E' E → ∀ n x, xs[n]? = some x → ∀ Γ' M', Jv n Γ' M' → Nx E' ((Γ'.set i (some (D K (.int n)))).set j (some (R x))) M' (tu { D1 with nx := JA E' (Jv (n + 1)), ct := JA E' (Jv (n + 1)), bk := D1.nx }))
    (hd : ∀ Γ' M', Jv xs.length Γ' M' → Nx E Γ' M' D1.nx) : Nx E Γ M (tFor (iEnumT K (tCons tl tNil)) (gPair K i j) tu D1) := fun σ H ⟨F, a, b⟩ => h E F σ H a b _ fun v F1 H1 e1 g1 ⟨p, vs, hp, s, q⟩ => by
  have hl : xs.zipIdx.length = vs.length := by rw [List.length_zipIdx, paired_len q, List.length_map]
  refine ⟨p, vs, by rw [hp], Evl.ex_t g1.ex s, ?_⟩
  refine for_pairs (K := K) (zs := xs.zipIdx) (RA := fun z => D K (.int z.2)) (RB := fun z => R z.1) (us := (List.range vs.length).map fun n : Nat => V.int n) (vs := vs) (Q := True) (by rw [hl]; exact walk_enumTP) g1 (b.mono e1) (by rw [zipIdx_snd, ← List.length_zipIdx (l := xs), hl]; exact range_ints _) (by rw [zipIdx_fst]; exact q) (fun F' H' e e' => Evl.ex_t (e.trans e') s) Jv h0 (fun E' hE n z hz Γ' M' hJ => ?_) (by rw [List.length_zipIdx]; exact hd)
  have : xs[n]? = some z.1 ∧ z.2 = n := by
    rw [List.getElem?_zipIdx] at hz
    obtain ⟨x, hx, rfl⟩ := Option.map_eq_some_iff.mp hz
    exact ⟨hx, by simp⟩
  rw [this.2]
  exact hs E' hE n z.1 this.1 Γ' M' hJ
end
end Hq
namespace Hq
open PySem L2
section
variable {K : PySem.W.Frag} {E : Ent} {F H : Hp} {M M1 M2 : Ms} {Γ : Gm} {P P1 : MP} {O : MO} {q : Addr} {te ta tb tl tk : TE} {tr : TA} {D1 : Ends} {tu tz : TS} {t u : TT} {ps : List MP} {i j : Nat} {l : List Int}
theorem rc_sum {ns : List Int} : RC (rSum K) [PLi K (ns.map fun n => D K (.int n))] M (D K (.int ns.sum)) M := fun E F H vs a h Q k => by
  obtain ⟨v, rfl, b, ws, rfl, s, p⟩ := ps1 h
  have es := ints_map p
  subst es
  exact ⟨b, ns, rfl, Evl.ex_l a.ex s, k _ F H (Evl.Ex.refl _) a (.int _)⟩
/-- a slice of a list that stands -/
def cutG {α : Type} (l : List α) (lo hi : Option Int) : List α := (l.drop (HT.sIx l.length 0 lo)).take (HT.sIx l.length l.length hi - HT.sIx l.length 0 lo)
theorem cutG_take {α : Type} {l : List α} {a : Nat} : cutG l none (some (a : Int)) = l.take a := by
  unfold cutG
  rw [HT.sIx_none, HT.sIx_nat]
  simp
theorem cutG_drop {α : Type} {l : List α} {a : Nat} : cutG l (some (a : Int)) none = l.drop a := by
  unfold cutG
  rw [HT.sIx_none, HT.sIx_nat]
  by_cases h : a ≤ l.length
  · rw [Nat.min_eq_left h]
    apply List.take_of_length_le
    rw [List.length_drop]; omega
  · rw [List.drop_of_length_le (by omega : l.length ≤ min a l.length), List.drop_of_length_le (by omega : l.length ≤ a)]; simp
theorem paired_drop {α β : Type} {R : α → β → Prop} : ∀ {xs : List α} {ys : List β} (n : Nat), Paired R xs ys → Paired R (xs.drop n) (ys.drop n)
  | _, _, 0, h => h
  | _, _, n + 1, .nil => .nil
  | _, _, n + 1, .cons _ t => paired_drop n t
theorem paired_take {α β : Type} {R : α → β → Prop} : ∀ {xs : List α} {ys : List β} (n : Nat), Paired R xs ys → Paired R (xs.take n) (ys.take n)
  | _, _, 0, _ => .nil
  | _, _, n + 1, .nil => .nil
  | _, _, n + 1, .cons a t => .cons a (paired_take n t)
theorem evn_slM {α : Type} {R : α → MP} {xs : List α} {lo hi : Option Int} {tl th : TO} (h : Ev ta Γ M (PLi K (xs.map R)) M1) (h1 : EvP tl Γ M1 lo) (h2 : EvP th Γ M1 hi) : EvN (tSl (rSlL K) ta tl th) Γ M (ML ((cutG xs lo hi).map R)) M1 := fun E F σ H a b Q k =>
  h E F σ H a b _ fun v F1 H1 e1 g1 p1 => h1 E F1 σ H1 g1 (b.mono e1) _ fun F2 H2 e2 g2 => h2 E F2 σ H2 g2 (b.mono (e1.trans e2)) _ fun F3 H3 e3 g3 => by
    obtain ⟨p, vs, rfl, s, qq⟩ := (PLi K (xs.map R)).mono (e2.trans e3) p1
    refine ⟨p, vs, rfl, Evl.ex_l g3.ex s, fun r hr => ?_⟩
    refine k r F3 _ (g3.fresh hr) ((e1.trans e2).trans e3) (g3.new hr ⟨cutV vs lo hi, rfl, ?_⟩)
    have hl : vs.length = xs.length := by have := paired_len qq; rwa [List.length_map] at this
    unfold cutV cutG
    rw [hl, List.map_take, List.map_drop]
    exact paired_take _ (paired_drop _ qq)
theorem rep_ps {x : V} : ∀ n : Nat, P.p F x → Ps F (List.replicate n [x]).flatten (List.replicate n P)
  | 0, _ => .nil
  | n + 1, h => .cons h (rep_ps n h)
/-- [x] * n, n drawn -/
theorem evn_repX {lo hi : Int} (h : EvN ta Γ M (ML [P]) M1) (hb : ∀ p, Ev tb Γ ((p, ML [P]) :: M1) (PIn K lo hi) ((p, ML [P]) :: M1)) (hz : 0 ≤ lo ∧ hi ≤ 1000) : EvN (tOp rRep ta tb) Γ M (MX fun z : Nat => MA (lo ≤ z ∧ (z : Int) < hi) (ML (List.replicate z P))) M1 := fun E F σ H a c Q k =>
  h E F σ H a c _ fun q F1 H1 f1 e1 g1 => hb q E F1 σ H1 g1 (c.mono e1) _ fun y F2 H2 e2 g2 ⟨z, hzz, p2⟩ => by
    cases dp_int p2
    obtain ⟨_, o, ho, ws, rfl, s⟩ := g2.at (j := 0) rfl
    obtain ⟨x, rfl, px⟩ := ps1 s
    obtain ⟨n, rfl⟩ := Int.eq_ofNat_of_zero_le (Int.le_trans hz.1 hzz.1)
    refine ⟨q, n, [x], rfl, rfl, ho, by omega, by omega, sz_of (by simp; omega), fun p hp => ?_⟩
    have g3 := (g2.new (O := ML (List.replicate n P)) (o := .lst (List.replicate (n : Int).toNat [x]).flatten) hp ⟨_, rfl, ?_⟩).drop (List.Sublist.cons₂ _ (List.sublist_cons_self _ _))
    · exact k p F2 _ (g2.fresh hp) (e1.trans e2) (g3.to (j := 0) (O' := MX fun z : Nat => MA (lo ≤ z ∧ (z : Int) < hi) (ML (List.replicate z P))) (fun F o p => ⟨n, hzz, p⟩) rfl)
    · rw [Int.toNat_natCast]
      exact rep_ps n px
/-- a + b, both made here, of something drawn -/
theorem evn_catX {α β : Type} {R : α → List MP} {S : β → List MP} {φ : α → Prop} {ψ : β → Prop} {Ps1 : Ms → Prop} (h1 : EvN ta Γ M (MX fun x => MA (φ x) (ML (R x))) M1) (h2 : ∀ M, Ps1 M → EvN tb Γ M (MX fun y => MA (ψ y) (ML (S y))) M) (hp : ∀ q O, Ps1 ((q, O) :: M1)) (hz : ∀ x y, φ x → ψ y → (R x).length + (S y).length ≤ 100000) :
    EvN (tOp rCat ta tb) Γ M (MX fun z : α × β => MA (φ z.1 ∧ ψ z.2) (ML (R z.1 ++ S z.2))) M1 := fun E F σ H a b Q k =>
  h1 E F σ H a b _ fun x F1 H1 f1 e1 g1 => h2 _ (hp x _) E F1 σ H1 g1 (b.mono e1) _ fun y F2 H2 f2 e2 g2 => by
    obtain ⟨_, o, ho, u, hu, vs, rfl, s⟩ := g2.at (j := 1) rfl
    obtain ⟨_, o, ho', u', hu', ws, rfl, s'⟩ := g2.at (j := 0) rfl
    refine ⟨x, y, vs, ws, rfl, rfl, ho, ho', sz_of (by rw [paired_len s, paired_len s']; exact hz u u' hu hu'), fun p hp => ?_⟩
    have g3 := (g2.new (O := MX fun z : α × β => MA (φ z.1 ∧ ψ z.2) (ML (R z.1 ++ S z.2))) (o := .lst (vs ++ ws)) hp ⟨(u, u'), ⟨hu, hu'⟩, _, rfl, paired_app s s'⟩).drop (List.Sublist.cons₂ _ ((List.sublist_cons_self _ _).trans (List.sublist_cons_self _ _)))
    exact k p F2 _ (g2.fresh hp) (e1.trans e2) g3
theorem evn_u (h : EvN te Γ M (ML ps) M1) : EvN te Γ M (MX fun _ : Unit => MA True (ML ps)) M1 := h.weak fun F o p => ⟨(), trivial, p⟩
/-- the last list is given away, named -/
theorem nx_own {f} {q : Addr} {l : List Int} (e : M[j]? = some (q, MInts K l)) (hq : E.H q = none) (hg : Γ[i]? = some (some (Own q))) (h : Nx E (Γ.set i (some (D K (dL l)))) (M.eraseIdx j) f) : Nx E Γ M f :=
  nx_freeze (K := K) (i := i) j e hq hg (nx_le (i := i) (P := PLi K (l.map fun n => D K (.int n))) (by
    have hi := (List.getElem?_eq_some_iff.mp hg).1
    rw [List.getElem?_set_self hi]) dL_le (by rw [List.set_set]; exact h))
end
end Hq
namespace Hq
open PySem L2
section
variable {K : PySem.W.Frag} {E : Ent} {F H : Hp} {M M1 M2 : Ms} {Γ : Gm} {P P1 : MP} {O : MO} {q : Addr} {te ta tb tl tk : TE} {tr : TA} {D1 : Ends} {tu tz : TS} {t u : TT} {ps qs : List MP} {i j v : Nat} {l : List Int} {b : Bool}
/-- *xs among arguments -/
theorem ea_starT (h : Ev te Γ M (PTu K qs) M1) (hr : EvA tr Γ M1 ps M2) : EvA (StX.tStar K te tr) Γ M (qs ++ ps) M2 := fun E F σ H a b Q k =>
  h E F σ H a b _ fun x F1 H1 e1 a1 ⟨p, vs, ex, s, q⟩ => ⟨p, vs, ex, .inl (Evl.ex_t a1.ex s), hr E F1 σ H1 a1 (b.mono e1) _ fun ws F2 H2 e2 a2 p2 => k _ F2 H2 (e1.trans e2) a2 (paired_app (q.mono e2) p2)⟩
theorem ea_starL (h : Ev te Γ M (PLi K qs) M1) (hr : EvA tr Γ M1 ps M2) : EvA (StX.tStar K te tr) Γ M (qs ++ ps) M2 := fun E F σ H a b Q k =>
  h E F σ H a b _ fun x F1 H1 e1 a1 ⟨p, vs, ex, s, q⟩ => ⟨p, vs, ex, .inr (Evl.ex_l a1.ex s), hr E F1 σ H1 a1 (b.mono e1) _ fun ws F2 H2 e2 a2 p2 => k _ F2 H2 (e1.trans e2) a2 (paired_app (q.mono e2) p2)⟩
theorem ea_starW (h : Ev te Γ M (D K (dW b l)) M1) (hr : EvA tr Γ M1 ps M2) : EvA (StX.tStar K te tr) Γ M (l.map (fun n => D K (.int n)) ++ ps) M2 := by
  cases b with
  | true => exact ea_starT (Ev.weak (P := D K (dT l)) h le_dT) hr
  | false => exact ea_starL (Ev.weak (P := D K (dL l)) h le_dL) hr
/-- [*a, *b] -/
theorem evn_star2 {l m : List Int} {c : Bool} (h : Ev ta Γ M (D K (dW b l)) M1) (h2 : Ev tb Γ M1 (D K (dW c m)) M2) (hz : l.length + m.length ≤ 100000) : EvN (tLst (StX.tStar K ta (StX.tStar K tb tNil))) Γ M (MInts K (l ++ m)) M2 :=
  (evn_lst (ea_starW h (ea_starW h2 ea_nil)) (by simp only [List.length_append, List.length_map, List.length_nil]; omega)).is (by rw [MInts, List.map_append, List.append_nil])
theorem evn_star3 {l m n : List Int} {c d : Bool} {tc : TE} {M3 : Ms} (h : Ev ta Γ M (D K (dW b l)) M1) (h2 : Ev tb Γ M1 (D K (dW c m)) M2) (h3 : Ev tc Γ M2 (D K (dW d n)) M3) (hz : l.length + m.length + n.length ≤ 100000) : EvN (tLst (StX.tStar K ta (StX.tStar K tb (StX.tStar K tc tNil)))) Γ M (MInts K (l ++ (m ++ n))) M3 :=
  (evn_lst (ea_starW h (ea_starW h2 (ea_starW h3 ea_nil))) (by simp only [List.length_append, List.length_map, List.length_nil]; omega)).is (by rw [MInts, List.map_append, List.map_append, List.append_nil])
theorem go_forEnumW (e : Γ[v]? = some (some (D K (dW b l)))) (Jv : Nat → Gm → Ms → Prop) (h0 : Jv 0 Γ M)
    (hs : ∀ E', Le E' E → ∀ n x, l[n]? = some x → ∀ Γ' M', Jv n Γ' M' → Nx E' ((Γ'.set i (some (D K (.int n)))).set j (some (D K (.int x)))) M' (tu { D1 with nx := JA E' (Jv (n + 1)), ct := JA E' (Jv (n + 1)), bk := D1.nx }))
    (hd : ∀ Γ' M', Jv l.length Γ' M' → Nx E Γ' M' D1.nx) : Nx E Γ M (tFor (iOr (iEnumT K (tCons (tVar v) tNil)) (iEnum K (tCons (tVar v) tNil))) (gPair K i j) tu D1) := by
  cases b with
  | true => exact for_or1 (go_forEnumT (R := fun x => D K (.int x)) ((ev_var (P := D K (dT l)) e).weak le_dT) Jv h0 hs hd)
  | false => exact for_or2 (go_forEnumL (R := fun x => D K (.int x)) ((ev_var (P := D K (dL l)) e).weak le_dL) Jv h0 hs hd)
theorem q_forEnumW (e : Γ[v]? = some (some (D K (dW b l)))) (Jv : Nat → Gm → Ms → Prop) (h0 : Jv 0 Γ M)
    (hs : ∀ E', Le E' E → ∀ n x, l[n]? = some x → ∀ Γ' M', Jv n Γ' M' → Nx E' ((Γ'.set i (some (D K (.int n)))).set j (some (D K (.int x)))) M' (tu { D1 with nx := JA E' (Jv (n + 1)), ct := JA E' (Jv (n + 1)), bk := tz D1 }))
    (hd : ∀ Γ' M', Jv l.length Γ' M' → Nx E Γ' M' (tz D1)) : Nx E Γ M (tSeq (tFor (iOr (iEnumT K (tCons (tVar v) tNil)) (iEnum K (tCons (tVar v) tNil))) (gPair K i j) tu) tz D1) := go_forEnumW (D1 := { D1 with nx := tz D1 }) e Jv h0 hs hd
/-- xs[i] = e, e drawn -/
theorem go_setLE {α : Type} {φ : α → Prop} {R : α → MP} {i : Int} {j : Nat} (h : Ev te Γ M (PEx fun x => PAn (φ x) (R x)) M1) (ho : Ev ta Γ M1 (Own q) M1) (hi : Ev tb Γ M1 (D K (.int i)) M2) (e : M2[j]? = some (q, ML ps)) (h0 : 0 ≤ i) (h1 : i.toNat < ps.length) (k : ∀ x, φ x → Nx E Γ (M2.set j (q, ML (ps.set i.toNat (R x)))) D1.nx) :
    Nx E Γ M (tAsg te (gSub ta tb rSetL) D1) := fun σ H ⟨F, a, b⟩ => h E F σ H a b _ fun w F0 H0 e0 g0 ⟨x, hx, p0⟩ => ho E F0 σ H0 g0 (b.mono e0) _ fun v F1 H1 e1 g1 p1 => by
  have p1 : v = .ref q := p1
  subst p1
  refine hi E F1 σ H1 g1 (b.mono (e0.trans e1)) _ fun y F2 H2 e2 g2 p2 => ?_
  cases dp_int p2
  obtain ⟨_, o, ho2, ws, rfl, s⟩ := g2.at e
  obtain ⟨n, rfl⟩ := Int.eq_ofNat_of_zero_le h0
  have hn : n < ws.length := by rw [paired_len s]; exact h1
  exact ⟨q, ws, n, n, rfl, rfl, ho2, Evl.ixN_nat hn, k x hx _ _ ⟨F2, g2.mut e ⟨_, rfl, paired_set (R := fun (v : V) (P : MP) => P.p F2 v) ((R x).mono (e1.trans e2) p0) n s⟩, b.mono ((e0.trans e1).trans e2)⟩⟩
theorem ev_takeDT {l : List Int} {a : Nat} {te ti : TE} (h : Ev te Γ M (D K (dT l)) M1) (hi : Ev ti Γ M1 (D K (.int (a : Int))) M1) : Ev (tSl (rSlA K) te tNoPart (tPart ti)) Γ M (D K (dT (l.take a))) M1 :=
  (ev_slT h ep_none (ep_some hi)).is (by rw [cut_take])
theorem ev_dropDT {l : List Int} {a : Nat} {te ti : TE} (h : Ev te Γ M (D K (dT l)) M1) (hi : Ev ti Γ M1 (D K (.int (a : Int))) M1) : Ev (tSl (rSlA K) te (tPart ti) tNoPart) Γ M (D K (dT (l.drop a))) M1 :=
  (ev_slT h (ep_some hi) ep_none).is (by rw [cut_drop])
theorem rv_ixWd {i : Int} (h0 : 0 ≤ i) (h : i.toNat < l.length) : RV (rIx K) (D K (dW b l)) (D K (.int i)) M (D K (.int (l.getD i.toNat 0))) M :=
  rv_ixW h0 (by rw [List.getElem?_map, List.getElem?_eq_getElem h, List.getD_eq_getElem?_getD, List.getElem?_eq_getElem h]; rfl)
theorem rv_ixDLd {i : Int} (h0 : 0 ≤ i) (h : i.toNat < l.length) : RV (rIx K) (D K (dL l)) (D K (.int i)) M (D K (.int (l.getD i.toNat 0))) M := rv_ixWd (b := false) h0 h
theorem rv_ixDTd {i : Int} (h0 : 0 ≤ i) (h : i.toNat < l.length) : RV (rIx K) (D K (dT l)) (D K (.int i)) M (D K (.int (l.getD i.toNat 0))) M := rv_ixWd (b := true) h0 h
end
/-- a word, or none -/
def dOW : Option (List Int) → PyData
  | none => .none
  | some w => dT w
section
variable {K : PySem.W.Frag} {M : Ms}
theorem rv_isO {o : Option (List Int)} : RV rIs0 (D K (dOW o)) (D K .none) M (D K (.bool o.isNone)) M := by
  cases o with
  | none => exact rv_isN1
  | some w =>
    refine rv_val (z := .bl false) (fun _ => .bl _) fun F H x y p1 p2 _ Q q => ?_
    obtain ⟨a, xs, rfl, _, _⟩ := dp_tup (ds := w.map .int) p1
    cases dp_non p2
    exact ⟨rfl, q⟩
theorem rv_notO {o : Option (List Int)} : RV rNot0 (D K (dOW o)) (D K .none) M (D K (.bool o.isSome)) M := by
  cases o with
  | none => exact rv_notN1
  | some w =>
    refine rv_val (z := .bl true) (fun _ => .bl _) fun F H x y p1 p2 _ Q q => ?_
    obtain ⟨a, xs, rfl, _, _⟩ := dp_tup (ds := w.map .int) p1
    cases dp_non p2
    exact ⟨rfl, q⟩
theorem eqv_O : ∀ a b : Option (List Int), PyData.eqv (dOW a) (dOW b) = decide (a = b)
  | none, none => rfl
  | none, some _ => rfl
  | some _, none => rfl
  | some a, some b => by
    show PyData.eqv (dT a) (dT b) = _
    rw [enc_dT.eq]; simp
theorem enc_dOW : Enc dOW 2 := ⟨eqv_O, fun x => by cases x with
  | none => rfl
  | some w => exact enc_dT.lay w, fun x => by cases x with
  | none => show PyData.depth .none ≤ 2; simp [PyData.depth]
  | some w => exact enc_dT.deep w⟩
end
end Hq
namespace Hq
open PySem L2
section
variable {K : PySem.W.Frag} {E : Ent} {F H : Hp} {M M1 M2 : Ms} {Γ : Gm} {P P1 : MP} {O : MO} {q : Addr} {te ta tb tl tk : TE} {tr : TA} {D1 : Ends} {tu tz : TS} {t u : TT} {ps qs : List MP} {i j v : Nat} {l : List Int} {b : Bool}
/-- an own list is given away; that it is a list in the heap itself stays known -/
theorem nx_freezeFr {f} (j : Nat) (e : M[j]? = some (q, O)) (hq : E.H q = none) (hg : Γ[i]? = some (some (Own q))) (h : Nx E (Γ.set i (some (Fr O))) (M.eraseIdx j) f) : Nx E Γ M f := by
  rintro σ H ⟨F, a, b⟩
  obtain ⟨fq, o, ho, hO⟩ := a.at e
  have ex : Ex F (upd F q o) := Evl.Ex.new fq
  exact h σ H ⟨_, a.freeze e hq ho, (b.mono ex).upd hg fun v hv => ⟨q, o, hv, upd_same, O.mono ex hO⟩⟩
theorem evn_catFr (h1 : Ev ta Γ M (Fr (ML ps)) M1) (h2 : Ev tb Γ M1 (Fr (ML qs)) M2) (hz : ps.length + qs.length ≤ 100000) : EvN (tOp rCat ta tb) Γ M (ML (ps ++ qs)) M2 := fun E F σ H a b Q k =>
  h1 E F σ H a b _ fun x F1 H1 e1 g1 p1 => h2 E F1 σ H1 g1 (b.mono e1) _ fun y F2 H2 e2 g2 p2 => by
    obtain ⟨p, _, rfl, hp, vs, rfl, s⟩ := (Fr (ML ps)).mono e2 p1
    obtain ⟨p', _, rfl, hp', ws, rfl, s'⟩ := p2
    exact ⟨p, p', vs, ws, rfl, rfl, g2.ex _ _ hp, g2.ex _ _ hp', sz_of (by rw [paired_len s, paired_len s']; exact hz), fun r hr => k r F2 _ (g2.fresh hr) (e1.trans e2) (g2.new hr ⟨_, rfl, paired_app s s'⟩)⟩
/-- a loop over a list that is only known by something -/
theorem go_forLX {α : Type} {φ : α → Prop} {pz : α → List MP} (h : Ev tl Γ M (PEx fun x => PAn (φ x) (PLi K (pz x))) M1) (J : α → Nat → Gm → Ms → Prop) (h0 : ∀ x, φ x → J x 0 Γ M1)
    (hs : ∀ x, φ x → ∀ E', Le E' E → ∀ n P, (pz x)[n]? = some P → ∀ Γ' M', J x n Γ' M' → Nx E' (Γ'.set i (some P)) M' (tu { D1 with nx := JA E' (J x (n + 1)), ct := JA E' (J x (n + 1)), bk := D1.nx }))
    (hd : ∀ x, φ x → ∀ Γ' M', J x (pz x).length Γ' M' → Nx E Γ' M' D1.nx) : Nx E Γ M (tFor (iList K tl) (gName i) tu D1) := fun σ H ⟨F, a, b⟩ => h E F σ H a b _ fun v F1 H1 e1 g1 ⟨x, hx, p, vs, hp, s, q⟩ => by
  refine ⟨p, hp, ⟨vs, Evl.ex_l g1.ex s⟩, for_list (xs := vs) (fun n σ H => JA ⟨F1, H1, keys M1⟩ (J x n) σ H) ⟨Γ, M1, h0 x hx, F1, g1.enter, b.mono e1⟩ (fun n σ2 H2 _ ⟨Γ', M', _, F2, g2, _⟩ => Evl.ex_l (g2.gr.ex.trans g2.ex) s)
    (fun n y σ2 H2 hy ⟨Γ', M', hJ, F2, g2, b2⟩ => ?_) (fun σ2 H2 hJ => ?_)⟩
  · obtain ⟨P, hP, hy2⟩ := paired_get' q hy
    exact hs x hx ⟨F1, H1, keys M1⟩ g1.le n P hP Γ' M' hJ _ _ ⟨F2, g2, b2.set i (P.mono g2.gr.ex hy2)⟩
  · rw [paired_len q] at hJ
    obtain ⟨Γ', M', hJ, at2⟩ := hJ
    exact hd x hx Γ' M' hJ _ _ (at2.le g1.le)
theorem q_forLX {α : Type} {φ : α → Prop} {pz : α → List MP} (h : Ev tl Γ M (PEx fun x => PAn (φ x) (PLi K (pz x))) M1) (J : α → Nat → Gm → Ms → Prop) (h0 : ∀ x, φ x → J x 0 Γ M1)
    (hs : ∀ x, φ x → ∀ E', Le E' E → ∀ n P, (pz x)[n]? = some P → ∀ Γ' M', J x n Γ' M' → Nx E' (Γ'.set i (some P)) M' (tu { D1 with nx := JA E' (J x (n + 1)), ct := JA E' (J x (n + 1)), bk := tz D1 }))
    (hd : ∀ x, φ x → ∀ Γ' M', J x (pz x).length Γ' M' → Nx E Γ' M' (tz D1)) : Nx E Γ M (tSeq (tFor (iList K tl) (gName i) tu) tz D1) := go_forLX (D1 := { D1 with nx := tz D1 }) h J h0 hs hd
/-- sorted(set(xs)), as something that stands -/
theorem ev_sorts {w : World} {ns : List Int} (h : Ev te Γ M (PLi K (ns.map fun n => D K (.int n))) M1) (hn : ns.length < 63) :
    Ev (tCB (rSortedSet w) (tCons (tCB (rSetI K w) (tCons te tNil)) tNil)) Γ M (PEx fun ns' : List Int => PAn (ns'.Pairwise (· < ·) ∧ ∀ k, k ∈ ns' ↔ k ∈ ns) (PLi K (ns'.map fun n => D K (.int n)))) M1 :=
  (ev_fr (evn_sortedSet h pli_ints hn)).weak (MP.le_trans fr_X (PEx.le fun _ => MP.le_trans fr_A (PAn.le fun _ => fr_L (K := K))))
theorem ptu_ints {ns : List Int} : ∀ E F H v, Pt E F M1 H → (PTu K (ns.map fun n => D K (.int n))).p F v → ∃ a, v = .ref a ∧ (SqL K H a (ns.map V.int) ∨ SqT K H a (ns.map V.int)) := fun E F H v g ⟨a, vs, e, s, p⟩ => by
  have es := ints_map p
  subst es
  exact ⟨a, e, .inr (Evl.ex_t g.ex s)⟩
theorem ev_sortsT {w : World} {ns : List Int} (h : Ev te Γ M (PTu K (ns.map fun n => D K (.int n))) M1) (hn : ns.length < 63) :
    Ev (tCB (rSortedSet w) (tCons (tCB (rSetI K w) (tCons te tNil)) tNil)) Γ M (PEx fun ns' : List Int => PAn (ns'.Pairwise (· < ·) ∧ ∀ k, k ∈ ns' ↔ k ∈ ns) (PLi K (ns'.map fun n => D K (.int n)))) M1 :=
  (ev_fr (evn_sortedSet h ptu_ints hn)).weak (MP.le_trans fr_X (PEx.le fun _ => MP.le_trans fr_A (PAn.le fun _ => fr_L (K := K))))
theorem ps_split {F : Hp} : ∀ {qs rs : List MP} {vs : List V}, Ps F vs (qs ++ rs) → ∃ us ws, vs = us ++ ws ∧ Ps F us qs ∧ Ps F ws rs
  | [], rs, vs, h => ⟨[], vs, rfl, .nil, h⟩
  | q :: qs, rs, _, .cons a t => by
    obtain ⟨us, ws, e, h1, h2⟩ := ps_split t
    exact ⟨_ :: us, ws, by rw [e]; rfl, .cons a h1, h2⟩
theorem RC.exm {α : Type} {rc : List V → Hp → VK → Prop} {R : α → MP} {M' : Ms} {rs : List MP} (h : ∀ x, RC rc (qs ++ R x :: rs) M P M') : RC rc (qs ++ PEx R :: rs) M P M' := fun E F H vs a p Q k => by
  obtain ⟨us, ws, rfl, h1, h2⟩ := ps_split p
  cases h2 with
  | cons b t => obtain ⟨x, b⟩ := b; exact h x E F H _ a (paired_app h1 (.cons b t)) Q k
theorem RC.anm {φ : Prop} {rc : List V → Hp → VK → Prop} {R : MP} {M' : Ms} {rs : List MP} (h : φ → RC rc (qs ++ R :: rs) M P M') : RC rc (qs ++ PAn φ R :: rs) M P M' := fun E F H vs a p Q k => by
  obtain ⟨us, ws, rfl, h1, h2⟩ := ps_split p
  cases h2 with
  | cons b t => exact h b.1 E F H _ a (paired_app h1 (.cons b.2 t)) Q k
end
end Hq
namespace Hq
open PySem L2
/-! ### min(xs) of tuples of ints: where the first is a least one -/
section
open PySem.W
theorem min_at {prog : Program} {w : World} {A : Around} {E : Value → Shared → Prop} {s : Shared} {l : Addr} {vs : Array Value} {x : PyData} {xs : List PyData} {as : List Addr} {Q : Value → Shared → Prop} (hh : A.handled = none) (hl : s.heap.IsList l vs) (hr : ReadsAll s.heap vs.toList (x :: xs) as) (ha : AlikeAll (x :: xs)) (hu : A.units + 1 + PyData.depthAll (x :: xs) < cLine)
    (h : ∀ (i : Nat) v h' tk, vs[i]? = some v → (x :: xs).getD i .none = minD x xs → (∀ b o, s.heap.get? b = some o → h'.get? b = some o) → Q v { s with heap := h', toks := tk }) :
    wpAny (model prog w) A (call (.builtin "min") [.ref l]) Q E s := by
  have hn : vs.size = xs.length + 1 := readsAll_len hr
  refine call_min_walkH (iter_listW (A := A.in1) hh hl fun s₂ e W st hfp hw hk => ?_)
  refine ⟨_, _, _, _, _, _, _, s.heap, _, rfl, W, st, hfp, by omega, hw, hk, cmpIn_lt (A := A.in1) hr ha (by show A.units + 1 + _ < _; exact hu), fun v s' hP m => ?_⟩
  obtain ⟨h', tk, rfl, hk'⟩ := moved_old e rfl m
  have e1 : vs.size - 1 = xs.length := by omega
  have e2 := (argBest_fold dataLt PyData.none x xs xs.length (Nat.le_refl _)).2
  rw [List.take_length] at e2
  refine h _ v h' tk hP ?_ hk'
  unfold minD
  rw [e1, ← e2]
end
def rMinD (K : PySem.W.Frag) : List V → Hp → VK → Prop := fun vs H Q => ∃ (a : Addr) (xs : List V) (l0 : List Int) (L : List (List Int)), vs = [.ref a] ∧ SqL K H a xs ∧ Paired (fun x l => Dp K H x (dT l)) xs (l0 :: L) ∧ (∀ l ∈ L, ¬ l < l0) ∧ ∀ (i : Nat) (x : V), xs[i]? = some x → (l0 :: L)[i]? = some l0 → Q x H
theorem each_reads {X : Cx} {pn : List (Addr × Obj)} {sg : St} {H : Hp} {st : Shared} (I : Inv X pn sg H st) : ∀ {xs : List V} {its : List Value} {L : List (List Int)}, Vals xs its → Paired (fun x l => Dp X.K H x (dT l)) xs L → ∃ as, ReadsAll st.heap its (L.map dT) as
  | _, _, _, .nil, .nil => ⟨_, .nil⟩
  | _, _, _, .cons a t, .cons b u => by
    obtain ⟨as, r⟩ := Dp.reads I _ _ _ b a
    obtain ⟨bs, rs⟩ := each_reads I t u
    exact ⟨_, .cons r rs⟩
theorem vals_at {xs : List V} {its : List Value} (r : Vals xs its) : ∀ {i : Nat} {v : Value}, its[i]? = some v → ∃ x, xs[i]? = some x ∧ RelV x v := by
  induction r with
  | nil => intro i v h; simp at h
  | cons a t ih =>
    intro i v h
    cases i with
    | zero => exact ⟨_, rfl, by have := Option.some.inj (show some _ = some v from h); rw [← this]; exact a⟩
    | succ i => exact ih (i := i) (by simpa using h)
open PySem.W in
theorem ints_inj : ∀ {l m : List Int}, l.map PyData.int = m.map PyData.int → l = m
  | [], [], _ => rfl
  | [], _ :: _, h => by simp at h
  | _ :: _, [], h => by simp at h
  | a :: l, b :: m, h => by
    rw [List.map_cons, List.map_cons, List.cons.injEq] at h
    cases h.1
    rw [ints_inj h.2]
theorem dT_inj {l m : List Int} (h : dT l = dT m) : l = m := ints_inj (PyData.tuple.inj (show PyData.tuple (l.map .int) = PyData.tuple (m.map .int) from h))
open PySem.W in
theorem min_head {l0 : List Int} {L : List (List Int)} (h : ∀ l ∈ L, ¬ l < l0) : PySem.W.minD (dT l0) (L.map dT) = dT l0 := by
  unfold PySem.W.minD
  induction L with
  | nil => rfl
  | cons l L ih =>
    have e : dataLt (dT l) (dT l0) = false := by
      show dataLt (.tuple (l.map .int)) (.tuple (l0.map .int)) = false
      rw [dataLt_tuple]
      show rowLt (l.map .int) (l0.map .int) = false
      rw [dataLt_ints]
      simpa using h l List.mem_cons_self
    rw [List.map_cons, List.foldl_cons, e, if_neg (by simp)]
    exact ih fun m hm => h m (List.mem_cons_of_mem _ hm)
theorem deep_all {L : List (List Int)} : PyData.depthAll (L.map dT) ≤ 2 := by
  induction L with
  | nil => exact Nat.zero_le _
  | cons l L ih => exact Nat.max_le.mpr ⟨enc_dT.deep l, ih⟩
theorem cr_minD {X : Cx} (hc : X.calm = true) (hu : X.A.units + 64 < cLine) : CallR X (.builtin "min") (rMinD X.K) := by
  intro pn st sg H vs us Q I r h
  obtain ⟨a, xs, l0, L, rfl, hs, hp, hm, q⟩ := h
  obtain ⟨its, rv, hl, hz⟩ := I.list hs
  rw [Vals.ref1 r]
  obtain ⟨as, hr⟩ := each_reads I rv hp
  refine min_at (x := dT l0) (xs := L.map dT) (I.ok.hd hc) hl.isList (by simpa using hr) ⟨fun x hx y hy => ?_, fun x hx => ?_⟩ (by have := deep_all (L := l0 :: L); rw [List.map_cons] at this; omega) fun i v h' tk hv hd hk => ?_
  · have hx : x ∈ (l0 :: L).map dT := hx
    have hy : y ∈ (l0 :: L).map dT := hy
    obtain ⟨l, _, rfl⟩ := List.mem_map.mp hx
    obtain ⟨m, _, rfl⟩ := List.mem_map.mp hy
    show PySem.W.alike (.tuple _) (.tuple _) = true
    simp only [PySem.W.alike]
    exact PySem.W.alike_ints _ _
  · have hx : x ∈ (l0 :: L).map dT := hx
    obtain ⟨l, _, rfl⟩ := List.mem_map.mp hx
    exact fun z => by cases z
  · obtain ⟨x, hx, rx⟩ := vals_at rv (i := i) (by simpa using hv)
    have hi : i < (l0 :: L).length := by
      rw [← paired_len hp]
      exact (List.getElem?_eq_some_iff.mp hx).1
    rw [min_head hm] at hd
    have e : (l0 :: L)[i]? = some l0 := by
      rw [List.getElem?_eq_getElem hi]
      congr 1
      have e2 : ((l0 :: L).map dT).getD i .none = dT l0 := hd
      rw [List.getD_eq_getElem?_getD, List.getElem?_map, List.getElem?_eq_getElem hi] at e2
      exact dT_inj e2
    exact ⟨x, H, I.kept hk, rx, q i x hx e⟩
theorem c_minD {K : PySem.W.Frag} {Y : Cx} (e : Y.K = K) (hc : Y.calm = true) (hu : Y.A.units + 64 < cLine) : CallR Y (.builtin "min") (rMinD K) := e ▸ cr_minD hc hu
section
variable {K : PySem.W.Frag} {E : Ent} {F H : Hp} {M M1 M2 : Ms} {Γ : Gm} {P : MP} {O : MO} {q : Addr} {te ta tb tl tl1 : TE} {tr : TA} {D1 : Ends} {tu tz : TS} {t t0 u : TT} {ps : List MP} {i j : Nat}
theorem paired_dps {H : Hp} (x : Ex F H) : ∀ {ws : List V} {L : List (List Int)}, Ps F ws (L.map fun l => D K (dT l)) → Paired (fun x l => Dp K H x (dT l)) ws L
  | [], [], _ => .nil
  | _ :: _, [], h => by cases h
  | [], _ :: _, h => by cases h
  | w :: ws, l :: L, h => by
    cases h with
    | cons a t => exact .cons (Dp.mono x a) (paired_dps x t)
theorem rc_minD {l0 : List Int} {L : List (List Int)} (h : ∀ l ∈ L, ¬ l < l0) : RC (rMinD K) [PLi K ((l0 :: L).map fun l => D K (dT l))] M (D K (dT l0)) M := fun E F H vs a p Q k => by
  obtain ⟨v, rfl, b, ws, rfl, s, p⟩ := ps1 p
  refine ⟨b, ws, l0, L, rfl, Evl.ex_l a.ex s, paired_dps a.ex p, h, fun i x hx hl => ?_⟩
  obtain ⟨P, hP, hx2⟩ := paired_get' p hx
  rw [List.getElem?_map, hl] at hP
  have hP : D K (dT l0) = P := Option.some.inj hP
  subst hP
  exact k _ F H (Evl.Ex.refl _) a hx2
/-! ### a comprehension with two generators -/
theorem flat_len {α β γ : Type} {ys : List β} {f : α → β → Bool} {G : α → β → γ} : ∀ {xs : List α}, (xs.flatMap fun x => (ys.filter (f x)).map (G x)).length ≤ xs.length * ys.length
  | [] => Nat.zero_le _
  | x :: xs => by
    rw [List.flatMap_cons, List.length_append, List.length_map, List.length_cons, Nat.succ_mul]
    have h1 := List.length_filter_le (f x) ys
    have h2 := flat_len (ys := ys) (f := f) (G := G) (xs := xs)
    omega
theorem wipe_out {σ : St} {x : V} (h : i ≠ j) : wipe ((wipe σ [i, j]).set i (some x)) [i, j] = wipe σ [i, j] := by
  show ((((σ.set j none).set i none).set i (some x)).set j none).set i none = (σ.set j none).set i none
  apply List.ext_getElem?
  intro k
  simp only [List.getElem?_set, List.length_set]
  by_cases h1 : j = k <;> by_cases h2 : i = k <;> simp [h1, h2]
theorem evn_lc2 {α β : Type} {xs : List α} {ys : List β} {R : α → MP} {S : β → MP} {G : α → β → MP} (f : α → β → Bool) (hij : i ≠ j)
    (h : Ev tl Γ M (PLi K (xs.map R)) M1) (hz : xs.length * ys.length ≤ 50000) (hy : ys.length ≤ 40000)
    (h0 : ∀ x ∈ xs, ∀ M, EvT t0 (((Γ.set j none).set i none).set i (some (R x))) M (· = true) M)
    (h1 : ∀ x ∈ xs, ∀ M, Ev tl1 (((Γ.set j none).set i none).set i (some (R x))) M (PLi K (ys.map S)) M)
    (ht : ∀ x ∈ xs, ∀ y ∈ ys, EvT t (((((Γ.set j none).set i none).set i (some (R x))).set j none).set j (some (S y))) M1 (· = f x y) M1)
    (he : ∀ x ∈ xs, ∀ y ∈ ys, f x y = true → Ev te (((((Γ.set j none).set i none).set i (some (R x))).set j none).set j (some (S y))) M1 (G x y) M1) :
    EvN (tLc2 (iList K tl) (gName i) t0 (iList K tl1) (gName j) t te [i, j] [j]) Γ M (ML (xs.flatMap fun x => (ys.filter (f x)).map (G x))) M1 := fun E F σ H a b Q k => h E F σ H a b _ fun v F1 H1 e1 g1 ⟨p, vs, hp, s, q⟩ => by
  refine ⟨p, hp, ⟨vs, Evl.ex_l g1.ex s⟩, fun D2 hD => ?_⟩
  have hl : vs.length = xs.length := by have := paired_len q; rwa [List.length_map] at this
  have gn : Pt ⟨F1, H1, keys M1⟩ F1 ((D2, ML []) :: M1) (upd H1 D2 (.lst [])) := g1.enter.new hD ⟨[], rfl, .nil⟩
  refine ⟨fun n m H' => m = xs.length - n ∧ n ≤ xs.length ∧ ∃ F', Pt ⟨F1, H1, keys M1⟩ F' ((D2, ML ((xs.take n).flatMap fun x => (ys.filter (f x)).map (G x))) :: M1) H', ⟨_, rfl, Nat.zero_le _, F1, gn⟩, ?_⟩
  rintro n m H2 ⟨rfl, hn, F2, g2⟩
  have sl2 : SqL K H2 p vs := Evl.ex_l (g2.gr.ex.trans g2.ex) s
  rcases Nat.lt_or_ge n xs.length with hlt | hge
  case inr =>
    refine .inl ⟨⟨vs, sl2, by omega⟩, ?_⟩
    rw [List.take_of_length_le (by omega)] at g2
    exact k D2 F2 H2 (g1.fresh hD) (e1.trans g2.gr.ex) (g1.back g2)
  refine .inr ⟨⟨vs, vs[n], sl2, List.getElem?_eq_getElem (by omega)⟩, fun H' => n + 1 ≤ xs.length ∧ ∃ F', Pt ⟨F1, H1, keys M1⟩ F' ((D2, ML ((xs.take (n + 1)).flatMap fun x => (ys.filter (f x)).map (G x))) :: M1) H', fun H' ⟨c1, c2⟩ => ⟨_, by omega, rfl, c1, c2⟩, fun x H' y => ?_⟩
  obtain ⟨rfl, y⟩ := y
  have hx := y vs sl2
  obtain ⟨P, hP, hx2⟩ := paired_get' q hx
  have hxn : xs[n]? = some xs[n] := List.getElem?_eq_getElem hlt
  rw [List.getElem?_map, hxn] at hP
  have hP : R xs[n] = P := Option.some.inj hP
  subst hP
  have tk : xs.take (n + 1) = xs.take n ++ [xs[n]] := by rw [List.take_add_one, hxn]; rfl
  have tl : (xs.take n).length = n := by rw [List.length_take]; omega
  rw [tk]
  have xm := List.mem_of_getElem? hxn
  generalize xs[n] = z at *
  have b2 : EnvOk F2 ((wipe σ [i, j]).set i (some x)) (((Γ.set j none).set i none).set i (some (R z))) := (env_wipe2 (b.mono (e1.trans g2.gr.ex))).set i ((R z).mono g2.gr.ex hx2)
  refine ⟨wipe_out hij, ?_⟩
  refine h0 z xm _ _ F2 _ _ g2 b2 _ fun c F3 H3 e3 g3 hc => ?_
  have hc : c = true := hc
  subst hc
  rw [if_pos rfl]
  refine h1 z xm _ _ F3 _ H3 g3 (b2.mono e3) _ fun v1 F4 H4 e4 g4 ⟨p1, hp1q⟩ => ?_
  obtain ⟨vs1, hp1, s1, q1⟩ := hp1q
  have hl1 : vs1.length = ys.length := by have := paired_len q1; rwa [List.length_map] at this
  have b4 := b2.mono (e3.trans e4)
  refine ⟨p1, hp1, ⟨vs1, Evl.ex_l g4.ex s1⟩, ?_⟩
  have e14 : Ex F1 F4 := g4.gr.ex
  refine ⟨fun m k H' => k = ys.length - m ∧ m ≤ ys.length ∧ ∃ F', Ex F4 F' ∧ Pt ⟨F1, H1, keys M1⟩ F' ((D2, ML (((xs.take n).flatMap fun x => (ys.filter (f x)).map (G x)) ++ ((ys.take m).filter (f z)).map (G z))) :: M1) H', ⟨_, rfl, Nat.zero_le _, F4, Evl.Ex.refl _, by simpa using g4⟩, ?_⟩
  rintro m k2 H5 ⟨rfl, hm, F5, e5, g5⟩
  have sl5 : SqL K H5 p1 vs1 := Evl.ex_l (e5.trans g5.ex) s1
  rcases Nat.lt_or_ge m ys.length with hlt2 | hge2
  case inr =>
    refine .inl ⟨⟨vs1, sl5, by omega⟩, hlt, F5, ?_⟩
    rw [List.take_of_length_le hge2] at g5
    rw [List.flatMap_append, List.flatMap_singleton]
    exact g5
  refine .inr ⟨⟨vs1, vs1[m], sl5, List.getElem?_eq_getElem (by omega)⟩, fun H' => ∃ F', Ex F4 F' ∧ Pt ⟨F1, H1, keys M1⟩ F' ((D2, ML (((xs.take n).flatMap fun x => (ys.filter (f x)).map (G x)) ++ ((ys.take (m + 1)).filter (f z)).map (G z))) :: M1) H', fun H' c => ⟨_, by omega, rfl, hlt2, c⟩, fun x2 H' y2 => ?_⟩
  obtain ⟨e, y2⟩ := y2
  subst e
  have hx5 := y2 vs1 sl5
  obtain ⟨P, hP, hx6⟩ := paired_get' q1 hx5
  have hym : ys[m]? = some ys[m] := List.getElem?_eq_getElem hlt2
  rw [List.getElem?_map, hym] at hP
  have hP : S ys[m] = P := Option.some.inj hP
  subst hP
  have tk2 := take_filter ys (f z) m ys[m] hym
  have ym := List.mem_of_getElem? hym
  generalize ys[m] = y at *
  refine ⟨wipe_one, ?_⟩
  refine lc_turn g5 ((env_wipe (b4.mono e5)).set j ((S y).mono e5 hx6)) (ht z xm y ym) (he z xm y ym) ?_ _ fun F6 H6 e6 g6 => ⟨F6, e5.trans e6, ?_⟩
  · have l1 := flat_len (ys := ys) (f := f) (G := G) (xs := xs.take n)
    rw [tl] at l1
    have l2 : n * ys.length ≤ xs.length * ys.length := Nat.mul_le_mul_right _ hn
    have l3 := List.length_filter_le (f z) (ys.take m)
    rw [List.length_append, List.length_map]
    rw [List.length_take] at l3
    omega
  · rw [tk2, List.map_append, ← List.append_assoc]
    cases hf : f z y
    · rw [hf] at g6; simpa using g6
    · rw [hf] at g6; simpa using g6
theorem ev_str {x : Str} : Ev (tC (.str x)) Γ M (D K (.str x)) M := ev_cv fun _ => .str x
theorem le_ev {es : List Nat} : (D K (dL (es.map fun n : Nat => (n : Int)))).le (PLi K (es.map fun n : Nat => D K (.int (n : Int)))) := by
  have := le_dL (K := K) (l := es.map fun n : Nat => (n : Int))
  rw [List.map_map] at this
  exact this
theorem rv_catP {ps qs : List MP} (h : ps.length + qs.length ≤ 100000) (hp : ps ≠ []) (hq : qs ≠ []) : RV (rCatA K) (PTu K ps) (PTu K qs) M (PTu K (ps ++ qs)) M := fun E F H x y g p1 p2 Q k => by
  obtain ⟨p, vs, rfl, s, q⟩ := p1
  obtain ⟨p', vs', rfl, s', q'⟩ := p2
  have l1 := paired_len q; have l2 := paired_len q'
  refine ⟨p, p', _, _, rfl, rfl, Evl.ex_t g.ex s, Evl.ex_t g.ex s', sz_of (by omega), fun e => ?_, fun _ e => ?_, fun _ _ r hr => ?_⟩
  · exact absurd (List.eq_nil_of_length_eq_zero (by rw [← l1, e]; rfl)) hp
  · exact absurd (List.eq_nil_of_length_eq_zero (by rw [← l2, e]; rfl)) hq
  · have ex := Evl.Ex.new (Evl.fresh_back g.ex hr) (o := .tup (vs ++ vs'))
    exact k _ _ _ ex (g.laid hr) ⟨r, _, rfl, SqT.of upd_same, paired_app (Ps.mono ex q) (Ps.mono ex q')⟩
theorem eqv_tag {s : Str} {l : List PyData} (h : PyData.eqvAll l l = true) : PyData.eqv (.tuple (.str s :: l)) (.tuple (.str s :: l)) = true := by
  simp [PyData.eqv, PyData.eqvAll, h]
theorem eqv_m {s : Str} {w : List Int} : PyData.eqv (.tuple [.str s, dT w]) (.tuple [.str s, dT w]) = true := eqv_tag (by
  have := enc_dT.eq w w
  simp [PyData.eqvAll, this])
theorem eqv_c {s : Str} {l : List Int} : PyData.eqv (.tuple (.str s :: l.map .int)) (.tuple (.str s :: l.map .int)) = true := eqv_tag (by rw [eqvAll_map enc_int]; simp)
theorem shaped_m {s : Str} (hs : PyData.strOk s = true) {w : List Int} : SeqAt.shaped (.tuple [.str s, dT w]) = true := by
  have h1 := enc_dT.lay w
  have h2 := enc_dT.deep w
  unfold SeqAt.shaped
  simp [PyData.canLay0, PyData.canLayAll0, h1, PyData.depth, PyData.depthAll, hs]
  omega
theorem shaped_c {s : Str} (hs : PyData.strOk s = true) {i j : Int} : SeqAt.shaped (.tuple [.str s, .int i, .int j]) = true := by
  unfold SeqAt.shaped
  simp [PyData.canLay0, PyData.canLayAll0, PyData.depth, PyData.depthAll, hs]
end
end Hq
namespace Hq
open PySem L2
/-! ### objects with all their fields known, and their methods -/
def FieldsOk (F : Hp) (fs : List (Str × V)) (fps : List (Str × MP)) : Prop := Paired (fun (x : Str × V) (g : Str × MP) => x.1 = g.1 ∧ g.2.p F x.2) fs fps
def MOb (C : Addr) (fps : List (Str × MP)) : MO := ⟨fun F o => ∃ dx fs, o = .ins C dx fs ∧ FieldsOk F fs fps, fun e ⟨dx, fs, h, p⟩ => ⟨dx, fs, h, Paired.mapP p fun _ g q => ⟨q.1, g.2.mono e q.2⟩⟩, fun ⟨dx, fs, h, _⟩ xs z => by rw [h] at z; cases z⟩
section
variable {K : PySem.W.Frag} {E : Ent} {F H : Hp} {M M1 M2 : Ms} {Γ : Gm} {P P' P1 : MP} {O O' : MO} {q C : Addr} {te ta tb tl tk : TE} {tr : TA} {D1 : Ends} {tu tz : TS} {ps qs : List MP} {i j v : Nat} {fps : List (Str × MP)} {f m : Str} {sp : Sp} {X : XK}
theorem fo_look : ∀ {fs : List (Str × V)} {fps : List (Str × MP)} {i : Nat}, FieldsOk F fs fps → fps[i]? = some (f, P) → (∀ g ∈ fps.take i, g.1 ≠ f) → ∃ x, fs.lookup f = some x ∧ P.p F x
  | _, _, _, .nil, h, _ => by simp at h
  | (n, x) :: fs, g :: fps, 0, .cons a _, h, _ => by
    have h : g = (f, P) := by simpa using h
    subst h
    have e : n = f := a.1
    subst e
    exact ⟨x, by simp [List.lookup], a.2⟩
  | (n, x) :: fs, g :: fps, i + 1, .cons a t, h, hn => by
    obtain ⟨y, hy, py⟩ := fo_look (i := i) t h fun g' hg => hn g' (by rw [List.take_succ_cons]; exact List.mem_cons_of_mem _ hg)
    have ne : g.1 ≠ f := hn g (by rw [List.take_succ_cons]; exact List.mem_cons_self)
    have e : n = g.1 := a.1
    refine ⟨y, ?_, py⟩
    have : (f == n) = false := by rw [beq_eq_false_iff_ne]; rw [e]; exact fun z => ne z.symm
    simp only [List.lookup, this]
    exact hy
theorem fo_none : ∀ {fs : List (Str × V)} {fps : List (Str × MP)}, FieldsOk F fs fps → (∀ g ∈ fps, g.1 ≠ f) → fs.lookup f = none
  | _, _, .nil, _ => rfl
  | (n, x) :: fs, g :: fps, .cons a t, hn => by
    have ne : g.1 ≠ f := hn g List.mem_cons_self
    have e : n = g.1 := a.1
    have : (f == n) = false := by rw [beq_eq_false_iff_ne]; rw [e]; exact fun z => ne z.symm
    simp only [List.lookup, this]
    exact fo_none t fun g' hg => hn g' (List.mem_cons_of_mem _ hg)
theorem fo_new {x : V} : ∀ {fs : List (Str × V)} {fps : List (Str × MP)}, FieldsOk F fs fps → (∀ g ∈ fps, g.1 ≠ f) → P.p F x → FieldsOk F (putF f x fs) (fps ++ [(f, P)])
  | _, _, .nil, _, h => .cons ⟨rfl, h⟩ .nil
  | (n, y) :: fs, g :: fps, .cons a t, hn, h => by
    have ne : g.1 ≠ f := hn g List.mem_cons_self
    have e : n = g.1 := a.1
    unfold putF
    rw [if_neg (by rw [e]; exact ne)]
    exact .cons a (fo_new t (fun g' hg => hn g' (List.mem_cons_of_mem _ hg)) h)
theorem fo_set {x : V} : ∀ {fs : List (Str × V)} {fps : List (Str × MP)} {i : Nat}, FieldsOk F fs fps → fps[i]? = some (f, P) → (∀ g ∈ fps.take i, g.1 ≠ f) → P'.p F x → FieldsOk F (putF f x fs) (fps.set i (f, P'))
  | _, _, _, .nil, h, _, _ => by simp at h
  | (n, y) :: fs, g :: fps, 0, .cons a t, h, _, hp => by
    have h : g = (f, P) := by simpa using h
    subst h
    have e : n = f := a.1
    unfold putF
    rw [if_pos e]
    exact .cons ⟨a.1, hp⟩ t
  | (n, y) :: fs, g :: fps, i + 1, .cons a t, h, hn, hp => by
    have ne : g.1 ≠ f := hn g (by rw [List.take_succ_cons]; exact List.mem_cons_self)
    have e : n = g.1 := a.1
    unfold putF
    rw [if_neg (by rw [e]; exact ne)]
    exact .cons a (fo_set (i := i) t h (fun g' hg => hn g' (by rw [List.take_succ_cons]; exact List.mem_cons_of_mem _ hg)) hp)
/-- self.f, of an own object -/
theorem ev_fldO (ho : Ev ta Γ M (Own q) M1) (e : M1[j]? = some (q, MOb C fps)) (i : Nat) (hi : fps[i]? = some (f, P)) (hn : ∀ g ∈ fps.take i, g.1 ≠ f) (hc : Cls K C) (ha : NoAttr K C f) : Ev (tFld K ta f) Γ M P M1 := fun E F σ H a b Q k => ho E F σ H a b _ fun v F1 H1 e1 g1 p1 => by
  have p1 : v = .ref q := p1
  subst p1
  obtain ⟨_, o, ho2, dx, fs, rfl, h⟩ := g1.at e
  obtain ⟨x, hx, px⟩ := fo_look h hi hn
  exact ⟨q, C, dx, fs, x, rfl, ho2, hc, ha, hx, k x F1 H1 e1 g1 px⟩
/-- x.f, of an object that stands -/
theorem ev_fldS (ho : Ev ta Γ M (Fr (MOb C fps)) M1) (i : Nat) (hi : fps[i]? = some (f, P)) (hn : ∀ g ∈ fps.take i, g.1 ≠ f) (hc : Cls K C) (ha : NoAttr K C f) : Ev (tFld K ta f) Γ M P M1 := fun E F σ H a b Q k => ho E F σ H a b _ fun v F1 H1 e1 g1 ⟨q, o, hv, hq, dx, fs, ho, h⟩ => by
  subst hv; subst ho
  obtain ⟨x, hx, px⟩ := fo_look h hi hn
  exact ⟨q, C, dx, fs, x, rfl, g1.ex _ _ hq, hc, ha, hx, k x F1 H1 e1 g1 px⟩
theorem fo_len {fs : List (Str × V)} (h : FieldsOk F fs fps) : fs.length = fps.length := paired_len h
/-- self.f = e, a new field -/
theorem go_fldN (hv : Ev tb Γ M P M1) (ho : Ev ta Γ M1 (Own q) M1) (e : M1[j]? = some (q, MOb C fps)) (hz : fps.length < 99) (hf : ∀ g ∈ fps, g.1 ≠ f) (hc : Cls K C) (hn : NoAttr K C f) (k : Nx E Γ (M1.set j (q, MOb C (fps ++ [(f, P)]))) D1.nx) :
    Nx E Γ M (sFld K ta tb f D1) := fun σ H ⟨F, a, b⟩ => hv E F σ H a b _ fun y F1 H1 e1 g1 p1 => ho E F1 σ H1 g1 (b.mono e1) _ fun v F2 H2 e2 g2 p2 => by
  have p2 : v = .ref q := p2
  subst p2
  obtain ⟨_, o, ho1, dx, fs, rfl, h3⟩ := g2.at e
  have := fo_len h3
  exact ⟨q, C, dx, fs, rfl, ho1, hc, hn, by omega, k _ _ ⟨F2, g2.mut e ⟨dx, _, rfl, fo_new h3 hf (P.mono e2 p1)⟩, b.mono (e1.trans e2)⟩⟩
theorem q_fldN (hv : Ev tb Γ M P M1) (ho : Ev ta Γ M1 (Own q) M1) (e : M1[j]? = some (q, MOb C fps)) (hz : fps.length < 99) (hf : ∀ g ∈ fps, g.1 ≠ f) (hc : Cls K C) (hn : NoAttr K C f) (k : Nx E Γ (M1.set j (q, MOb C (fps ++ [(f, P)]))) (tz D1)) :
    Nx E Γ M (tSeq (sFld K ta tb f) tz D1) := go_fldN (D1 := { D1 with nx := tz D1 }) hv ho e hz hf hc hn k
/-- self.f = e, the field is there -/
theorem go_fldU (hv : Ev tb Γ M P' M1) (ho : Ev ta Γ M1 (Own q) M1) (e : M1[j]? = some (q, MOb C fps)) (hz : fps.length < 99) (i : Nat) (hi : fps[i]? = some (f, P)) (hf : ∀ g ∈ fps.take i, g.1 ≠ f) (hc : Cls K C) (hn : NoAttr K C f) (k : Nx E Γ (M1.set j (q, MOb C (fps.set i (f, P')))) D1.nx) :
    Nx E Γ M (sFld K ta tb f D1) := fun σ H ⟨F, a, b⟩ => hv E F σ H a b _ fun y F1 H1 e1 g1 p1 => ho E F1 σ H1 g1 (b.mono e1) _ fun v F2 H2 e2 g2 p2 => by
  have p2 : v = .ref q := p2
  subst p2
  obtain ⟨_, o, ho1, dx, fs, rfl, h3⟩ := g2.at e
  have := fo_len h3
  exact ⟨q, C, dx, fs, rfl, ho1, hc, hn, by omega, k _ _ ⟨F2, g2.mut e ⟨dx, _, rfl, fo_set h3 hi hf (P'.mono e2 p1)⟩, b.mono (e1.trans e2)⟩⟩
theorem q_fldU (hv : Ev tb Γ M P' M1) (ho : Ev ta Γ M1 (Own q) M1) (e : M1[j]? = some (q, MOb C fps)) (hz : fps.length < 99) (i : Nat) (hi : fps[i]? = some (f, P)) (hf : ∀ g ∈ fps.take i, g.1 ≠ f) (hc : Cls K C) (hn : NoAttr K C f) (k : Nx E Γ (M1.set j (q, MOb C (fps.set i (f, P')))) (tz D1)) :
    Nx E Γ M (tSeq (sFld K ta tb f) tz D1) := go_fldU (D1 := { D1 with nx := tz D1 }) hv ho e hz i hi hf hc hn k
/-- C(..) -/
theorem make0' (h : EvA tr Γ M ps M1) (hs : ∀ x vs H Q, Prom (Own x :: ps) [(x, MOb C [])] (D K .none) [(x, O)] vs H Q → sp vs H Q X) : EvN (tMake C sp [] X tr) Γ M O M1 := fun E F σ H a b Q k =>
  h E F σ H a b _ fun vs F1 H1 e1 a1 p1 => fun x dx hx hdx hne => by
    have hx2 : upd H1 dx (.own x) x = none := by rw [upd_ne hne.symm]; exact hx
    have g2 : Pt E F1 ((x, MOb C []) :: M1) (upd (upd H1 dx (.own x)) x (.ins C dx [])) := (a1.junk hdx).new hx2 ⟨dx, [], rfl, .nil⟩
    show sp (V.ref x :: (vs ++ [])) _ _ X
    rw [List.append_nil]
    refine hs x (.ref x :: vs) _ _ ⟨F1, ⟨g2.ex, by simp [keys], fun r hr => ?_⟩, .cons rfl p1, fun v F' H' g hv => ⟨dp_non hv, ?_⟩⟩
    · rw [List.mem_singleton.mp hr]; exact g2.wd.own _ List.mem_cons_self
    · refine k x F' H' (a1.fresh hx) (e1.trans g.gr.ex) (g2.frame g (fun z hz => ?_) rfl fun r hr => ?_)
      · rw [List.mem_singleton.mp hz]; exact List.mem_cons_self
      · rcases List.mem_cons.mp hr with z | z
        · rw [z]; exact .inr List.mem_cons_self
        · exact .inl ⟨fun w => (List.nodup_cons.mp (show (x :: keys M1).Nodup from g2.wd.nd)).1 (by rw [show x = r.1 from (List.mem_singleton.mp w).symm]; exact List.mem_map_of_mem (f := (·.1)) z), List.mem_cons_of_mem _ z⟩
/-- o.m(..), o an own object -/
theorem ev_methO (ho : Ev ta Γ M (Own q) M) (e0 : M[j]? = some (q, MOb C fps)) (hn : ∀ g ∈ fps, g.1 ≠ m) (h : EvA tr Γ M ps M) (hs : ∀ vs H Q, Prom (Own q :: ps) [(q, MOb C fps)] P [(q, O')] vs H Q → sp vs H Q X) : Ev (tMeth C m sp [] X ta tr) Γ M P (M.set j (q, O')) := fun E F σ H a b Q k => ho E F σ H a b _ fun v F1 H1 e1 g1 p1 => by
  have p1 : v = .ref q := p1
  subst p1
  obtain ⟨_, o, ho1, dx, fs, rfl, h3⟩ := g1.at e0
  refine ⟨q, dx, fs, rfl, ho1, fo_none h3 hn, ?_⟩
  refine h E F1 σ H1 g1 (b.mono e1) _ fun vs F2 H2 e2 g2 p2 => ?_
  have r := rc_prom1 (ps := Own q :: ps) (O' := O') (P := P) (sp := sp) (X := X) (dvs := []) e0 (fun vs H Q z => by rw [List.append_nil]; exact hs vs H Q z)
  have r2 := r E F2 H2 (V.ref q :: vs) g2 (.cons rfl p2) Q fun v F' H' e g p => k v F' H' ((e1.trans e2).trans e) g p
  exact r2
/-- o.m(..), o stands -/
theorem ev_methS (ho : Ev ta Γ M (Fr (MOb C fps)) M1) (hn : ∀ g ∈ fps, g.1 ≠ m) (h : EvA tr Γ M1 ps M2) (hs : ∀ vs H Q, Prom (Fr (MOb C fps) :: ps) [] P [] vs H Q → sp vs H Q X) : Ev (tMeth C m sp [] X ta tr) Γ M P M2 := fun E F σ H a b Q k => ho E F σ H a b _ fun v F1 H1 e1 g1 p1 => by
  obtain ⟨q, o, hv, hq, dx, fs, rfl, h3⟩ := id p1
  subst hv
  refine ⟨q, dx, fs, rfl, g1.ex _ _ hq, fo_none h3 hn, ?_⟩
  refine h E F1 σ H1 g1 (b.mono e1) _ fun vs F2 H2 e2 g2 p2 => ?_
  have r := rc_prom0 (M := M2) (ps := Fr (MOb C fps) :: ps) (P := P) (sp := sp) (X := X) (dvs := []) (fun vs H Q z => by rw [List.append_nil]; exact hs vs H Q z)
  exact r E F2 H2 (V.ref q :: vs) g2 (.cons ((Fr (MOb C fps)).mono e2 p1) p2) Q fun v F' H' e g p => k v F' H' ((e1.trans e2).trans e) g p
end
section
variable {K : PySem.W.Frag} {F : Hp}
theorem ps_nameD {β : Type} {φ : β → Int → Prop} : ∀ {l : List β} {vs : List V}, Ps F vs (l.map fun b => PEx fun m : Int => PAn (φ b m) (D K (.int m))) → ∃ ms : List Int, Paired (fun b m => φ b m) l ms ∧ Ps F vs (ms.map fun m => D K (.int m))
  | [], _, h => by cases h; exact ⟨[], .nil, .nil⟩
  | b :: l, _, h => by
    cases h with
    | cons a t =>
      obtain ⟨m, hm, p⟩ := a
      obtain ⟨ms, h1, h2⟩ := ps_nameD t
      exact ⟨m :: ms, .cons hm h1, .cons p h2⟩
/-- a list of numbers, each of which is only known by something -/
theorem ml_nameD {n : Nat} {φ : Nat → Int → Prop} : ∀ F o, (ML ((List.range n).map fun i => PEx fun m : Int => PAn (φ i m) (D K (.int m)))).p F o → (MX fun ms : List Int => MA (ms.length = n ∧ ∀ i, i < n → φ i (ms.getD i 0)) (MInts K ms)).p F o := fun F o ⟨vs, e, p⟩ => by
  obtain ⟨ms, h1, h2⟩ := ps_nameD p
  have hl := paired_len h1
  rw [List.length_range] at hl
  refine ⟨ms, ⟨hl.symm, fun i hi => ?_⟩, vs, e, h2⟩
  obtain ⟨m, hm, hp⟩ := paired_get' h1 (List.getElem?_range hi)
  rw [List.getD_eq_getElem?_getD, hm]
  exact hp
end
/-! zip -/
theorem pi_zipK {X : Cx} {K : PySem.W.Frag} {e e2 : PySem.Expr} {ta : TA} {p pos tpos : Pos} {elts : List PySem.Expr} {kk : Nat} (eK : X.K = K) (hg : Gl X "zip") (hm : X.mg "zip" = none) (ha : PA X [e, e2] ta)
    (hs : starEach [e, e2] X.env = (false, eval e X.env) :: starEach [e2] X.env := by rfl) (hpl : (backTo pos (starEach [e2] X.env)).any (·.1) = false := by rfl) :
    PI X (.Tuple elts kk tpos) (.Call (.Name "zip" p) [e, e2] [] pos) (RZ.iZipA K ta) := eK ▸ RZ.pi_zipA hg hm ha hs hpl
section
variable {K : PySem.W.Frag} {E : Ent} {F H : Hp} {M M1 M2 : Ms} {Γ : Gm} {te ta tb : TE} {D1 : Ends} {tu tz : TS} {i j : Nat} {γ : Type} {zs : List γ} {RA RB : γ → MP} {t : TT}
theorem walk_zipT {a b : Addr} {xs ys : List V} {n : Nat} (hn : n = xs.length ∧ n = ys.length) : Walk (RZ.ItzT K a b) n (fun H => SqT K H a xs ∧ SqT K H b ys) (YPair (fun i => xs[i]?) (fun i => ys[i]?)) := by
  obtain ⟨h1, h2⟩ := hn
  refine ⟨fun i _ hi q => ⟨xs, ys, xs[i]'(by omega), ys[i]'(by omega), q.1, q.2, by simp [show i < xs.length by omega], by simp [show i < ys.length by omega]⟩, fun _ q => ⟨xs, ys, q.1, q.2, by omega⟩, fun i H v H' _ q y => ?_⟩
  obtain ⟨T, x, z, h1, h2, h3, h4, h5⟩ := y
  exact ⟨T, x, z, h1, h2, h3, h4 xs q.1, h5 ys q.2⟩
/-- zip of two tuples of one length -/
theorem go_forZipT (ha : Ev ta Γ M (PTu K (zs.map RA)) M1) (hb : Ev tb Γ M1 (PTu K (zs.map RB)) M2) (Jv : Nat → Gm → Ms → Prop) (h0 : Jv 0 Γ M2)
    (hs : ∀ E', Le E' E → ∀ n z, zs[n]? = some z → ∀ Γ' M', Jv n Γ' M' → Nx E' ((Γ'.set i (some (RA z))).set j (some (RB z))) M' (tu { D1 with nx := JA E' (Jv (n + 1)), ct := JA E' (Jv (n + 1)), bk := D1.nx }))
    (hd : ∀ Γ' M', Jv zs.length Γ' M' → Nx E Γ' M' D1.nx) : Nx E Γ M (tFor (RZ.iZipA K (tCons ta (tCons tb tNil))) (gPair K i j) tu D1) := fun σ H ⟨F, a, b⟩ =>
  ha E F σ H a b _ fun v F1 H1 e1 g1 p1 => hb E F1 σ H1 g1 (b.mono e1) _ fun w F2 H2 e2 g2 p2 => by
    obtain ⟨x, us, rfl, s1, q1⟩ := (PTu K (zs.map RA)).mono e2 p1
    obtain ⟨y, vs, rfl, s2, q2⟩ := p2
    have l1 : us.length = zs.length := by have := paired_len q1; rwa [List.length_map] at this
    have l2 : vs.length = zs.length := by have := paired_len q2; rwa [List.length_map] at this
    exact ⟨x, y, us, vs, rfl, .inr ⟨Evl.ex_t g2.ex s1, Evl.ex_t g2.ex s2, for_pairs (K := K) (Q := True) (walk_zipT ⟨l1.symm, l2.symm⟩) g2 (b.mono (e1.trans e2)) q1 q2 (fun F' H' e e' => ⟨Evl.ex_t (e.trans e') s1, Evl.ex_t (e.trans e') s2⟩) Jv h0 hs hd⟩⟩
theorem q_forZipT (ha : Ev ta Γ M (PTu K (zs.map RA)) M1) (hb : Ev tb Γ M1 (PTu K (zs.map RB)) M2) (Jv : Nat → Gm → Ms → Prop) (h0 : Jv 0 Γ M2)
    (hs : ∀ E', Le E' E → ∀ n z, zs[n]? = some z → ∀ Γ' M', Jv n Γ' M' → Nx E' ((Γ'.set i (some (RA z))).set j (some (RB z))) M' (tu { D1 with nx := JA E' (Jv (n + 1)), ct := JA E' (Jv (n + 1)), bk := tz D1 }))
    (hd : ∀ Γ' M', Jv zs.length Γ' M' → Nx E Γ' M' (tz D1)) : Nx E Γ M (tSeq (tFor (RZ.iZipA K (tCons ta (tCons tb tNil))) (gPair K i j) tu) tz D1) := go_forZipT (D1 := { D1 with nx := tz D1 }) ha hb Jv h0 hs hd
end
end Hq
namespace Hq
open PySem L2
/-! ### a comprehension with two generators, the inner list by the outer item; comprehensions over zip -/
section
variable {K : PySem.W.Frag} {E : Ent} {F H : Hp} {M M1 M2 : Ms} {Γ : Gm} {P : MP} {O : MO} {q : Addr} {te ta tb tl tl1 tk td : TE} {tr : TA} {D1 : Ends} {tu tz : TS} {t t0 u : TT} {ps : List MP} {i j : Nat}
theorem flatD_len {α β γ : Type} {ys : α → List β} {f : α → β → Bool} {G : α → β → γ} {N : Nat} : ∀ {xs : List α}, (∀ x ∈ xs, (ys x).length ≤ N) → (xs.flatMap fun x => ((ys x).filter (f x)).map (G x)).length ≤ xs.length * N
  | [], _ => Nat.zero_le _
  | x :: xs, h => by
    rw [List.flatMap_cons, List.length_append, List.length_map, List.length_cons, Nat.succ_mul]
    have h1 := List.length_filter_le (f x) (ys x)
    have h2 := flatD_len (ys := ys) (f := f) (G := G) (xs := xs) fun y hy => h y (List.mem_cons_of_mem _ hy)
    have h3 := h x List.mem_cons_self
    omega
theorem evn_lc2D {α β : Type} {xs : List α} {ys : α → List β} {N : Nat} {R : α → MP} {S : β → MP} {G : α → β → MP} (f : α → β → Bool) (hij : i ≠ j)
    (h : Ev tl Γ M (PLi K (xs.map R)) M1) (hy : ∀ x ∈ xs, (ys x).length ≤ N) (hz : (xs.length + 1) * N ≤ 50000)
    (h0 : ∀ x ∈ xs, ∀ M, EvT t0 (((Γ.set j none).set i none).set i (some (R x))) M (· = true) M)
    (h1 : ∀ x ∈ xs, ∀ M, Ev tl1 (((Γ.set j none).set i none).set i (some (R x))) M (PLi K ((ys x).map S)) M)
    (ht : ∀ x ∈ xs, ∀ y ∈ ys x, EvT t (((((Γ.set j none).set i none).set i (some (R x))).set j none).set j (some (S y))) M1 (· = f x y) M1)
    (he : ∀ x ∈ xs, ∀ y ∈ ys x, f x y = true → Ev te (((((Γ.set j none).set i none).set i (some (R x))).set j none).set j (some (S y))) M1 (G x y) M1) :
    EvN (tLc2 (iList K tl) (gName i) t0 (iList K tl1) (gName j) t te [i, j] [j]) Γ M (ML (xs.flatMap fun x => ((ys x).filter (f x)).map (G x))) M1 := fun E F σ H a b Q k => h E F σ H a b _ fun v F1 H1 e1 g1 ⟨p, vs, hp, s, q⟩ => by
  refine ⟨p, hp, ⟨vs, Evl.ex_l g1.ex s⟩, fun D2 hD => ?_⟩
  have hl : vs.length = xs.length := by have := paired_len q; rwa [List.length_map] at this
  have gn : Pt ⟨F1, H1, keys M1⟩ F1 ((D2, ML []) :: M1) (upd H1 D2 (.lst [])) := g1.enter.new hD ⟨[], rfl, .nil⟩
  refine ⟨fun n m H' => m = xs.length - n ∧ n ≤ xs.length ∧ ∃ F', Pt ⟨F1, H1, keys M1⟩ F' ((D2, ML ((xs.take n).flatMap fun x => ((ys x).filter (f x)).map (G x))) :: M1) H', ⟨_, rfl, Nat.zero_le _, F1, gn⟩, ?_⟩
  rintro n m H2 ⟨rfl, hn, F2, g2⟩
  have sl2 : SqL K H2 p vs := Evl.ex_l (g2.gr.ex.trans g2.ex) s
  rcases Nat.lt_or_ge n xs.length with hlt | hge
  case inr =>
    refine .inl ⟨⟨vs, sl2, by omega⟩, ?_⟩
    rw [List.take_of_length_le (by omega)] at g2
    exact k D2 F2 H2 (g1.fresh hD) (e1.trans g2.gr.ex) (g1.back g2)
  refine .inr ⟨⟨vs, vs[n], sl2, List.getElem?_eq_getElem (by omega)⟩, fun H' => n + 1 ≤ xs.length ∧ ∃ F', Pt ⟨F1, H1, keys M1⟩ F' ((D2, ML ((xs.take (n + 1)).flatMap fun x => ((ys x).filter (f x)).map (G x))) :: M1) H', fun H' ⟨c1, c2⟩ => ⟨_, by omega, rfl, c1, c2⟩, fun x H' y => ?_⟩
  obtain ⟨rfl, y⟩ := y
  have hx := y vs sl2
  obtain ⟨P, hP, hx2⟩ := paired_get' q hx
  have hxn : xs[n]? = some xs[n] := List.getElem?_eq_getElem hlt
  rw [List.getElem?_map, hxn] at hP
  have hP : R xs[n] = P := Option.some.inj hP
  subst hP
  have tk : xs.take (n + 1) = xs.take n ++ [xs[n]] := by rw [List.take_add_one, hxn]; rfl
  have tl : (xs.take n).length = n := by rw [List.length_take]; omega
  rw [tk]
  have xm := List.mem_of_getElem? hxn
  generalize xs[n] = z at *
  have b2 : EnvOk F2 ((wipe σ [i, j]).set i (some x)) (((Γ.set j none).set i none).set i (some (R z))) := (env_wipe2 (b.mono (e1.trans g2.gr.ex))).set i ((R z).mono g2.gr.ex hx2)
  refine ⟨wipe_out hij, ?_⟩
  refine h0 z xm _ _ F2 _ _ g2 b2 _ fun c F3 H3 e3 g3 hc => ?_
  have hc : c = true := hc
  subst hc
  rw [if_pos rfl]
  refine h1 z xm _ _ F3 _ H3 g3 (b2.mono e3) _ fun v1 F4 H4 e4 g4 ⟨p1, hp1q⟩ => ?_
  obtain ⟨vs1, hp1, s1, q1⟩ := hp1q
  have hl1 : vs1.length = (ys z).length := by have := paired_len q1; rwa [List.length_map] at this
  have b4 := b2.mono (e3.trans e4)
  refine ⟨p1, hp1, ⟨vs1, Evl.ex_l g4.ex s1⟩, ?_⟩
  have e14 : Ex F1 F4 := g4.gr.ex
  refine ⟨fun m k H' => k = (ys z).length - m ∧ m ≤ (ys z).length ∧ ∃ F', Ex F4 F' ∧ Pt ⟨F1, H1, keys M1⟩ F' ((D2, ML (((xs.take n).flatMap fun x => ((ys x).filter (f x)).map (G x)) ++ (((ys z).take m).filter (f z)).map (G z))) :: M1) H', ⟨_, rfl, Nat.zero_le _, F4, Evl.Ex.refl _, by simpa using g4⟩, ?_⟩
  rintro m k2 H5 ⟨rfl, hm, F5, e5, g5⟩
  have sl5 : SqL K H5 p1 vs1 := Evl.ex_l (e5.trans g5.ex) s1
  rcases Nat.lt_or_ge m (ys z).length with hlt2 | hge2
  case inr =>
    refine .inl ⟨⟨vs1, sl5, by omega⟩, hlt, F5, ?_⟩
    rw [List.take_of_length_le hge2] at g5
    rw [List.flatMap_append, List.flatMap_singleton]
    exact g5
  refine .inr ⟨⟨vs1, vs1[m], sl5, List.getElem?_eq_getElem (by omega)⟩, fun H' => ∃ F', Ex F4 F' ∧ Pt ⟨F1, H1, keys M1⟩ F' ((D2, ML (((xs.take n).flatMap fun x => ((ys x).filter (f x)).map (G x)) ++ (((ys z).take (m + 1)).filter (f z)).map (G z))) :: M1) H', fun H' c => ⟨_, by omega, rfl, hlt2, c⟩, fun x2 H' y2 => ?_⟩
  obtain ⟨e, y2⟩ := y2
  subst e
  have hx5 := y2 vs1 sl5
  obtain ⟨P, hP, hx6⟩ := paired_get' q1 hx5
  have hym : (ys z)[m]? = some (ys z)[m] := List.getElem?_eq_getElem hlt2
  rw [List.getElem?_map, hym] at hP
  have hP : S (ys z)[m] = P := Option.some.inj hP
  subst hP
  have tk2 := take_filter (ys z) (f z) m (ys z)[m] hym
  have ym := List.mem_of_getElem? hym
  generalize (ys z)[m] = y at *
  refine ⟨wipe_one, ?_⟩
  refine lc_turn g5 ((env_wipe (b4.mono e5)).set j ((S y).mono e5 hx6)) (ht z xm y ym) (he z xm y ym) ?_ _ fun F6 H6 e6 g6 => ⟨F6, e5.trans e6, ?_⟩
  · have l1 := flatD_len (ys := ys) (f := f) (G := G) (N := N) (xs := xs.take n) (fun x hx => hy x (List.mem_of_mem_take hx))
    rw [tl] at l1
    have l2 : n * N ≤ xs.length * N := Nat.mul_le_mul_right _ hn
    have l3 := List.length_filter_le (f z) ((ys z).take m)
    have l4 := hy z xm
    rw [List.length_append, List.length_map]
    rw [List.length_take] at l3
    rw [Nat.succ_mul] at hz
    omega
  · rw [tk2, List.map_append, ← List.append_assoc]
    cases hf : f z y
    · rw [hf] at g6; simpa using g6
    · rw [hf] at g6; simpa using g6
section
variable {γ : Type} {zs : List γ} {RA RB G : γ → MP} {f : γ → Bool}
section
variable {J : It} {Gd : Hp → Prop} {us vs : List V}
/-- a comprehension over pairs, what is walked stands by the owned things -/
theorem lc_pairsP {F1 H1 : Hp} {σ : St} {Q : VK} (hij : i ≠ j) (w : Walk J zs.length Gd (YPair (fun i => us[i]?) (fun i => vs[i]?))) (hz : zs.length ≤ 50000)
    (g1 : Pt E F1 M1 H1) (b : EnvOk F1 σ Γ) (hu : Ps F1 us (zs.map RA)) (hv : Ps F1 vs (zs.map RB)) (hG : ∀ F' H' r, Ex F1 F' → Pt ⟨F1, H1, keys M1⟩ F' (r :: M1) H' → Gd H')
    (ht : ∀ z ∈ zs, EvT t ((((Γ.set j none).set i none).set i (some (RA z))).set j (some (RB z))) M1 (· = f z) M1)
    (he : ∀ z ∈ zs, f z = true → Ev te ((((Γ.set j none).set i none).set i (some (RA z))).set j (some (RB z))) M1 (G z) M1)
    (k : ContN E F1 (ML ((zs.filter f).map G)) M1 Q) : ∀ D, H1 D = none → ∃ W : Nat → Nat → Hp → Prop, (∃ m, W 0 m (upd H1 D (.lst []))) ∧ ∀ n m H, W n m H →
      (J.stop n H ∧ Q (.ref D) H) ∨ (J.go n H ∧ ∃ Nx : Hp → Prop, (∀ H', Nx H' → ∃ m', m' < m ∧ W (n + 1) m' H') ∧ ∀ x H', J.yld n H x H' → gPair K i j x (wipe σ [i, j]) H' fun σ2 H2 => wipe σ2 [i, j] = wipe σ [i, j] ∧ t σ2 H2 fun b H3 =>
        if b = true then te σ2 H3 fun y H4 => ∃ acc, H4 D = some (.lst acc) ∧ acc.length < sizeLine ∧ Nx (upd H4 D (.lst (acc ++ [y]))) else Nx H3) := by
  intro D2 hD
  have gn : Pt ⟨F1, H1, keys M1⟩ F1 ((D2, ML []) :: M1) (upd H1 D2 (.lst [])) := g1.enter.new hD ⟨[], rfl, .nil⟩
  refine lc_it w (fun n H' => ∃ F', Pt ⟨F1, H1, keys M1⟩ F' ((D2, ML (((zs.take n).filter f).map G)) :: M1) H') ⟨F1, gn⟩ (fun n H2 _ ⟨F2, g2⟩ => hG F2 H2 _ g2.gr.ex g2) (fun n x H2 H3 hn ⟨F2, g2⟩ y => ?_) (fun H2 ⟨F2, g2⟩ => ?_)
  · obtain ⟨T, x1, y1, rfl, hT, rfl, hx1, hy1⟩ := y
    obtain ⟨PA, hPA, hxA⟩ := paired_get' hu hx1
    obtain ⟨PB, hPB, hyB⟩ := paired_get' hv hy1
    have hzn : zs[n]? = some zs[n] := List.getElem?_eq_getElem hn
    rw [List.getElem?_map, hzn] at hPA hPB
    have hPA : RA zs[n] = PA := Option.some.inj hPA
    have hPB : RB zs[n] = PB := Option.some.inj hPB
    subst hPA; subst hPB
    generalize zs[n] = z at *
    have hm := List.mem_of_getElem? hzn
    have g3 : Pt ⟨F1, H1, keys M1⟩ F2 ((D2, ML (((zs.take n).filter f).map G)) :: M1) (upd H2 T (.tup [x1, y1])) := g2.junk hT
    refine ⟨T, [x1, y1], rfl, SqT.of upd_same, rfl, x1, [y1], rfl, y1, [], rfl, rfl, wipe_two hij, ?_⟩
    refine lc_turn g3 (((env_wipe2 (b.mono g2.gr.ex)).set i ((RA z).mono g2.gr.ex hxA)).set j ((RB z).mono g2.gr.ex hyB)) (ht z hm) (he z hm) ?_ _ fun F3 H3 e3 g4 => ⟨F3, ?_⟩
    · rw [List.length_map]
      exact Nat.lt_of_le_of_lt (Nat.le_trans (List.length_filter_le _ _) (by rw [List.length_take]; omega)) (by omega : zs.length < 100000)
    · rw [take_filter zs f n z hzn, List.map_append]
      cases hf : f z
      · rw [hf] at g4; simpa using g4
      · rw [hf] at g4; simpa using g4
  · rw [List.take_length] at g2
    exact k D2 F2 H2 (g1.fresh hD) g2.gr.ex (g1.back g2)
end
/-- over zip of a list that stands and an own list of ints -/
theorem evn_lcZipLO {α : Type} {xs : List α} {hs : List Int} {RA : α → MP} {G : α × Int → MP} {f : α × Int → Bool} {j0 : Nat} (hij : i ≠ j) (hlen : xs.length = hs.length) (h1 : Ev ta Γ M (PLi K (xs.map RA)) M1) (h2 : Ev tb Γ M1 (Own q) M1) (e0 : M1[j0]? = some (q, MInts K hs)) (hz : xs.length ≤ 50000)
    (ht : ∀ z ∈ xs.zip hs, EvT t ((((Γ.set j none).set i none).set i (some (RA z.1))).set j (some (D K (.int z.2)))) M1 (· = f z) M1)
    (he : ∀ z ∈ xs.zip hs, f z = true → Ev te ((((Γ.set j none).set i none).set i (some (RA z.1))).set j (some (D K (.int z.2)))) M1 (G z) M1) :
    EvN (tLc (RZ.iZipA K (tCons ta (tCons tb tNil))) (gPair K i j) t te [i, j]) Γ M (ML (((xs.zip hs).filter f).map G)) M1 := fun E F σ H a b Q k => h1 E F σ H a b _ fun v F1 H1 e1 g1 ⟨p, vs, hp, s, qq⟩ => h2 E F1 σ H1 g1 (b.mono e1) _ fun v2 F2 H2 e2 g2 p2 => by
  have p2 : v2 = .ref q := p2
  subst p2
  have l1 : vs.length = xs.length := by have := paired_len qq; rwa [List.length_map] at this
  have qq := Ps.mono e2 qq
  have own : ∀ {E' : Ent} {F' H' : Hp} {r : Addr × MO}, Pt E' F' (r :: M1) H' → SqL K H' q (hs.map V.int) := fun {E' F' H' r} g => by
    obtain ⟨_, o, ho, ws, rfl, s⟩ := g.at (j := j0 + 1) (by simpa using e0)
    have := ints_map s
    subst this
    exact SqL.of ho
  have own2 : SqL K H2 q (hs.map V.int) := by
    obtain ⟨_, o, ho, ws, rfl, s⟩ := g2.at e0
    have := ints_map s
    subst this
    exact SqL.of ho
  refine ⟨p, q, vs, hs.map V.int, by rw [hp], .inl ⟨Evl.ex_l (e2.trans g2.ex) s, own2, ?_⟩⟩
  have lz : (xs.zip hs).length = xs.length := by rw [List.length_zip, hlen, Nat.min_self]
  refine lc_pairsP (K := K) (zs := xs.zip hs) (RA := fun z => RA z.1) (RB := fun z => D K (.int z.2)) (us := vs) (vs := hs.map V.int) hij (walk_zip (by rw [List.length_map]; omega)) (by omega) g2 (b.mono (e1.trans e2)) ?_ ?_ (fun F' H' r e g => ⟨Evl.ex_l ((e2.trans e).trans g.ex) s, own g⟩) ht he fun q F' H' f e g => k q F' H' f ((e1.trans e2).trans e) g
  · rw [show (fun z : α × Int => RA z.1) = RA ∘ Prod.fst from rfl, ← List.map_map, List.map_fst_zip (by omega)]; exact qq
  · rw [show (fun z : α × Int => D K (.int z.2)) = (fun n : Int => D K (.int n)) ∘ Prod.snd from rfl, ← List.map_map, List.map_snd_zip (by omega)]; exact map_ints hs
/-- over zip of two lists of one length -/
theorem evn_lcZipL (hij : i ≠ j) (h1 : Ev ta Γ M (PLi K (zs.map RA)) M1) (h2 : Ev tb Γ M1 (PLi K (zs.map RB)) M2) (hz : zs.length ≤ 50000)
    (ht : ∀ z ∈ zs, EvT t ((((Γ.set j none).set i none).set i (some (RA z))).set j (some (RB z))) M2 (· = f z) M2)
    (he : ∀ z ∈ zs, f z = true → Ev te ((((Γ.set j none).set i none).set i (some (RA z))).set j (some (RB z))) M2 (G z) M2) :
    EvN (tLc (RZ.iZipA K (tCons ta (tCons tb tNil))) (gPair K i j) t te [i, j]) Γ M (ML ((zs.filter f).map G)) M2 := fun E F σ H a b Q k => h1 E F σ H a b _ fun v F1 H1 e1 g1 ⟨p, vs, hp, s, q⟩ => h2 E F1 σ H1 g1 (b.mono e1) _ fun v2 F2 H2 e2 g2 ⟨p2, vs2, hp2, s2, q2⟩ => by
  have l1 : vs.length = zs.length := by have := paired_len q; rwa [List.length_map] at this
  have l2 : vs2.length = zs.length := by have := paired_len q2; rwa [List.length_map] at this
  have q := Ps.mono e2 q
  refine ⟨p, p2, vs, vs2, by rw [hp, hp2], .inl ⟨Evl.ex_l (e2.trans g2.ex) s, Evl.ex_l g2.ex s2, ?_⟩⟩
  refine lc_pairs (K := K) (zs := zs) (us := vs) (vs := vs2) hij (walk_zip (by omega)) hz g2 (b.mono (e1.trans e2)) q q2 (fun F' H' e e' => ⟨Evl.ex_l ((e2.trans e).trans e') s, Evl.ex_l (e.trans e') s2⟩) ht he fun q F' H' f e g => k q F' H' f ((e1.trans e2).trans e) g
end
theorem rv_inO {x : Int} {ns : List Int} {neg : Bool} (e : M[j]? = some (q, MInts K ns)) : RV (rIn K neg) (D K (.int x)) (Own q) M (D K (.bool (if neg then !decide (x ∈ ns) else decide (x ∈ ns)))) M := fun E F H v y a p1 p2 Q k => by
  cases dp_int p1
  have p2 : y = .ref q := p2
  subst p2
  obtain ⟨_, o, ho, ws, rfl, s⟩ := a.at e
  have e1 := ints_map s
  subst e1
  refine ⟨q, _, rfl, .inl (SqL.of ho), rfl, flat_all ns, ?_⟩
  rw [inV_ints]
  exact k _ F H (Evl.Ex.refl _) a (.bl _)
theorem q_forEnumL {α : Type} {xs : List α} {R : α → MP} (h : Ev tl Γ M (PLi K (xs.map R)) M1) (Jv : Nat → Gm → Ms → Prop) (h0 : Jv 0 Γ M1)
    (hs : ∀ E', Le E' E → ∀ n x, xs[n]? = some x → ∀ Γ' M', Jv n Γ' M' → Nx E' ((Γ'.set i (some (D K (.int n)))).set j (some (R x))) M' (tu { D1 with nx := JA E' (Jv (n + 1)), ct := JA E' (Jv (n + 1)), bk := tz D1 }))
    (hd : ∀ Γ' M', Jv xs.length Γ' M' → Nx E Γ' M' (tz D1)) : Nx E Γ M (tSeq (tFor (iEnum K (tCons tl tNil)) (gPair K i j) tu) tz D1) := go_forEnumL (D1 := { D1 with nx := tz D1 }) h Jv h0 hs hd
/-! a dict by a comprehension over ints, as the set of its keys -/
def MSet (ks : List Int) : MO := ⟨fun _ o => ∃ kvs : List (Key × V), o = .dK kvs ∧ kvs.length ≤ ks.length ∧ ∀ x : Int, (valV kvs (.inl x)).isSome = decide (x ∈ ks), fun _ h => h, fun ⟨kvs, h, _⟩ xs z => by rw [h] at z; cases z⟩
theorem put_len {kvs : List (Key × V)} {k : Key} {z : V} : (putK kvs k z).length ≤ kvs.length + 1 := by
  unfold putK
  split
  · rw [List.length_map]; omega
  · rw [List.length_append]; simp
theorem evn_dcI {xs : List Int} (h : Ev tl Γ M (PLi K (xs.map fun x => D K (.int x))) M1) (hz : xs.length ≤ 50000) (hi : i < Γ.length) :
    EvN (tDc (iList K tl) (gName i) tYes (tVar i) (tC (.bl true)) [i]) Γ M (MSet xs) M1 := fun E F σ H a b Q k => h E F σ H a b _ fun v F1 H1 e1 g1 ⟨p, vs, hp, s, q⟩ => by
  refine ⟨p, hp, ⟨vs, Evl.ex_l g1.ex s⟩, fun D2 hD => ?_⟩
  have hl : vs.length = xs.length := by have := paired_len q; rwa [List.length_map] at this
  have gn : Pt ⟨F1, H1, keys M1⟩ F1 ((D2, MSet []) :: M1) (upd H1 D2 (.dK [])) := g1.enter.new hD ⟨[], rfl, Nat.le_refl _, fun x => rfl⟩
  refine ⟨fun n m H' => m = xs.length - n ∧ n ≤ xs.length ∧ ∃ F', Pt ⟨F1, H1, keys M1⟩ F' ((D2, MSet (xs.take n)) :: M1) H', ⟨_, rfl, Nat.zero_le _, F1, gn⟩, ?_⟩
  rintro n m H2 ⟨rfl, hn, F2, g2⟩
  have sl2 : SqL K H2 p vs := Evl.ex_l (g2.gr.ex.trans g2.ex) s
  rcases Nat.lt_or_ge n xs.length with hlt | hge
  case inr =>
    refine .inl ⟨⟨vs, sl2, by omega⟩, ?_⟩
    rw [List.take_of_length_le (by omega)] at g2
    exact k D2 F2 H2 (g1.fresh hD) (e1.trans g2.gr.ex) (g1.back g2)
  refine .inr ⟨⟨vs, vs[n], sl2, List.getElem?_eq_getElem (by omega)⟩, fun H' => n + 1 ≤ xs.length ∧ ∃ F', Pt ⟨F1, H1, keys M1⟩ F' ((D2, MSet (xs.take (n + 1))) :: M1) H', fun H' ⟨c1, c2⟩ => ⟨_, by omega, rfl, c1, c2⟩, fun x H' y => ?_⟩
  obtain ⟨rfl, y⟩ := y
  have hx := y vs sl2
  obtain ⟨P, hP, hx2⟩ := paired_get' q hx
  have hxn : xs[n]? = some xs[n] := List.getElem?_eq_getElem hlt
  rw [List.getElem?_map, hxn] at hP
  have hP : D K (.int xs[n]) = P := Option.some.inj hP
  subst hP
  have tk : xs.take (n + 1) = xs.take n ++ [xs[n]] := by rw [List.take_add_one, hxn]; rfl
  rw [tk]
  have tl : (xs.take n).length = n := by rw [List.length_take]; omega
  generalize xs[n] = z at *
  have b2 : EnvOk F2 ((wipe σ [i]).set i (some x)) ((Γ.set i none).set i (some (D K (.int z)))) := (env_wipe (b.mono (e1.trans g2.gr.ex))).set i ((D K (.int z)).mono g2.gr.ex hx2)
  refine ⟨wipe_one, ?_⟩
  refine (et_yes (M := (D2, MSet (xs.take n)) :: M1) (Γ := (Γ.set i none).set i (some (D K (.int z))))) _ F2 _ _ g2 b2 _ fun c F3 H3 e3 g3 hc => ?_
  have hc : c = true := hc
  subst hc
  rw [if_pos rfl]
  refine (ev_var (i := i) (P := D K (.int z)) (by simp [hi])) _ F3 _ H3 g3 (b2.mono e3) _ fun w F4 H4 e4 g4 p4 => ?_
  refine (ev_bl (K := K) (b := true)) _ F4 _ H4 g4 (b2.mono (e3.trans e4)) _ fun w5 F5 H5 e5 g5 p5 => ?_
  cases dp_int p4
  obtain ⟨fq, o, ho, kvs, rfl, hk1, hk2⟩ := g5.at (j := 0) rfl
  refine ⟨kvs, .inl z, rfl, ho, sz_lt (by omega), hlt, F5, g5.mut (j := 0) rfl ⟨_, rfl, ?_, fun x => ?_⟩⟩
  · have := put_len (kvs := kvs) (k := .inl z) (z := w5)
    rw [List.length_append, List.length_singleton]; omega
  · rw [valV_put]
    by_cases e : x = z
    · subst e; rw [if_pos rfl]; simp
    · rw [if_neg (fun c => e (Sum.inl.inj c)), hk2 x]
      simp [e]
theorem ev_din {x : Int} {ks : List Int} (hk : Ev tk Γ M (D K (.int x)) M1) (hd : Ev td Γ M1 (Own q) M2) (e : M2[j]? = some (q, MSet ks)) : Ev (tDIn tk td) Γ M (D K (.bool (decide (x ∈ ks)))) M2 := fun E F σ H a b Q k => by
  refine hk E F σ H a b _ fun v F1 H1 e1 g1 p1 => hd E F1 σ H1 g1 (b.mono e1) _ fun y F2 H2 e2 g2 p2 => ?_
  cases dp_int p1
  have p2 : y = .ref q := p2
  subst p2
  obtain ⟨fq, o, ho, kvs, rfl, _, hkv⟩ := g2.at e
  refine ⟨q, _, rfl, DGet.k (k := .inl x) ho, ?_⟩
  rw [hkv]
  exact k _ F2 H2 (e1.trans e2) g2 (.bl _)
end
/-! a dict by a comprehension, kept under a name -/
theorem sw_dict {kx vx : PySem.Expr} {gs : List Comprehension} {scope : Scope} {pos py : Pos} {y : Str} {l : Nat} {env : Env} (hk : env.scope.kind = .function) (hy : env.scope.names.lookup y = some .local) (hl : (py.line == pos.line) = true)
    (ha : (scope.names.any fun (n, k) => n == y && (k == .local || k == .cell)) = false) : swapsWith (.DictComp kx vx gs scope pos) (some (.Name y py)) l env = pure true := by
  have ky : env.kindOf y = some .local := hy
  have hb : env.blockKind = .function := by unfold Env.blockKind; rw [hk]; rfl
  unfold swapsWith
  simp only [hb, ky, ha, Expr.pos, hl]
  rfl
section
open PySem.Spec PyProof.Rows PySem.Sem
theorem ps_setDcK {X : Cx} {i : Nat} {y : Str} {py : Pos} {kx vx tg iter : PySem.Expr} {ifs : List PySem.Expr} {scope : Scope} {own : List (Str × Nat)} {pos spos : Pos} {wi : TI} {g : TG} {tt : TT} {tk tv : TE} (hc : X.calm = true) (hN : X.N.Nodup) (hy : X.N[i]? = some y) (hyl : X.env.scope.names.lookup y = some .local)
    (hsw : swapsWith (.DictComp kx vx [⟨tg, iter, ifs, 0⟩] scope pos) (some (.Name y py)) spos.line X.env = pure true) (hi : PI X tg iter wi) (ok : BlkOk X.N X.env.scope scope own)
    (hg : ∀ (s : Shared) (H : Hp) (C : Addr) (cl : List (Str × Addr)) (fp : List Addr), PG (X.blk s H scope (compEnvC scope cl C X.env) fp) tg g) (ht : ∀ (s : Shared) (H : Hp) (C : Addr) (cl : List (Str × Addr)) (fp : List Addr), PTs (X.blk s H scope (compEnvC scope cl C X.env) fp) ifs tt)
    (hk : ∀ (s : Shared) (H : Hp) (C : Addr) (cl : List (Str × Addr)) (fp : List Addr), PE (X.blk s H scope (compEnvC scope cl C X.env) fp) kx tk)
    (he : ∀ (s : Shared) (H : Hp) (C : Addr) (cl : List (Str × Addr)) (fp : List Addr), PE (X.blk s H scope (compEnvC scope cl C X.env) fp) vx tv) (hs : ∀ x, foldedSetIterable iter X.env x = pure x := by intro _; rfl) :
    PS X (.Assign [.Name y py] (.DictComp kx vx [⟨tg, iter, ifs, 0⟩] scope pos) spos) (tAsg (tDc wi g tt tk tv (own.map (·.2))) (gName i)) := by
  refine ⟨fun pins s σ H D I h => ?_⟩
  rw [exec_Assign_Name_used _ _ _ _ hsw]
  refine wpAny_bind (wpAny_standAt (wpAny_bind ?_))
  show wpAny _ X.A (do let _ ← comprehension (.DictComp kx vx [⟨tg, iter, ifs, 0⟩] scope pos) scope X.env (firstIterPos [⟨tg, iter, ifs, 0⟩] pos) newDict false (eval iter X.env) (some (assign (.Name y py) X.env))) _ _ s
  have h : tDc wi g tt tk tv (own.map (·.2)) σ H (fun x H1 => gName i x σ H1 D.nx) := h
  refine wpAny_bind (thn (dc_core (Qf := fun _ s' => SP X pins D .next s') hc hN I hi ok hg ht hk he hs h fun L C s' m H' I' q hn f => ?_) fun _ s' hq => wpAny_pure (wpAny_pure hq))
  show wpAny _ _ (assign (.Name y py) X.env (.ref L)) _ _ _
  refine wpAny_assign_Name (store_ok2 (v := V.ref L) I' hN hy (.inl hyl) rfl (fun s2 I2 ⟨a, sb, ha⟩ => ?_) (.inr hyl))
  obtain ⟨f0, f1, f2, f3, f4, f5⟩ := f
  have haC : C ≠ a := by
    rcases ha with z | z
    · rw [z]; exact f1
    · exact fun e => f4 y a z e.symm
  refine ⟨m, hn.sameBut sb haC, fun h3 sb3 => ?_⟩
  exact ⟨_, H', I2.turned (t' := s2.toks) (fun b o hb e => (sb3.2 b hb).trans e) f0 f1 f3 f4 f5, q⟩
end
end Hq
set_option maxHeartbeats 4000000
namespace Hq
open PySem PySem.Spec PyProof.Rows L2
/-! ### tuple * int, any -/
theorem tuple_mul1 (l : Addr) (items : Array Value) (n : Nat) (dd : Option Addr) (sl : Array (Option Value)) (x : Int) (u : Tok) (c0 : (decide (x < -(2 ^ 63)) || decide (x ≥ 2 ^ 63)) = false) (c1 : (items.isEmpty || x == 1) = true) :
    Meets (Builtin.«tuple.__mul__» ⟨[.ref l, .int x u], []⟩) (fun _ R s => s.heap.get? l = some { cls := .type "tuple", dict := dd, data := .seq items n, slots := sl } ∧
      R (.ok (.ret (Value.ref l))) s) :=
  .of_wp fun prog w A R s h => by
    obtain ⟨hp, g, d, tk, os⟩ := s
    obtain ⟨hl, h⟩ := h
    have f1 := AutoSeq1.idx_int
    wp_walk using wpAny_loadPart' hl
    repeat (first
      | (refine wpAny_ite_false (decide_eq_false (by rw [c0]; exact Bool.false_ne_true)) ?_; wp_walk using wpAny_loadPart' hl)
      | (refine wpAny_ite_true (decide_eq_true (by rw [c1])) ?_; wp_walk using wpAny_loadPart' hl))
    exact ⟨_, rfl, h⟩
theorem tuple_mul0 (l : Addr) (items : Array Value) (n : Nat) (dd : Option Addr) (sl : Array (Option Value)) (x : Int) (u : Tok) (c0 : (decide (x < -(2 ^ 63)) || decide (x ≥ 2 ^ 63)) = false) (c1 : (items.isEmpty || x == 1) = false) (c2 : (decide (x ≤ 0) || items.isEmpty) = true) :
    Meets (Builtin.«tuple.__mul__» ⟨[.ref l, .int x u], []⟩) (fun _ R s => s.heap.get? l = some { cls := .type "tuple", dict := dd, data := .seq items n, slots := sl } ∧
      R (.ok (.ret (Value.ref s.heap.objs.size))) { s with heap := s.heap.push { cls := Value.type "tuple", data := Data.seq #[] }, toks := s.toks }) :=
  .of_wp fun prog w A R s h => by
    obtain ⟨hp, g, d, tk, os⟩ := s
    obtain ⟨hl, h⟩ := h
    have f1 := AutoSeq1.idx_int
    wp_walk using wpAny_loadPart' hl
    repeat (first
      | (refine wpAny_ite_false (decide_eq_false (by rw [c0]; exact Bool.false_ne_true)) ?_; wp_walk using wpAny_loadPart' hl)
      | (refine wpAny_ite_false (decide_eq_false (by rw [c1]; exact Bool.false_ne_true)) ?_; wp_walk using wpAny_loadPart' hl)
      | (refine wpAny_ite_true (decide_eq_true (by rw [c2])) ?_; wp_walk using wpAny_loadPart' hl))
    exact ⟨_, rfl, h⟩
def rRepA (K : PySem.W.Frag) : R2 := fun x y H Q => ∃ l k xs, x = .ref l ∧ y = .int k ∧ SqT K H l xs ∧ -1000 ≤ k ∧ k ≤ 1000 ∧ xs.length ≤ 1000 ∧ (xs = [] ∨ k = 1 → Q (.ref l) H) ∧ (xs ≠ [] → k ≠ 1 → ∀ p, H p = none → Q (.ref p) (upd H p (.tup (List.replicate k.toNat xs).flatten)))
theorem op_repA {X : Cx} : OpR X (binaryOp .Mult) (rRepA X.K) := by
  intro pins s σ H x y v u Q I rx ry h
  obtain ⟨l, k, xs, rfl, rfl, hT, k0, k1, hz, q1, q2⟩ := h
  by_cases big : xs ≠ [] ∧ 2 ≤ k
  · exact op_repT pins s σ H _ _ v u Q I rx ry ⟨l, k, xs, rfl, rfl, hT, big.1, big.2, k1, hz, q2 big.1 (by omega)⟩
  cases rx
  obtain ⟨t, rfl⟩ := ry
  obtain ⟨its, r, ⟨⟨cls, dd, data, sl⟩, ho, hc, n, hd⟩, hs⟩ := I.tuple hT
  simp only at hc hd
  subst hc hd
  have hle : its.length = xs.length := r.length.symm
  have c0 : (decide (k < -(2 ^ 63)) || decide (k ≥ 2 ^ 63)) = false := by
    rw [decide_eq_false (by omega), decide_eq_false (by omega)] <;> rfl
  by_cases one : xs = [] ∨ k = 1
  · have c1 : (its.toArray.isEmpty || k == 1) = true := by
      rcases one with e | e
      · rw [e] at hle
        rw [List.eq_nil_of_length_eq_zero hle]; rfl
      · rw [e]; simp
    refine wpAny_binaryOp_repeat_ref (T := "tuple") (U := "int") (by decide) ⟨_, ho, rfl⟩ (fun s' => typeIs_int s' k t) noFill_tuple_mul F.fills_int_mul F.slot_int_rmul repeat_tuple F.slot_int_index.lookup
      (call_meets F.slot_int_rmul (typeIs_int s k t) F.entry_int_rmul (F.args_int_rmul_2 _ _) (int_rmul_tuple k t l its.toArray n dd sl)
        ⟨ho, rfl, ⟨_, ho, rfl⟩, call_meets F.slot_tuple_mul ⟨_, ho, rfl⟩ F.entry_tuple_mul (F.args_tuple_mul_2 _ _) (tuple_mul1 l its.toArray n dd sl k t c0 c1) ⟨ho, ?_⟩⟩)
    exact ⟨.ref l, _, I, rfl, q1 one⟩
  · have hne : xs ≠ [] := fun e => one (.inl e)
    have k1' : k ≠ 1 := fun e => one (.inr e)
    have hkk : k ≤ 0 := by
      have : ¬ (2 ≤ k) := fun e => big ⟨hne, e⟩
      omega
    have hi : its.toArray.isEmpty = false := by
      cases its with
      | nil => exact absurd (List.eq_nil_of_length_eq_zero hle.symm) hne
      | cons a b => rfl
    have c1 : (its.toArray.isEmpty || k == 1) = false := by
      rw [hi, Bool.false_or]
      exact beq_eq_false_iff_ne.mpr k1'
    have c2 : (decide (k ≤ 0) || its.toArray.isEmpty) = true := by
      rw [decide_eq_true hkk]; rfl
    refine wpAny_binaryOp_repeat_ref (T := "tuple") (U := "int") (by decide) ⟨_, ho, rfl⟩ (fun s' => typeIs_int s' k t) noFill_tuple_mul F.fills_int_mul F.slot_int_rmul repeat_tuple F.slot_int_index.lookup
      (call_meets F.slot_int_rmul (typeIs_int s k t) F.entry_int_rmul (F.args_int_rmul_2 _ _) (int_rmul_tuple k t l its.toArray n dd sl)
        ⟨ho, rfl, ⟨_, ho, rfl⟩, call_meets F.slot_tuple_mul ⟨_, ho, rfl⟩ F.entry_tuple_mul (F.args_tuple_mul_2 _ _) (tuple_mul0 l its.toArray n dd sl k t c0 c1 c2) ⟨ho, ?_⟩⟩)
    have q := q2 hne k1'
    rw [show k.toNat = 0 by omega] at q
    refine ⟨.ref s.heap.objs.size, _, I.laid (t' := s.toks) (o := .tup []) (fun b ob q => Heap.get?_push_of_some _ q) (Nat.le_refl _) ?_, rfl, q _ (I.hok.fresh (Nat.le_refl _))⟩
    exact ⟨by rw [sizeLine_eq]; exact Nat.zero_le _, [], .nil, IsTup.new _ _⟩
theorem c_repT {K : PySem.W.Frag} {Y : Cx} (e : Y.K = K) : OpR Y (binaryOp .Mult) (rRepA K) := e ▸ op_repA
/-! ### a, b = a list of that length -/
def gLst (K : PySem.W.Frag) (n : Nat) (t : TGs) : TG := fun v σ H Q => ∃ a xs, v = .ref a ∧ SqL K H a xs ∧ xs.length = n ∧ t xs σ H Q
theorem pg_lst {X : Cx} {es : List Expr} {k : Nat} {pos : Pos} {t : TGs} {n : Nat} (hc : X.calm = true) (h : PGs X es t)
    (hn : (assignEach es X.env).length = n := by rfl) (hst : (assignEach es X.env).findIdx? (·.1) = none := by rfl) : PG X (.Tuple es k pos) (gLst X.K n t) := by
  refine ⟨fun pins s σ H v u Q I r hw => ?_⟩
  obtain ⟨a, xs, e1, hq, hl, hw⟩ := hw
  subst e1
  cases r
  obtain ⟨its, rv, ht, hz⟩ := I.list hq
  rw [assign_Tuple]
  refine wpAny_bind (wpAny_standAt ?_)
  unfold unpack
  rw [hst, show (assignEach es X.env).length = its.toArray.size by simp [hn, ← hl, rv.length]]
  refine wpAny_bind (wpAny_holding (PySem.W.kun_itemsOf (I.ok.hd hc) (by obtain ⟨o, n, h1, h2, _, h3⟩ := ht; exact ⟨o, h1, h2, n, h3⟩) fun h' hx => ?_))
  have I1 : Inv X pins σ H { s with heap := h' } := I.kept (t' := s.toks) fun b o e => hx b o (Nat.ne_of_lt (Heap.lt_size e)) e
  exact h.run pins _ σ H xs _ Q I1 (by simpa using rv) hw
theorem pg_lstK {X : Cx} {K : PySem.W.Frag} {es : List Expr} {k : Nat} {pos : Pos} {t : TGs} {n : Nat} (eK : X.K = K) (hc : X.calm = true) (h : PGs X es t)
    (hn : (assignEach es X.env).length = n := by rfl) (hst : (assignEach es X.env).findIdx? (·.1) = none := by rfl) : PG X (.Tuple es k pos) (gLst K n t) := eK ▸ pg_lst hc h hn hst
section
variable {K : PySem.W.Frag} {E : Ent} {M M1 : Ms} {Γ : Gm} {D1 : Ends} {tz : TS} {te : TE} {i j : Nat}
theorem q_unpL2 {R1 R2 : MP} (h : Ev te Γ M (PLi K [R1, R2]) M1) (k : Nx E ((Γ.set i (some R1)).set j (some R2)) M1 (tz D1)) :
    Nx E Γ M (tSeq (tAsg te (gLst K 2 (gCons (gName i) (gCons (gName j) gNil)))) tz D1) := fun σ H ⟨F, a, b⟩ => h E F σ H a b _ fun v F1 H1 e1 g1 ⟨p, vs, ev, s, q⟩ => by
  obtain ⟨y, z, rfl, hy, hz⟩ := ps2 q
  exact ⟨p, [y, z], ev, Evl.ex_l g1.ex s, rfl, y, [z], rfl, z, [], rfl, rfl, k _ _ ⟨F1, g1, ((b.mono e1).set i hy).set j hz⟩⟩
theorem rv_eqX {lo hi c : Int} : RV rEq (PIn K lo hi) (D K (.int c)) M (PEx fun b : Bool => PAn True (D K (.bool b))) M := RV.ex1 fun x => RV.an1 fun _ => rv_eqI.weak (MP.le_trans (PAn.in trivial) (PEx.in (R := fun b : Bool => PAn True (D K (.bool b))) _))
theorem rep_ints {l : List Int} : ∀ n : Nat, (List.replicate n (l.map V.int)).flatten = ((List.replicate n l).flatten).map V.int
  | 0 => rfl
  | n + 1 => by rw [List.replicate_succ, List.flatten_cons, rep_ints n, List.replicate_succ, List.flatten_cons, List.map_append]
theorem rv_repT {l : List Int} {n : Int} (hn : -1000 ≤ n ∧ n ≤ 1000) (hl : l.length ≤ 1000) : RV (rRepA K) (D K (dT l)) (D K (.int n)) M (D K (dT (List.replicate n.toNat l).flatten)) M := fun E F H x y g p1 p2 Q k => by
  cases dp_int p2
  obtain ⟨p, vs, rfl, s, q⟩ := le_dT _ _ p1
  have e1 := ints_map q
  subst e1
  refine ⟨p, n, _, rfl, rfl, Evl.ex_t g.ex s, hn.1, hn.2, by rw [List.length_map]; exact hl, fun h => ?_, fun _ _ r hr => ?_⟩
  · refine k _ F H (Evl.Ex.refl _) g (dT_le _ _ ⟨p, _, rfl, s, ?_⟩)
    have e : (List.replicate n.toNat l).flatten = l := by
      rcases h with h | h
      · have : l = [] := by simpa using h
        subst this
        induction n.toNat with
        | zero => rfl
        | succ m ih => rw [List.replicate_succ, List.flatten_cons, ih]; rfl
      · rw [h]; simp
    rw [e]
    exact map_ints _
  · refine k _ _ _ (Evl.Ex.new (Evl.fresh_back g.ex hr)) (g.laid hr) (dT_le _ _ ⟨r, _, rfl, SqT.of upd_same, ?_⟩)
    rw [rep_ints]
    exact map_ints _
end
end Hq
namespace Hq
open PySem L2
section
variable {K : PySem.W.Frag} {E : Ent} {F H : Hp} {M M1 M2 : Ms} {Γ : Gm} {P P1 : MP} {O : MO} {q : Addr} {te ta tb tl tk : TE} {tr : TA} {D1 : Ends} {tu tz : TS} {t u : TT} {ps : List MP} {i j : Nat} {l : List Int}
/-! ### comprehensions with a drawn test -/
theorem lc_turnX {Γ2 : Gm} {σ2 : St} {D2 : Addr} {ps : List MP} {B : Bool → Prop} {F1 H1 : Hp} (g1 : Pt E F1 ((D2, ML ps) :: M) H1) (bo : EnvOk F1 σ2 Γ2) (ht : EvT t Γ2 M B M) (he : B true → Ev te Γ2 M P M) (hz : ps.length < 100000) (Nxt : Hp → Prop)
    (hN : ∀ b F2 H2, B b → Ex F1 F2 → Pt E F2 ((D2, ML (if b = true then ps ++ [P] else ps)) :: M) H2 → Nxt H2) : t σ2 H1 fun c H3 => if c = true then te σ2 H3 fun y H4 => ∃ acc, H4 D2 = some (.lst acc) ∧ acc.length < sizeLine ∧ Nxt (upd H4 D2 (.lst (acc ++ [y]))) else Nxt H3 := by
  have gM : Pt ⟨F1, H1, keys M⟩ F1 M H1 := Pt.start (g1.drop (List.sublist_cons_self _ _)).wd
  have nk : D2 ∉ keys M := (List.nodup_cons.mp (show (D2 :: keys M).Nodup from g1.wd.nd)).1
  obtain ⟨fD, o, hD, ws, rfl, s⟩ := g1.at (j := 0) rfl
  have up : ∀ {F' H'}, Pt ⟨F1, H1, keys M⟩ F' M H' → Pt E F' ((D2, ML ps) :: M) H' := fun {F' H'} g => by
    have hh : F' D2 = none := g.gr.off D2 fD (show H1 D2 ≠ none by rw [hD]; exact fun z => by cases z) (fun xs z => by have z : H1 D2 = some (HO.tup xs) := z; rw [hD] at z; cases z)
    have hd : H' D2 = some (.lst ws) := g.gr.keep D2 _ nk hD
    have big : Pt ⟨F1, H1, keys ((D2, ML ps) :: M)⟩ F' ((D2, ML ps) :: M) H' := by
      refine ⟨⟨g.gr.ex, fun a u h1 h2 => g.gr.keep a u (fun z => h1 (List.mem_cons_of_mem _ z)) h2, g.gr.off, g.gr.stay, g.gr.nott⟩, ⟨g.wd.ex, List.nodup_cons.mpr ⟨nk, g.wd.nd⟩, fun r hr => ?_⟩, fun r hr => ?_⟩
      · rcases List.mem_cons.mp hr with e | hm
        · subst e; exact ⟨hh, _, hd, ws, rfl, s.mono g.gr.ex⟩
        · exact g.wd.own r hm
      · rcases List.mem_cons.mp hr with e | hm
        · subst e; exact .inl List.mem_cons_self
        · rcases g.fr r hm with z | z
          · exact .inl (List.mem_cons_of_mem _ z)
          · exact .inr z
    exact g1.back big
  refine ht _ F1 σ2 H1 gM bo _ fun c F3 H3 e3 g3 hc => ?_
  cases c with
  | true =>
    refine he hc _ F3 σ2 H3 g3 (bo.mono e3) _ fun y F4 H4 e4 g4 p4 => ?_
    have g5 := up g4
    obtain ⟨_, o5, h5, ws5, rfl, s5⟩ := g5.at (j := 0) rfl
    refine ⟨ws5, h5, sz_lt (by rw [paired_len s5]; exact hz), ?_⟩
    exact hN true F4 _ hc (e3.trans e4) (g5.mut (j := 0) (O' := ML (ps ++ [P])) rfl ⟨_, rfl, paired_app s5 (.cons p4 .nil)⟩)
  | false => exact hN false F3 _ hc e3 (up g3)
theorem evn_lcRD {z : Int} {G : Nat → MP} (h : EvA tr Γ M [D K (.int z)] M1) (hz : z ≤ 50000 ∧ -50000 ≤ z)
    (ht : ∀ x : Nat, (x : Int) < z → EvT t ((Γ.set i none).set i (some (D K (.int x)))) M1 (fun _ => True) M1) (he : ∀ x : Nat, (x : Int) < z → Ev te ((Γ.set i none).set i (some (D K (.int x)))) M1 (G x) M1) :
    EvN (tLc (iRng1 tr) (gName i) t te [i]) Γ M (MX fun L : List Nat => MA (L.Sublist (List.range z.toNat)) (ML (L.map G))) M1 := fun E F σ H a b Q k => h E F σ H a b _ fun vs F1 H1 e1 g1 p => by
  obtain ⟨v, rfl, hv⟩ := ps1 p
  cases dp_int hv
  refine ⟨z, rfl, by omega, by omega, fun D2 hD => ?_⟩
  have gn : Pt ⟨F1, H1, keys M1⟩ F1 ((D2, ML []) :: M1) (upd H1 D2 (.lst [])) := g1.enter.new hD ⟨[], rfl, .nil⟩
  refine lc_range (lo := 0) (n := z.toNat) (fun n H' => ∃ F' L, L.Sublist (List.range n) ∧ Pt ⟨F1, H1, keys M1⟩ F' ((D2, ML (L.map G)) :: M1) H') ⟨F1, [], List.nil_sublist _, gn⟩ (fun n H2 hn ⟨F2, L, hL, g2⟩ => ⟨wipe_one, ?_⟩) (fun H2 ⟨F2, L, hL, g2⟩ => ?_)
  · have e0 : (0 : Int) + (n : Int) = (n : Int) := Int.zero_add _
    rw [e0]
    have hn2 : (n : Int) < z := by omega
    have hl := hL.length_le
    rw [List.length_range] at hl
    refine lc_turnX g2 ((env_wipe (b.mono (e1.trans g2.gr.ex))).set i (P := D K (.int n)) (.int _)) (ht n hn2) (fun _ => he n hn2) (by rw [List.length_map]; omega) _ fun b F3 H3 _ e3 g3 => ?_
    cases b with
    | true => exact ⟨F3, L ++ [n], by rw [List.range_succ]; exact hL.append (List.Sublist.refl _), by rw [List.map_append]; exact g3⟩
    | false => exact ⟨F3, L, by rw [List.range_succ]; exact hL.trans (List.sublist_append_left _ _), g3⟩
  · exact k D2 F2 H2 (g1.fresh hD) (e1.trans g2.gr.ex) ((g1.back g2).to (j := 0) (O' := MX fun L : List Nat => MA (L.Sublist (List.range z.toNat)) (ML (L.map G))) (fun F o p => ⟨L, hL, p⟩) rfl)
/-! xs[::-1] -/
theorem c_revL {Y : Cx} {e : PySem.Expr} {k : Nat} {p1 p2 p3 pos : Pos} (eK : Y.K = K) (he : PE Y e te) : PE Y (.Subscript e (.Slice none none (some (.UnaryOp .USub (.Constant (.int 1) k p1) p2)) p3) pos) (tRevL K te) := eK ▸ pe_revL he
theorem evn_revL (h : Ev te Γ M (PLi K ps) M1) : EvN (tRevL K te) Γ M (ML ps.reverse) M1 := fun E F σ H a b Q k => h E F σ H a b _ fun v F1 H1 e1 g1 ⟨p, vs, hv, s, q⟩ => by
  refine ⟨p, vs, hv, Evl.ex_l g1.ex s, fun r hr => k r F1 _ (g1.fresh hr) e1 (g1.new hr ⟨vs.reverse, rfl, ?_⟩)⟩
  have key : ∀ {xs : List V} {ys : List MP}, Ps F1 xs ys → Ps F1 xs.reverse ys.reverse := fun {xs ys} h => by
    induction h with
    | nil => exact .nil
    | cons a t ih => rw [List.reverse_cons, List.reverse_cons]; exact paired_app ih (.cons a .nil)
  exact key q
/-- xs[i], i drawn -/
theorem rv_ixX {α : Type} {f : α → PyData} {xs : List α} : RV (rIx K) (D K (.list (xs.map f))) (PIn K 0 (xs.length : Int)) M (PEx fun x : α => PAn (x ∈ xs) (D K (f x))) M := RV.ex2 fun z => RV.an2 fun hz => by
  obtain ⟨n, rfl⟩ := Int.eq_ofNat_of_zero_le hz.1
  have hn : n < xs.length := by omega
  exact (rv_ixDL (ds := xs.map f) (d := f xs[n]) (by omega) (by rw [Int.toNat_natCast, List.getElem?_map, List.getElem?_eq_getElem hn]; rfl)).weak (MP.le_trans (PAn.in (List.getElem_mem hn)) (PEx.in (R := fun x : α => PAn (x ∈ xs) (D K (f x))) xs[n]))
theorem rv_gtX {lo hi c : Int} : RV (rI0 fun i j => .bl (decide (i > j))) (PIn K lo hi) (D K (.int c)) M (PEx fun b : Bool => PAn True (D K (.bool b))) M := RV.ex1 fun x => RV.an1 fun _ => (rv_b0 (g := fun i j => decide (i > j))).weak (MP.le_trans (PAn.in trivial) (PEx.in (R := fun b : Bool => PAn True (D K (.bool b))) _))
end
end Hq
namespace Hq
open PySem L2
def MAny : MO := ⟨fun _ o => ∀ xs, o ≠ .tup xs, fun _ h => h, fun h => h⟩
/-- what is wanted if an exception of the class at C leaves -/
def RtE (E : Ent) (M : Ms) (C : Addr) (X : XK) : Prop := ∀ F H, Pt E F M H → X (.ref C) none H
section
variable {K : PySem.W.Frag} {E E0 : Ent} {F H : Hp} {M M1 M2 M' : Ms} {Γ : Gm} {P P1 : MP} {O O' : MO} {q : Addr} {te ta tb tl tk : TE} {tr : TA} {D1 : Ends} {tu tz : TS} {t u : TT} {ps : List MP} {i j : Nat} {C Cx : Addr} {X : XK} {sp : Sp}
theorem RtE.drop (s : List.Sublist M M') (h : RtE E M C X) : RtE E M' C X := fun F H a => h F H (a.drop s)
theorem RtE.le (l : Le E E0) (h : RtE E0 M C X) : RtE E M C X := fun F H a => h F H (l.to _ _ _ a)
theorem RtE.any (h : RtE E [(q, MAny)] C X) (e : M[j]? = some (q, O)) : RtE E M C X := fun F H a => by
  have s : List.Sublist [(q, O)] M := List.singleton_sublist.mpr (List.mem_of_getElem? e)
  exact h F H ((a.drop s).to (j := 0) (O' := MAny) (fun _ _ h => O.nt h) rfl)
theorem go_raise (k : RtE E M C X) : Nx E Γ M (fun σ H => X (.ref C) none H) := fun σ H ⟨F, a, b⟩ => k F H a
/-- f(..) as a statement, f may raise -/
theorem q_callB {ok : Bool} (h : EvA tr Γ M ps M1) (hs : ∀ vs H Q X, (∃ F, Wd F [] H ∧ Ps F vs ps ∧ (ok = true → Rt ⟨F, H, keys []⟩ [] P Q) ∧ (ok = false → RtE ⟨F, H, keys []⟩ [] Cx X)) → sp vs H Q X)
    (k1 : ok = true → Nx E Γ M1 D1.nx) (k2 : ok = false → RtE E M1 Cx X) : Nx E Γ M (tDrop (tCall sp [] X tr) D1) := fun σ H ⟨F, a, b⟩ => h E F σ H a b _ fun vs F1 H1 e1 a1 p1 => by
  show sp (vs ++ []) H1 _ X
  rw [List.append_nil]
  have w : Wd F1 [] H1 := ⟨a1.wd.ex, List.nodup_nil, fun r hr => by cases hr⟩
  have fr : ∀ {F' H'}, Pt ⟨F1, H1, keys []⟩ F' [] H' → Pt E F' M1 H' := fun g => a1.frame g (fun z hz => by cases hz) rfl fun r hr => .inl ⟨fun z => (by cases z), hr⟩
  exact hs vs H1 _ X ⟨F1, w, p1, fun e v F' H' g hv => k1 e σ H' ⟨F', fr g, b.mono (e1.trans g.gr.ex)⟩, fun e F' H' g => k2 e F' H' (fr g)⟩
/-- C(..) that raises -/
theorem make_no (h : EvA tr Γ M ps M1) (hs : ∀ x vs H Q X, (∃ F, Wd F [(x, MOb C [])] H ∧ Ps F vs (Own x :: ps) ∧ RtE ⟨F, H, keys [(x, MOb C [])]⟩ [(x, MAny)] Cx X) → sp vs H Q X) (k : RtE E M1 Cx X) : Nx E Γ M (tRet (tMake C sp [] X tr) D1) := fun σ H ⟨F, a, b⟩ => h E F σ H a b _ fun vs F1 H1 e1 a1 p1 => fun x dx hx hdx hne => by
  have hx2 : upd H1 dx (.own x) x = none := by rw [upd_ne hne.symm]; exact hx
  have g2 : Pt E F1 ((x, MOb C []) :: M1) (upd (upd H1 dx (.own x)) x (.ins C dx [])) := (a1.junk hdx).new hx2 ⟨dx, [], rfl, .nil⟩
  show sp (V.ref x :: (vs ++ [])) _ _ X
  rw [List.append_nil]
  refine hs x (.ref x :: vs) _ _ X ⟨F1, ⟨g2.ex, by simp [keys], fun r hr => ?_⟩, .cons rfl p1, fun F' H' g => k F' H' ?_⟩
  · rw [List.mem_singleton.mp hr]; exact g2.wd.own _ List.mem_cons_self
  · refine (g2.frame (M' := (x, MAny) :: M1) g (fun z hz => ?_) rfl fun r hr => ?_).drop (List.sublist_cons_self _ _)
    · rw [List.mem_singleton.mp hz]; exact List.mem_cons_self
    · rcases List.mem_cons.mp hr with z | z
      · rw [z]; exact .inr List.mem_cons_self
      · exact .inl ⟨fun w => (List.nodup_cons.mp (show (x :: keys M1).Nodup from g2.wd.nd)).1 (by rw [show x = r.1 from (List.mem_singleton.mp w).symm]; exact List.mem_map_of_mem (f := (·.1)) z), List.mem_cons_of_mem _ z⟩
/-- try: return C(..) except X: return None -/
theorem try_no {c : Value} {Wout : WX} (he : PySem.W.exmOne K (.ref Cx) c = some true) (l : Le E E0) (k : Rt E0 M (D K .none) D1.rt) : RtE E M Cx (fun cls d H => ∀ σ, wOnly K c (fun _ _ _ => tRet (tC .non)) Wout D1 cls d σ H) := fun F H a σ => ⟨true, he, fun _ _ _ => k .non F H (l.to _ _ _ a) .non, fun z => by cases z⟩
theorem exm_self {S : Addr} (h1 : PySem.W.subIn K (.ref S) (.type "BaseException") = some true) (h2 : PySem.W.isClsIn K S = true) (h3 : PySem.W.typeIn K (.ref S) = some (.type "type")) (h4 : PySem.W.subIn K (.ref S) (.ref S) = some true) :
    PySem.W.exmOne K (.ref S) (.ref S) = some true := by
  have e1 : (PySem.W.subIn K (.ref S) (.type "BaseException") == some true) = true := by rw [h1] <;> rfl
  have e2 : ((PySem.W.clsIn K S).isSome && PySem.W.typeIn K (.ref S) == some (.type "type")) = true := by
    have h2' : (PySem.W.clsIn K S).isSome = true := h2
    rw [h2', h3] <;> rfl
  show (if (PySem.W.subIn K (.ref S) (.type "BaseException") == some true) = true then (if ((PySem.W.clsIn K S).isSome && PySem.W.typeIn K (.ref S) == some (.type "type")) = true then PySem.W.subIn K (.ref S) (.ref S) else none) else none) = some true
  rw [if_pos e1, if_pos e2]
  exact h4
end
end Hq
namespace Hq
open PySem L2
section
variable {K : PySem.W.Frag} {E E0 : Ent} {F H : Hp} {M M1 M2 M' : Ms} {Γ : Gm} {P P1 : MP} {O O' : MO} {q : Addr} {te ta tb tl tk : TE} {tr : TA} {D1 : Ends} {tu tz : TS} {t u : TT} {ps : List MP} {i j : Nat}
variable {γ : Type} {zs : List γ} {RA RB G : γ → MP} {f : γ → Bool}
/-! ### walks over pairs that stand -/
theorem evn_lcLP (hij : i ≠ j) (h : Ev tl Γ M (PLi K (zs.map fun z => PTu K [RA z, RB z])) M1) (hz : zs.length ≤ 50000)
    (ht : ∀ z ∈ zs, EvT t ((((Γ.set j none).set i none).set i (some (RA z))).set j (some (RB z))) M1 (· = f z) M1)
    (he : ∀ z ∈ zs, f z = true → Ev te ((((Γ.set j none).set i none).set i (some (RA z))).set j (some (RB z))) M1 (G z) M1) :
    EvN (tLc (iList K tl) (gPair K i j) t te [i, j]) Γ M (ML ((zs.filter f).map G)) M1 := fun E F σ H a b Q k => h E F σ H a b _ fun v F1 H1 e1 g1 ⟨p, vs, hp, s, q⟩ => by
  refine ⟨p, hp, ⟨vs, Evl.ex_l g1.ex s⟩, fun D2 hD => ?_⟩
  have gn : Pt ⟨F1, H1, keys M1⟩ F1 ((D2, ML []) :: M1) (upd H1 D2 (.lst [])) := g1.enter.new hD ⟨[], rfl, .nil⟩
  refine lc_list (xs := vs) (fun n H' => ∃ F', Pt ⟨F1, H1, keys M1⟩ F' ((D2, ML (((zs.take n).filter f).map G)) :: M1) H') ⟨F1, gn⟩ (fun n H2 _ ⟨F2, g2⟩ => Evl.ex_l (g2.gr.ex.trans g2.ex) s) (fun n x H2 hx ⟨F2, g2⟩ => ?_) (fun H2 ⟨F2, g2⟩ => ?_)
  · obtain ⟨P, hP, hx2⟩ := paired_get' q hx
    rw [List.getElem?_map] at hP
    cases hy : zs[n]? with
    | none => rw [hy] at hP; cases hP
    | some z =>
      rw [hy] at hP
      have hP : PTu K [RA z, RB z] = P := Option.some.inj hP
      subst hP
      have hm := List.mem_of_getElem? hy
      obtain ⟨T, us, rfl, hT, hu⟩ := hx2
      obtain ⟨x1, y1, rfl, hxA, hyB⟩ := ps2 hu
      refine ⟨T, [x1, y1], rfl, Evl.ex_t (g2.gr.ex.trans g2.ex) hT, rfl, x1, [y1], rfl, y1, [], rfl, rfl, wipe_two hij, ?_⟩
      refine lc_turn g2 (((env_wipe2 (b.mono (e1.trans g2.gr.ex))).set i ((RA z).mono g2.gr.ex hxA)).set j ((RB z).mono g2.gr.ex hyB)) (ht z hm) (he z hm) ?_ _ fun F3 H3 e3 g3 => ⟨F3, ?_⟩
      · rw [List.length_map]
        exact Nat.lt_of_le_of_lt (Nat.le_trans (List.length_filter_le _ _) (by rw [List.length_take]; omega)) (by omega : zs.length < 100000)
      · rw [take_filter zs f n z hy, List.map_append]
        cases hf : f z
        · rw [hf] at g3; simpa using g3
        · rw [hf] at g3; simpa using g3
  · rw [paired_len q, List.length_map, List.take_length] at g2
    exact k D2 F2 H2 (g1.fresh hD) (e1.trans g2.gr.ex) (g1.back g2)
theorem evn_lcTP (hij : i ≠ j) (h : Ev tl Γ M (PTu K (zs.map fun z => PTu K [RA z, RB z])) M1) (hz : zs.length ≤ 50000)
    (ht : ∀ z ∈ zs, EvT t ((((Γ.set j none).set i none).set i (some (RA z))).set j (some (RB z))) M1 (· = f z) M1)
    (he : ∀ z ∈ zs, f z = true → Ev te ((((Γ.set j none).set i none).set i (some (RA z))).set j (some (RB z))) M1 (G z) M1) :
    EvN (tLc (iTup K tl) (gPair K i j) t te [i, j]) Γ M (ML ((zs.filter f).map G)) M1 := fun E F σ H a b Q k => h E F σ H a b _ fun v F1 H1 e1 g1 ⟨p, vs, hp, s, q⟩ => by
  refine ⟨p, hp, ⟨vs, Evl.ex_t g1.ex s⟩, fun D2 hD => ?_⟩
  have gn : Pt ⟨F1, H1, keys M1⟩ F1 ((D2, ML []) :: M1) (upd H1 D2 (.lst [])) := g1.enter.new hD ⟨[], rfl, .nil⟩
  refine lc_tup (xs := vs) (fun n H' => ∃ F', Pt ⟨F1, H1, keys M1⟩ F' ((D2, ML (((zs.take n).filter f).map G)) :: M1) H') ⟨F1, gn⟩ (fun n H2 _ ⟨F2, g2⟩ => Evl.ex_t (g2.gr.ex.trans g2.ex) s) (fun n x H2 hx ⟨F2, g2⟩ => ?_) (fun H2 ⟨F2, g2⟩ => ?_)
  · obtain ⟨P, hP, hx2⟩ := paired_get' q hx
    rw [List.getElem?_map] at hP
    cases hy : zs[n]? with
    | none => rw [hy] at hP; cases hP
    | some z =>
      rw [hy] at hP
      have hP : PTu K [RA z, RB z] = P := Option.some.inj hP
      subst hP
      have hm := List.mem_of_getElem? hy
      obtain ⟨T, us, rfl, hT, hu⟩ := hx2
      obtain ⟨x1, y1, rfl, hxA, hyB⟩ := ps2 hu
      refine ⟨T, [x1, y1], rfl, Evl.ex_t (g2.gr.ex.trans g2.ex) hT, rfl, x1, [y1], rfl, y1, [], rfl, rfl, wipe_two hij, ?_⟩
      refine lc_turn g2 (((env_wipe2 (b.mono (e1.trans g2.gr.ex))).set i ((RA z).mono g2.gr.ex hxA)).set j ((RB z).mono g2.gr.ex hyB)) (ht z hm) (he z hm) ?_ _ fun F3 H3 e3 g3 => ⟨F3, ?_⟩
      · rw [List.length_map]
        exact Nat.lt_of_le_of_lt (Nat.le_trans (List.length_filter_le _ _) (by rw [List.length_take]; omega)) (by omega : zs.length < 100000)
      · rw [take_filter zs f n z hy, List.map_append]
        cases hf : f z
        · rw [hf] at g3; simpa using g3
        · rw [hf] at g3; simpa using g3
  · rw [paired_len q, List.length_map, List.take_length] at g2
    exact k D2 F2 H2 (g1.fresh hD) (e1.trans g2.gr.ex) (g1.back g2)
/-- for a, b in a list of pairs -/
theorem go_forLP (h : Ev tl Γ M (PLi K (zs.map fun z => PTu K [RA z, RB z])) M1) (J : Nat → Gm → Ms → Prop) (h0 : J 0 Γ M1)
    (hs : ∀ E', Le E' E → ∀ n z, zs[n]? = some z → ∀ Γ' M', J n Γ' M' → Nx E' ((Γ'.set i (some (RA z))).set j (some (RB z))) M' (tu { D1 with nx := JA E' (J (n + 1)), ct := JA E' (J (n + 1)), bk := D1.nx }))
    (hd : ∀ Γ' M', J zs.length Γ' M' → Nx E Γ' M' D1.nx) : Nx E Γ M (tFor (iList K tl) (gPair K i j) tu D1) := fun σ H ⟨F, a, b⟩ => h E F σ H a b _ fun v F1 H1 e1 g1 ⟨p, vs, hp, s, q⟩ => by
  refine ⟨p, hp, ⟨vs, Evl.ex_l g1.ex s⟩, for_list (xs := vs) (fun n σ H => JA ⟨F1, H1, keys M1⟩ (J n) σ H) ⟨Γ, M1, h0, F1, g1.enter, b.mono e1⟩ (fun n σ2 H2 _ ⟨Γ', M', _, F2, g2, _⟩ => Evl.ex_l (g2.gr.ex.trans g2.ex) s)
    (fun n x σ2 H2 hx ⟨Γ', M', hJ, F2, g2, b2⟩ => ?_) (fun σ2 H2 hJ => ?_)⟩
  · obtain ⟨P, hP, hx2⟩ := paired_get' q hx
    rw [List.getElem?_map] at hP
    obtain ⟨z, hz, rfl⟩ := Option.map_eq_some_iff.mp hP
    obtain ⟨T, us, rfl, hT, hu⟩ := hx2
    obtain ⟨x1, y1, rfl, hxA, hyB⟩ := ps2 hu
    exact ⟨T, [x1, y1], rfl, Evl.ex_t (g2.gr.ex.trans g2.ex) hT, rfl, x1, [y1], rfl, y1, [], rfl, rfl, hs ⟨F1, H1, keys M1⟩ g1.le n z hz Γ' M' hJ _ _ ⟨F2, g2, (b2.set i ((RA z).mono g2.gr.ex hxA)).set j ((RB z).mono g2.gr.ex hyB)⟩⟩
  · rw [paired_len q, List.length_map] at hJ
    obtain ⟨Γ', M', hJ, at2⟩ := hJ
    exact hd Γ' M' hJ _ _ (at2.le g1.le)
theorem q_forLP (h : Ev tl Γ M (PLi K (zs.map fun z => PTu K [RA z, RB z])) M1) (J : Nat → Gm → Ms → Prop) (h0 : J 0 Γ M1)
    (hs : ∀ E', Le E' E → ∀ n z, zs[n]? = some z → ∀ Γ' M', J n Γ' M' → Nx E' ((Γ'.set i (some (RA z))).set j (some (RB z))) M' (tu { D1 with nx := JA E' (J (n + 1)), ct := JA E' (J (n + 1)), bk := tz D1 }))
    (hd : ∀ Γ' M', J zs.length Γ' M' → Nx E Γ' M' (tz D1)) : Nx E Γ M (tSeq (tFor (iList K tl) (gPair K i j) tu) tz D1) := go_forLP (D1 := { D1 with nx := tz D1 }) h J h0 hs hd
/-- data pairs -/
theorem le_pair {α : Type} {a b : α → PyData} {zs : List α} : (D K (.list (zs.map fun z => .tuple [a z, b z]))).le (PLi K (zs.map fun z => PTu K [D K (a z), D K (b z)])) := fun F v h => by
  obtain ⟨p, vs, e, s, q⟩ := le_Lm (f := fun z => PyData.tuple [a z, b z]) F v h
  refine ⟨p, vs, e, s, ?_⟩
  have key : ∀ {vs : List V} {zs : List α}, Ps F vs (zs.map fun z => D K (.tuple [a z, b z])) → Ps F vs (zs.map fun z => PTu K [D K (a z), D K (b z)]) := fun {vs zs} => by
    induction zs generalizing vs with
    | nil => intro h; cases h; exact .nil
    | cons z zs ih => intro h; cases h with | cons h t => exact .cons (D_PTu (ds := [a z, b z]) F _ h) (ih t)
  exact key q
theorem le_pairT {α : Type} {a b : α → PyData} {zs : List α} : (D K (.tuple (zs.map fun z => .tuple [a z, b z]))).le (PTu K (zs.map fun z => PTu K [D K (a z), D K (b z)])) := fun F v h => by
  obtain ⟨p, vs, e, s, q⟩ := le_Tm (f := fun z => PyData.tuple [a z, b z]) F v h
  refine ⟨p, vs, e, s, ?_⟩
  have key : ∀ {vs : List V} {zs : List α}, Ps F vs (zs.map fun z => D K (.tuple [a z, b z])) → Ps F vs (zs.map fun z => PTu K [D K (a z), D K (b z)]) := fun {vs zs} => by
    induction zs generalizing vs with
    | nil => intro h; cases h; exact .nil
    | cons z zs ih => intro h; cases h with | cons h t => exact .cons (D_PTu (ds := [a z, b z]) F _ h) (ih t)
  exact key q
/-! slices of an own list of any items -/
theorem evn_slML {lo hi : Option Int} {tl th : TO} (ho : Ev ta Γ M (Own q) M) (h1 : EvP tl Γ M lo) (h2 : EvP th Γ M hi) (e : M[j]? = some (q, ML ps)) : EvN (tSl (rSlL K) ta tl th) Γ M (ML (cutG ps lo hi)) M := fun E F σ H a b Q k =>
  ho E F σ H a b _ fun v F1 H1 e1 g1 p1 => h1 E F1 σ H1 g1 (b.mono e1) _ fun F2 H2 e2 g2 => h2 E F2 σ H2 g2 (b.mono (e1.trans e2)) _ fun F3 H3 e3 g3 => by
    have p1 : v = .ref q := p1
    subst p1
    obtain ⟨fq, o, ho3, vs, rfl, s⟩ := g3.at e
    refine ⟨q, vs, rfl, SqL.of ho3, fun r hr => ?_⟩
    refine k r F3 _ (g3.fresh hr) ((e1.trans e2).trans e3) (g3.new hr ⟨cutV vs lo hi, rfl, ?_⟩)
    have hl : vs.length = ps.length := paired_len s
    unfold cutV cutG
    rw [hl]
    exact paired_take _ (paired_drop _ s)
end
end Hq
namespace Hq
open PySem L2
section
variable {K : PySem.W.Frag} {E E0 : Ent} {F H : Hp} {M M1 M2 M' : Ms} {Γ : Gm} {P P1 : MP} {O O' : MO} {q : Addr} {te ta tb tl tk : TE} {tr : TA} {D1 : Ends} {tu tz : TS} {t u : TT} {ps : List MP} {i j : Nat} {C Cx : Addr} {X : XK} {sp : Sp} {f m : Str} {fps : List (Str × MP)}
/-- a pair as data -/
theorem enc_pair {α β : Type} [DecidableEq α] [DecidableEq β] {f : α → PyData} {g : β → PyData} {n m : Nat} (a : Enc f n) (b : Enc g m) : Enc (fun x : α × β => PyData.tuple [f x.1, g x.2]) (max n m + 1) := ⟨fun x y => by
  show (PyData.eqv (f x.1) (f y.1) && (PyData.eqv (g x.2) (g y.2) && true)) = _
  rw [a.eq, b.eq, Bool.and_true, Bool.eq_iff_iff, Bool.and_eq_true, decide_eq_true_iff, decide_eq_true_iff, decide_eq_true_iff]
  exact ⟨fun h => Prod.ext h.1 h.2, fun h => by rw [h]; exact ⟨rfl, rfl⟩⟩, fun x => by
  show (PyData.canLay0 (f x.1) && (PyData.canLay0 (g x.2) && true)) = true
  rw [a.lay, b.lay]; rfl, fun x => by
  have h1 := a.deep x.1
  have h2 := b.deep x.2
  simp only [PyData.depth, PyData.depthAll]
  omega⟩
/-- self.f += e -/
theorem go_fldAugI {x y : Int} (ho : Ev ta Γ M (Own q) M) (e : M[j]? = some (q, MOb C fps)) (hz : fps.length < 99) (i : Nat) (hi : fps[i]? = some (f, D K (.int x))) (hf : ∀ g ∈ fps.take i, g.1 ≠ f) (hc : Cls K C) (hn : NoAttr K C f) (hv : Ev tb Γ M (D K (.int y)) M)
    (k : Nx E Γ (M.set j (q, MOb C (fps.set i (f, D K (.int (x + y)))))) D1.nx) : Nx E Γ M (sFldAug K ta tb rAdd f D1) := fun σ H ⟨F, a, b⟩ => ho E F σ H a b _ fun v F1 H1 e1 g1 p1 => by
  have p1 : v = .ref q := p1
  subst p1
  obtain ⟨_, o, ho1, dx, fs, rfl, h3⟩ := g1.at e
  obtain ⟨w, hw, pw⟩ := fo_look h3 hi hf
  cases dp_int pw
  refine ⟨q, C, dx, fs, _, rfl, ho1, hc, hn, hw, ?_⟩
  refine hv E F1 σ H1 g1 (b.mono e1) _ fun z F2 H2 e2 g2 p2 => ?_
  cases dp_int p2
  obtain ⟨_, o2, ho2, dx2, fs2, rfl, h4⟩ := g2.at e
  have := fo_len h4
  have fin : Nx E Γ (M.set j (q, MOb C (fps.set i (f, D K (.int (x + y)))))) D1.nx := k
  refine ⟨x, y, rfl, rfl, dx2, fs2, ho2, by omega, ?_⟩
  exact k _ _ ⟨F2, g2.mut e ⟨dx2, _, rfl, fo_set h4 hi hf (.int _)⟩, b.mono (e1.trans e2)⟩
/-- o.m(..) that raises -/
theorem meth_no (ho : Ev ta Γ M (Own q) M) (e0 : M[j]? = some (q, MOb C fps)) (hn : ∀ g ∈ fps, g.1 ≠ m) (h : EvA tr Γ M ps M) (hs : ∀ vs H Q X, (∃ F, Wd F [(q, MOb C fps)] H ∧ Ps F vs (Own q :: ps) ∧ RtE ⟨F, H, keys [(q, MOb C fps)]⟩ [(q, O')] Cx X) → sp vs H Q X)
    (k : RtE E (M.set j (q, O')) Cx X) {Qs : St → VK} : Nx E Γ M (fun σ H => tMeth C m sp [] X ta tr σ H (Qs σ)) := fun σ H ⟨F, a, b⟩ => ho E F σ H a b _ fun v F1 H1 e1 g1 p1 => by
  have p1 : v = .ref q := p1
  subst p1
  obtain ⟨_, o, ho1, dx, fs, rfl, h3⟩ := g1.at e0
  refine ⟨q, dx, fs, rfl, ho1, fo_none h3 hn, ?_⟩
  refine h E F1 σ H1 g1 (b.mono e1) _ fun vs F2 H2 e2 g2 p2 => ?_
  show sp (V.ref q :: (vs ++ [])) H2 _ X
  rw [List.append_nil]
  have gq := g2.at e0
  have w : Wd F2 [(q, MOb C fps)] H2 := ⟨g2.wd.ex, by simp [keys], fun r hr => by rw [List.mem_singleton.mp hr]; exact gq⟩
  refine hs _ _ _ X ⟨F2, w, .cons rfl p2, fun F' H' g => k F' H' (g2.frame (M' := M.set j (q, O')) g (fun z hz => ?_) (keys_set e0) fun r hr => ?_)⟩
  · rw [List.mem_singleton.mp hz]
    exact List.mem_map_of_mem (f := (·.1)) (List.mem_of_getElem? e0)
  · rcases mem_set_ne g2.wd.nd e0 r hr with z | ⟨z, n⟩
    · rw [z]; exact .inr List.mem_cons_self
    · exact .inl ⟨fun c => n (List.mem_singleton.mp c), z⟩
/-- an own list compared with data -/
theorem rv_neLO {α : Type} [DecidableEq α] {g : α → PyData} {n : Nat} (en : Enc g n) (hn : n + 1 ≤ 64) {xs ys : List α} (e : M[j]? = some (q, ML (ys.map fun x => D K (g x)))) : RV (rNeD K) (D K (.list (xs.map g))) (Own q) M (D K (.bool (!decide (xs = ys)))) M := fun E F H x y a p1 p2 Q k => by
  have p2 : y = .ref q := p2
  subst p2
  obtain ⟨fq, o, ho, vs, rfl, s⟩ := a.at e
  have ds : DpAll K F vs (ys.map g) := by
    refine ps_all (K := K) ?_
    rw [List.map_map]
    exact s
  refine ⟨.list (xs.map g), .list (ys.map g), Dp.mono a.ex p1, .lst (SqL.of ho) (DpAll.mono a.ex ds), en.all_shaped hn xs, en.all_shaped hn ys, ?_⟩
  have ee := (enc_list en).eq xs ys
  have ee : PyData.eqv (.list (xs.map g)) (.list (ys.map g)) = decide (xs = ys) := ee
  rw [ee]
  exact k _ F H (Evl.Ex.refl _) a (.bl _)
/-- a comprehension over an own list -/
theorem evn_lcO {α : Type} {xs : List α} {R G : α → MP} {f : α → Bool} (h : Ev tl Γ M (Own q) M) (e : M[j]? = some (q, ML (xs.map R))) (hz : xs.length ≤ 50000)
    (ht : ∀ x ∈ xs, EvT t ((Γ.set i none).set i (some (R x))) (M.eraseIdx j) (· = f x) (M.eraseIdx j)) (he : ∀ x ∈ xs, f x = true → Ev te ((Γ.set i none).set i (some (R x))) (M.eraseIdx j) (G x) (M.eraseIdx j)) :
    EvN (tLc (iList K tl) (gName i) t te [i]) Γ M (ML ((xs.filter f).map G)) M := fun E F σ H a b Q k => h E F σ H a b _ fun v F1 H1 e1 g1 p1 => by
  have p1 : v = .ref q := p1
  subst p1
  obtain ⟨fq, o, ho, vs, rfl, qq⟩ := g1.at e
  have nd := g1.wd.nd
  have sub : List.Sublist (M.eraseIdx j) M := List.eraseIdx_sublist _ _
  have nq : q ∉ keys (M.eraseIdx j) := by
    have key : ∀ {M : Ms} {j : Nat} {O : MO}, (keys M).Nodup → M[j]? = some (q, O) → q ∉ keys (M.eraseIdx j) := by
      intro M
      induction M with
      | nil => intro j O _ h; simp at h
      | cons m M ih =>
        intro j O nd e hm
        have nd' := List.nodup_cons.mp (show (m.1 :: keys M).Nodup from nd)
        cases j with
        | zero =>
          have e1 : m = (q, O) := Option.some.inj e
          subst e1
          exact nd'.1 hm
        | succ j =>
          have e1 : M[j]? = some (q, O) := e
          rcases List.mem_cons.mp (show q ∈ m.1 :: keys (M.eraseIdx j) from hm) with z | z
          · exact nd'.1 (by rw [← z]; exact List.mem_map_of_mem (f := (·.1)) (List.mem_of_getElem? e1))
          · exact ih nd'.2 e1 z
    exact key nd e
  have mem : ∀ r ∈ M, r.1 = q ∨ r ∈ M.eraseIdx j := by
    have key : ∀ {M : Ms} {j : Nat} {O : MO}, M[j]? = some (q, O) → ∀ r ∈ M, r.1 = q ∨ r ∈ M.eraseIdx j := by
      intro M
      induction M with
      | nil => intro j O h; simp at h
      | cons m M ih =>
        intro j O e r hr
        cases j with
        | zero =>
          have e1 : m = (q, O) := Option.some.inj e
          subst e1
          rcases List.mem_cons.mp hr with z | z
          · rw [z]; exact .inl rfl
          · exact .inr z
        | succ j =>
          have e1 : M[j]? = some (q, O) := e
          rcases List.mem_cons.mp hr with z | z
          · rw [z]; exact .inr List.mem_cons_self
          · rcases ih e1 r z with y | y
            · exact .inl y
            · exact .inr (List.mem_cons_of_mem _ y)
    exact key e
  have ga : Pt E F1 (M.eraseIdx j) H1 := g1.drop sub
  refine ⟨q, rfl, ⟨vs, SqL.of ho⟩, fun D2 hD => ?_⟩
  have gn : Pt ⟨F1, H1, keys (M.eraseIdx j)⟩ F1 ((D2, ML []) :: M.eraseIdx j) (upd H1 D2 (.lst [])) := ga.enter.new hD ⟨[], rfl, .nil⟩
  refine lc_list (xs := vs) (fun n H' => ∃ F', Pt ⟨F1, H1, keys (M.eraseIdx j)⟩ F' ((D2, ML (((xs.take n).filter f).map G)) :: M.eraseIdx j) H') ⟨F1, gn⟩ (fun n H2 _ ⟨F2, g2⟩ => SqL.of (g2.gr.keep q _ nq ho)) (fun n x H2 hx ⟨F2, g2⟩ => ⟨wipe_one, ?_⟩) (fun H2 ⟨F2, g2⟩ => ?_)
  · obtain ⟨P, hP, hx2⟩ := paired_get' qq hx
    rw [List.getElem?_map] at hP
    cases hy : xs[n]? with
    | none => rw [hy] at hP; cases hP
    | some y =>
      rw [hy] at hP
      have hP : R y = P := Option.some.inj hP
      subst hP
      have hm := List.mem_of_getElem? hy
      refine lc_turn g2 ((env_wipe (b.mono (e1.trans g2.gr.ex))).set i ((R y).mono g2.gr.ex hx2)) (ht y hm) (he y hm) ?_ _ fun F3 H3 e3 g3 => ⟨F3, ?_⟩
      · rw [List.length_map]
        exact Nat.lt_of_le_of_lt (Nat.le_trans (List.length_filter_le _ _) (by rw [List.length_take]; omega)) (by omega : xs.length < 100000)
      · rw [take_filter xs f n y hy, List.map_append]
        cases hf : f y
        · rw [hf] at g3; simpa using g3
        · rw [hf] at g3; simpa using g3
  · rw [paired_len qq, List.length_map, List.take_length] at g2
    refine k D2 F2 H2 (g1.fresh hD) (e1.trans g2.gr.ex) (g1.frameN hD g2 (fun z hz => ?_) rfl fun r hr => ?_)
    · exact (sub.map _).subset hz
    · rcases mem r hr with z | z
      · exact .inl ⟨by rw [z]; exact nq, hr⟩
      · exact .inr z
end
end Hq
namespace Hq
open PySem L2
section
variable {K : PySem.W.Frag} {E E0 : Ent} {F H : Hp} {M M1 M2 M' : Ms} {Γ : Gm} {P P1 : MP} {O O' : MO} {q : Addr} {te ta tb tl tk tv td : TE} {tr : TA} {D1 : Ends} {tu tz : TS} {t u : TT} {ps : List MP} {i j : Nat}
/-! gcd, list.count -/
theorem rc_gcd {a b : Int} : RC rGcd [D K (.int a), D K (.int b)] M (D K (.int ((Nat.gcd a.natAbs b.natAbs : Nat) : Int))) M := fun E F H vs g h Q k => by
  obtain ⟨v, w, rfl, p1, p2⟩ := ps2 h
  cases dp_int p1; cases dp_int p2
  exact ⟨a, b, rfl, k _ F H (Evl.Ex.refl _) g (.int _)⟩
theorem c_lcount {Y : Cx} (e : Y.K = K) : MtR Y "list.count" (rCntI K) := e ▸ mt_lcount
theorem ev_count {ns : List Int} {x : Int} (ho : Ev ta Γ M (PLi K (ns.map fun n => D K (.int n))) M1) (h : Ev te Γ M1 (D K (.int x)) M2) : Ev (tBM K "list" (rCntI K) ta (tCons te tNil)) Γ M (D K (.int (ns.count x : Nat))) M2 := fun E F σ H a b Q k => ho E F σ H a b _ fun v F1 H1 e1 g1 ⟨p, ws, hv, s, hp⟩ => by
  subst hv
  have es := ints_map hp
  subst es
  refine ⟨.inl ⟨rfl, _, Evl.ex_l g1.ex s⟩, ?_⟩
  refine h E F1 σ H1 g1 (b.mono e1) _ fun w F2 H2 e2 g2 p2 => ?_
  cases dp_int p2
  exact ⟨p, ns, x, rfl, rfl, Evl.ex_l (e2.trans g2.ex) s, k _ F2 H2 (e1.trans e2) g2 (.int _)⟩
/-! a dict of ints to ints -/
def MDO (g : Int → Option Int) (n : Nat) : MO := ⟨fun _ o => ∃ kvs : List (Key × V), o = .dK kvs ∧ kvs.length ≤ n ∧ ∀ x : Int, valV kvs (.inl x) = (g x).map V.int, fun _ h => h, fun ⟨kvs, h, _⟩ xs z => by rw [h] at z; cases z⟩
theorem evn_dcV {φ : List Int → Prop} {L : List Int} {n : Nat} {val : Int → Int} (h : Ev tl Γ M (PEx fun xs : List Int => PAn (φ xs) (PLi K (xs.map fun x => D K (.int x)))) M1) (hφ : ∀ xs, φ xs → (∀ x, x ∈ xs ↔ x ∈ L) ∧ xs.length ≤ n) (hz : n ≤ 50000) (hi : i < Γ.length)
    (hv : ∀ x ∈ L, ∀ M, Ev tv ((Γ.set i none).set i (some (D K (.int x)))) M (D K (.int (val x))) M) :
    EvN (tDc (iList K tl) (gName i) tYes (tVar i) tv [i]) Γ M (MDO (fun x => if x ∈ L then some (val x) else none) n) M1 := fun E F σ H a b Q k => h E F σ H a b _ fun v F1 H1 e1 g1 ⟨xs, hxs, p, vs, hp, s, q⟩ => by
  obtain ⟨hL, hn⟩ := hφ xs hxs
  refine ⟨p, hp, ⟨vs, Evl.ex_l g1.ex s⟩, fun D2 hD => ?_⟩
  have hl : vs.length = xs.length := by have := paired_len q; rwa [List.length_map] at this
  have gn : Pt ⟨F1, H1, keys M1⟩ F1 ((D2, MDO (fun x => if x ∈ xs.take 0 then some (val x) else none) 0) :: M1) (upd H1 D2 (.dK [])) := g1.enter.new hD ⟨[], rfl, Nat.le_refl _, fun x => by simp; rfl⟩
  refine ⟨fun n m H' => m = xs.length - n ∧ n ≤ xs.length ∧ ∃ F', Pt ⟨F1, H1, keys M1⟩ F' ((D2, MDO (fun x => if x ∈ xs.take n then some (val x) else none) n) :: M1) H', ⟨_, rfl, Nat.zero_le _, F1, gn⟩, ?_⟩
  rintro n2 m H2 ⟨rfl, hn2, F2, g2⟩
  have sl2 : SqL K H2 p vs := Evl.ex_l (g2.gr.ex.trans g2.ex) s
  rcases Nat.lt_or_ge n2 xs.length with hlt | hge
  case inr =>
    refine .inl ⟨⟨vs, sl2, by omega⟩, ?_⟩
    rw [List.take_of_length_le (by omega)] at g2
    have le : ∀ F o, (MDO (fun x => if x ∈ xs then some (val x) else none) n2).p F o → (MDO (fun x => if x ∈ L then some (val x) else none) n).p F o := fun F o ⟨kvs, h1, h2, h3⟩ => ⟨kvs, h1, by omega, fun x => by
      rw [h3 x]
      have e : (x ∈ xs) = (x ∈ L) := propext (hL x)
      simp only [e]⟩
    exact k D2 F2 H2 (g1.fresh hD) (e1.trans g2.gr.ex) ((g1.back g2).to (j := 0) le rfl)
  refine .inr ⟨⟨vs, vs[n2], sl2, List.getElem?_eq_getElem (by omega)⟩, fun H' => n2 + 1 ≤ xs.length ∧ ∃ F', Pt ⟨F1, H1, keys M1⟩ F' ((D2, MDO (fun x => if x ∈ xs.take (n2 + 1) then some (val x) else none) (n2 + 1)) :: M1) H', fun H' ⟨c1, c2⟩ => ⟨_, by omega, rfl, c1, c2⟩, fun x H' y => ?_⟩
  obtain ⟨rfl, y⟩ := y
  have hx := y vs sl2
  obtain ⟨P, hP, hx2⟩ := paired_get' q hx
  have hxn : xs[n2]? = some xs[n2] := List.getElem?_eq_getElem hlt
  have hzL : xs[n2] ∈ L := (hL _).mp (List.getElem_mem hlt)
  rw [List.getElem?_map, hxn] at hP
  have hP : D K (.int xs[n2]) = P := Option.some.inj hP
  subst hP
  have tk : xs.take (n2 + 1) = xs.take n2 ++ [xs[n2]] := by rw [List.take_add_one, hxn]; rfl
  rw [tk]
  generalize xs[n2] = z at *
  have b2 : EnvOk F2 ((wipe σ [i]).set i (some x)) ((Γ.set i none).set i (some (D K (.int z)))) := (env_wipe (b.mono (e1.trans g2.gr.ex))).set i ((D K (.int z)).mono g2.gr.ex hx2)
  refine ⟨wipe_one, ?_⟩
  refine (et_yes (M := (D2, MDO (fun x => if x ∈ xs.take n2 then some (val x) else none) n2) :: M1) (Γ := (Γ.set i none).set i (some (D K (.int z))))) _ F2 _ _ g2 b2 _ fun c F3 H3 e3 g3 hc => ?_
  have hc : c = true := hc
  subst hc
  rw [if_pos rfl]
  refine (ev_var (i := i) (P := D K (.int z)) (by simp [hi])) _ F3 _ H3 g3 (b2.mono e3) _ fun w F4 H4 e4 g4 p4 => ?_
  refine (hv z hzL _) _ F4 _ H4 g4 (b2.mono (e3.trans e4)) _ fun w5 F5 H5 e5 g5 p5 => ?_
  cases dp_int p4
  cases dp_int p5
  obtain ⟨fq, o, ho, kvs, rfl, hk1, hk2⟩ := g5.at (j := 0) rfl
  refine ⟨kvs, .inl z, rfl, ho, sz_lt (by omega), hlt, F5, g5.mut (j := 0) rfl ⟨_, rfl, ?_, fun x => ?_⟩⟩
  · have := put_len (kvs := kvs) (k := .inl z) (z := .int (val z))
    omega
  · rw [valV_put]
    by_cases e : x = z
    · subst e; rw [if_pos rfl]; simp
    · rw [if_neg (fun c => e (Sum.inl.inj c)), hk2 x]
      simp [e]
theorem ev_dgetI {g : Int → Option Int} {n : Nat} {x y : Int} (hd : Ev td Γ M (Own q) M1) (hk : Ev tk Γ M1 (D K (.int x)) M2) (e : M2[j]? = some (q, MDO g n)) (hg : g x = some y) : Ev (tDGet td tk) Γ M (D K (.int y)) M2 := fun E F σ H a b Q k => by
  refine hd E F σ H a b _ fun v F1 H1 e1 g1 p1 => hk E F1 σ H1 g1 (b.mono e1) _ fun w F2 H2 e2 g2 p2 => ?_
  have p1 : v = .ref q := p1
  subst p1
  cases dp_int p2
  obtain ⟨fq, o, ho, kvs, rfl, _, hkv⟩ := g2.at e
  refine ⟨q, .int y, rfl, ?_, k _ F2 H2 (e1.trans e2) g2 (.int _)⟩
  have := DGet.k (k := .inl x) ho
  rw [hkv, hg] at this
  exact this
/-- d[x] -= e -/
theorem go_dsubI {g : Int → Option Int} {n : Nat} {x y w : Int} (hd : Ev td Γ M (Own q) M) (hk : Ev tk Γ M (D K (.int x)) M) (hv : Ev tv Γ M (D K (.int w)) M) (e : M[j]? = some (q, MDO g n)) (hn : n < 50000) (hg : g x = some y)
    (k : Nx E Γ (M.set j (q, MDO (fun z => if z = x then some (y - w) else g z) (n + 1))) D1.nx) : Nx E Γ M (sDAug td tk tv rSub D1) := fun σ H ⟨F, a, b⟩ => by
  refine hd E F σ H a b _ fun v F1 H1 e1 g1 p1 => hk E F1 σ H1 g1 (b.mono e1) _ fun u F2 H2 e2 g2 p2 => ?_
  have p1 : v = .ref q := p1
  subst p1
  cases dp_int p2
  obtain ⟨fq, o, ho, kvs, rfl, _, hkv⟩ := g2.at e
  refine ⟨q, .int y, rfl, ?_, ?_⟩
  · have := DGet.k (k := .inl x) ho
    rw [hkv, hg] at this
    exact this
  refine hv E F2 σ H2 g2 (b.mono (e1.trans e2)) _ fun z F3 H3 e3 g3 p3 => ?_
  cases dp_int p3
  obtain ⟨fq, o, ho, kvs, rfl, hl, hkv⟩ := g3.at e
  refine ⟨y, w, rfl, rfl, _, DPut.k (k := .inl x) ho (sz_lt (by omega)), ?_⟩
  refine k _ _ ⟨F3, g3.mut e ⟨_, rfl, ?_, fun z => ?_⟩, b.mono ((e1.trans e2).trans e3)⟩
  · have := put_len (kvs := kvs) (k := .inl x) (z := .int (y - w))
    omega
  · rw [valV_put]
    by_cases h : z = x
    · subst h; rw [if_pos rfl]; simp
    · rw [if_neg (fun c => h (Sum.inl.inj c)), hkv z]; simp [h]
end
end Hq
namespace HqV
open PySem PySem.Spec PyProof.Rows
section
variable {prog : Program} {w : World} {A : Around} {R : Result → Shared → Prop} {E : Value → Shared → Prop} {s : Shared}
/-! ### list(reversed(a list)) -/
theorem call_list_rev {it l : Addr} {items : Array Value} {Q : Value → Shared → Prop} (hh : A.handled = none) (hit : s.heap.IsRevIter it l ((items.size : Int) - 1)) (hl : s.heap.IsList l items) (hne : l ≠ it) (hn : items.size ≤ sizeLine)
    (hQ : ∀ (h' : Heap) (tk : Nat) (acc : Array Value) (c : Nat), (∀ b o, b ≠ it → s.heap.get? b = some o → h'.get? b = some o) → ItemsOf (fun i v => items[items.size - 1 - i]? = some v) acc items.size →
      h'.get? s.heap.objs.size = some { cls := .type "list", dict := none, data := .seq acc c, slots := #[] } → Q (.ref s.heap.objs.size) { s with heap := h', toks := tk }) :
    wpAny (model prog w) A (call (.type "list") [.ref it]) Q E s := by
  obtain ⟨oi, hoi, _⟩ := id hit
  obtain ⟨ol, hol, _⟩ := id hl
  have hSi : s.heap.objs.size ≠ it := Nat.ne_of_gt (Heap.lt_size hoi)
  have hSl : s.heap.objs.size ≠ l := Nat.ne_of_gt (Heap.lt_size hol)
  have hSf : s.heap.objs.size ∉ [it, l] := by simp only [List.mem_cons, List.not_mem_nil, or_false, not_or]; exact ⟨hSi, hSl⟩
  have W := (Walks.listRev (prog := prog) (w := w) (A := A.in1.in1) hh it l hne items).toS
  refine callType_codes (Q₁ := fun obj s₁ => obj = .ref s.heap.objs.size ∧ s₁ = { s with heap := s.heap.push { cls := .type "list", data := .seq #[] } }) F.called_list (F.typeCall_list_1 _) F.entry_list_init
    (code_list_new _ ⟨rfl, rfl⟩) ?_
  rintro obj s₁ ⟨rfl, rfl⟩
  generalize hS0 : s.heap.objs.size = S at *
  have hS : (s.heap.push { cls := .type "list", data := .seq #[] }).get? S = some { cls := .type "list", data := .seq #[] } := by rw [← hS0]; exact Heap.get?_push_size _ rfl
  refine ⟨⟨_, hS, rfl⟩, F.args_list_init_2 _ _, ?_⟩
  show wpAny _ A.in1.in1 (do let old ← Builtin.List.listItems (.ref S); Builtin.List.listUpdate (.ref S) (fun _ => #[]); letGo old.toList.reverse; Builtin.List.listExtendWith (.ref S) (.ref it) .none) _ _ _
  refine wpAny_bind ?_
  unfold Builtin.List.listItems
  refine wpAny_bind (wpAny_seqItems hS rfl (wpAny_pure ?_))
  show wpAny _ A.in1.in1 (updateSeq S (fun _ => #[]) >>= fun _ => letGo (#[] : Array Value).toList.reverse >>= fun _ => Builtin.List.listExtendWith (.ref S) (.ref it) .none) _ _ _
  refine wpAny_bind (wpAny_updateSeq hS rfl ?_)
  have hS₂ := Heap.get?_update_self (Obj.mapSeq (fun _ => (#[] : Array Value))) hS rfl
  have oth : ∀ b o, b ≠ S → s.heap.get? b = some o → ((s.heap.push { cls := .type "list", data := .seq #[] }).update S (Obj.mapSeq (fun _ => (#[] : Array Value)))).get? b = some o :=
    fun b o hb e => (Heap.get?_update_other _ _ (Ne.symm hb)).trans (Heap.get?_push_of_some _ e)
  refine wpAny_bind (wpAny_letGo ?_)
  generalize hh2 : (s.heap.push { cls := .type "list", data := .seq #[] }).update S (Obj.mapSeq (fun _ => (#[] : Array Value))) = h2 at *
  have hit1 : h2.IsRevIter it l ((items.size : Int) - 1) := hit.at fun o e => oth it o (Ne.symm hSi) e
  have hl1 : h2.IsList l items := hl.at fun o e => oth l o (Ne.symm hSl) e
  have hT : ({ s with heap := h2 } : Shared).TypeIs (.ref it) "list_reverseiterator" := Heap.IsRevIter.typeIs (s := { s with heap := h2 }) hit1
  have h1 : Builtin.List.listSameRef (.ref S) (.ref it) = false := by simp [Builtin.List.listSameRef, hSi]
  unfold Builtin.List.listExtendWith
  refine wpAny_bind (wpAny_typeOf hT ?_)
  rw [if_neg (by rw [h1]; decide)]
  refine wpAny_bind (wpAny_pyIter_revIter (s := { s with heap := h2 }) hit1 ?_)
  refine wpAny_bind (wpAny_holding ?_)
  unfold Builtin.List.listLengthHint
  refine wpAny_bind (wpAny_specialOf hT RT.nolen_lri ?_)
  show wpAny _ A.in1.in1 (specialOf (Value.ref it) (Str.ofString "__length_hint__") >>= _) _ _ _
  refine wpAny_bind (wpAny_specialOf hT RT.hint_lri ?_)
  generalize hid : ("list_reverseiterator.__length_hint__" : String) = id0
  wp_delta
  rw [show splitId id0 = some ("list_reverseiterator", "__length_hint__") from by subst hid; decide +kernel]
  subst hid
  refine wpAny_bind (wpAny_isInstance (b := true) hT (by rw [isSubtype_type]; kernel_rfl) ?_)
  refine wpAny_pure ?_
  rw [if_neg (by decide)]
  have e0 : ((items.size : Nat) : Int) - 1 - ((0 : Nat) : Int) = (items.size : Int) - 1 := by omega
  refine wpAny_pure ⟨plainId_quiet F.plain_extend_loop _, codeAny_extend_loopS W hn S hSf _ items.size 0 _ _ _ rfl (Nat.zero_le _) ⟨Nat.zero_le _, by rw [e0]; exact hit1, hl1⟩ hS₂ (ItemsOf.nil _) fun s' acc' c' hm hS' hacc => ?_⟩
  refine ⟨rfl, ?_⟩
  rw [Moved.eq_with hm]
  refine hQ s'.heap s'.toks acc' c' (fun b o hb e => hm.heap b o (fun hmem => ?_) ?_) hacc hS'
  · rcases List.mem_cons.mp hmem with e' | hmem
    · exact absurd (Heap.lt_size e) (by rw [e', hS0]; exact Nat.lt_irrefl _)
    · exact hb (List.mem_singleton.mp hmem)
  · exact oth b o (fun e' => absurd (Heap.lt_size e) (by rw [e', hS0]; exact Nat.lt_irrefl _)) e
/-! ### max(xs, default=d) -/
variable {I : Addr} {fp wr : List Addr} {n : Nat} {P : Nat → Value → Prop} {St : Nat → Heap → Prop} {val : Nat → Int} {kw : List (Str × Value)}
def Res (P : Nat → Value → Prop) (val : Nat → Int) (n : Nat) (v : Value) : Prop := ∃ i, i < n ∧ P i v ∧ ∀ k, k < n → val k ≤ val i
theorem loop_kw (W : Walks prog w A.in1 I fp wr n P St) (hval : ∀ i v, P i v → ∃ t, v = .int (val i) t) (S : Addr) (hSf : S ∉ fp) : ∀ (m j i : Nat) (s : Shared) (vb : Value) (c : Nat), n - j = m → 0 < j → j ≤ n → i < j → St j s.heap → P i vb → (∀ k, k < j → val k ≤ val i) →
    s.heap.get? S = some { cls := .type "list", dict := none, data := .seq #[vb, vb] c, slots := #[] } →
    (∀ v h' tk, Res P val n v → (∀ b o, b ∉ wr → b ≠ S → s.heap.get? b = some o → h'.get? b = some o) → R (.ok (.ret v)) { s with heap := h', toks := tk }) →
    codeAny (model prog w) A (.builtin "max.loop" ⟨[.ref I, .none, .ref S], kw⟩) R s := by
  have hSw : S ∉ wr := fun h => hSf (W.sub _ h)
  have nm : (toString "max" ++ toString ".loop" : String) = "max.loop" := by decide
  intro m
  induction m with
  | zero =>
    intro j i s vb c hm h0 hj hi st hP hb hS hR
    obtain rfl : j = n := by omega
    refine codeAny_builtin F.entry_max_loop ?_
    rw [Around.under_plainId F.plain_max_loop _]
    show wpAny _ A.in1 (seqItems? (.ref S) >>= _) _ _ s
    refine wpAny_bind (wpAny_seqItems hS rfl ?_)
    show wpAny _ A.in1 (tryCatch (pyNext (.ref I)) _ >>= _) _ _ s
    refine wpAny_bind (wpAny_tryCatch (W.done s _ _ st fun h' tk k1 => ?_))
    show wpAny _ A.in1 (updateSeq S (fun _ => #[]) >>= _) _ _ _
    refine wpAny_bind ?_
    refine wpAny_updateSeq (k1 S _ hSw hS) rfl (wpAny_bind (wpAny_letGo (wpAny_pure ?_)))
    exact hR vb _ tk ⟨i, hi, hP, hb⟩ fun b o b1 b2 e => (Heap.get?_update_other _ _ (Ne.symm b2)).trans (k1 b o b1 e)
  | succ m ih =>
    intro j i s vb c hm h0 hj hi st hP hb hS hR
    refine codeAny_builtin F.entry_max_loop ?_
    rw [Around.under_plainId F.plain_max_loop _]
    show wpAny _ A.in1 (seqItems? (.ref S) >>= _) _ _ s
    refine wpAny_bind (wpAny_seqItems hS rfl ?_)
    show wpAny _ A.in1 (tryCatch (pyNext (.ref I)) _ >>= _) _ _ s
    refine wpAny_bind (wpAny_tryCatch (W.item j s _ _ (by omega) st fun v h' tk hv st' k1 => ?_))
    have hS' := k1 S _ hSw hS
    show wpAny _ A.in1 (tryCatch (holding [v, v] (richCompare .Gt v vb >>= _)) _ >>= _) _ _ _
    refine wpAny_bind (wpAny_tryCatch (wpAny_holding (wpAny_bind (CmpOf.ints_gt val hval j i v vb _ _ _ hv hP ?_))))
    refine wpAny_bind (wpAny_holding (wpAny_truthy_bool ?_))
    refine wpAny_bind (wpAny_letGo (wpAny_pure ?_))
    by_cases hg : val j > val i
    · rw [if_pos (show ((fun i j => decide (val i > val j)) j i) = true from decide_eq_true hg)]
      refine wpAny_bind ?_
      refine wpAny_updateSeq hS' rfl (wpAny_bind (wpAny_letGo ?_))
      rw [nm]
      refine wpAny_pure ⟨plainId_quiet F.plain_max_loop _, ih (j + 1) j _ v _ (by omega) (by omega) (by omega) (by omega) (W.frame _ _ _ st' fun b hbf o e => ?_) hv (fun k hk => ?_) (Heap.get?_update_self _ hS' rfl) fun v' h2 tk2 hr k2 => ?_⟩
      · exact (Heap.get?_update_other _ _ (fun h : S = b => hSf (by rw [h]; exact hbf))).trans e
      · rcases Nat.lt_succ_iff_lt_or_eq.mp hk with hk | rfl
        · exact Int.le_trans (hb k hk) (Int.le_of_lt hg)
        · exact Int.le_refl _
      · exact hR v' h2 tk2 hr fun b o b1 b2 e => k2 b o b1 b2 ((Heap.get?_update_other _ _ (Ne.symm b2)).trans (k1 b o b1 e))
    · rw [if_neg (show ¬ ((fun i j => decide (val i > val j)) j i) = true from fun h => hg (of_decide_eq_true h))]
      refine wpAny_bind (wpAny_letGo ?_)
      rw [nm]
      refine wpAny_pure ⟨plainId_quiet F.plain_max_loop _, ih (j + 1) i _ vb c (by omega) (by omega) (by omega) (by omega) st' hP (fun k hk => ?_) hS' fun v' h2 tk2 hr k2 => ?_⟩
      · rcases Nat.lt_succ_iff_lt_or_eq.mp hk with hk | rfl
        · exact hb k hk
        · exact Int.not_lt.mp hg
      · exact hR v' h2 tk2 hr fun b o b1 b2 e => k2 b o b1 b2 (k1 b o b1 e)
theorem first_kw {d : Value} (W : Walks prog w A.in1 I fp wr n P St) (hval : ∀ i v, P i v → ∃ t, v = .int (val i) t) (S : Addr) (hSf : S ∉ fp) {c : Nat} {k0 : Str} (st : St 0 s.heap)
    (hS : s.heap.get? S = some { cls := .type "list", dict := none, data := .seq #[] c, slots := #[] })
    (hR : ∀ v h' tk, (n = 0 ∧ v = d) ∨ Res P val n v → (∀ b o, b ∉ wr → b ≠ S → s.heap.get? b = some o → h'.get? b = some o) → R (.ok (.ret v)) { s with heap := h', toks := tk }) :
    codeAny (model prog w) A (.builtin "max.loop" ⟨[.ref I, .none, .ref S], [(k0, d)]⟩) R s := by
  have hSw : S ∉ wr := fun h => hSf (W.sub _ h)
  have nm : (toString "max" ++ toString ".loop" : String) = "max.loop" := by decide
  refine codeAny_builtin F.entry_max_loop ?_
  rw [Around.under_plainId F.plain_max_loop _]
  show wpAny _ A.in1 (seqItems? (.ref S) >>= _) _ _ s
  refine wpAny_bind (wpAny_seqItems hS rfl ?_)
  show wpAny _ A.in1 (tryCatch (pyNext (.ref I)) _ >>= _) _ _ s
  rcases Nat.eq_zero_or_pos n with rfl | hn
  · refine wpAny_bind (wpAny_tryCatch (W.done s _ _ st fun h' tk k1 => ?_))
    show wpAny _ A.in1 (rule _ >>= fun _ => ret d) _ _ _
    refine wpAny_bind (wpAny_rule ?_)
    exact wpAny_pure (hR d h' tk (.inl ⟨rfl, rfl⟩) fun b o b1 _ e => k1 b o b1 e)
  refine wpAny_bind (wpAny_tryCatch (W.item 0 s _ _ hn st fun v h' tk hv st' k1 => ?_))
  have hS' := k1 S _ hSw hS
  show wpAny _ A.in1 (updateSeq S (fun _ => #[v, v]) >>= _) _ _ _
  refine wpAny_bind ?_
  refine wpAny_updateSeq hS' rfl ?_
  rw [nm]
  refine wpAny_pure ⟨plainId_quiet F.plain_max_loop _, loop_kw W hval S hSf _ 1 0 _ v _ rfl (by omega) hn (by omega) (W.frame _ _ _ st' fun b hbf o e => ?_) hv (fun k hk => ?_) (Heap.get?_update_self _ hS' rfl) fun v' h2 tk2 hr k2 => ?_⟩
  · exact (Heap.get?_update_other _ _ (fun h : S = b => hSf (by rw [h]; exact hbf))).trans e
  · obtain rfl : k = 0 := by omega
    exact Int.le_refl _
  · exact hR v' h2 tk2 (.inr hr) fun b o b1 b2 e => k2 b o b1 b2 ((Heap.get?_update_other _ _ (Ne.symm b2)).trans (k1 b o b1 e))
theorem args_maxD (a d : Value) : argsOk "max" ⟨[a], [(Str.ofString "default", d)]⟩ := by unfold argsOk; kernel_rfl
theorem call_maxD {l : Addr} {d : Value} {xs : Array (Int × Tok)} {Q : Value → Shared → Prop} (hh : A.handled = none) (hl : s.heap.IsList l (intItems xs))
    (h : ∀ v h' tk, (xs.size = 0 ∧ v = d) ∨ Res (fun i v => (intItems xs)[i]? = some v) (numAt xs) xs.size v → (∀ b o, s.heap.get? b = some o → h'.get? b = some o) → Q v { s with heap := h', toks := tk }) :
    wpAny (model prog w) A (call (.builtin "max") [.ref l] [(Str.ofString "default", d)]) Q E s := by
  have nm : (toString "max" ++ toString ".loop" : String) = "max.loop" := by decide
  refine wpAny_call (codeAny_call_builtin F.plain_max F.entry_max ?_)
  have key : wpAny (model prog w) A.in1 (Builtin.«max» ⟨[.ref l], [(Str.ofString "default", d)]⟩) (fun fin s' => match fin with
      | .done f => (match (Except.ok f : Result) with | .ok (.ret v) => Q v s' | .ok _ => False | .error e => E e s')
      | .again c' => c'.quiet = true ∧ codeAny (model prog w) A c' (fun r s' => match r with | .ok (.ret v) => Q v s' | .ok _ => False | .error e => E e s') s') E s := by
    show wpAny _ A.in1 (Builtin.Builtins.bindParams "max" ["key", "default"] 0 ⟨[], [(Str.ofString "default", d)]⟩ >>= _) _ _ s
    refine wpAny_bind (wpAny_of_eq (show Builtin.Builtins.bindParams "max" ["key", "default"] 0 ⟨[], [(Str.ofString "default", d)]⟩ = pure [none, some d] from rfl) ?_)
    refine wpAny_bind (wpAny_pure ?_)
    refine wpAny_bind (iter_intList hl ?_)
    rintro s₂ rfl st hfp hlI
    refine wpAny_bind (wpAny_newObj_type ?_)
    have hSf : (s.heap.push { cls := .type "list_iterator", data := .fields #[.ref l, .int 0 0] }).objs.size ∉ [s.heap.objs.size, l] := fun hm => Nat.lt_irrefl _ (hfp _ hm)
    have W := Walks.list (prog := prog) (w := w) (A := A.in1) hh s.heap.objs.size l hlI (intItems xs)
    have hsz : (intItems xs).size = xs.size := by simp [intItems]
    rw [hsz] at W
    rw [nm]
    refine wpAny_pure ⟨plainId_quiet F.plain_max_loop _, first_kw W (val := numAt xs) (fun _ _ => intItems_at) _ hSf (W.frame _ _ _ st fun b _ o e => Heap.get?_push_of_some _ e) (Heap.get?_push_size _ rfl) fun v h' tk hr hk => ?_⟩
    exact h v h' tk hr (old_kept fun b o hb e => hk b o hb (Nat.ne_of_lt (Heap.lt_size e)) (Heap.get?_push_of_some _ e))
  have ha := args_maxD (.ref l) d
  simp only [checkBuiltinCall, F.kind_max]
  cases hsig : Manifest.signature? "max" with
  | none => exact wpAny_pure key
  | some sig =>
    have ha' : Bind.checkArgs "max" sig ⟨[.ref l], [(Str.ofString "default", d)]⟩ = pure () := by simpa only [argsOk, hsig] using ha
    simp only [ha']
    exact wpAny_pure key
end
end HqV
namespace L2
open PySem PySem.Spec PyProof.Rows
section
variable {X : Cx}
def tLstRev (K : PySem.W.Frag) (te : TE) : TE := fun σ H Q => te σ H fun v H1 => ∃ (a : Addr) (xs : List V), v = .ref a ∧ SqL K H1 a xs ∧ ∀ q, H1 q = none → Q (.ref q) (upd H1 q (.lst xs.reverse))
theorem pe_listRev {e : Expr} {te : TE} {p p2 pos pos2 : Pos} (hc : X.calm = true) (hg : Gl X "list") (hm : X.mg "list" = none) (hg2 : Gl X "reversed") (hm2 : X.mg "reversed" = none) (he : PE X e te)
    (hs : starEach [e] X.env = (false, eval e X.env) :: starEach [] X.env := by rfl)
    (hs2 : starEach [.Call (.Name "reversed" p2) [e] [] pos2] X.env = (false, eval (.Call (.Name "reversed" p2) [e] [] pos2) X.env) :: starEach [] X.env := by rfl) :
    PE X (.Call (.Name "list" p) [.Call (.Name "reversed" p2) [e] [] pos2] [] pos) (tLstRev X.K te) := by
  refine ⟨fun pins s σ H Q I h => ?_⟩
  refine Call_ (ld_blt I hg hm boot_list (PyProof.Rows.callWith_type1 (args_cons (Call_ (ld_blt I hg2 hm2 PyProof.Rows.boot_reversed (PyProof.Rows.callWith_type1 (args_cons (thn (he.run pins s σ H _ I h) fun u s1 ⟨v, H1, I1, r1, q1⟩ => args_nil ?_) hs) hs rfl))) hs2) hs2 rfl))
  obtain ⟨a, xs, rfl, hq, q⟩ := q1
  obtain rfl : u = Value.ref a := r1
  obtain ⟨its, rv, p', hz⟩ := I1.list hq
  refine call_reversed_list p'.isList (args_nil ?_)
  have k0 : ∀ b o, s1.heap.get? b = some o → (s1.heap.push (revObj a ((its.toArray.size : Int) - 1))).get? b = some o := fun b o e => Heap.get?_push_of_some _ e
  have I2 : Inv X pins σ H1 { s1 with heap := s1.heap.push (revObj a ((its.toArray.size : Int) - 1)) } := I1.kept (t' := s1.toks) k0
  have hl := p'.isList
  obtain ⟨ol, hol, _⟩ := id hl
  have hne : a ≠ s1.heap.objs.size := Nat.ne_of_lt (Heap.lt_size hol)
  have hn : its.toArray.size ≤ sizeLine := by rw [List.size_toArray, ← rv.length]; exact hz
  refine HqV.call_list_rev (s := { s1 with heap := s1.heap.push (revObj a ((its.toArray.size : Int) - 1)) }) (I1.ok.hd hc) ⟨_, Heap.get?_push_size _ rfl, rfl, rfl⟩ (hl.push _) hne hn fun h' tk acc c hk hi hS => ?_
  have hsz : s1.heap.objs.size ≤ (s1.heap.push (revObj a ((its.toArray.size : Int) - 1))).objs.size := by rw [Heap.size_push]; omega
  refine ⟨.ref _, upd H1 (s1.heap.push (revObj a ((its.toArray.size : Int) - 1))).objs.size (.lst xs.reverse), I1.laid (t' := tk) (fun b o e => hk b o (fun e' => absurd (Heap.lt_size e) (by rw [e']; exact Nat.lt_irrefl _)) (k0 b o e)) hsz (show ObjOk X.prog X.w _ _ _ (.lst xs.reverse) from ⟨by rw [List.length_reverse]; exact hz, acc.toList, c, RT.vals_rev rv hi, ?_⟩), rfl, q _ (I1.hok.fresh hsz)⟩
  rw [Array.toArray_toList]
  exact hS
/-- max(xs, default=d) of a list of ints -/
def rMaxD (K : PySem.W.Frag) : List V → List V → Hp → VK → Prop := fun vs zs H Q => ∃ (a : Addr) (ns : List Int) (d : Int), vs = [V.ref a] ∧ zs = [.int d] ∧ SqL K H a (ns.map V.int) ∧ ∀ m, ((ns = [] ∧ m = d) ∨ (m ∈ ns ∧ ∀ y, y ∈ ns → y ≤ m)) → Q (.int m) H
theorem cr_maxD (hc : X.calm = true) : CallRK X (.builtin "max") [Str.ofString "default"] (rMaxD X.K) := by
  intro pins s σ H vs zs us ws Q I r rz h
  obtain ⟨a, ns, d, rfl, rfl, hs, q⟩ := h
  obtain rfl := Vals.ref1 r
  obtain ⟨w1, rfl, t1, rfl⟩ := vals1 rz
  obtain ⟨its, rv, hl, _⟩ := I.list hs
  have hi := rv.ints
  obtain ⟨xs, e⟩ := hi.allInts.items
  have hn : numsOf (intItems xs).toList = ns := by rw [← e]; exact hi.numsOf
  rw [nums_intItems] at hn
  subst hn
  have hl' := hl.isList
  rw [e] at hl'
  refine HqV.call_maxD (I.ok.hd hc) hl' fun v h' tk hr hk => ?_
  rcases hr with ⟨h0, rfl⟩ | ⟨i, hi, hv, hb⟩
  · refine ⟨.int d, H, I.kept hk, ⟨_, rfl⟩, q d (.inl ⟨?_, rfl⟩)⟩
    rw [Array.eq_empty_of_size_eq_zero h0]; rfl
  · obtain ⟨t, rfl⟩ := intItems_at hv
    refine ⟨.int _, H, I.kept hk, ⟨_, rfl⟩, q _ (.inr ⟨?_, fun y hy => ?_⟩)⟩
    · rw [numAt_eq]; exact PySem.getD_mem (by rw [List.length_map, Array.length_toList]; omega)
    · obtain ⟨j, hj, rfl⟩ := mem_getD hy
      rw [List.length_map, Array.length_toList] at hj
      rw [← numAt_eq]; exact hb j hj
end
end L2
namespace Hq
open PySem L2
section
variable {K : PySem.W.Frag} {E E0 : Ent} {F H : Hp} {M M1 M2 M' : Ms} {Γ : Gm} {P P1 : MP} {O O' : MO} {q : Addr} {te ta tb tl tk tv td : TE} {tr : TA} {D1 : Ends} {tu tz : TS} {t u : TT} {ps : List MP} {i j : Nat}
theorem ps_reverse {F : Hp} : ∀ {ws : List V} {ps : List MP}, Ps F ws ps → Ps F ws.reverse ps.reverse := by
  intro ws ps s
  induction s with
  | nil => exact .nil
  | cons a t ih => rw [List.reverse_cons, List.reverse_cons]; exact paired_app ih (.cons a .nil)
theorem evn_listRevO (ho : Ev ta Γ M (Own q) M) (e : M[j]? = some (q, ML ps)) : EvN (tLstRev K ta) Γ M (ML ps.reverse) M := fun E F σ H a b Q k => ho E F σ H a b _ fun v F1 H1 e1 g1 p1 => by
  have p1 : v = .ref q := p1
  subst p1
  obtain ⟨_, o, ho1, ws, rfl, s⟩ := g1.at e
  exact ⟨q, ws, rfl, SqL.of ho1, fun l hl => k l F1 _ (g1.fresh hl) e1 (g1.new hl ⟨_, rfl, ps_reverse s⟩)⟩
theorem ev_maxD {ns : List Int} {d : Int} (h : Ev te Γ M (PLi K (ns.map fun n => D K (.int n))) M1) (hd : Ev td Γ M1 (D K (.int d)) M2) : Ev (tCKw (rMaxD K) (tCons te tNil) (tCons td tNil)) Γ M (PEx fun m : Int => PAn ((ns = [] ∧ m = d) ∨ (m ∈ ns ∧ ∀ y ∈ ns, y ≤ m)) (D K (.int m))) M2 := fun E F σ H a b Q k => h E F σ H a b _ fun v F1 H1 e1 g1 hp => by
  obtain ⟨p, ws, rfl, s, hp⟩ := hp
  cases ints_map hp
  show td σ H1 _
  refine hd E F1 σ H1 g1 (b.mono e1) _ fun w F2 H2 e2 g2 p2 => ?_
  cases dp_int p2
  exact ⟨p, ns, d, rfl, rfl, Evl.ex_l (e2.trans g2.ex) s, fun m hm => k _ F2 H2 (e1.trans e2) g2 ⟨m, hm, .int m⟩⟩
theorem rc_abs {a : Int} : RC (fun xs H Q => ∃ i, xs = [.int i] ∧ Q (.int (if i < 0 then -i else i)) H) [D K (.int a)] M (D K (.int (if a < 0 then -a else a))) M := fun E F H vs g h Q k => by
  obtain ⟨v, rfl, p1⟩ := ps1 h
  cases dp_int p1
  exact ⟨a, rfl, k _ F H (Evl.Ex.refl _) g (.int _)⟩
end
end Hq
namespace Hq
open PySem L2
section
variable {K : PySem.W.Frag} {M : Ms} {P : MP} {q : Addr} {j : Nat}
/-- xs[-1] of an own list -/
theorem rv_ixEnd {ps : List MP} (e : M[j]? = some (q, ML ps)) (h : ps.getLast? = some P) : RV (rIx K) (Own q) (D K (.int (-1))) M P M := fun E F H x y a p1 p2 Q k => by
  cases dp_int p2
  have p1 : x = .ref q := p1
  subst p1
  obtain ⟨fq, o, ho, vs, rfl, s⟩ := a.at e
  rw [List.getLast?_eq_getElem?] at h
  obtain ⟨v, hv, hp⟩ := paired_get s h
  have hl := paired_len s
  have hlt : ps.length - 1 < vs.length := by
    rcases Nat.lt_or_ge (ps.length - 1) vs.length with c | c
    · exact c
    · rw [List.getElem?_eq_none c] at hv; cases hv
  refine .inl ⟨q, vs, -1, v, rfl, rfl, SqL.of ho, ?_, k v F H (Evl.Ex.refl _) a hp⟩
  unfold atI ixN
  rw [if_neg (by omega), if_pos (by omega)]
  show vs[((-1 : Int) + (vs.length : Int)).toNat]? = some v
  rw [show ((-1 : Int) + (vs.length : Int)).toNat = ps.length - 1 by omega]
  exact hv
end
section
variable {K : PySem.W.Frag} {E E0 : Ent} {F H : Hp} {M M1 M2 M' : Ms} {Γ : Gm} {P P1 : MP} {O O' : MO} {q : Addr} {te ta tb tl tk tv td : TE} {tr : TA} {D1 : Ends} {tu tz : TS} {t u : TT} {ps : List MP} {i j : Nat}
/-- xs.append(e), e one of several -/
theorem go_appE {α : Type} {φ : α → Prop} {R : α → MP} {ps : List MP} (ho : Ev ta Γ M (Own q) M) (h : Ev te Γ M (PEx fun x => PAn (φ x) (R x)) M1) (e0 : M[j]? = some (q, ML ps)) (e : M1[j]? = some (q, ML ps)) (hz : ps.length < 100000) (k : ∀ x, φ x → Nx E Γ (M1.set j (q, ML (ps ++ [R x]))) D1.nx) :
    Nx E Γ M (tDrop (tBM K "list" rAppend ta (tCons te tNil)) D1) := fun σ H ⟨F, a, b⟩ => ho E F σ H a b _ fun v F1 H1 e1 g1 p1 => by
  have p1 : v = .ref q := p1
  subst p1
  obtain ⟨_, o, ho1, ws0, rfl, _⟩ := g1.at e0
  refine ⟨.inl ⟨rfl, ws0, SqL.of ho1⟩, ?_⟩
  refine h E F1 σ H1 g1 (b.mono e1) _ fun w F2 H2 e2 g2 ⟨x, hx, p2⟩ => ?_
  obtain ⟨_, o, ho2, ws, rfl, s⟩ := g2.at e
  refine ⟨q, ws, w, rfl, rfl, ho2, sz_lt (by rw [paired_len s]; exact hz), ?_⟩
  exact k x hx _ _ ⟨F2, g2.mut e ⟨_, rfl, paired_app s (.cons p2 .nil)⟩, b.mono (e1.trans e2)⟩
theorem q_appE {α : Type} {φ : α → Prop} {R : α → MP} {ps : List MP} (ho : Ev ta Γ M (Own q) M) (h : Ev te Γ M (PEx fun x => PAn (φ x) (R x)) M1) (e0 : M[j]? = some (q, ML ps)) (e : M1[j]? = some (q, ML ps)) (hz : ps.length < 100000) (k : ∀ x, φ x → Nx E Γ (M1.set j (q, ML (ps ++ [R x]))) (tz D1)) :
    Nx E Γ M (tSeq (tDrop (tBM K "list" rAppend ta (tCons te tNil))) tz D1) := go_appE (D1 := { D1 with nx := tz D1 }) ho h e0 e hz k
theorem upd_id {H : Hp} {q : Addr} {o : HO} (h : H q = some o) : upd H q o = H := by
  funext a
  unfold upd
  split
  · rename_i e; rw [e, h]
  · rfl
theorem Pt.openX {α : Type} {φ : α → Prop} {R : α → MO} (h : Pt E F M H) (e : M[j]? = some (q, MX fun x => MA (φ x) (R x))) : ∃ x, φ x ∧ Pt E F (M.set j (q, R x)) H := by
  obtain ⟨_, o, ho, x, hx, hR⟩ := h.at e
  have := h.mut (O' := R x) e hR
  rw [upd_id ho] at this
  exact ⟨x, hx, this⟩
theorem nx_openX {f} {α : Type} {φ : α → Prop} {R : α → MO} (e : M[j]? = some (q, MX fun x => MA (φ x) (R x))) (k : ∀ x, φ x → Nx E Γ (M.set j (q, R x)) f) : Nx E Γ M f := fun σ H ⟨F, a, b⟩ => by
  obtain ⟨x, hx, a2⟩ := a.openX e
  exact k x hx σ H ⟨F, a2, b⟩
end
end Hq
namespace L2
open PySem PySem.Spec PyProof.Rows
section
variable {X : Cx} {pins : List (Addr × Obj)} {σ : St} {H : Hp} {s : Shared} {d : Addr} {o : Obj}
/-! ### for k, v in d.items(): a dict whose keys are tuples -/
theorem frzTV {kvs : List (List Key × V)} (I : Inv X pins σ H s) (h : H d = some (.frz o (.dT kvs))) :
    (d == sysModules) = false ∧ kvs.length ≤ sizeLine ∧ ∃ (es : Array DictEntry) (ep : Nat), DT.Raw s.heap d es ep ∧ o.data = .dict es ep ∧ o.dict = none ∧ s.heap.get? d = some o ∧ es.size = kvs.length ∧
      ∀ (i : Nat) (k : List Key) (v : V), kvs[i]? = some (k, v) → ∃ (en : DictEntry) (q : Addr), es[i]? = some en ∧ en.key = .ref q ∧ H q = some (.tup (k.map kV)) ∧ RelV v en.val := by
  obtain ⟨hd, z, hs, xs, pr, o', es, ep, ho, hx, hdt, he, _⟩ := I.hok d _ h
  rw [hd] at ho
  cases ho
  refine ⟨hs, z, es, ep, ⟨_, hd, hx, hdt⟩, hdt, hx.2.1, hd, ?_, fun i k v e => ?_⟩
  · have l1 : es.size = xs.length := size_of_entries he
    have l2 : kvs.length = xs.length := Paired.length pr
    omega
  · obtain ⟨b, hb, e1, e2, e3⟩ := paired_get pr e
    have q := entry_at he i
    rw [hb] at q
    exact ⟨_, b.2.1, q, rfl, e2, e3⟩
end
def ItiT (d : Addr) (o : Obj) (kvs : List (List Key × V)) : It :=
  ⟨fun i H => H d = some (.frz o (.dT kvs)) ∧ i < kvs.length, fun i H x H' => ∃ T k v q, kvs[i]? = some (k, v) ∧ H q = some (.tup (k.map kV)) ∧ x = .ref T ∧ H T = none ∧ H' = upd H T (.tup [.ref q, v]), fun i H => H d = some (.frz o (.dT kvs)) ∧ kvs.length ≤ i⟩
section
variable {P : Program} {w : World} {K : PySem.W.Frag} {tg : Expr} {d : Addr} {o : Obj} {es : Array DictEntry} {ep : Nat}
theorem turn_itemsT {kvs : List (List Key × V)} {elts : List Expr} {kk : Nat} {tpos : Pos} (it : Addr) (hod : o.data = .dict es ep) :
    Turn P w K (.Tuple elts kk tpos) (ItiT d o kvs) [it] it (fun i h => ∃ ok ov, IsItemIter h it d i kvs.length ep ok ov) where
  mem := by simp
  obj := fun i h st b hb => by
    have e : b = it := by simpa using hb
    subst e
    obtain ⟨ok, ov, e⟩ := st
    exact ⟨_, e, fun v z => nomatch z⟩
  keep := fun i h h' st k => let ⟨ok, ov, e⟩ := st; ⟨ok, ov, k it (by simp) _ e⟩
  item := by
    intro X hP hw hK hc i pins s σ H E I hf st hg
    subst hP hw hK
    obtain ⟨hd, hi⟩ := hg
    obtain ⟨hs, hzl, es', ep', hm, hdt, _, _, hsz, ent⟩ := frzTV I hd
    obtain ⟨rfl, rfl⟩ := dict_ep hod hdt
    obtain ⟨⟨k, v⟩, hkv⟩ : ∃ p, kvs[i]? = some p := ⟨kvs[i], List.getElem?_eq_getElem hi⟩
    obtain ⟨en, q, hen, hkey, hq, ru⟩ := ent i k v hkv
    obtain ⟨ok, ov, he⟩ := st
    rw [← hsz] at he
    have hlt : it < s.heap.objs.size := Heap.lt_size he
    have hi2 : i < es'.size := by omega
    have hee : es'[i] = en := by rw [Array.getElem?_eq_getElem hi2] at hen; exact Option.some.inj hen
    refine DT.nextI he hm hi2 fun h' ho hT hz hk => ?_
    refine ⟨_, rfl, wpAny_letOwnedTupleGo_items (s := { s with heap := h' }) ho fun h'' he' sb => ?_⟩
    rw [hee, hkey] at hT
    have hT2 : h''.get? s.heap.objs.size = some { cls := .type "tuple", data := .seq #[.ref q, en.val] } := (sb.2 _ (Nat.ne_of_gt hlt)).trans hT
    have new : ObjOk X.prog X.w (upd H s.heap.objs.size (.tup [.ref q, v])) h'' s.heap.objs.size (.tup [.ref q, v]) :=
      ⟨by show 2 ≤ sizeLine; decide, [.ref q, en.val], .cons rfl (.cons ru .nil), ⟨_, hT2, rfl, _, rfl⟩⟩
    have I1 : Inv X pins σ (upd H s.heap.objs.size (.tup [.ref q, v])) { s with heap := h'' } :=
      I.turnedNew (t' := s.toks) (ch := [it]) (fun b ob hb e => (sb.2 b (by simpa using hb)).trans (hk b ob (by simpa using hb) e)) hf (Nat.le_refl _) new
    refine ⟨.ref s.heap.objs.size, _, I1, rfl, ⟨_, k, v, q, hkv, hq, rfl, I.hok.fresh (Nat.le_refl _), rfl⟩, ⟨es'[i].key, es'[i].val, ?_⟩, fun b hb => ?_⟩
    · rw [← hsz]; exact he'
    · have e : b = it := by simpa using hb
      rw [e, upd_ne (Nat.ne_of_lt hlt)]
      exact (hf it (by simp)).1
  done := by
    intro X hP hw hK hc i pins s σ H E I hf st hg
    subst hP hw hK
    obtain ⟨hd, hi⟩ := hg
    obtain ⟨f0, f1, f2, f3, f4, f5⟩ := hf it (by simp)
    obtain ⟨hs, hzl, es', ep', hm, hdt, _, _, hsz, ent⟩ := frzTV I hd
    obtain ⟨rfl, rfl⟩ := dict_ep hod hdt
    obtain ⟨ok, ov, he⟩ := st
    rw [← hsz] at he
    exact DT.endI (I.ok.hd hc) he hm (by omega) fun h' eb => ⟨rfl, I.turned (t' := s.toks) (fun b ob hb e => eb b ob hb e) f0 f1 f3 f4 f5⟩
  self := fun A i s Q E st h => let ⟨_, _, e⟩ := st; PySem.W.kcp_self e h
end
def iItemsT (td : TE) : TI := fun σ H R => td σ H fun x H1 => ∃ d o kvs, x = .ref d ∧ H1 d = some (.frz o (.dT kvs)) ∧ R (ItiT d o kvs) H1
section
variable {X : Cx} {tg e : Expr} {td : TE} {apos cpos : Pos}
theorem pi_itemsT {elts : List Expr} {kk : Nat} {tpos : Pos} (he : PE X e td) (hbase : attributeBase e "items" X.env (eval e X.env) = eval e X.env := by rfl) (hline : (apos.endLine == cpos.line) = true := by rfl) :
    PI X (.Tuple elts kk tpos) (.Call (.Attribute e "items" apos) [] [] cpos) (iItemsT td) := by
  refine ⟨fun pins s σ H R I h => ?_⟩
  refine wpAny_Call_method (T := "dict") (id := "dict.items") hbase rfl hline F.plainAttrs_dict F.slot_dict_items F.type_dict_items (thn (he.run pins s σ H _ I h) fun u s1 ⟨x, H1, I1, rx, d, o, kvs, ex, hd, q⟩ => ?_)
  subst ex
  obtain rfl : u = Value.ref d := rx
  obtain ⟨hs, hzl, es, ep, hm, hdt, hno, hgd, hsz, ent⟩ := frzTV I1 hd
  refine ⟨hm.typeIs, fun b eb => by cases eb; exact ⟨o, hgd, hno⟩, ?_⟩
  have I2 : Inv X pins σ H1 { s1 with heap := s1.heap.push { cls := .type "dict_items", data := .fields #[.ref d] } } := I1.kept (t' := s1.toks) fun b ob q => Heap.get?_push_of_some _ q
  have fin : wpAny (model X.prog X.w) X.A (pyIter (.ref s1.heap.objs.size)) (PIE X pins σ (.Tuple elts kk tpos) R) X.xe { s1 with heap := s1.heap.push { cls := .type "dict_items", data := .fields #[.ref d] } } := by
    refine DT.iterI (d := d) ⟨_, Heap.get?_push_size _ rfl, rfl, rfl⟩ (hm.push _) (pi_one (tk := s1.toks) I2 _ (turn_itemsT _ hdt) ⟨.none, .none, ?_⟩ q)
    rw [← hsz]
    exact Heap.get?_push_size _ rfl
  show wpAny _ _ (callWith cpos (.builtin "dict.items") [.ref d] [] []) _ X.xe s1
  exact method_meetsIn F.slot_dict_items F.entry_dict_items rfl (PySem.evalArgs_none ⟨rfl, hm.typeIs, F.args_dict_items_1 _, _, DT.meetsItems (es := es) (ep := ep) hs, ⟨hm, fin⟩⟩)
end
end L2
namespace L2
open PySem PySem.Spec PyProof.Rows
theorem for_ItiT {d : Addr} {o : Obj} {kvs : List (List Key × V)} {g : TG} {tb : TS} {D : Ends} {σ : St} {H : Hp} (Pv : Nat → St → Hp → Prop) (h0 : Pv 0 σ H) (hq : ∀ i σ H, Pv i σ H → H d = some (.frz o (.dT kvs)))
    (hs : ∀ (i : Nat) (k : List Key) (v : V) (q T : Addr) (σ : St) (H : Hp), kvs[i]? = some (k, v) → H q = some (.tup (k.map kV)) → H T = none → Pv i σ H → g (.ref T) σ (upd H T (.tup [.ref q, v])) fun σ2 H2 => tb { D with nx := Pv (i + 1), ct := Pv (i + 1), bk := D.nx } σ2 H2)
    (hd : ∀ σ H, Pv kvs.length σ H → D.nx σ H) :
    ∃ W : Nat → Nat → St → Hp → Prop, (∃ m, W 0 m σ H) ∧ ∀ i m σ H, W i m σ H →
      ((ItiT d o kvs).stop i H ∧ D.nx σ H) ∨ ((ItiT d o kvs).go i H ∧ ∃ N : St → Hp → Prop, (∀ σ' H', N σ' H' → ∃ m', m' < m ∧ W (i + 1) m' σ' H') ∧ ∀ v H', (ItiT d o kvs).yld i H v H' → g v σ H' fun σ2 H2 => tb { D with nx := N, ct := N, bk := D.nx } σ2 H2) := by
  refine ⟨fun i m σ H => m = kvs.length - i ∧ i ≤ kvs.length ∧ Pv i σ H, ⟨kvs.length, rfl, Nat.zero_le _, h0⟩, ?_⟩
  rintro i m σ H ⟨rfl, hi, p⟩
  by_cases hlt : i < kvs.length
  · refine .inr ⟨⟨hq i σ H p, hlt⟩, Pv (i + 1), fun σ' H' p' => ⟨kvs.length - (i + 1), by omega, rfl, hlt, p'⟩, fun v H' y => ?_⟩
    obtain ⟨T, k, v', q, hkv, hk, rfl, hT, rfl⟩ := y
    exact hs i k v' q T σ H hkv hk hT p
  · have e : i = kvs.length := by omega
    subst e
    exact .inl ⟨⟨hq _ σ H p, Nat.le_refl _⟩, hd σ H p⟩
end L2
namespace Hq
open PySem L2
/-- a dict whose keys are tuples of ints, whose values data tuples of ints -/
def MDP (K : PySem.W.Frag) (L : List (List Int × List Int)) : MO :=
  ⟨fun F o => ∃ kvs : List (List Key × V), o = .dT kvs ∧ Paired (fun (p : List Key × V) (z : List Int × List Int) => p.1 = z.1.map Sum.inl ∧ (D K (dT z.2)).p F p.2) kvs L, fun e ⟨kvs, h, p⟩ => ⟨kvs, h, Paired.mapP p fun _ _ q => ⟨q.1, (D K _).mono e q.2⟩⟩, fun ⟨kvs, h, _⟩ xs z => by rw [h] at z; cases z⟩
/-- .. while it is walked -/
def MLk (o : Obj) (kvs : List (List Key × V)) : MO := ⟨fun _ x => x = .frz o (.dT kvs), fun _ h => h, fun h xs z => by rw [h] at z; cases z⟩
section
variable {K : PySem.W.Frag} {E E0 : Ent} {F H : Hp} {M M1 M2 M' : Ms} {Γ : Gm} {P P1 : MP} {O O' : MO} {q : Addr} {te ta tb tl tk tv td tx : TE} {tr : TA} {D1 : Ends} {tu tz : TS} {t u : TT} {ps : List MP} {i j v jj : Nat} {L : List (List Int × List Int)} {l w : List Int}
theorem go_forIt (hv : Γ[v]? = some (some (Own q))) (e : M[jj]? = some (q, MDP K L)) (J : MO → Nat → Gm → Ms → Prop) (h0 : ∀ O, J O 0 Γ (M.set jj (q, O))) (hJ : ∀ O n Γ' M', J O n Γ' M' → Γ'[v]? = some (some (Own q)) ∧ ∃ j' : Nat, M'[j']? = some (q, O))
    (hs : ∀ E', Le E' E → ∀ O n z, L[n]? = some z → ∀ Γ' M', J O n Γ' M' → ∀ r b, Nx E' ((Γ'.set i (some (NT z.1))).set j (some (D K (dT z.2)))) M' (tu ⟨JA E' (J O (n + 1)), r, b, JA E' (J O (n + 1))⟩))
    (hd : ∀ O Γ' M', J O L.length Γ' M' → ∃ j' : Nat, M'[j']? = some (q, O) ∧ Nx E Γ' (M'.set j' (q, MDP K L)) D1.nx) : Nx E Γ M (tLock (tFor (iItemsT (tVar v)) (gPair K i j) tu) D1) := fun σ H ⟨F, a, b⟩ => by
  obtain ⟨fq, o, ho, kvs, rfl, pr⟩ := a.at e
  refine ⟨q, .dT kvs, ho, True.intro, fun od => ?_⟩
  have gl : Pt E F (M.set jj (q, MLk od kvs)) (upd H q (.frz od (.dT kvs))) := a.mut e rfl
  unfold tFor iItemsT
  refine (ev_var hv) E F σ _ gl b _ fun x F1 H1 e1 g1 hx => ?_
  have hx : x = .ref q := hx
  subst hx
  have ljj : jj < M.length := (List.getElem?_eq_some_iff.mp e).1
  obtain ⟨_, ob, ho1, rfl⟩ := g1.at (j := jj) (O := MLk od kvs) (by rw [List.getElem?_set_self ljj])
  refine ⟨q, od, kvs, rfl, ho1, for_ItiT (fun n σ H => JA ⟨F1, H1, keys (M.set jj (q, MLk od kvs))⟩ (J (MLk od kvs) n) σ H) ⟨Γ, _, h0 _, F1, g1.enter, b.mono e1⟩ (fun n σ2 H2 ⟨Γ', M', hJn, F2, g2, _⟩ => ?_) (fun n k y qk T σ2 H2 hkv hk hT ⟨Γ', M', hJn, F2, g2, b2⟩ => ?_) (fun σ2 H2 ⟨Γ', M', hJn, F2, g2, b2⟩ => ?_)⟩
  · obtain ⟨_, j', hj⟩ := hJ _ _ _ _ hJn
    obtain ⟨_, _, h, rfl⟩ := g2.at hj
    exact h
  · obtain ⟨z, hz, ek, dy⟩ := paired_get' pr hkv
    obtain ⟨F3, e3, hF3, g3⟩ := g2.learn hk
    have g4 := g3.junk (o := .tup [.ref qk, y]) hT
    have nt : (NT z.1).p F3 (.ref qk) := ⟨qk, rfl, by rw [hF3, show k = z.1.map Sum.inl from ek, kv_ints]⟩
    have ex : Ex F F3 := e1.trans (g2.gr.ex.trans e3)
    refine ⟨T, [.ref qk, y], rfl, SqT.of upd_same, rfl, .ref qk, [y], rfl, y, [], rfl, rfl, ?_⟩
    exact hs ⟨F1, H1, keys (M.set jj (q, MLk od kvs))⟩ g1.le (MLk od kvs) n z hz Γ' M' hJn _ _ _ _ ⟨F3, g4, ((b2.mono e3).set i (P := NT z.1) nt).set j ((D K (dT z.2)).mono ex dy)⟩
  · have hl : kvs.length = L.length := Paired.length pr
    rw [hl] at hJn
    obtain ⟨j', hj, hn⟩ := hd _ Γ' M' hJn
    obtain ⟨_, _, h, rfl⟩ := g2.at hj
    refine ⟨h, ?_⟩
    have g5 := g1.back g2
    have g6 := g5.mut (O' := MDP K L) (o' := .dT kvs) hj ⟨kvs, rfl, Paired.mapP pr fun _ _ c => ⟨c.1, (D K _).mono (e1.trans g2.gr.ex) c.2⟩⟩
    exact hn _ _ ⟨F2, g6, b2⟩
end
end Hq
namespace HqW
open PySem PySem.Spec PySem.W
section
variable {prog : Program} {w : World} {A : Around} {E : Value → Shared → Prop} {s : Shared}
/-! ### min(x, y) of two tuples of ints -/
theorem min2_data {a b : Value} {x y : PyData} {as : List Addr} {Q : Value → Shared → Prop} (hh : A.handled = none) (hr : ReadsAll s.heap [a, b] [x, y] as) (ha : AlikeAll [x, y]) (hu : A.units + 1 + PyData.depthAll [x, y] < cLine)
    (h : ∀ h' tk, (∀ c o, s.heap.get? c = some o → h'.get? c = some o) → Q (if dataLt y x = true then b else a) { s with heap := h', toks := tk }) : wpAny (model prog w) A (call (.builtin "min") [a, b]) Q E s := by
  have nm : (toString "min" ++ toString ".loop" : String) = "min.loop" := by decide
  refine call_function_tree F.kind_min F.plain_min F.entry_min (F.args_min2 _ _) ?_
  show wpAny _ A.in1 (Builtin.Builtins.bindParams "min" ["key", "default"] 0 ⟨[], []⟩ >>= _) _ _ s
  refine wpAny_bind (wpAny_of_eq (show Builtin.Builtins.bindParams "min" ["key", "default"] 0 ⟨[], []⟩ = pure [none, none] from rfl) ?_)
  show wpAny _ A.in1 (newTuple [a, b] >>= _) _ _ s
  refine wpAny_bind (wpAny_newObj_type ?_)
  have hT : (s.heap.push { cls := .type "tuple", data := .seq #[a, b] }).IsTuple s.heap.objs.size #[a, b] := ⟨_, Heap.get?_push_size _ rfl, rfl, 0, rfl⟩
  have k0 : ∀ c o, s.heap.get? c = some o → (s.heap.push { cls := .type "tuple", data := .seq #[a, b] }).get? c = some o := fun c o e => Heap.get?_push_of_some _ e
  have hr2 : ∃ bs, ReadsAll (s.heap.push { cls := .type "tuple", data := .seq #[a, b] }) (#[a, b] : Array Value).toList [x, y] bs := by
    cases hr with
    | cons r1 rs =>
      cases rs with
      | cons r2 rn =>
        cases rn
        exact ⟨_, .cons (reads_keeps k0 r1) (.cons (reads_keeps k0 r2) .nil)⟩
  obtain ⟨bs, hr2⟩ := hr2
  refine wpAny_bind (iter_tupleW (s := { s with heap := s.heap.push { cls := .type "tuple", data := .seq #[a, b] } }) (A := A.in1) hh hT fun s₂ e W st hfp hw hk => ?_)
  refine wpAny_bind (wpAny_newObj_type ?_)
  have hSf : s₂.heap.objs.size ∉ [(s.heap.push { cls := .type "tuple", data := .seq #[a, b] }).objs.size, s.heap.objs.size] := fun hm => Nat.lt_irrefl _ (hfp _ hm)
  rw [nm]
  have cmp := cmpIn_lt (prog := prog) (w := w) (s := { s with heap := s.heap.push { cls := .type "tuple", data := .seq #[a, b] } }) (A := A.in1) hr2 ha (by show A.units + 1 + _ < _; exact hu)
  refine wpAny_pure ⟨plainId_quiet F.plain_min_loop _, codeAny_min_loop_firstH W (s.heap.push { cls := .type "tuple", data := .seq #[a, b] }) hw _ cmp s₂.heap.objs.size hSf (fresh_in hk) _ (by simp) (fun b o e => Heap.get?_push_of_some _ (hk b o e)) (W.frame 0 s₂ _ s₂.toks st (Nat.le_refl _) fun b _ o e => Heap.get?_push_of_some _ e) (Heap.get?_push_size _ rfl) fun v s' hP hm => ?_⟩
  obtain ⟨h', tk, rfl, hk'⟩ := moved_old (s := { s with heap := s.heap.push { cls := .type "tuple", data := .seq #[a, b] } }) e rfl (Moved.drop_new (tk := s₂.toks) hm (Nat.le_refl _))
  have hv : v = if dataLt y x = true then b else a := by
    have hP : (#[a, b] : Array Value)[argBest (fun i j => dataLt ([x, y].getD i .none) ([x, y].getD j .none)) 1]? = some v := hP
    have e1 : argBest (fun i j => dataLt ([x, y].getD i .none) ([x, y].getD j .none)) 1 = if dataLt y x = true then 1 else 0 := rfl
    rw [e1] at hP
    by_cases c : dataLt y x = true
    · rw [if_pos c] at hP ⊢
      exact (Option.some.inj hP).symm
    · rw [if_neg c] at hP ⊢
      exact (Option.some.inj hP).symm
  rw [hv]
  exact h h' tk fun c o ec => hk' c o (k0 c o ec)
end
end HqW
namespace Hq
open PySem L2
def rMin2 (K : PySem.W.Frag) : List V → Hp → VK → Prop := fun vs H Q => ∃ (u v : V) (l m : List Int), vs = [u, v] ∧ Dp K H u (dT l) ∧ Dp K H v (dT m) ∧ Q (if m < l then v else u) H
theorem cr_min2T {X : Cx} (hc : X.calm = true) (hu : X.A.units + 64 < cLine) : CallR X (.builtin "min") (rMin2 X.K) := by
  intro pn st sg H vs us Q I r h
  obtain ⟨u, v, l, m, rfl, du, dv, q⟩ := h
  obtain ⟨u', v', rfl, ru, rv⟩ := vals2 r
  obtain ⟨as, hr⟩ := each_reads I (xs := [u, v]) (its := [u', v']) (L := [l, m]) (.cons ru (.cons rv .nil)) (.cons du (.cons dv .nil))
  refine HqW.min2_data (I.ok.hd hc) (by simpa using hr) ⟨fun x hx y hy => ?_, fun x hx => ?_⟩ (by have := deep_all (L := [l, m]); simp only [List.map_cons, List.map_nil] at this; omega) fun h' tk hk => ?_
  · have hx : x ∈ ([l, m]).map dT := hx
    have hy : y ∈ ([l, m]).map dT := hy
    obtain ⟨l, _, rfl⟩ := List.mem_map.mp hx
    obtain ⟨m, _, rfl⟩ := List.mem_map.mp hy
    show PySem.W.alike (.tuple _) (.tuple _) = true
    simp only [PySem.W.alike]
    exact PySem.W.alike_ints _ _
  · have hx : x ∈ ([l, m]).map dT := hx
    obtain ⟨l, _, rfl⟩ := List.mem_map.mp hx
    exact fun z => by cases z
  · have e : PySem.W.dataLt (dT m) (dT l) = decide (m < l) := by
      show PySem.W.dataLt (.tuple (m.map .int)) (.tuple (l.map .int)) = _
      rw [PySem.W.dataLt_tuple]
      show PySem.W.rowLt (m.map .int) (l.map .int) = _
      exact PySem.W.dataLt_ints _ _
    rw [e]
    by_cases c : m < l
    · rw [decide_eq_true c, if_pos rfl]
      rw [if_pos c] at q
      exact ⟨v, H, I.kept hk, rv, q⟩
    · rw [decide_eq_false c, if_neg (by decide)]
      rw [if_neg c] at q
      exact ⟨u, H, I.kept hk, ru, q⟩
theorem c_min2T {K : PySem.W.Frag} {Y : Cx} (e : Y.K = K) (hc : Y.calm = true) (hu : Y.A.units + 64 < cLine) : CallR Y (.builtin "min") (rMin2 K) := e ▸ cr_min2T hc hu
section
variable {K : PySem.W.Frag} {E E0 : Ent} {F H : Hp} {M M1 M2 M' : Ms} {Γ : Gm} {P P1 : MP} {O O' : MO} {q : Addr} {te ta tb tl tk tv td tx : TE} {tr : TA} {D1 : Ends} {tu tz : TS} {t u : TT} {ps : List MP} {i j v jj : Nat} {L : List (List Int × List Int)} {l w : List Int}
theorem rc_min2T {a b : List Int} : RC (rMin2 K) [D K (dT a), D K (dT b)] M (D K (dT (if b < a then b else a))) M := fun E F H vs g h Q k => by
  obtain ⟨x, y, rfl, p1, p2⟩ := ps2 h
  refine ⟨x, y, a, b, rfl, Dp.mono g.ex p1, Dp.mono g.ex p2, ?_⟩
  by_cases c : b < a
  · rw [if_pos c]; exact k y F H (Evl.Ex.refl _) g (by rw [if_pos c]; exact p2)
  · rw [if_neg c]; exact k x F H (Evl.Ex.refl _) g (by rw [if_neg c]; exact p1)
/-! ### d.get(t, x), d[t] = x -/
def lkD (L : List (List Int × List Int)) (l : List Int) : Option (List Int) := (L.find? fun z => decide (z.1 = l)).map (·.2)
def putD (L : List (List Int × List Int)) (l w : List Int) : List (List Int × List Int) := if (L.any fun z => decide (z.1 = l)) = true then L.map (fun z => if z.1 = l then (z.1, w) else z) else L ++ [(l, w)]
def PrD (K : PySem.W.Frag) (F : Hp) : (List Key × V) → (List Int × List Int) → Prop := fun p z => p.1 = z.1.map Sum.inl ∧ (D K (dT z.2)).p F p.2
theorem prd_key {a b : List Int} {k : List Key} (h : k = a.map Sum.inl) : (decide (k = (b.map Sum.inl : List Key))) = decide (a = b) := by
  rw [h, Bool.eq_iff_iff, decide_eq_true_iff, decide_eq_true_iff]
  exact inl_inj
theorem prd_val {F : Hp} : ∀ {kvs : List (List Key × V)} {L : List (List Int × List Int)}, Paired (PrD K F) kvs L → (lkD L l = none ∧ valV kvs (l.map Sum.inl) = none) ∨ ∃ w v, lkD L l = some w ∧ valV kvs (l.map Sum.inl) = some v ∧ (D K (dT w)).p F v
  | _, _, .nil => .inl ⟨rfl, rfl⟩
  | p :: kvs, z :: L, .cons a t => by
    have e := prd_key (b := l) a.1
    by_cases c : z.1 = l
    · rw [decide_eq_true c] at e
      refine .inr ⟨z.2, p.2, ?_, valV_pos (of_decide_eq_true e), a.2⟩
      unfold lkD
      rw [List.find?_cons, decide_eq_true c]; rfl
    · rw [decide_eq_false c] at e
      have h1 : lkD (z :: L) l = lkD L l := by
        unfold lkD
        rw [List.find?_cons, decide_eq_false c]
      rw [h1, valV_neg (of_decide_eq_false e)]
      exact prd_val t
theorem prd_any {F : Hp} : ∀ {kvs : List (List Key × V)} {L : List (List Int × List Int)}, Paired (PrD K F) kvs L → (kvs.any fun kv => decide (kv.1 = (l.map Sum.inl : List Key))) = L.any fun z => decide (z.1 = l)
  | _, _, .nil => rfl
  | p :: kvs, z :: L, .cons a t => by
    rw [List.any_cons, List.any_cons, prd_key (b := l) a.1, prd_any t]
theorem prd_put {F : Hp} {y : V} {kvs : List (List Key × V)} {L : List (List Int × List Int)} (h : Paired (PrD K F) kvs L) (hy : (D K (dT w)).p F y) : Paired (PrD K F) (putK kvs (l.map Sum.inl) y) (putD L l w) := by
  unfold putK putD
  rw [prd_any h]
  split
  · have key : ∀ {kvs : List (List Key × V)} {L : List (List Int × List Int)}, Paired (PrD K F) kvs L → Paired (PrD K F) (kvs.map fun kv => if kv.1 = (l.map Sum.inl : List Key) then (kv.1, y) else kv) (L.map fun z => if z.1 = l then (z.1, w) else z) := fun {kvs L} h => by
      induction h with
      | nil => exact .nil
      | @cons p z kvs L a t ih =>
        refine .cons ?_ ih
        dsimp only
        have e := prd_key (b := l) a.1
        by_cases c : z.1 = l
        · rw [decide_eq_true c] at e
          rw [if_pos c, if_pos (of_decide_eq_true e)]
          exact ⟨a.1, hy⟩
        · rw [decide_eq_false c] at e
          rw [if_neg c, if_neg (of_decide_eq_false e)]
          exact a
    exact key h
  · exact paired_app h (.cons ⟨rfl, hy⟩ .nil)
theorem ev_dgetT (hd : Ev td Γ M (Own q) M) (hk : Ev tk Γ M (NT l) M1) (hx : Ev tx Γ M1 (D K (dT w)) M2) (e0 : M[j]? = some (q, MDP K L)) (e : M2[j]? = some (q, MDP K L)) : Ev (tDGet2 td tk tx) Γ M (D K (dT ((lkD L l).getD w))) M2 := fun E F σ H a b Q k => hd E F σ H a b _ fun v F1 H1 e1 g1 p1 => by
  have p1 : v = .ref q := p1
  subst p1
  obtain ⟨_, o, ho1, kvs0, rfl, _⟩ := g1.at e0
  refine ⟨q, rfl, .inr ⟨kvs0, .inl ho1⟩, hk E F1 σ H1 g1 (b.mono e1) _ fun y F2 H2 e2 g2 ⟨bb, ey, hb⟩ => hx E F2 σ H2 g2 (b.mono (e1.trans e2)) _ fun z F3 H3 e3 g3 p3 => ?_⟩
  subst ey
  obtain ⟨_, o, ho3, kvs, rfl, pr⟩ := g3.at e
  refine ⟨_, DGet.t ho3 (k := l.map Sum.inl) (by rw [kv_ints]; exact g3.ex _ _ (e3 _ _ hb)), ?_⟩
  refine k _ F3 H3 ((e1.trans e2).trans e3) g3 ?_
  rcases prd_val (l := l) (show Paired (PrD K F3) kvs L from pr) with ⟨h1, h2⟩ | ⟨w', v', h1, h2, h3⟩
  · rw [h1, h2]; exact p3
  · rw [h1, h2]; exact h3
theorem go_dputT (hv : Ev tv Γ M (D K (dT w)) M1) (hd : Ev td Γ M1 (Own q) M1) (hk : Ev tk Γ M1 (NT l) M1) (e : M1[j]? = some (q, MDP K L)) (hz : L.length < 100000) (k : Nx E Γ (M1.set j (q, MDP K (putD L l w))) D1.nx) : Nx E Γ M (sDPut td tk tv D1) := fun σ H ⟨F, a, b⟩ => by
  refine hv E F σ H a b _ fun y F1 H1 e1 g1 p1 => hd E F1 σ H1 g1 (b.mono e1) _ fun x F2 H2 e2 g2 p2 => hk E F2 σ H2 g2 (b.mono (e1.trans e2)) _ fun z F3 H3 e3 g3 ⟨bb, ez, hb⟩ => ?_
  subst ez
  have p2 : x = .ref q := p2
  subst p2
  obtain ⟨fq, o, ho, kvs, rfl, pr⟩ := g3.at e
  have hlen : kvs.length = L.length := Paired.length pr
  refine ⟨q, _, rfl, DPut.t ho (k := l.map Sum.inl) (by rw [kv_ints]; exact g3.ex _ _ hb) (sz_lt (by omega)), ?_⟩
  exact k _ _ ⟨F3, g3.mut e ⟨_, rfl, prd_put (show Paired (PrD K F3) kvs L from pr) ((D K _).mono (e2.trans e3) p1)⟩, b.mono ((e1.trans e2).trans e3)⟩
end
end Hq
namespace HqW
open PySem PySem.Spec PySem.W
section
variable {prog : Program} {w : World} {r d : Addr} {es : Array DictEntry} {ep : Nat}
/-! ### list(d.values()), whatever the keys are -/
theorem src_values : KdlSrc prog w "dict_values" r d es.size (fun i v => ∃ hi : i < es.size, v = es[i].val) (fun h => h.IsValuesView r d ∧ h.DictRaw d es ep) where
  type := fun _ hm => hm.1.typeIs
  there := fun _ hm => ⟨let ⟨_, ho, _⟩ := hm.1; Heap.lt_size ho, let ⟨_, ho, _⟩ := hm.2; Heap.lt_size ho⟩
  keep := fun _ _ hm hk => ⟨let ⟨o, ho, x⟩ := hm.1; ⟨o, hk r (.inl rfl) o ho, x⟩, hm.2.at fun o e => hk d (.inr rfl) o e⟩
  notList := by decide
  notTuple := by decide
  hint := fun _ _ _ _ hm hq => kdl_hint_values hm.1.typeIs hq
  iter := fun _ s hh hm => ⟨_, _, (fun _ _ hq => wpAny_pyIter_values_raw hm.1 hm.2 hq), Walks.rawValues hh _ d (let ⟨_, ho, _⟩ := hm.2; Nat.ne_of_lt (Heap.lt_size ho)) es ep, ⟨⟨_, Heap.get?_push_size _ rfl, rfl, rfl⟩, hm.2.at fun _ e => Heap.get?_push_of_some _ e⟩⟩
end
end HqW
namespace L2
open PySem PySem.Spec PyProof.Rows
def tListValsT (te : TE) : TE := fun σ H Q => te σ H fun x H1 => ∃ d kvs, x = .ref d ∧ H1 d = some (.dT kvs) ∧ ∀ p, H1 p = none → Q (.ref p) (upd H1 p (.lst (kvs.map (·.2))))
section
variable {X : Cx} {e : Expr} {te : TE} {p pos apos cpos : Pos}
theorem pe_listValsT (hc : X.calm = true) (he : PE X e te) (hg : Gl X "list") (hm : X.mg "list" = none) (hv : bootBuiltins "list" = some (.type "list")) (hbase : attributeBase e "values" X.env (eval e X.env) = eval e X.env := by rfl) (hline : (apos.endLine == cpos.line) = true := by rfl)
    (hs : starEach [.Call (.Attribute e "values" apos) [] [] cpos] X.env = (false, eval (.Call (.Attribute e "values" apos) [] [] cpos) X.env) :: starEach [] X.env := by rfl) :
    PE X (.Call (.Name "list" p) [.Call (.Attribute e "values" apos) [] [] cpos] [] pos) (tListValsT te) := by
  refine ⟨fun pins s σ H Q I hq => ?_⟩
  refine wpAny_Call_Name_kw (ld_blt I hg hm hv ?_)
  refine PyProof.Rows.callWith_type1 ?_ hs rfl
  rw [hs]
  show wpAny _ _ (spliced ((false, eval (.Call (.Attribute e "values" apos) [] [] cpos) X.env) :: backTo pos (starEach [] X.env))) _ _ s
  refine Calls.spliced_cons ?_
  refine wpAny_Call_method (T := "dict") (id := "dict.values") hbase rfl hline F.plainAttrs_dict F.slot_dict_values F.type_dict_values (thn (he.run pins s σ H _ I hq) fun u s1 ⟨x, H1, I1, rx, d, kvs, ex, hd, q⟩ => ?_)
  subst ex
  obtain rfl : u = Value.ref d := rx
  obtain ⟨z, hs0, xs, pr, o, es, ep, ho, hx, hdt, hE, hrest⟩ := dt_of I1.hok hd
  have raw : s1.heap.DictRaw d es ep := ⟨o, ho, hx, hdt⟩
  have l1 : es.size = xs.length := size_of_entries hE
  have l2 : kvs.length = xs.length := Paired.length pr
  refine ⟨raw.typeIs, fun b eb => by cases eb; exact ⟨o, ho, hx.2.1⟩, ?_⟩
  show wpAny _ _ (callWith cpos (.builtin "dict.values") [.ref d] [] []) _ X.xe s1
  refine method_meetsIn F.slot_dict_values F.entry_dict_values rfl (PySem.evalArgs_none ⟨rfl, raw.typeIs, F.args_dict_values_1 _, _, meets_dict_values_raw d hs0, ⟨⟨es, ep, raw⟩, ?_⟩⟩)
  refine Calls.spliced_nil ?_
  refine PySem.W.kdl_call (HqW.src_values (d := d) (es := es) (ep := ep)) (I1.ok.hd hc) ⟨⟨_, Heap.get?_push_size _ rfl, rfl, rfl⟩, raw.at fun _ e => Heap.get?_push_of_some _ e⟩ (by omega) fun h' tk acc c hk hS hacc => ?_
  have hlt : s1.heap.objs.size ≤ (s1.heap.push { cls := .type "dict_values", data := .fields #[.ref d] }).objs.size := by rw [Heap.size_push]; omega
  have vals : Vals (kvs.map (·.2)) acc.toList := by
    have key : ∀ (ks : List V) (vs : List Value), ks.length = vs.length → (∀ (i : Nat) (x : V) (v : Value), ks[i]? = some x → vs[i]? = some v → RelV x v) → Vals ks vs := by
      intro ks
      induction ks with
      | nil => intro vs hl _; cases vs with | nil => exact .nil | cons _ _ => simp at hl
      | cons x ks ih =>
        intro vs hl h
        cases vs with
        | nil => simp at hl
        | cons v vs => exact .cons (h 0 x v rfl rfl) (ih vs (by simpa using hl) fun i y u h1 h2 => h (i + 1) y u h1 h2)
    refine key _ _ (by have ha := hacc.1; have e1 : acc.toList.length = acc.size := Array.length_toList; have e2 : (kvs.map (·.2)).length = kvs.length := List.length_map _; omega) fun i x v h1 h2 => ?_
    rw [List.getElem?_map] at h1
    obtain ⟨kv, hkv, rfl⟩ := Option.map_eq_some_iff.mp h1
    obtain ⟨b, hb, e1, e2, e3⟩ := paired_get pr hkv
    have q := entry_at hE i
    rw [hb] at q
    obtain ⟨hi, rfl⟩ := hacc.2 i v (by rw [← Array.getElem?_toList]; exact h2)
    rw [Array.getElem?_eq_getElem hi] at q
    have q : es[i] = _ := Option.some.inj q
    rw [q]
    exact e3
  refine ⟨.ref _, upd H1 (s1.heap.push { cls := .type "dict_values", data := .fields #[.ref d] }).objs.size (.lst (kvs.map (·.2))), I1.laid (t' := tk) (fun b o e => hk b o (Heap.get?_push_of_some _ e)) hlt (show ObjOk X.prog X.w _ _ _ (.lst (kvs.map (·.2))) from ⟨by rw [List.length_map]; omega, acc.toList, c, vals, ?_⟩), rfl, q _ (I1.hok.fresh hlt)⟩
  rw [Array.toArray_toList]
  exact hS
end
end L2
namespace Hq
open PySem L2
section
variable {K : PySem.W.Frag} {E E0 : Ent} {F H : Hp} {M M1 M2 M' : Ms} {Γ : Gm} {P P1 : MP} {O O' : MO} {q : Addr} {te ta tb tl tk tv td tx : TE} {tr : TA} {D1 : Ends} {tu tz : TS} {t u : TT} {ps : List MP} {i j v jj : Nat} {L : List (List Int × List Int)} {l w : List Int} {b : Bool}
theorem prd_vals {F : Hp} : ∀ {kvs : List (List Key × V)} {L : List (List Int × List Int)}, Paired (PrD K F) kvs L → Ps F (kvs.map (·.2)) (L.map fun z => D K (dT z.2))
  | _, _, .nil => .nil
  | _, _, .cons a t => .cons a.2 (prd_vals t)
theorem evn_listValsT (hd : Ev td Γ M (Own q) M) (e : M[j]? = some (q, MDP K L)) : EvN (tListValsT td) Γ M (ML (L.map fun z => D K (dT z.2))) M := fun E F σ H a b Q k => hd E F σ H a b _ fun v F1 H1 e1 g1 p1 => by
  have p1 : v = .ref q := p1
  subst p1
  obtain ⟨_, o, ho, kvs, rfl, pr⟩ := g1.at e
  exact ⟨q, kvs, rfl, ho, fun p hp => k p F1 _ (g1.fresh hp) e1 (g1.new hp ⟨_, rfl, prd_vals pr⟩)⟩
theorem evn_dnewT : EvN tDNewT Γ M (MDP K []) M := fun E F σ H a b Q k p hp => k p F _ (a.fresh hp) (Evl.Ex.refl _) (a.new hp ⟨[], rfl, .nil⟩)
theorem evn_dispP (hk : ∀ M, Ev tk Γ M (NT l) M) (hv : ∀ M, Ev tv Γ M (D K (dT w)) M) : EvN (tDispT tk tv) Γ M (MDP K [(l, w)]) M := fun E F σ H a b Q k p hp => by
  have g0 := a.new (q := p) (O := MDP K []) (o := .dT []) hp ⟨[], rfl, .nil⟩
  refine hk _ E F σ _ g0 b _ fun x F1 H1 e1 g1 ⟨bb, ex, hb⟩ => hv _ E F1 σ H1 g1 (b.mono e1) _ fun y F2 H2 e2 g2 p2 => ?_
  subst ex
  obtain ⟨fq, o, ho, kvs, rfl, hkv⟩ := g2.at (j := 0) rfl
  cases hkv
  refine ⟨bb, l.map Sum.inl, rfl, ho, by rw [kv_ints]; exact g2.ex _ _ (e2 _ _ hb), ?_⟩
  exact k p F2 _ (a.fresh hp) (e1.trans e2) (g2.mut (j := 0) rfl ⟨[(l.map Sum.inl, y)], rfl, .cons ⟨rfl, p2⟩ .nil⟩)
/-- a if t else b, made -/
theorem evn_ifE (h : EvT t Γ M (· = b) M1) (h1 : b = true → EvN ta Γ M1 O M2) (h2 : b = false → EvN tb Γ M1 O M2) : EvN (tIf t ta tb) Γ M O M2 := fun E F σ H a c Q k => h E F σ H a c _ fun z F1 H1 e1 g1 hz => by
  subst hz
  cases z with
  | true => exact h1 rfl E F1 σ H1 g1 (c.mono e1) Q fun q F2 H2 f e2 g2 => k q F2 H2 f (e1.trans e2) g2
  | false => exact h2 rfl E F1 σ H1 g1 (c.mono e1) Q fun q F2 H2 f e2 g2 => k q F2 H2 f (e1.trans e2) g2
theorem ev_ifE (h : EvT t Γ M (· = b) M1) (h1 : b = true → Ev ta Γ M1 P M2) (h2 : b = false → Ev tb Γ M1 P M2) : Ev (tIf t ta tb) Γ M P M2 := fun E F σ H a c Q k => h E F σ H a c _ fun z F1 H1 e1 g1 hz => by
  subst hz
  cases z with
  | true => exact h1 rfl E F1 σ H1 g1 (c.mono e1) Q fun v F2 H2 e2 g2 p => k v F2 H2 (e1.trans e2) g2 p
  | false => exact h2 rfl E F1 σ H1 g1 (c.mono e1) Q fun v F2 H2 e2 g2 p => k v F2 H2 (e1.trans e2) g2 p
end
end Hq
/-! ### zip of a list and a tuple -/
namespace HqA
open PySem PySem.Spec PyProof.Rows L2
abbrev mH1 (h : Heap) (l : Addr) : Heap := h.push { cls := .type "list_iterator", data := .fields #[.ref l, .int 0 0] }
abbrev mH2 (h : Heap) (l t : Addr) : Heap := (mH1 h l).push { cls := .type "tuple_iterator", data := .fields #[.ref t, .int 0 0] }
abbrev mH3 (h : Heap) (l t : Addr) : Heap := (mH2 h l t).push { cls := .type "tuple", data := .seq #[.ref h.objs.size, .ref (mH1 h l).objs.size] }
abbrev mH4 (h : Heap) (l t : Addr) : Heap := (mH3 h l t).push { cls := .type "tuple", data := .seq #[.none, .none] }
abbrev mH5 (h : Heap) (l t : Addr) : Heap := (mH4 h l t).push { cls := .type "zip", data := .fields #[.none, .bool false, .bool false, .ref (mH2 h l t).objs.size, .ref (mH3 h l t).objs.size] }
theorem meets_zipM (l t : Addr) (xs ys : Array Value) :
    Meets (Builtin.«zip.__new__» ⟨[.type "zip", .ref l, .ref t], []⟩) (fun _ R s => s.heap.IsList l xs ∧ s.heap.IsTuple t ys ∧
      R (.ok (.ret (.ref (mH4 s.heap l t).objs.size))) { s with heap := mH5 s.heap l t }) :=
  .of_wp fun prog w A R s h => by
    obtain ⟨hp, g, d, tk, os⟩ := s; obtain ⟨hl1, hl2, h⟩ := h
    have hsub := sub_zip
    have hL1 : Heap.IsList (Shared.heap ⟨hp, g, d, tk, os⟩) l xs := hl1
    have hL2 : Heap.IsTuple (Shared.heap ⟨hp.push { cls := .type "list_iterator", data := .fields #[.ref l, .int 0 0] }, g, d, tk, os⟩) t ys := Heap.IsTuple.push hl2 _
    wp_walk using wpAny_pyIter_list hL1, wpAny_pyIter_tuple hL2
    exact ⟨_, rfl, h⟩
section
variable {prog : Program} {w : World} {A : Around} {E : Value → Shared → Prop} {s : Shared}
theorem call_zipM {l t : Addr} {xs ys : Array Value} {Q : Value → Shared → Prop} (hl : s.heap.IsList l xs) (ht : s.heap.IsTuple t ys)
    (h : ∀ h', IsZip h' (s.heap.objs.size + 4) (s.heap.objs.size + 2) (s.heap.objs.size + 3) .none → IsTupOf2 h' (s.heap.objs.size + 2) (.ref s.heap.objs.size) (.ref (s.heap.objs.size + 1)) →
      IsTupOf2 h' (s.heap.objs.size + 3) .none .none → h'.IsListIter s.heap.objs.size l 0 → h'.IsTupleIter (s.heap.objs.size + 1) t 0 →
      (∀ c o, s.heap.get? c = some o → h'.get? c = some o) → Q (.ref (s.heap.objs.size + 4)) { s with heap := h' }) :
    wpAny (model prog w) A (call (.type "zip") [.ref l, .ref t]) Q E s := by
  refine callType_new F.called_zip (by decide) (F.typeCall_zip_2 _ _) (F.newCall_zip_2 _ _) (fun obj => F.args_object_init_3 obj _ _) F.entry_zip_new (meets_zipM l t xs ys) ⟨hl, ht, ?_⟩
  have z1 : (mH1 s.heap l).objs.size = s.heap.objs.size + 1 := Heap.size_push ..
  have z2 : (mH2 s.heap l t).objs.size = s.heap.objs.size + 2 := by rw [Heap.size_push, z1]
  have z3 : (mH3 s.heap l t).objs.size = s.heap.objs.size + 3 := by rw [Heap.size_push, z2]
  have z4 : (mH4 s.heap l t).objs.size = s.heap.objs.size + 4 := by rw [Heap.size_push, z3]
  have old : ∀ {h : Heap} {a : Obj} {c : Addr} {o : Obj}, h.get? c = some o → (h.push a).get? c = some o := fun e => Heap.get?_push_of_some _ e
  have g5 : (mH5 s.heap l t).get? (mH4 s.heap l t).objs.size = some _ := Heap.get?_push_size _ rfl
  have g4 : (mH5 s.heap l t).get? (mH3 s.heap l t).objs.size = some _ := old (Heap.get?_push_size _ rfl)
  have g3 : (mH5 s.heap l t).get? (mH2 s.heap l t).objs.size = some _ := old (old (Heap.get?_push_size _ rfl))
  have g2 : (mH5 s.heap l t).get? (mH1 s.heap l).objs.size = some _ := old (old (old (Heap.get?_push_size _ rfl)))
  have g1 : (mH5 s.heap l t).get? s.heap.objs.size = some _ := old (old (old (old (Heap.get?_push_size _ rfl))))
  show _ ∧ _
  rw [z2, z3, z4] at g5
  rw [z1, z2] at g3
  rw [z3] at g4
  rw [z1] at g2
  rw [z4]
  exact ⟨⟨_, g5, rfl⟩, h _ g5 g3 g4 ⟨_, g1, rfl, rfl⟩ ⟨_, g2, rfl, rfl⟩ fun c o x => old (old (old (old (old x))))⟩
end
/-- the list at a and the tuple at b as they stand at each turn, the items in new pairs -/
def ItzM (K : PySem.W.Frag) (a b : Addr) : It :=
  ⟨fun i H => ∃ (xs ys : List V) (x y : V), SqL K H a xs ∧ SqT K H b ys ∧ xs[i]? = some x ∧ ys[i]? = some y,
    fun i H v H' => ∃ T x y, v = .ref T ∧ H T = none ∧ H' = upd H T (.tup [x, y]) ∧ (∀ xs, SqL K H a xs → xs[i]? = some x) ∧ ∀ ys, SqT K H b ys → ys[i]? = some y,
    fun i H => ∃ xs ys : List V, SqL K H a xs ∧ SqT K H b ys ∧ i ≤ xs.length ∧ i ≤ ys.length ∧ (xs.length = i ∨ ys.length = i)⟩
theorem sep {I a b : Addr} (ha : a < I) (hb : b < I) : ZipSep2 (I + 4) (I + 2) (I + 3) I (I + 1) [I, a] [I + 1, b] := by
  have ha : @LT.lt Nat _ a I := ha
  have hb : @LT.lt Nat _ b I := hb
  constructor <;> first
    | exact List.mem_cons_self
    | (intro e; have e : ((_ : Nat) = _) := e; omega)
    | (intro h
       rcases List.mem_cons.mp h with e | h
       · have e : ((_ : Nat) = _) := e
         omega
       · have e : ((_ : Nat) = _) := List.mem_singleton.mp h
         omega)
theorem turn_zipM {P : Program} {w : World} {K : PySem.W.Frag} {elts : List Expr} {kk : Nat} {tpos : Pos} {a b z TI TO i1 i2 : Addr} (D : ZipSep2 z TI TO i1 i2 [i1, a] [i2, b]) (n1 : a ≠ i1) (n2 : b ≠ i2) :
    Turn P w K (.Tuple elts kk tpos) (ItzM K a b) [z, TI, TO, i1, i2] z (fun i h => IsZip h z TI TO .none ∧ IsTupOf2 h TI (.ref i1) (.ref i2) ∧ (∃ x y, IsTupOf2 h TO x y) ∧ h.IsListIter i1 a i ∧ h.IsTupleIter i2 b i) where
  mem := by simp
  obj := fun i h st c hc => by
    obtain ⟨hz, hTI, ⟨x, y, hTO⟩, ⟨o1, e1, _, d1⟩, ⟨o2, e2, _, d2⟩⟩ := st
    have e' : c = z ∨ c = TI ∨ c = TO ∨ c = i1 ∨ c = i2 := by simpa using hc
    rcases e' with rfl | rfl | rfl | rfl | rfl
    · exact ⟨_, hz, fun v q => nomatch q⟩
    · exact ⟨_, hTI, fun v q => nomatch q⟩
    · exact ⟨_, hTO, fun v q => nomatch q⟩
    · exact ⟨o1, e1, fun v q => by rw [d1] at q; cases q⟩
    · exact ⟨o2, e2, fun v q => by rw [d2] at q; cases q⟩
  keep := fun i h h' st k => by
    obtain ⟨hz, hTI, ⟨x, y, hTO⟩, h1, h2⟩ := st
    exact ⟨k z (by simp) _ hz, k TI (by simp) _ hTI, ⟨x, y, k TO (by simp) _ hTO⟩, h1.at fun o q => k i1 (by simp) o q, h2.at fun o q => k i2 (by simp) o q⟩
  item := by
    intro X hP hw hK hc i pins s σ H E I hf st hg
    subst hP hw hK
    obtain ⟨hz, hTI, ⟨x0, y0, hTO⟩, h1, h2⟩ := st
    obtain ⟨xs, ys, x, y, hqx, hqy, hx, hy⟩ := hg
    obtain ⟨its, rv, p, _⟩ := I.list hqx
    obtain ⟨its2, rv2, p2, _⟩ := I.tuple hqy
    obtain ⟨u, hu, ru⟩ := rv.get hx
    obtain ⟨u2, hu2, ru2⟩ := rv2.get hy
    have hzl : z < s.heap.objs.size := Heap.lt_size hz
    have c1 : i < its.toArray.size := by rw [List.size_toArray]; exact (List.getElem?_eq_some_iff.mp hu).1
    have c2 : i < its2.toArray.size := by rw [List.size_toArray]; exact (List.getElem?_eq_some_iff.mp hu2).1
    refine wpAny_pyNext_zipD2_item D (Draws.list (A := X.A.in1) (I.ok.hd hc) i1 a n1 its.toArray) (Draws.tuple (A := X.A.in1) (I.ok.hd hc) i2 b n2 its2.toArray) hz hTI hTO ⟨h1, p.isList⟩ ⟨h2, p2⟩ c1 c2 fun v1 v2 h' tk e1 e2 z' TO' h1' h2' hT hsz hk => ?_
    have e1 : u = v1 := by
      have e1 : its.toArray[i]? = some v1 := e1
      rw [List.getElem?_toArray, hu] at e1; exact Option.some.inj e1
    have e2 : u2 = v2 := by
      have e2 : its2.toArray[i]? = some v2 := e2
      rw [List.getElem?_toArray, hu2] at e2; exact Option.some.inj e2
    subst e1 e2
    refine ⟨_, rfl, wpAny_letOwnedTupleGo_zip (s := { s with heap := h', toks := tk }) z' fun h'' z'' sb => ?_⟩
    have hT2 : h''.get? s.heap.objs.size = some { cls := .type "tuple", data := .seq #[u, u2] } := (sb.2 _ (Nat.ne_of_gt hzl)).trans hT
    have new : ObjOk X.prog X.w (upd H s.heap.objs.size (.tup [x, y])) h'' s.heap.objs.size (.tup [x, y]) :=
      ⟨by show 2 ≤ sizeLine; decide, [u, u2], .cons ru (.cons ru2 .nil), ⟨_, hT2, rfl, _, rfl⟩⟩
    have I1 : Inv X pins σ (upd H s.heap.objs.size (.tup [x, y])) { s with heap := h'', toks := tk } :=
      I.turnedNew (t' := tk) (ch := [z, TI, TO, i1, i2]) (fun c o hb q => (sb.2 c (fun q' => hb (by simp [q']))).trans (hk c o (fun q' => hb (by simp [q'])) (fun q' => hb (by simp [q'])) (fun q' => hb (by simp [q'])) (fun q' => hb (by simp [q'])) q)) hf (Nat.le_refl _) new
    refine ⟨.ref s.heap.objs.size, _, I1, rfl, ⟨_, x, y, rfl, I.hok.fresh (Nat.le_refl _), rfl, fun l hl => by rw [I.list_inj hl hqx]; exact hx, fun l hl => by rw [I.tuple_inj hl hqy]; exact hy⟩, ⟨z'', ?_, ⟨u, u2, ?_⟩, ?_, ?_⟩, fun c hcm => ?_⟩
    · exact (sb.2 _ D.TIz).trans (hk _ _ D.TIz D.TITO D.TIi1 D.TIi2 hTI)
    · exact (sb.2 _ D.TOz).trans TO'
    · exact h1'.1.at fun o q => (sb.2 _ D.zi1.symm).trans q
    · exact h2'.1.at fun o q => (sb.2 _ D.zi2.symm).trans q
    · have hlt : c < s.heap.objs.size := by
        have e' : c = z ∨ c = TI ∨ c = TO ∨ c = i1 ∨ c = i2 := by simpa using hcm
        rcases e' with rfl | rfl | rfl | rfl | rfl
        · exact hzl
        · exact Heap.lt_size hTI
        · exact Heap.lt_size hTO
        · obtain ⟨_, e1, _⟩ := h1; exact Heap.lt_size e1
        · obtain ⟨_, e2, _⟩ := h2; exact Heap.lt_size e2
      rw [upd_ne (Nat.ne_of_lt hlt)]
      exact (hf c hcm).1
  done := by
    intro X hP hw hK hc i pins s σ H E I hf st hg
    subst hP hw hK
    obtain ⟨hz, hTI, ⟨x0, y0, hTO⟩, h1, h2⟩ := st
    obtain ⟨xs, ys, hqx, hqy, l1, l2, hend⟩ := hg
    obtain ⟨its, rv, p, _⟩ := I.list hqx
    obtain ⟨its2, rv2, p2, _⟩ := I.tuple hqy
    have r1 := rv.length
    have r2 := rv2.length
    refine wpAny_pyNext_zipD2_end D (Draws.list (A := X.A.in1) (I.ok.hd hc) i1 a n1 its.toArray) (Draws.tuple (A := X.A.in1) (I.ok.hd hc) i2 b n2 its2.toArray) hz hTI hTO ⟨h1, p.isList⟩ ⟨h2, p2⟩ (by rw [List.size_toArray]; omega) (by rw [List.size_toArray]; omega) (by rw [List.size_toArray, List.size_toArray]; omega) fun h' tk hk => ⟨rfl, I.turnedL (t' := tk) (ch := [z, TI, TO, i1, i2]) (fun c o hb q =>
      hk c o (fun q' => hb (by simp [q'])) (fun q' => hb (by simp [q'])) (fun q' => hb (by simp [q'])) (fun q' => hb (by simp [q'])) q) hf⟩
  self := fun A i s Q E st h => wpAny_pyIter_zip st.1 h
def iZipM (K : PySem.W.Frag) (ta : TA) : TI := fun σ H R => ta σ H fun vs H1 => ∃ a b xs ys, vs = [.ref a, .ref b] ∧ SqL K H1 a xs ∧ SqT K H1 b ys ∧ R (ItzM K a b) H1
theorem pi_zipM {X : Cx} {e e2 : Expr} {ta : TA} {p pos tpos : Pos} {elts : List Expr} {kk : Nat} (hg : Gl X "zip") (hm : X.mg "zip" = none) (ha : PA X [e, e2] ta)
    (hs : starEach [e, e2] X.env = (false, eval e X.env) :: starEach [e2] X.env := by rfl) (hpl : (backTo pos (starEach [e2] X.env)).any (·.1) = false := by rfl) :
    PI X (.Tuple elts kk tpos) (.Call (.Name "zip" p) [e, e2] [] pos) (iZipM X.K ta) := by
  refine ⟨fun pins s σ H R I h => ?_⟩
  refine Call_ (ld_blt I hg hm PyProof.Rows.boot_zip (PyProof.Rows.callWith_type1 (thn (ha.run pos pins s σ H _ I h) fun us s1 ⟨vs, H1, I1, r1, q1⟩ => ?_) hs hpl))
  obtain ⟨a, b, xs, ys, rfl, hqx, hqy, q⟩ := q1
  obtain ⟨u, u2, rfl, e1, e2⟩ := vals2 r1
  cases e1
  cases e2
  obtain ⟨its, rv, p1, _⟩ := I1.list hqx
  obtain ⟨its2, rv2, p2, _⟩ := I1.tuple hqy
  have fresh5 : ∀ c, c ∈ [s1.heap.objs.size + 4, s1.heap.objs.size + 2, s1.heap.objs.size + 3, s1.heap.objs.size, s1.heap.objs.size + 1] → FpOk X pins H1 c := fun c hcm => by
    have e' : c = s1.heap.objs.size + 4 ∨ c = s1.heap.objs.size + 2 ∨ c = s1.heap.objs.size + 3 ∨ c = s1.heap.objs.size ∨ c = s1.heap.objs.size + 1 := by simpa using hcm
    have hle : s1.heap.objs.size ≤ c := by
      rcases e' with rfl | rfl | rfl | rfl | rfl <;> first | exact Nat.le_refl _ | exact Nat.le_add_right _ _
    exact I1.fpOk hle (I1.hok.fresh hle)
  obtain ⟨o2, ho2, _⟩ := id p2
  have la := p1.lt
  have lb := Heap.lt_size ho2
  refine call_zipM p1.isList (show s1.heap.IsTuple b its2.toArray from p2) fun h' hz hTI hTO h1 h2 hk => wpAny_pyIter_zip hz ?_
  have I2 : Inv X pins σ H1 { s1 with heap := h' } := I1.kept (t' := s1.toks) hk
  exact ⟨s1.heap.objs.size + 4, [s1.heap.objs.size + 4, s1.heap.objs.size + 2, s1.heap.objs.size + 3, s1.heap.objs.size, s1.heap.objs.size + 1], _, _, H1, rfl, I2, turn_zipM (sep la lb) (Nat.ne_of_lt la) (Nat.ne_of_lt (Nat.lt_succ_of_lt lb)), ⟨hz, hTI, ⟨_, _, hTO⟩, h1, h2⟩, fresh5, q⟩
end HqA
namespace Hq
open PySem L2 HqA
section
variable {K : PySem.W.Frag} {E E0 : Ent} {F H : Hp} {M M1 M2 M' : Ms} {Γ : Gm} {P P1 : MP} {O O' : MO} {q : Addr} {te ta tb tl tk tv td tx : TE} {tr : TA} {D1 : Ends} {tu tz : TS} {t u : TT} {ps : List MP} {i j v jj : Nat} {b : Bool}
theorem walk_zipM {a b : Addr} {xs ys : List V} {n : Nat} (hn : n = xs.length ∧ n = ys.length) : Walk (ItzM K a b) n (fun H => SqL K H a xs ∧ SqT K H b ys) (YPair (fun i => xs[i]?) (fun i => ys[i]?)) := by
  obtain ⟨h1, h2⟩ := hn
  refine ⟨fun i _ hi q => ⟨xs, ys, xs[i]'(by omega), ys[i]'(by omega), q.1, q.2, by simp [show i < xs.length by omega], by simp [show i < ys.length by omega]⟩, fun _ q => ⟨xs, ys, q.1, q.2, by omega, by omega, by omega⟩, fun i H v H' _ q y => ?_⟩
  obtain ⟨T, x, z, h1, h2, h3, h4, h5⟩ := y
  exact ⟨T, x, z, h1, h2, h3, h4 xs q.1, h5 ys q.2⟩
/-- over zip of a list and a tuple of one length -/
theorem evn_lcZipM {γ : Type} {zs : List γ} {RA RB G : γ → MP} {f : γ → Bool} (hij : i ≠ j) (h1 : Ev ta Γ M (PLi K (zs.map RA)) M1) (h2 : Ev tb Γ M1 (PTu K (zs.map RB)) M2) (hz : zs.length ≤ 50000)
    (ht : ∀ z ∈ zs, EvT t ((((Γ.set j none).set i none).set i (some (RA z))).set j (some (RB z))) M2 (· = f z) M2)
    (he : ∀ z ∈ zs, f z = true → Ev te ((((Γ.set j none).set i none).set i (some (RA z))).set j (some (RB z))) M2 (G z) M2) :
    EvN (tLc (iZipM K (tCons ta (tCons tb tNil))) (gPair K i j) t te [i, j]) Γ M (ML ((zs.filter f).map G)) M2 := fun E F σ H a b Q k => h1 E F σ H a b _ fun v F1 H1 e1 g1 ⟨p, vs, hp, s, q⟩ => h2 E F1 σ H1 g1 (b.mono e1) _ fun v2 F2 H2 e2 g2 ⟨p2, vs2, hp2, s2, q2⟩ => by
  have l1 : vs.length = zs.length := by have := paired_len q; rwa [List.length_map] at this
  have l2 : vs2.length = zs.length := by have := paired_len q2; rwa [List.length_map] at this
  have q := Ps.mono e2 q
  refine ⟨p, p2, vs, vs2, by rw [hp, hp2], Evl.ex_l (e2.trans g2.ex) s, Evl.ex_t g2.ex s2, ?_⟩
  refine lc_pairs (K := K) (zs := zs) (us := vs) (vs := vs2) hij (walk_zipM ⟨l1.symm, l2.symm⟩) hz g2 (b.mono (e1.trans e2)) q q2 (fun F' H' e e' => ⟨Evl.ex_l ((e2.trans e).trans e') s, Evl.ex_t (e.trans e') s2⟩) ht he fun q F' H' f e g => k q F' H' f ((e1.trans e2).trans e) g
theorem pi_zipM' {X : Cx} (eK : X.K = K) {e e2 : Expr} {ta : TA} {p pos tpos : Pos} {elts : List Expr} {kk : Nat} (hg : Gl X "zip") (hm : X.mg "zip" = none) (ha : PA X [e, e2] ta)
    (hs : starEach [e, e2] X.env = (false, eval e X.env) :: starEach [e2] X.env := by rfl) (hpl : (backTo pos (starEach [e2] X.env)).any (·.1) = false := by rfl) :
    PI X (.Tuple elts kk tpos) (.Call (.Name "zip" p) [e, e2] [] pos) (iZipM K ta) := eK ▸ pi_zipM hg hm ha hs hpl
end
end Hq
/-! ### dicts with tuple keys, values of any kind -/
namespace Hq
open PySem L2
/-- a dict whose keys are tuples of ints, whose values data tuples of ints -/
def MDV {β : Type} (R : β → MP) (L : List (List Int × β)) : MO :=
  ⟨fun F o => ∃ kvs : List (List Key × V), o = .dT kvs ∧ Paired (fun (p : List Key × V) (z : List Int × β) => p.1 = z.1.map Sum.inl ∧ (R z.2).p F p.2) kvs L, fun e ⟨kvs, h, p⟩ => ⟨kvs, h, Paired.mapP p fun _ _ q => ⟨q.1, (R _).mono e q.2⟩⟩, fun ⟨kvs, h, _⟩ xs z => by rw [h] at z; cases z⟩
section
variable {K : PySem.W.Frag} {E E0 : Ent} {F H : Hp} {M M1 M2 M' : Ms} {Γ : Gm} {P P1 : MP} {O O' : MO} {q : Addr} {te ta tb tl tk tv td tx : TE} {tr : TA} {D1 : Ends} {tu tz : TS} {t u : TT} {ps : List MP} {i j v jj : Nat} {β : Type} {R : β → MP} {L : List (List Int × β)} {l : List Int} {w : β}
theorem go_forItV (hv : Γ[v]? = some (some (Own q))) (e : M[jj]? = some (q, MDV R L)) (J : MO → Nat → Gm → Ms → Prop) (h0 : ∀ O, J O 0 Γ (M.set jj (q, O))) (hJ : ∀ O n Γ' M', J O n Γ' M' → Γ'[v]? = some (some (Own q)) ∧ ∃ j' : Nat, M'[j']? = some (q, O))
    (hs : ∀ E', Le E' E → ∀ O n z, L[n]? = some z → ∀ Γ' M', J O n Γ' M' → ∀ r b, Nx E' ((Γ'.set i (some (NT z.1))).set j (some (R z.2))) M' (tu ⟨JA E' (J O (n + 1)), r, b, JA E' (J O (n + 1))⟩))
    (hd : ∀ O Γ' M', J O L.length Γ' M' → ∃ j' : Nat, M'[j']? = some (q, O) ∧ Nx E Γ' (M'.set j' (q, MDV R L)) D1.nx) : Nx E Γ M (tLock (tFor (iItemsT (tVar v)) (gPair K i j) tu) D1) := fun σ H ⟨F, a, b⟩ => by
  obtain ⟨fq, o, ho, kvs, rfl, pr⟩ := a.at e
  refine ⟨q, .dT kvs, ho, True.intro, fun od => ?_⟩
  have gl : Pt E F (M.set jj (q, MLk od kvs)) (upd H q (.frz od (.dT kvs))) := a.mut e rfl
  unfold tFor iItemsT
  refine (ev_var hv) E F σ _ gl b _ fun x F1 H1 e1 g1 hx => ?_
  have hx : x = .ref q := hx
  subst hx
  have ljj : jj < M.length := (List.getElem?_eq_some_iff.mp e).1
  obtain ⟨_, ob, ho1, rfl⟩ := g1.at (j := jj) (O := MLk od kvs) (by rw [List.getElem?_set_self ljj])
  refine ⟨q, od, kvs, rfl, ho1, for_ItiT (fun n σ H => JA ⟨F1, H1, keys (M.set jj (q, MLk od kvs))⟩ (J (MLk od kvs) n) σ H) ⟨Γ, _, h0 _, F1, g1.enter, b.mono e1⟩ (fun n σ2 H2 ⟨Γ', M', hJn, F2, g2, _⟩ => ?_) (fun n k y qk T σ2 H2 hkv hk hT ⟨Γ', M', hJn, F2, g2, b2⟩ => ?_) (fun σ2 H2 ⟨Γ', M', hJn, F2, g2, b2⟩ => ?_)⟩
  · obtain ⟨_, j', hj⟩ := hJ _ _ _ _ hJn
    obtain ⟨_, _, h, rfl⟩ := g2.at hj
    exact h
  · obtain ⟨z, hz, ek, dy⟩ := paired_get' pr hkv
    obtain ⟨F3, e3, hF3, g3⟩ := g2.learn hk
    have g4 := g3.junk (o := .tup [.ref qk, y]) hT
    have nt : (NT z.1).p F3 (.ref qk) := ⟨qk, rfl, by rw [hF3, show k = z.1.map Sum.inl from ek, kv_ints]⟩
    have ex : Ex F F3 := e1.trans (g2.gr.ex.trans e3)
    refine ⟨T, [.ref qk, y], rfl, SqT.of upd_same, rfl, .ref qk, [y], rfl, y, [], rfl, rfl, ?_⟩
    exact hs ⟨F1, H1, keys (M.set jj (q, MLk od kvs))⟩ g1.le (MLk od kvs) n z hz Γ' M' hJn _ _ _ _ ⟨F3, g4, ((b2.mono e3).set i (P := NT z.1) nt).set j ((R z.2).mono ex dy)⟩
  · have hl : kvs.length = L.length := Paired.length pr
    rw [hl] at hJn
    obtain ⟨j', hj, hn⟩ := hd _ Γ' M' hJn
    obtain ⟨_, _, h, rfl⟩ := g2.at hj
    refine ⟨h, ?_⟩
    have g5 := g1.back g2
    have g6 := g5.mut (O' := MDV R L) (o' := .dT kvs) hj ⟨kvs, rfl, Paired.mapP pr fun _ _ c => ⟨c.1, (R _).mono (e1.trans g2.gr.ex) c.2⟩⟩
    exact hn _ _ ⟨F2, g6, b2⟩
/-! ### d.get(t, x), d[t] = x -/
def lkV {β : Type} (L : List (List Int × β)) (l : List Int) : Option β := (L.find? fun z => decide (z.1 = l)).map (·.2)
def putV {β : Type} (L : List (List Int × β)) (l : List Int) (w : β) : List (List Int × β) := if (L.any fun z => decide (z.1 = l)) = true then L.map (fun z => if z.1 = l then (z.1, w) else z) else L ++ [(l, w)]
def PrV {β : Type} (R : β → MP) (F : Hp) : (List Key × V) → (List Int × β) → Prop := fun p z => p.1 = z.1.map Sum.inl ∧ (R z.2).p F p.2
theorem prv_key {a b : List Int} {k : List Key} (h : k = a.map Sum.inl) : (decide (k = (b.map Sum.inl : List Key))) = decide (a = b) := by
  rw [h, Bool.eq_iff_iff, decide_eq_true_iff, decide_eq_true_iff]
  exact inl_inj
theorem prv_val {F : Hp} : ∀ {kvs : List (List Key × V)} {L : List (List Int × β)}, Paired (PrV R F) kvs L → (lkV L l = none ∧ valV kvs (l.map Sum.inl) = none) ∨ ∃ w v, lkV L l = some w ∧ valV kvs (l.map Sum.inl) = some v ∧ (R w).p F v
  | _, _, .nil => .inl ⟨rfl, rfl⟩
  | p :: kvs, z :: L, .cons a t => by
    have e := prv_key (b := l) a.1
    by_cases c : z.1 = l
    · rw [decide_eq_true c] at e
      refine .inr ⟨z.2, p.2, ?_, valV_pos (of_decide_eq_true e), a.2⟩
      unfold lkV
      rw [List.find?_cons, decide_eq_true c]; rfl
    · rw [decide_eq_false c] at e
      have h1 : lkV (z :: L) l = lkV L l := by
        unfold lkV
        rw [List.find?_cons, decide_eq_false c]
      rw [h1, valV_neg (of_decide_eq_false e)]
      exact prv_val t
theorem prv_any {F : Hp} : ∀ {kvs : List (List Key × V)} {L : List (List Int × β)}, Paired (PrV R F) kvs L → (kvs.any fun kv => decide (kv.1 = (l.map Sum.inl : List Key))) = L.any fun z => decide (z.1 = l)
  | _, _, .nil => rfl
  | p :: kvs, z :: L, .cons a t => by
    rw [List.any_cons, List.any_cons, prv_key (b := l) a.1, prv_any t]
theorem prv_put {F : Hp} {y : V} {kvs : List (List Key × V)} {L : List (List Int × β)} (h : Paired (PrV R F) kvs L) (hy : (R w).p F y) : Paired (PrV R F) (putK kvs (l.map Sum.inl) y) (putV L l w) := by
  unfold putK putV
  rw [prv_any h]
  split
  · have key : ∀ {kvs : List (List Key × V)} {L : List (List Int × β)}, Paired (PrV R F) kvs L → Paired (PrV R F) (kvs.map fun kv => if kv.1 = (l.map Sum.inl : List Key) then (kv.1, y) else kv) (L.map fun z => if z.1 = l then (z.1, w) else z) := fun {kvs L} h => by
      induction h with
      | nil => exact .nil
      | @cons p z kvs L a t ih =>
        refine .cons ?_ ih
        dsimp only
        have e := prv_key (b := l) a.1
        by_cases c : z.1 = l
        · rw [decide_eq_true c] at e
          rw [if_pos c, if_pos (of_decide_eq_true e)]
          exact ⟨a.1, hy⟩
        · rw [decide_eq_false c] at e
          rw [if_neg c, if_neg (of_decide_eq_false e)]
          exact a
    exact key h
  · exact paired_app h (.cons ⟨rfl, hy⟩ .nil)
theorem ev_dgetV (hd : Ev td Γ M (Own q) M) (hk : Ev tk Γ M (NT l) M1) (hx : Ev tx Γ M1 (R w) M2) (e0 : M[j]? = some (q, MDV R L)) (e : M2[j]? = some (q, MDV R L)) : Ev (tDGet2 td tk tx) Γ M (R ((lkV L l).getD w)) M2 := fun E F σ H a b Q k => hd E F σ H a b _ fun v F1 H1 e1 g1 p1 => by
  have p1 : v = .ref q := p1
  subst p1
  obtain ⟨_, o, ho1, kvs0, rfl, _⟩ := g1.at e0
  refine ⟨q, rfl, .inr ⟨kvs0, .inl ho1⟩, hk E F1 σ H1 g1 (b.mono e1) _ fun y F2 H2 e2 g2 ⟨bb, ey, hb⟩ => hx E F2 σ H2 g2 (b.mono (e1.trans e2)) _ fun z F3 H3 e3 g3 p3 => ?_⟩
  subst ey
  obtain ⟨_, o, ho3, kvs, rfl, pr⟩ := g3.at e
  refine ⟨_, DGet.t ho3 (k := l.map Sum.inl) (by rw [kv_ints]; exact g3.ex _ _ (e3 _ _ hb)), ?_⟩
  refine k _ F3 H3 ((e1.trans e2).trans e3) g3 ?_
  rcases prv_val (l := l) (show Paired (PrV R F3) kvs L from pr) with ⟨h1, h2⟩ | ⟨w', v', h1, h2, h3⟩
  · rw [h1, h2]; exact p3
  · rw [h1, h2]; exact h3
theorem go_dputV (hv : Ev tv Γ M (R w) M1) (hd : Ev td Γ M1 (Own q) M1) (hk : Ev tk Γ M1 (NT l) M1) (e : M1[j]? = some (q, MDV R L)) (hz : L.length < 100000) (k : Nx E Γ (M1.set j (q, MDV R (putV L l w))) D1.nx) : Nx E Γ M (sDPut td tk tv D1) := fun σ H ⟨F, a, b⟩ => by
  refine hv E F σ H a b _ fun y F1 H1 e1 g1 p1 => hd E F1 σ H1 g1 (b.mono e1) _ fun x F2 H2 e2 g2 p2 => hk E F2 σ H2 g2 (b.mono (e1.trans e2)) _ fun z F3 H3 e3 g3 ⟨bb, ez, hb⟩ => ?_
  subst ez
  have p2 : x = .ref q := p2
  subst p2
  obtain ⟨fq, o, ho, kvs, rfl, pr⟩ := g3.at e
  have hlen : kvs.length = L.length := Paired.length pr
  refine ⟨q, _, rfl, DPut.t ho (k := l.map Sum.inl) (by rw [kv_ints]; exact g3.ex _ _ hb) (sz_lt (by omega)), ?_⟩
  exact k _ _ ⟨F3, g3.mut e ⟨_, rfl, prv_put (show Paired (PrV R F3) kvs L from pr) ((R _).mono (e2.trans e3) p1)⟩, b.mono ((e1.trans e2).trans e3)⟩
theorem prv_vals {F : Hp} : ∀ {kvs : List (List Key × V)} {L : List (List Int × β)}, Paired (PrV R F) kvs L → Ps F (kvs.map (·.2)) (L.map fun z => R z.2)
  | _, _, .nil => .nil
  | _, _, .cons a t => .cons a.2 (prv_vals t)
theorem evn_listValsV (hd : Ev td Γ M (Own q) M) (e : M[j]? = some (q, MDV R L)) : EvN (tListValsT td) Γ M (ML (L.map fun z => R z.2)) M := fun E F σ H a b Q k => hd E F σ H a b _ fun v F1 H1 e1 g1 p1 => by
  have p1 : v = .ref q := p1
  subst p1
  obtain ⟨_, o, ho, kvs, rfl, pr⟩ := g1.at e
  exact ⟨q, kvs, rfl, ho, fun p hp => k p F1 _ (g1.fresh hp) e1 (g1.new hp ⟨_, rfl, prv_vals pr⟩)⟩
theorem evn_dnewV : EvN tDNewT Γ M (MDV R []) M := fun E F σ H a b Q k p hp => k p F _ (a.fresh hp) (Evl.Ex.refl _) (a.new hp ⟨[], rfl, .nil⟩)
theorem evn_dispV (hk : ∀ M, Ev tk Γ M (NT l) M) (hv : ∀ M, Ev tv Γ M (R w) M) : EvN (tDispT tk tv) Γ M (MDV R [(l, w)]) M := fun E F σ H a b Q k p hp => by
  have g0 := a.new (q := p) (O := MDV R []) (o := .dT []) hp ⟨[], rfl, .nil⟩
  refine hk _ E F σ _ g0 b _ fun x F1 H1 e1 g1 ⟨bb, ex, hb⟩ => hv _ E F1 σ H1 g1 (b.mono e1) _ fun y F2 H2 e2 g2 p2 => ?_
  subst ex
  obtain ⟨fq, o, ho, kvs, rfl, hkv⟩ := g2.at (j := 0) rfl
  cases hkv
  refine ⟨bb, l.map Sum.inl, rfl, ho, by rw [kv_ints]; exact g2.ex _ _ (e2 _ _ hb), ?_⟩
  exact k p F2 _ (a.fresh hp) (e1.trans e2) (g2.mut (j := 0) rfl ⟨[(l.map Sum.inl, y)], rfl, .cons ⟨rfl, p2⟩ .nil⟩)
end
end Hq
/-! ### dicts whose keys are tuples of ints and tuples, nested -/
namespace L2
open PySem PySem.Spec PyProof.Rows
mutual
/-- the value is such a key -/
inductive NV (H : Hp) : V → NestedKey → Prop
  | int (i : Int) : NV H (.int i) (.num i)
  | bl (b : Bool) : NV H (.bl b) (.num (if b = true then 1 else 0))
  | non : NV H .non .none
  | tup {b : Addr} {vs : List V} {ks : List NestedKey} : H b = some (.tup vs) → NVs H vs ks → NV H (.ref b) (.tup ks)
inductive NVs (H : Hp) : List V → List NestedKey → Prop
  | nil : NVs H [] []
  | cons {v : V} {k : NestedKey} {vs : List V} {ks : List NestedKey} : NV H v k → NVs H vs ks → NVs H (v :: vs) (k :: ks)
end
mutual
theorem NV.mono {H H' : Hp} (e : ∀ b xs, H b = some (.tup xs) → H' b = some (.tup xs)) : ∀ (k : NestedKey) (v : V), NV H v k → NV H' v k
  | .none, _, h => by cases h; exact .non
  | .num i, _, h => by
    cases h with
    | int => exact .int i
    | bl b => exact .bl b
  | .text _, _, h => by cases h
  | .tup ks, _, h => by
    cases h with
    | tup h1 h2 => exact .tup (e _ _ h1) (NVs.mono e ks _ h2)
theorem NVs.mono {H H' : Hp} (e : ∀ b xs, H b = some (.tup xs) → H' b = some (.tup xs)) : ∀ (ks : List NestedKey) (vs : List V), NVs H vs ks → NVs H' vs ks
  | [], _, h => by cases h; exact .nil
  | k :: ks, _, h => by
    cases h with
    | cons h1 h2 => exact .cons (NV.mono e k _ h1) (NVs.mono e ks _ h2)
end
section
variable {P : Program} {w : World} {H : Hp} {h : Heap}
mutual
theorem NV.is (ok : HOk P w H h) : ∀ (k : NestedKey) (v : V) (u : Value), NV H v k → RelV v u → NestedIs h k u
  | .none, _, u, n, r => by
    cases n
    have r : u = Value.none := r
    subst r; exact .none
  | .num i, _, u, n, r => by
    cases n with
    | int => obtain ⟨t, rfl⟩ := (show ∃ t, u = Value.int i t from r); exact .int i t
    | bl b => have r : u = Value.bool b := r; subst r; exact .bool rfl
  | .text _, _, _, n, _ => by cases n
  | .tup ks, _, u, n, r => by
    cases n with
    | @tup b vs _ h1 h2 =>
      have r : u = Value.ref b := r
      subst r
      obtain ⟨_, its, r2, o, e1, e2, m, e3⟩ := (show ObjOk P w H h b (.tup vs) from ok b _ h1)
      exact .tup e1 e2 e3 (by simpa using NVs.is ok ks vs its h2 r2)
theorem NVs.is (ok : HOk P w H h) : ∀ (ks : List NestedKey) (vs : List V) (us : List Value), NVs H vs ks → Vals vs us → NestedAll h ks us
  | [], _, us, n, r => by cases n; cases r; exact .nil
  | k :: ks, _, us, n, r => by
    cases n with
    | cons n1 n2 =>
      cases r with
      | cons r1 r2 => exact .cons (NV.is ok k _ _ n1 r1) (NVs.is ok ks _ _ n2 r2)
end
end
abbrev NX := NestedKey × Addr × V
abbrev KN : List NX → List (NestedKey × Addr × Value) → Prop := Paired fun p q => p.1 = q.1 ∧ p.2.1 = q.2.1 ∧ RelV p.2.2 q.2.2
def atN (xs : List NX) (k : NestedKey) : Option V := (xs.find? fun x => decide (x.1 = k)).map (·.2.2)
def putN (xs : List NX) (k : NestedKey) (b : Addr) (v : V) : List NX := if (atN xs k).isSome then xs.map (fun x => if x.1 = k then (x.1, x.2.1, v) else x) else xs ++ [(k, b, v)]
theorem KN.val {xs : List NX} {us : List (NestedKey × Addr × Value)} (r : KN xs us) (k : NestedKey) : RelO (atN xs k) ((atKey us k).map (·.2)) := by
  induction r with
  | nil => exact True.intro
  | @cons p q ps qs h t ih =>
    obtain ⟨h1, _, h2⟩ := h
    by_cases e : p.1 = k
    · have e' : q.1 = k := h1.symm.trans e
      have b : atKey (q :: qs) k = some q.2 := by simp [atKey, List.find?_cons, e']
      have c : atN (p :: ps) k = some p.2.2 := by simp [atN, List.find?_cons, e]
      rw [c, b]; exact h2
    · have e' : ¬ q.1 = k := fun z => e (h1.trans z)
      have b : atKey (q :: qs) k = atKey qs k := by simp [atKey, List.find?_cons, e']
      have c : atN (p :: ps) k = atN ps k := by simp [atN, List.find?_cons, e]
      rw [c, b]; exact ih
theorem KN.put {xs : List NX} {us : List (NestedKey × Addr × Value)} (r : KN xs us) (k : NestedKey) {b : Addr} {y : V} {u : Value} (ry : RelV y u) : KN (putN xs k b y) (storedH us k b u) := by
  have e : (atN xs k).isSome = (atKey us k).isSome := by rw [(r.val k).isSome_eq, Option.isSome_map]
  unfold putN storedH
  rw [e]
  by_cases q : (atKey us k).isSome = true
  · rw [if_pos q, if_pos q]
    clear e q
    induction r with
    | nil => exact .nil
    | @cons p q ps qs h t ih =>
      rw [List.map_cons, List.map_cons]
      refine .cons ?_ ih
      obtain ⟨h1, h2, h3⟩ := h
      unfold putAt
      by_cases e : p.1 = k
      · rw [if_pos e, if_pos (h1.symm.trans e)]; exact ⟨h1, h2, ry⟩
      · rw [if_neg e, if_neg (fun z => e (h1.trans z))]; exact ⟨h1, h2, h3⟩
  · rw [if_neg q, if_neg q]; exact Paired.snoc r ⟨rfl, rfl, ry⟩
/-- the dict at a -/
def DN (P : Program) (w : World) (a : Addr) (xs : List NX) : HO := .ext fun h => (a == sysModules) = false ∧ xs.length ≤ sizeLine ∧ ∃ us : List (NestedKey × Addr × Value), KN xs us ∧
  ∃ o es ep, h.get? a = some o ∧ o.ExactDict ∧ o.data = .dict es ep ∧ es.toList = us.map (entryOfKey (nestedKind P w)) ∧ (us.map (·.1)).Nodup
/-- its keys are there -/
def NKs (H : Hp) (xs : List NX) : Prop := ∀ z ∈ xs, NV H (.ref z.2.1) z.1 ∧ z.1.depth ≤ 8
section
variable {P : Program} {w : World} {H : Hp} {h : Heap} {a : Addr} {xs : List NX}
theorem dn_of (ok : HOk P w H h) (e : H a = some (DN P w a xs)) (ks : NKs H xs) : (a == sysModules) = false ∧ xs.length ≤ sizeLine ∧ ∃ us, KN xs us ∧ h.DictOfH (nestedKind P w) a us := by
  obtain ⟨⟨h1, h2, us, r, o, es, ep, e1, e2, e3, e4, e5⟩, hex⟩ := (show ObjOk P w H h a (DN P w a xs) from ok a _ e)
  refine ⟨h1, h2, us, r, o, es, ep, e1, e2, e3, e4, fun x hx => ?_, e5⟩
  clear h2 e4 e5 e hex
  induction r with
  | nil => cases hx
  | @cons p q ps qs hq t ih =>
    rcases List.mem_cons.mp hx with e | hx
    · subst e
      obtain ⟨k1, k2⟩ := ks p List.mem_cons_self
      rw [← hq.1, ← hq.2.1]
      exact ⟨NV.is ok _ _ _ k1 rfl, k2⟩
    · exact ih (fun z hz => ks z (List.mem_cons_of_mem _ hz)) hx
theorem dn_ok {us : List (NestedKey × Addr × Value)} (h1 : (a == sysModules) = false) (h2 : xs.length ≤ sizeLine) (r : KN xs us) (d : h.DictOfH (nestedKind P w) a us) : ObjOk P w H h a (DN P w a xs) := by
  obtain ⟨o, es, ep, e1, e2, e3, e4, _, e5⟩ := d
  refine ⟨⟨h1, h2, us, r, o, es, ep, e1, e2, e3, e4, e5⟩, ⟨o, e1⟩, fun g1 g2 ⟨z1, z2, us, r, o, es, ep, e1, e2, e3, e4, e5⟩ hg => ⟨z1, z2, us, r, o, es, ep, hg _ e1, e2, e3, e4, e5⟩⟩
end
/-! the terms -/
def tDNewN (P : Program) (w : World) : TE := fun _ H Q => ∀ p, H p = none → Q (.ref p) (upd H p (DN P w p []))
def DAtN (P : Program) (w : World) (H : Hp) (a : Addr) (xs : List NX) (y : V) (k : NestedKey) : Prop := H a = some (DN P w a xs) ∧ NKs H xs ∧ (∃ b, y = .ref b) ∧ NV H y k ∧ k.depth ≤ 8
def tDGetN (P : Program) (w : World) (td ty : TE) : TE := fun σ H Q => td σ H fun x H1 => ty σ H1 fun y H2 => ∃ a xs k v, x = .ref a ∧ DAtN P w H2 a xs y k ∧ atN xs k = some v ∧ Q v H2
def tDNotInN (P : Program) (w : World) (ty td : TE) : TE := fun σ H Q => ty σ H fun y H1 => td σ H1 fun x H2 => ∃ a xs k, x = .ref a ∧ DAtN P w H2 a xs y k ∧ Q (.bl (!(atN xs k).isSome)) H2
def tDInN (P : Program) (w : World) (ty td : TE) : TE := fun σ H Q => ty σ H fun y H1 => td σ H1 fun x H2 => ∃ a xs k, x = .ref a ∧ DAtN P w H2 a xs y k ∧ Q (.bl (atN xs k).isSome) H2
def sDPutN (P : Program) (w : World) (td ty tv : TE) : TS := fun D σ H => tv σ H fun v H1 => td σ H1 fun x H2 => ty σ H2 fun y H3 => ∃ a xs k b, x = .ref a ∧ y = .ref b ∧ DAtN P w H3 a xs y k ∧ xs.length < sizeLine ∧ D.nx σ (upd H3 a (DN P w a (putN xs k b v)))
def rLenN (P : Program) (w : World) : List V → Hp → VK → Prop := fun vs H Q => ∃ a xs, vs = [V.ref a] ∧ H a = some (DN P w a xs) ∧ NKs H xs ∧ Q (.int xs.length) H
section
variable {X : Cx} {o i e value : Expr} {pos pos' tpos : Pos} {td ty tv : TE}
theorem units8 {k : Nat} {A : Around} (r : Room k A) : A.units + 9 < cLine := by have := r.un; omega
theorem room8 {P : Program} {w : World} {A : Around} (hu : A.units + 9 < cLine) : (nestedKind P w).room A.in1 := by
  show A.in1.units + 8 < cLine
  rw [Around.in1_units]; omega
theorem pe_dnewN : PE X (.Dict [] [] pos) (tDNewN X.prog X.w) := ⟨fun pins s σ H Q I h =>
  wpAny_Dict_empty ⟨.ref s.heap.objs.size, _, I.laid (a := s.heap.objs.size) (o := DN X.prog X.w s.heap.objs.size []) (t' := s.toks) (fun _ _ q => Heap.get?_push_of_some _ q) (Nat.le_refl _) (dn_ok (us := []) (beq_eq_false_iff_ne.mpr (Ne.symm (Nat.ne_of_lt I.big))) (Nat.zero_le _) .nil (Heap.DictOfH.new s.heap)), rfl, h _ (I.hok.fresh (Nat.le_refl _))⟩⟩
theorem pe_dgetN (hu : X.A.units + 9 < cLine) (ho : PE X o td) (hi : PE X i ty) (hs : NoSl i) : PE X (.Subscript o i pos) (tDGetN X.prog X.w td ty) := by
  refine ⟨fun pins s σ H Q I h => ?_⟩
  refine subD_of PySem.F.slot_dict_getitem.lookup hs (thn (ho.run pins s σ H _ I h) fun u s1 ⟨x, H1, I1, rx, q1⟩ => thn (hi.run pins s1 σ H1 _ I1 q1) fun iv s2 ⟨y, H2, I2, ry, a, xs, k, v, ex, ⟨g1, g2, ⟨b, eb⟩, g3, g4⟩, g5, q2⟩ => ?_)
  subst ex; subst eb
  obtain rfl : u = Value.ref a := rx
  obtain rfl : iv = Value.ref b := ry
  obtain ⟨hd, hz, us, r, dd⟩ := dn_of I2.hok g1 g2
  obtain ⟨w', hw, rw'⟩ := RelO.some_of (v := v) (o := (atKey us k).map (·.2)) (by rw [← g5]; exact r.val k)
  obtain ⟨p, hp, hp2⟩ := Option.map_eq_some_iff.mp hw
  refine ⟨dd.typeIs, wpAny_getItem_heap (room8 hu) ⟨NV.is I2.hok _ _ _ g3 rfl, g4⟩ dd hp ?_⟩
  rw [hp2]
  exact ⟨v, H2, I2.tok _, rw', q2⟩
theorem pc_dnotinN (hu : X.A.units + 9 < cLine) (hi : PE X i ty) (ho : PE X o td) : PC X .NotIn i o (tDNotInN X.prog X.w ty td) := by
  refine ⟨fun pins s σ H Q I h => ?_⟩
  refine thn (hi.run pins s σ H _ I h) fun iv s1 ⟨y, H1, I1, ry, q1⟩ => thn (ho.run pins s1 σ H1 _ I1 q1) fun u s2 ⟨x, H2, I2, rx, a, xs, k, ex, ⟨g1, g2, ⟨b, eb⟩, g3, g4⟩, q2⟩ => ?_
  subst ex; subst eb
  obtain rfl : u = Value.ref a := rx
  obtain rfl : iv = Value.ref b := ry
  obtain ⟨hd, hz, us, r, dd⟩ := dn_of I2.hok g1 g2
  have l := (r.val k).isSome_eq
  refine notIn_keyed (room8 hu) ⟨NV.is I2.hok _ _ _ g3 rfl, g4⟩ hd ⟨us, dd, rfl⟩ ?_
  rw [valueAt_pairsH, ← l]
  exact ⟨.bl (!(atN xs k).isSome), H2, I2.tok _, rfl, q2⟩
theorem pc_dinN (hu : X.A.units + 9 < cLine) (hi : PE X i ty) (ho : PE X o td) : PC X .In i o (tDInN X.prog X.w ty td) := by
  refine ⟨fun pins s σ H Q I h => ?_⟩
  refine thn (hi.run pins s σ H _ I h) fun iv s1 ⟨y, H1, I1, ry, q1⟩ => thn (ho.run pins s1 σ H1 _ I1 q1) fun u s2 ⟨x, H2, I2, rx, a, xs, k, ex, ⟨g1, g2, ⟨b, eb⟩, g3, g4⟩, q2⟩ => ?_
  subst ex; subst eb
  obtain rfl : u = Value.ref a := rx
  obtain rfl : iv = Value.ref b := ry
  obtain ⟨hd, hz, us, r, dd⟩ := dn_of I2.hok g1 g2
  have l := (r.val k).isSome_eq
  refine in_keyed (room8 hu) ⟨NV.is I2.hok _ _ _ g3 rfl, g4⟩ hd ⟨us, dd, rfl⟩ ?_
  rw [valueAt_pairsH, ← l]
  exact ⟨.bl (atN xs k).isSome, H2, I2.tok _, rfl, q2⟩
theorem putN_len {xs : List NX} {k : NestedKey} {b : Addr} {v : V} : (putN xs k b v).length ≤ xs.length + 1 := by
  unfold putN
  by_cases h : (atN xs k).isSome = true
  · rw [if_pos h, List.length_map]; omega
  · rw [if_neg h, List.length_append]; simp
theorem ps_dputN (hu : X.A.units + 9 < cLine) (ho : PE X o td) (hi : PE X i ty) (hv : PE X value tv) (hs : swapsWith value (some (.Subscript o i pos')) pos.line X.env = pure false) :
    PS X (.Assign [.Subscript o i pos'] value pos) (sDPutN X.prog X.w td ty tv) := by
  refine ⟨fun pins s σ H D I h => ?_⟩
  refine wpAny_Assign_Subscript (thn (hv.run pins s σ H _ I h) fun r s1 ⟨v, H1, I1, rv, q1⟩ => thn (ho.run pins s1 σ H1 _ I1 q1) fun u s2 ⟨x, H2, I2, rx, q2⟩ => thn (hi.run pins s2 σ H2 _ I2 q2) fun iv s3 ⟨y, H3, I3, ry, a, xs, k, b, ex, eb, ⟨g1, g2, _, g3, g4⟩, l, q3⟩ => ?_) hs
  subst ex; subst eb
  obtain rfl : u = Value.ref a := rx
  obtain rfl : iv = Value.ref b := ry
  obtain ⟨hd, hz, us, rr, dd⟩ := dn_of I3.hok g1 g2
  have hz2 : us.length ≤ sizeLine := by rw [← Paired.length rr]; exact hz
  refine wpAny_setItem_heap (hsz := hz2) (room8 hu) ⟨NV.is I3.hok _ _ _ g3 rfl, g4⟩ dd fun h' dd' hs => ?_
  have hq : ∃ q, h'.get? a = some q := let ⟨q, _, _, hq, _⟩ := dd'; ⟨q, hq⟩
  exact ⟨σ, _, d_write I3 (by rw [g1]; exact True.intro) hs hq (dn_ok hd (by have := putN_len (xs := xs) (k := k) (b := b) (v := v); omega) (rr.put k rv) dd'), q3⟩
theorem call_lenN : CallR X (.builtin "len") (rLenN X.prog X.w) := by
  intro pins s σ H xs us Q I r h
  obtain ⟨a, ys, rfl, ha, ks, q⟩ := h
  obtain ⟨u, rfl, ru⟩ := vals1 r
  cases ru
  obtain ⟨hd, hz, us, rr, dd⟩ := dn_of I.hok ha ks
  have e : (pairsH us).length = ys.length := by rw [pairsH_length, ← Paired.length rr]
  refine call_len_slot (n := (ys.length : Int)) dd.typeIs F.slot_dict_len (fun Q' hQ => len_keyed hd ⟨us, dd, rfl⟩ (by rw [e]; exact hQ)) (by omega) (by rw [sizeLine_eq] at hz; omega) ?_
  exact ⟨.int ys.length, H, I.tok _, ⟨_, rfl⟩, q⟩
end
end L2
namespace Hq
open PySem L2
/-- a key: a tuple -/
def NKy (k : NestedKey) : MP := ⟨fun F v => (∃ b, v = .ref b) ∧ NV F v k, fun e ⟨h1, h2⟩ => ⟨h1, NV.mono (fun b xs z => e b _ z) k _ h2⟩⟩
abbrev LN := List (NestedKey × Int)
def lkN (L : LN) (k : NestedKey) : Option Int := (L.find? fun x => decide (x.1 = k)).map (·.2)
def ptN (L : LN) (k : NestedKey) (v : Int) : LN := if (lkN L k).isSome then L.map (fun x => if x.1 = k then (x.1, v) else x) else L ++ [(k, v)]
/-- the dict at q, nested keys to ints -/
def MDN (P : Program) (w : World) (q : Addr) (L : LN) : MO := ⟨fun F o => ∃ xs : List NX, o = DN P w q xs ∧ Paired (fun (x : NX) (l : NestedKey × Int) => x.1 = l.1 ∧ x.2.2 = V.int l.2) xs L ∧ NKs F xs,
  fun e ⟨xs, h1, h2, h3⟩ => ⟨xs, h1, h2, fun z hz => ⟨NV.mono (fun b xs z => e b _ z) _ _ (h3 z hz).1, (h3 z hz).2⟩⟩, fun ⟨xs, h, _⟩ ys z => by rw [h] at z; cases z⟩
section
variable {P : Program} {w : World} {K : PySem.W.Frag} {E : Ent} {F H : Hp} {M M1 M2 : Ms} {Γ : Gm} {q : Addr} {j i : Nat} {te ta tb tk tv td : TE} {tr : TA} {D1 : Ends} {tz : TS} {key : NestedKey} {L : LN}
theorem pn_at {xs : List NX} {L : LN} (r : Paired (fun (x : NX) (l : NestedKey × Int) => x.1 = l.1 ∧ x.2.2 = V.int l.2) xs L) : atN xs key = (lkN L key).map V.int := by
  induction r with
  | nil => rfl
  | @cons p l ps ls h t ih =>
    obtain ⟨h1, h2⟩ := h
    by_cases e : p.1 = key
    · have e' : l.1 = key := h1.symm.trans e
      have b : lkN (l :: ls) key = some l.2 := by simp [lkN, List.find?_cons, e']
      have c : atN (p :: ps) key = some p.2.2 := by simp [atN, List.find?_cons, e]
      rw [b, c, h2]; rfl
    · have e' : ¬ l.1 = key := fun z => e (h1.trans z)
      have b : lkN (l :: ls) key = lkN ls key := by simp [lkN, List.find?_cons, e']
      have c : atN (p :: ps) key = atN ps key := by simp [atN, List.find?_cons, e]
      rw [b, c, ih]
theorem pn_put {xs : List NX} {L : LN} {b : Addr} {v : Int} (r : Paired (fun (x : NX) (l : NestedKey × Int) => x.1 = l.1 ∧ x.2.2 = V.int l.2) xs L) : Paired (fun (x : NX) (l : NestedKey × Int) => x.1 = l.1 ∧ x.2.2 = V.int l.2) (putN xs key b (.int v)) (ptN L key v) := by
  have e : (atN xs key).isSome = (lkN L key).isSome := by rw [pn_at r, Option.isSome_map]
  unfold putN ptN
  rw [e]
  by_cases q : (lkN L key).isSome = true
  · rw [if_pos q, if_pos q]
    clear e q
    induction r with
    | nil => exact .nil
    | @cons p l ps ls h t ih =>
      rw [List.map_cons, List.map_cons]
      refine .cons ?_ ih
      obtain ⟨h1, h2⟩ := h
      by_cases e : p.1 = key
      · rw [if_pos e, if_pos (h1.symm.trans e)]; exact ⟨h1, rfl⟩
      · rw [if_neg e, if_neg (fun z => e (h1.trans z))]; exact ⟨h1, h2⟩
  · rw [if_neg q, if_neg q]; exact paired_app r (.cons ⟨rfl, rfl⟩ .nil)
theorem nks_put {xs : List NX} {b : Addr} {v : V} (h : NKs F xs) (hk : NV F (.ref b) key) (hd : key.depth ≤ 8) : NKs F (putN xs key b v) := by
  unfold putN
  by_cases q : (atN xs key).isSome = true
  · rw [if_pos q]
    intro z hz
    obtain ⟨x, hx, rfl⟩ := List.mem_map.mp hz
    by_cases e : x.1 = key
    · rw [if_pos e]; exact h x hx
    · rw [if_neg e]; exact h x hx
  · rw [if_neg q]
    intro z hz
    rcases List.mem_append.mp hz with hz | hz
    · exact h z hz
    · rw [List.mem_singleton.mp hz]; exact ⟨hk, hd⟩
theorem lkN_cons {l : NestedKey × Int} {L : LN} {k : NestedKey} : lkN (l :: L) k = if l.1 = k then some l.2 else lkN L k := by
  unfold lkN
  rw [List.find?_cons]
  by_cases e : l.1 = k
  · rw [decide_eq_true e, if_pos e]; rfl
  · rw [decide_eq_false e, if_neg e]
theorem lkN_map {k k2 : NestedKey} {v : Int} : ∀ {L : LN}, lkN (L.map fun x => if x.1 = k then (x.1, v) else x) k2 = (lkN L k2).map fun x => if k2 = k then v else x
  | [] => rfl
  | l :: L => by
    rw [List.map_cons, lkN_cons, lkN_cons, lkN_map (L := L)]
    have e1 : (if l.1 = k then (l.1, v) else l).1 = l.1 := by
      by_cases e : l.1 = k
      · rw [if_pos e]
      · rw [if_neg e]
    rw [e1]
    by_cases e2 : l.1 = k2
    · rw [if_pos e2, if_pos e2, e2]
      by_cases e : k2 = k
      · rw [if_pos e]; simp [e]
      · rw [if_neg e]; simp [e]
    · rw [if_neg e2, if_neg e2]
theorem lkN_app {k k2 : NestedKey} {v : Int} : ∀ {L : LN}, lkN (L ++ [(k, v)]) k2 = (lkN L k2).or (if k = k2 then some v else none)
  | [] => by rw [List.nil_append, lkN_cons]; rfl
  | l :: L => by
    rw [List.cons_append, lkN_cons, lkN_cons, lkN_app (L := L)]
    by_cases e2 : l.1 = k2
    · rw [if_pos e2, if_pos e2]; rfl
    · rw [if_neg e2, if_neg e2]
theorem lkN_put {L : LN} {k k2 : NestedKey} {v : Int} : lkN (ptN L k v) k2 = if k = k2 then some v else lkN L k2 := by
  unfold ptN
  by_cases q : (lkN L k).isSome = true
  · rw [if_pos q, lkN_map]
    by_cases e : k = k2
    · subst e
      obtain ⟨x, hx⟩ := Option.isSome_iff_exists.mp q
      rw [hx, if_pos rfl]; simp
    · rw [if_neg e]
      have : ¬ k2 = k := fun z => e z.symm
      simp [this]
  · rw [if_neg q, lkN_app]
    have n : lkN L k = none := by
      cases h : lkN L k with
      | none => rfl
      | some _ => rw [h] at q; exact absurd rfl q
    by_cases e : k = k2
    · subst e
      rw [n, if_pos rfl]; rfl
    · rw [if_neg e, if_neg e]; simp
theorem ptN_new {L : LN} {k : NestedKey} {v : Int} (h : lkN L k = none) : ptN L k v = L ++ [(k, v)] := by unfold ptN; rw [h]; rfl
theorem q_newDN (k : ∀ q, E.H q = none → Nx E (Γ.set i (some (Own q))) ((q, MDN P w q []) :: M) (tz D1)) : Nx E Γ M (tSeq (tAsg (tDNewN P w) (gName i)) tz D1) := fun σ H ⟨F, a, b⟩ p hp =>
  k p (a.fresh hp) _ _ ⟨F, a.new hp ⟨[], rfl, .nil, fun z hz => by cases hz⟩, b.set i (P := Own p) rfl⟩
theorem ev_dnotinN (hk : Ev tk Γ M (NKy key) M1) (hd : Ev td Γ M1 (Own q) M2) (e : M2[j]? = some (q, MDN P w q L)) (h8 : key.depth ≤ 8) : Ev (tDNotInN P w tk td) Γ M (D K (.bool (!(lkN L key).isSome))) M2 := fun E F σ H a b Q k => by
  refine hk E F σ H a b _ fun x F1 H1 e1 g1 ⟨hb, hn⟩ => hd E F1 σ H1 g1 (b.mono e1) _ fun y F2 H2 e2 g2 p2 => ?_
  have p2 : y = .ref q := p2
  subst p2
  obtain ⟨fq, o, ho, xs, rfl, pr, nk⟩ := g2.at e
  refine ⟨q, xs, key, rfl, ⟨ho, fun z hz => ⟨NV.mono (fun b xs z => g2.ex b _ z) _ _ (nk z hz).1, (nk z hz).2⟩, hb, NV.mono (fun b xs z => g2.ex b _ (e2 b _ z)) _ _ hn, h8⟩, ?_⟩
  rw [pn_at pr, Option.isSome_map]
  exact k _ F2 H2 (e1.trans e2) g2 (.bl _)
theorem ev_dinN (hk : Ev tk Γ M (NKy key) M1) (hd : Ev td Γ M1 (Own q) M2) (e : M2[j]? = some (q, MDN P w q L)) (h8 : key.depth ≤ 8) : Ev (tDInN P w tk td) Γ M (D K (.bool (lkN L key).isSome)) M2 := fun E F σ H a b Q k => by
  refine hk E F σ H a b _ fun x F1 H1 e1 g1 ⟨hb, hn⟩ => hd E F1 σ H1 g1 (b.mono e1) _ fun y F2 H2 e2 g2 p2 => ?_
  have p2 : y = .ref q := p2
  subst p2
  obtain ⟨fq, o, ho, xs, rfl, pr, nk⟩ := g2.at e
  refine ⟨q, xs, key, rfl, ⟨ho, fun z hz => ⟨NV.mono (fun b xs z => g2.ex b _ z) _ _ (nk z hz).1, (nk z hz).2⟩, hb, NV.mono (fun b xs z => g2.ex b _ (e2 b _ z)) _ _ hn, h8⟩, ?_⟩
  rw [pn_at pr, Option.isSome_map]
  exact k _ F2 H2 (e1.trans e2) g2 (.bl _)
theorem ev_dgetN {v : Int} (hd : Ev td Γ M (Own q) M1) (hk : Ev tk Γ M1 (NKy key) M2) (e : M2[j]? = some (q, MDN P w q L)) (h8 : key.depth ≤ 8) (hv : lkN L key = some v) : Ev (tDGetN P w td tk) Γ M (D K (.int v)) M2 := fun E F σ H a b Q k => by
  refine hd E F σ H a b _ fun y F1 H1 e1 g1 p2 => hk E F1 σ H1 g1 (b.mono e1) _ fun x F2 H2 e2 g2 ⟨hb, hn⟩ => ?_
  have p2 : y = .ref q := p2
  subst p2
  obtain ⟨fq, o, ho, xs, rfl, pr, nk⟩ := g2.at e
  exact ⟨q, xs, key, .int v, rfl, ⟨ho, fun z hz => ⟨NV.mono (fun b xs z => g2.ex b _ z) _ _ (nk z hz).1, (nk z hz).2⟩, hb, NV.mono (fun b xs z => g2.ex b _ z) _ _ hn, h8⟩, by rw [pn_at pr, hv]; rfl, k _ F2 H2 (e1.trans e2) g2 (.int v)⟩
theorem go_dputN {v : Int} (hv : Ev tv Γ M (D K (.int v)) M1) (hd : Ev td Γ M1 (Own q) M1) (hk : Ev tk Γ M1 (NKy key) M1) (e : M1[j]? = some (q, MDN P w q L)) (h8 : key.depth ≤ 8) (hz : L.length < 100000) (k : Nx E Γ (M1.set j (q, MDN P w q (ptN L key v))) D1.nx) : Nx E Γ M (sDPutN P w td tk tv D1) := fun σ H ⟨F, a, b⟩ => by
  refine hv E F σ H a b _ fun y F1 H1 e1 g1 p1 => hd E F1 σ H1 g1 (b.mono e1) _ fun x F2 H2 e2 g2 p2 => hk E F2 σ H2 g2 (b.mono (e1.trans e2)) _ fun z F3 H3 e3 g3 ⟨⟨bb, hb⟩, hn⟩ => ?_
  cases dp_int p1
  have p2 : x = .ref q := p2
  subst p2
  subst hb
  obtain ⟨fq, o, ho, xs, rfl, pr, nk⟩ := g3.at e
  have hlen : xs.length = L.length := Paired.length pr
  refine ⟨q, xs, key, bb, rfl, rfl, ⟨ho, fun z hz => ⟨NV.mono (fun b xs z => g3.ex b _ z) _ _ (nk z hz).1, (nk z hz).2⟩, ⟨bb, rfl⟩, NV.mono (fun b xs z => g3.ex b _ z) _ _ hn, h8⟩, sz_lt (by omega), ?_⟩
  exact k _ _ ⟨F3, g3.mut e ⟨_, rfl, pn_put pr, nks_put nk hn h8⟩, b.mono ((e1.trans e2).trans e3)⟩
theorem q_dputN {v : Int} (hv : Ev tv Γ M (D K (.int v)) M1) (hd : Ev td Γ M1 (Own q) M1) (hk : Ev tk Γ M1 (NKy key) M1) (e : M1[j]? = some (q, MDN P w q L)) (h8 : key.depth ≤ 8) (hz : L.length < 100000) (k : Nx E Γ (M1.set j (q, MDN P w q (ptN L key v))) (tz D1)) : Nx E Γ M (tSeq (sDPutN P w td tk tv) tz D1) :=
  go_dputN (D1 := { D1 with nx := tz D1 }) hv hd hk e h8 hz k
theorem ev_lenN (hd : Ev td Γ M (Own q) M1) (e : M1[j]? = some (q, MDN P w q L)) : Ev (tCB (rLenN P w) (tCons td tNil)) Γ M (D K (.int L.length)) M1 := ev_cb (ea_cons hd ea_nil) fun E F H vs g h Q k => by
  obtain ⟨v, rfl, hv⟩ := ps1 h
  have hv : v = .ref q := hv
  subst hv
  obtain ⟨fq, o, ho, xs, rfl, pr, nk⟩ := g.at e
  refine ⟨q, xs, rfl, ho, fun z hz => ⟨NV.mono (fun b xs z => g.ex b _ z) _ _ (nk z hz).1, (nk z hz).2⟩, ?_⟩
  rw [Paired.length pr]
  exact k _ F H (Evl.Ex.refl _) g (.int _)
/-! keys -/
def NKv (k : NestedKey) : MP := ⟨fun F v => NV F v k, fun e h => NV.mono (fun b xs z => e b _ z) k _ h⟩
theorem nk_int {n : Int} : (D K (.int n)).le (NKv (.num n)) := fun F v h => by cases dp_int h; exact .int n
theorem nk_y : (NKy key).le (NKv key) := fun F v h => h.2
theorem nvs_ints {F : Hp} : ∀ {l : List Int}, NVs F (l.map V.int) (l.map NestedKey.num)
  | [] => .nil
  | n :: l => .cons (.int n) nvs_ints
theorem nk_T {l : List Int} : (NT l).le (NKy (.tup (l.map .num))) := fun F v ⟨b, h1, h2⟩ => ⟨⟨b, h1⟩, h1 ▸ .tup h2 nvs_ints⟩
theorem ps_nvs {F : Hp} : ∀ {vs : List V} {ks : List NestedKey}, Ps F vs (ks.map NKv) → NVs F vs ks
  | _, [], h => by cases h; exact .nil
  | _, k :: ks, h => by cases h with | cons h t => exact .cons h (ps_nvs t)
theorem ev_tupK {ks : List NestedKey} (h : EvA tr Γ M (ks.map NKv) M1) (hl : ks.length ≤ 1000) : Ev (tTup tr) Γ M (NKy (.tup ks)) M1 := fun E F σ H a b Q k =>
  h E F σ H a b _ fun vs F1 H1 e1 g1 p1 => by
    have n := ps_nvs p1
    have l : vs.length ≤ 1000 := by have := Paired.length p1; rw [List.length_map] at this; omega
    refine ⟨sz_of (by omega), fun p hp => ?_⟩
    have fr := Evl.fresh_back g1.ex hp
    exact k _ _ _ (e1.trans (Evl.Ex.new fr)) (g1.laid hp) ⟨⟨p, rfl⟩, .tup upd_same (NVs.mono (fun b xs z => (Evl.Ex.new fr) b _ z) _ _ n)⟩
end
end Hq
/-! ### sorted lists of lists; try .. except X as e; an object against an int; C(.., an own list) -/
namespace Hq
open PySem L2
section
open PySem.W in
theorem le_lists {β : Type} (x : β → List Int) : dataLe false (fun b => dL (x b)) = fun p q => decide (x p ≤ x q) := by
  funext p q
  show (!dataLt (.list ((x q).map .int)) (.list ((x p).map .int))) = _
  rw [dataLt_list]
  show (!rowLt ((x q).map .int) ((x p).map .int)) = _
  rw [dataLt_ints]
  rw [Bool.eq_iff_iff]
  simp [List.not_lt]
def rSortLL (K : PySem.W.Frag) : List V → Hp → VK → Prop := fun vs H Q => ∃ (a : Addr) (xs : List V) (L : List (List Int)), vs = [.ref a] ∧ SqL K H a xs ∧ Paired (fun x l => Dp K H x (dL l)) xs L ∧
  ∀ (B : List (V × List Int)) (p : Addr), B.Perm (xs.zip L) → (B.map (·.2)).Pairwise (· ≤ ·) → H p = none → Q (.ref p) (upd H p (.lst (B.map (·.1))))
theorem eachL_of {K : PySem.W.Frag} {H : Hp} : ∀ {xs : List V} {its : List Value} {L : List (List Int)}, Vals xs its → Paired (fun x l => Dp K H x (dL l)) xs L → PySem.W.EachIs (fun (v : Value) (b : V × List Int) => RelV b.1 v ∧ Dp K H b.1 (dL b.2)) its (xs.zip L)
  | _, _, _, .nil, .nil => .nil
  | _, _, _, .cons a t, .cons b u => .cons ⟨a, b⟩ (eachL_of t u)
theorem eachL_vals {K : PySem.W.Frag} {H : Hp} : ∀ {out : List Value} {B : List (V × List Int)}, PySem.W.EachIs (fun (v : Value) (b : V × List Int) => RelV b.1 v ∧ Dp K H b.1 (dL b.2)) out B → Vals (B.map (·.1)) out ∧ Paired (fun x l => Dp K H x (dL l)) (B.map (·.1)) (B.map (·.2))
  | _, _, .nil => ⟨.nil, .nil⟩
  | _, _, .cons a t => ⟨.cons a.1 (eachL_vals t).1, .cons a.2 (eachL_vals t).2⟩
theorem cr_sortLL {X : Cx} (hu : X.A.units + 64 < cLine) : CallR X (.builtin "sorted") (rSortLL X.K) := by
  intro pn st sg H vs us Q I r h
  obtain ⟨a, xs, L, rfl, hs, hp, q⟩ := h
  obtain ⟨its, rv, hl, hz⟩ := I.list hs
  rw [Vals.ref1 r]
  have hlen : xs.length = L.length := paired_len hp
  have e := eachL_of rv hp
  refine PySem.W.sorted_data (β := V × List Int) (enc := fun b => dL b.2) hl.isList e (e.mono fun v b ⟨h1, h2⟩ => Dp.reads I _ _ _ h2 h1) (PySem.W.AllAlike.of fun b b' => ?_) (.inr fun d hd => ?_) ?_ (fun b _ => ?_) fun out ho eo => ?_
  · show PySem.W.alike (.list _) (.list _) = true
    simp only [PySem.W.alike]
    exact PySem.W.alike_ints _ _
  · obtain ⟨b, hb, rfl⟩ := List.mem_map.mp hd
    exact ⟨fun z => (by cases z), fun xs z => (by cases z)⟩
  · rw [List.length_zip, hlen, Nat.min_self, ← hlen]; exact hz
  · have := enc_dL.deep b.2
    omega
  · rw [le_lists (fun b : V × List Int => b.2)] at eo
    obtain ⟨v1, v2⟩ := eachL_vals eo
    have pm : ((xs.zip L).mergeSort fun p q => decide (p.2 ≤ q.2)).Perm (xs.zip L) := List.mergeSort_perm _ _
    have pw : ((xs.zip L).mergeSort fun p q => decide (p.2 ≤ q.2)).Pairwise fun p q => decide (p.2 ≤ q.2) = true := List.pairwise_mergeSort (fun x y z h1 h2 => by
      simp only [decide_eq_true_eq] at *
      exact List.le_trans h1 h2) (fun x y => by
      simp only [Bool.or_eq_true, decide_eq_true_eq]
      exact List.le_total _ _) _
    obtain ⟨ep, he⟩ := PyProof.Rows.sortedAll_at st.heap its out.toArray
    have hl2 : (((xs.zip L).mergeSort fun p q => decide (p.2 ≤ q.2)).map (·.1)).length ≤ sizeLine := by
      rw [List.length_map, pm.length_eq, List.length_zip, hlen, Nat.min_self, ← hlen]; exact hz
    refine ⟨.ref _, upd H (st.heap.objs.size + 1) (.lst (((xs.zip L).mergeSort fun p q => decide (p.2 ≤ q.2)).map (·.1))), I.laid (t' := st.toks) (fun _ _ => PyProof.Rows.sortedAll_old) (Nat.le_succ _) ⟨hl2, out, ep, v1, he⟩, rfl, ?_⟩
    refine q _ _ pm ?_ (I.hok.fresh (Nat.le_succ _))
    rw [List.pairwise_map]
    exact pw.imp fun h => by simpa using h
theorem c_sortLL {K : PySem.W.Frag} {Y : Cx} (e : Y.K = K) (hu : Y.A.units + 64 < cLine) : CallR Y (.builtin "sorted") (rSortLL K) := e ▸ cr_sortLL hu
end
section
variable {K : PySem.W.Frag} {E E0 : Ent} {F H : Hp} {M M1 M2 M' : Ms} {Γ : Gm} {P P1 : MP} {O O' O2 : MO} {q : Addr} {te ta tb tl tk tv td tx : TE} {tr : TA} {D1 : Ends} {tu tz : TS} {t u : TT} {ps : List MP} {i j : Nat} {C Cx : Addr} {X : XK} {sp : Sp}
theorem dls_dp {F H : Hp} (x : Ex F H) : ∀ {ws : List V} {L : List (List Int)}, Ps F ws (L.map fun l => D K (dL l)) → Paired (fun x l => Dp K H x (dL l)) ws L
  | [], [], _ => .nil
  | _ :: _, [], h => by cases h
  | [], _ :: _, h => by cases h
  | w :: ws, l :: L, h => by
    cases h with
    | cons a t => exact .cons (Dp.mono x a) (dls_dp x t)
theorem dls_zip {F : Hp} : ∀ {ws : List V} {L : List (List Int)}, Ps F ws (L.map fun l => D K (dL l)) → ∀ b ∈ ws.zip L, (D K (dL b.2)).p F b.1
  | [], _, _, b, hb => by cases hb
  | _ :: _, [], _, b, hb => by cases hb
  | w :: ws, l :: L, h, b, hb => by
    cases h with
    | cons a t =>
      rcases List.mem_cons.mp hb with rfl | hb
      · exact a
      · exact dls_zip t b hb
theorem dls_of {F : Hp} : ∀ {B : List (V × List Int)}, (∀ b ∈ B, (D K (dL b.2)).p F b.1) → Ps F (B.map (·.1)) ((B.map (·.2)).map fun l => D K (dL l))
  | [], _ => .nil
  | b :: B, h => .cons (h b List.mem_cons_self) (dls_of fun c hc => h c (List.mem_cons_of_mem _ hc))
/-- sorted(a list of lists of ints) -/
theorem rcn_sortLL {L : List (List Int)} : RCN (rSortLL K) [PLi K (L.map fun l => D K (dL l))] M (MX fun L' : List (List Int) => MA (L'.Perm L ∧ L'.Pairwise (· ≤ ·)) (ML (L'.map fun l => D K (dL l)))) M := fun E F H vs a h Q k => by
  obtain ⟨v, rfl, hv⟩ := ps1 h
  obtain ⟨p0, ws, rfl, hs0, s⟩ := hv
  have hl : ws.length = L.length := by have := paired_len s; rwa [List.length_map] at this
  refine ⟨p0, ws, L, rfl, Evl.ex_l a.ex hs0, dls_dp a.ex s, fun B p hp hs hf => ?_⟩
  have hz := dls_zip s
  refine k p F _ (a.fresh hf) (Evl.Ex.refl _) (a.new hf ⟨B.map (·.2), ⟨?_, hs⟩, _, rfl, dls_of fun b hb => hz b (hp.subset hb)⟩)
  have := hp.map (·.2)
  rwa [List.map_snd_zip (by omega)] at this
/-! C(.., an own list) -/
theorem one_entry : ∀ {L : Ms}, (keys L).Nodup → ∀ r ∈ L, ∀ s ∈ L, r.1 = s.1 → r = s := by
  intro L
  induction L with
  | nil => intro _ r hr; cases hr
  | cons m L ih =>
    intro nd r hr s hs e
    have nd' := List.nodup_cons.mp (show (m.1 :: keys L).Nodup from nd)
    rcases List.mem_cons.mp hr with e1 | hr <;> rcases List.mem_cons.mp hs with e2 | hs
    · rw [e1, e2]
    · exact absurd (show m.1 ∈ keys L by rw [← e1, e]; exact List.mem_map_of_mem (f := (·.1)) hs) nd'.1
    · exact absurd (show m.1 ∈ keys L by rw [← e2, ← e]; exact List.mem_map_of_mem (f := (·.1)) hr) nd'.1
    · exact ih nd'.2 r hr s hs e
theorem make_pre {x dx : Addr} {F1 H1 : Hp} (g1 : Pt E F1 M1 H1) (hx : H1 x = none) (hdx : H1 dx = none) (hne : x ≠ dx) (e : M1[j]? = some (q, O2)) :
    Pt E F1 ((x, MIns C 0 []) :: M1) (upd (upd H1 dx (.own x)) x (.ins C dx [])) ∧ Wd F1 [(x, MIns C 0 []), (q, O2)] (upd (upd H1 dx (.own x)) x (.ins C dx [])) ∧ x ≠ q := by
  have hx2 : upd H1 dx (.own x) x = none := by rw [upd_ne hne]; exact hx
  have g2 : Pt E F1 ((x, MIns C 0 []) :: M1) (upd (upd H1 dx (.own x)) x (.ins C dx [])) := (g1.junk hdx).new hx2 ⟨dx, [], rfl, Nat.le_refl _, fun f hf => by cases hf⟩
  have hm := List.mem_of_getElem? e
  have nq : x ≠ q := fun z => (List.nodup_cons.mp (show (x :: keys M1).Nodup from g2.wd.nd)).1 (by rw [z]; exact List.mem_map_of_mem (f := (·.1)) hm)
  refine ⟨g2, ⟨g2.ex, by simp [keys, nq], fun r hr => ?_⟩, nq⟩
  rcases List.mem_cons.mp hr with z | z
  · rw [z]; exact g2.wd.own _ List.mem_cons_self
  · rw [List.mem_singleton.mp z]; exact g2.wd.own _ (List.mem_cons_of_mem _ hm)
theorem make_post {x : Addr} {F1 H2 F' H' : Hp} (g2 : Pt E F1 ((x, MIns C 0 []) :: M1) H2) (nq : x ≠ q) (e : M1[j]? = some (q, O2)) (g : Pt ⟨F1, H2, keys [(x, MIns C 0 []), (q, O2)]⟩ F' [(x, O), (q, O2)] H') : Pt E F' ((x, O) :: M1) H' := by
  have hm := List.mem_of_getElem? e
  refine g2.frame g (fun z hz => ?_) rfl fun r hr => ?_
  · rcases List.mem_cons.mp hz with z' | z'
    · rw [z']; exact List.mem_cons_self
    · rw [List.mem_singleton.mp z']; exact List.mem_cons_of_mem _ (List.mem_map_of_mem (f := (·.1)) hm)
  · rcases List.mem_cons.mp hr with z | z
    · rw [z]; exact .inr List.mem_cons_self
    · by_cases c : r.1 = q
      · have nd := (List.nodup_cons.mp (show (x :: keys M1).Nodup from g2.wd.nd)).2
        have := one_entry nd r z (q, O2) hm c
        rw [this]; exact .inr (List.mem_cons_of_mem _ List.mem_cons_self)
      · refine .inl ⟨fun w => ?_, List.mem_cons_of_mem _ z⟩
        rcases List.mem_cons.mp w with w | w
        · exact (List.nodup_cons.mp (show (x :: keys M1).Nodup from g2.wd.nd)).1 (by rw [show x = r.1 from w.symm]; exact List.mem_map_of_mem (f := (·.1)) z)
        · exact c (List.mem_singleton.mp w)
theorem make1 (h : EvA tr Γ M ps M1) (e : M1[j]? = some (q, O2)) (hs : ∀ x vs H Q, Prom (Own x :: ps) [(x, MIns C 0 []), (q, O2)] (D K .none) [(x, O), (q, O2)] vs H Q → sp vs H Q X) : EvN (tMake C sp [] X tr) Γ M O M1 := fun E F σ H a b Q k =>
  h E F σ H a b _ fun vs F1 H1 e1 g1 p1 => fun x dx hx hdx hne => by
    obtain ⟨g2, w2, nq⟩ := make_pre (C := C) g1 hx hdx hne.symm e
    show sp (V.ref x :: (vs ++ [])) _ _ X
    rw [List.append_nil]
    exact hs x (.ref x :: vs) _ _ ⟨F1, w2, .cons rfl p1, fun v F' H' g hv => ⟨dp_non hv, k x F' H' (g1.fresh hx) (e1.trans g.gr.ex) (make_post g2 nq e g)⟩⟩
theorem make1_no (h : EvA tr Γ M ps M1) (e : M1[j]? = some (q, O2)) (hs : ∀ x vs H Q X, (∃ F, Wd F [(x, MIns C 0 []), (q, O2)] H ∧ Ps F vs (Own x :: ps) ∧ RtE ⟨F, H, keys [(x, MIns C 0 []), (q, O2)]⟩ [(x, MAny), (q, O2)] Cx X) → sp vs H Q X) (k : RtE E M1 Cx X) : Nx E Γ M (tRet (tMake C sp [] X tr) D1) := fun σ H ⟨F, a, b⟩ => h E F σ H a b _ fun vs F1 H1 e1 g1 p1 => fun x dx hx hdx hne => by
  obtain ⟨g2, w2, nq⟩ := make_pre (C := C) g1 hx hdx hne.symm e
  show sp (V.ref x :: (vs ++ [])) _ _ X
  rw [List.append_nil]
  exact hs x (.ref x :: vs) _ _ X ⟨F1, w2, .cons rfl p1, fun F' H' g => k F' H' ((make_post g2 nq e g).drop (List.sublist_cons_self _ _))⟩
theorem RtE.any0 {x : Addr} (h : RtE E ((x, MAny) :: M) C X) : RtE E ((x, O) :: M) C X := fun F H a => h F H (a.to (j := 0) (O' := MAny) (fun _ _ h => O.nt h) rfl)
end
end Hq
namespace L2
open PySem PySem.Spec PyProof.Rows
section
variable {X : Cx}
theorem pss_given {φ : Prop} {b : List Stmt} {t : TS} (h : φ → PSs X b t) : PSs X b (fun D σ H => φ ∧ t D σ H) := ⟨fun pins s σ H D I hh => (h hh.1).run pins s σ H D I hh.2⟩
theorem passes_callL {W : WX} {E : XK} {n : Nat} (hn : X.N.length = n) (tk : Takes X W) (hW : ∀ cls d σ H, σ.length = n → E cls d H → W cls d σ H) : ∀ (pins : List (Addr × Obj)) (σ : St) (H : Hp) (s : Shared) (e : Value) (s' : Shared), Inv X pins σ H s → CX X.prog X.w X.stack H s E e s' → X.xe e s' :=
  fun _ σ _ _ e s' I c => tk e s' (XE.of_call I (fun cls d H' h => hW cls d σ H' (by rw [← hn]; exact I.len) h) c)
end
end L2
namespace HqL
open PySem PySem.Spec PyProof.Rows PySem.SeqAt
section
variable {M : Model} {prog : Program} {w : World} {A : Around} {E : Value → Shared → Prop} {s : Shared} {K : PySem.W.Frag} {x C dx : Addr} {ox : Obj} {od : Option Obj} {i : Int} {t : Tok}
theorem isSame_int {R : Bool → Shared → Prop} (h : R false s) : wpAny M A (isSame (.ref x) (.int i t)) R E s := wpAny_of_eq (rfl : isSame (.ref x) (.int i t) = pure false) h
theorem entry_objI {Q : Fin → Shared → Prop} (hq : Q (.done (.ret .notImplemented)) s) : wpAny M A (Builtin.«object.__eq__» ⟨[.ref x, .int i t], []⟩) Q E s := by
  unfold Builtin.«object.__eq__»
  repeat (first | with_reducible refine isSame_int ?_ | wp_step)
  exact hq
theorem call_objI {Q : Value → Shared → Prop} (X : K.In s.heap) (I : PySem.W.InstAt s.heap x ox C od) (hm : PySem.W.mroIn K C (.type "object") = some true) (hq : Q .notImplemented s) :
    wpAny (model prog w) A (call (.builtin "object.__eq__") [.ref x, .int i t]) Q E s :=
  wpAny_call (codeAny_call_builtin F.cmp_object.eq.plain F.cmpEntry_eq (PySem.W.check_slot F.cmpKind_eq F.cmpSplit_eq (I.type.andThen (PySem.W.looks_mroIn X hm)) (F.cmpArgs_eq _ _) (entry_objI hq)))
theorem sub_int : PySem.W.subIn K (.type "int") (.ref C) = some false := by
  have e : fastBuiltinMro "int" = some [.type "int", .type "object"] := by decide +kernel
  show (fastBuiltinMro "int").map (·.contains (.ref C)) = some false
  rw [e]
  first
    | rfl
    | simp
theorem entry_intO {Q : Fin → Shared → Prop} (hx : s.heap.get? x = some (PySem.W.instObj C dx)) (hq : ∃ v, Fin.done (.ret .notImplemented) = Fin.done (.ret v) ∧ (v = .notImplemented ∧ Q (.done (.ret v)) s)) : wpAny M A (Builtin.«int.__eq__» ⟨[.int i t, .ref x], []⟩) Q E s := by
  obtain ⟨hp, g, d, tk, os⟩ := s
  have hx' : Heap.get? hp x = some (PySem.W.instObj C dx) := hx
  obtain ⟨v, e, e2, hq⟩ := hq
  cases e
  wp_walk
  exact hq
end
end HqL
namespace HqL
open PySem PySem.Spec PyProof.Rows PySem.SeqAt
section
variable {M : Model} {prog : Program} {w : World} {A : Around} {E : Value → Shared → Prop} {s : Shared} {K : PySem.W.Frag} {x C dx : Addr} {ox : Obj} {od : Option Obj} {i : Int} {t : Tok}
theorem entry_intO' {Q : Fin → Shared → Prop} (hx : s.heap.get? x = some (PySem.W.instObj C dx)) (hq : Q (.done (.ret .notImplemented)) s) : wpAny M A (Builtin.«int.__eq__» ⟨[.int i t, .ref x], []⟩) Q E s :=
  entry_intO hx ⟨_, rfl, rfl, hq⟩
theorem rc_int (hu : A.units < cLine) (X : K.In s.heap) (I : PySem.W.InstAt s.heap x ox C od) (hx : s.heap.get? x = some (PySem.W.instObj C dx)) (hm : PySem.W.mroIn K C (.type "object") = some true) (hs : PySem.W.findIn K (.ref C) "__eq__" = some (some (.builtin "object.__eq__"))) :
    RcAt A s (.ref x) (.int i t) false := fun prog w E Q h => by
  have one : wpAny (model prog w) A (tryCompare (.ref x) "__eq__" (.int i t)) (fun r s' => r = none ∧ s' = s) E s := by
    unfold tryCompare
    exact wpAny_bind (HN.ifBound_objEq X I hs (call_objI X I hm (wpAny_pure ⟨rfl, rfl⟩)))
  have two : wpAny (model prog w) A (tryCompare (.int i t) "__eq__" (.ref x)) (fun r s' => r = none ∧ s' = s) E s :=
    wpAny_tryCompare_declines (typeIs_int s i t) F.slot_int_eq_refl (wpAny_call_entry F.slot_int_eq_refl (typeIs_int s i t) F.entry_int_eq (entry_intO' hx ⟨_, rfl, rfl, rfl, rfl⟩) (F.args_int_eq_2 _ _))
  simp only [richCompare, cmpInfo_Eq, oneThing_ref]
  refine wpAny_holding (wpAny_bind (wpAny_cRoomFor hu ?_))
  refine wpAny_bind (I.type.here ?_)
  refine wpAny_bind (wpAny_typeOf (typeIs_int s i t) ?_)
  split
  · refine wpAny_bind ((PySem.W.looks_subIn X sub_int).here ?_)
    simp only [Bool.false_eq_true, if_false, Bool.not_false, if_true]
    refine wpAny_bind (m := tryCompare (.ref x) _ (.int i t)) (wpAny_mono one (fun r s1 z => ?_) fun _ _ e => e)
    obtain ⟨z1, z2⟩ := z
    subst z1
    subst z2
    refine wpAny_bind (m := tryCompare (.int i t) _ (.ref x)) (wpAny_mono two (fun r s2 z => ?_) fun _ _ e => e)
    obtain ⟨z1, z2⟩ := z
    subst z1
    subst z2
    exact wpAny_bind (wpAny_rule (wpAny_bind (wpAny_of_eq (rfl : isSame (.ref x) (.int i t) = pure false) (wpAny_pure h))))
  · rename_i q
    exact absurd (by simp) q
end
end HqL
namespace L2
open PySem PySem.Spec PyProof.Rows
section
variable {X : Cx}
/-- an object without an __eq__ of its own == an int -/
def rEqOI (K : PySem.W.Frag) : R2 := fun x y H Q => ∃ a C dx fs i, x = .ref a ∧ y = .int i ∧ H a = some (.ins C dx fs) ∧ PySem.W.mroIn K C (.type "object") = some true ∧ PySem.W.findIn K (.ref C) "__eq__" = some (some (.builtin "object.__eq__")) ∧ Q (.bl false) H
theorem op_eqOI (hu : X.A.units + 64 < cLine) : OpR X (compareOp .Eq) (rEqOI X.K) := by
  intro pins s σ H x y v u Q I rx ry h
  obtain ⟨a, C, dx, fs, i, rfl, rfl, ha, hm, he, q⟩ := h
  cases rx
  obtain ⟨t, rfl⟩ := ry
  obtain ⟨mA, O, _⟩ := ins_get I.hok ha
  obtain ⟨od, J, _⟩ := O.look
  exact HqL.rc_int (by omega) I.kIn J O.obj hm he X.prog X.w _ _ ⟨.bl false, H, I, rfl, q⟩
theorem c_eqOI {K : PySem.W.Frag} {Y : Cx} (e : Y.K = K) (hu : Y.A.units + 64 < cLine) : OpR Y (compareOp .Eq) (rEqOI K) := e ▸ op_eqOI hu
end
end L2
namespace Hq
open PySem L2
section
variable {K : PySem.W.Frag} {E E0 : Ent} {F H : Hp} {M M1 M2 M' : Ms} {Γ : Gm} {P P1 : MP} {O O' O2 : MO} {q : Addr} {te ta tb tl tk tv td tx : TE} {tr : TA} {D1 : Ends} {tu tz : TS} {t u : TT} {ps : List MP} {i j : Nat} {C Cx : Addr} {X : XK} {sp : Sp}
theorem rv_eqOI {fps : List (Str × MP)} {c : Int} (hm : PySem.W.mroIn K C (.type "object") = some true) (he : PySem.W.findIn K (.ref C) "__eq__" = some (some (.builtin "object.__eq__"))) : RV (rEqOI K) (PIns C fps) (D K (.int c)) M (D K (.bool false)) M := fun E F H x y a p1 p2 Q k => by
  obtain ⟨p, dx, fs, rfl, h1, _⟩ := p1
  cases dp_int p2
  exact ⟨p, C, dx, fs, c, rfl, rfl, a.ex _ _ h1, hm, he, k _ F H (Evl.Ex.refl _) a (.bl _)⟩
theorem rv_isNI {fps : List (Str × MP)} : RV rIs0 (PIns C fps) (D K .none) M (D K (.bool false)) M := fun E F H x y a p1 p2 Q k => by
  obtain ⟨p, dx, fs, rfl, h1, _⟩ := p1
  cases dp_non p2
  exact ⟨rfl, k _ F H (Evl.Ex.refl _) a (.bl _)⟩
/-- try: return C(..) except X as e: if isinstance(e, A) and isinstance(e, B): return None -/
theorem try_as {c : Value} {n : Nat} {i : Nat} {va vb : V} {ca cb : Value} (he : PySem.W.exmOne K (.ref Cx) c = some true) (ra : ∀ u, RelV va u → u = ca) (rb : ∀ u, RelV vb u → u = cb)
    (ka : PySem.W.kitOne K (.ref Cx) ca = some true) (kb : PySem.W.kitOne K (.ref Cx) cb = some true) (hi : i < n) (l : Le E E0) (k : Rt E0 M (D K .none) D1.rt) {D2 : Ends} (hD : D2.rt = D1.rt) :
    RtE E M Cx (fun cls d H => ∀ σ, σ.length = n → wAs K c i (fun a cls d => fun D σ H => (cls = .ref Cx ∧ d = none) ∧ tIfS (tAnd (tB (tCB (rIsE K Cx a) (tCons (tVar i) (tCons (tC va) tNil)))) (tB (tCB (rIsE K Cx a) (tCons (tVar i) (tCons (tC vb) tNil))))) (tRet (tC .non)) tNext D σ H) (fun _ _ _ _ => False) D2 cls d σ H) := fun F H g σ hσ =>
  ⟨true, he, fun _ a ha => ⟨⟨rfl, rfl⟩, by
    have get : (σ.set i (some (V.ref a)))[i]? = some (some (.ref a)) := by rw [List.getElem?_set_self (by omega)]
    have rt := k .non F H (l.to _ _ _ g) .non
    rw [← hD] at rt
    exact ⟨.ref a, get, va, ca, true, rfl, ra, ka, true, rfl, .ref a, get, vb, cb, true, rfl, rb, kb, true, rfl, rt⟩⟩, fun z => by cases z⟩
/-- xs[i] = e, e and i drawn -/
theorem go_setEX {α : Type} {φ : α → Prop} {R : α → MP} {ps : List MP} {n : Nat} (h : Ev te Γ M (PEx fun x => PAn (φ x) (R x)) M1) (ho : Ev ta Γ M1 (Own q) M1) (hb : Ev tb Γ M1 (PIn K 0 (n : Int)) M2) (e : M2[j]? = some (q, ML ps)) (hn : n = ps.length) (k : ∀ x, φ x → ∀ i : Nat, i < n → Nx E Γ (M2.set j (q, ML (ps.set i (R x)))) D1.nx) :
    Nx E Γ M (tAsg te (gSub ta tb rSetL) D1) := fun σ H ⟨F, a, b⟩ => h E F σ H a b _ fun w F0 H0 e0 g0 ⟨x, hx, p0⟩ => ho E F0 σ H0 g0 (b.mono e0) _ fun v F1 H1 e1 g1 p1 => by
  have p1 : v = .ref q := p1
  subst p1
  refine hb E F1 σ H1 g1 (b.mono (e0.trans e1)) _ fun y F2 H2 e2 g2 ⟨m, ⟨m0, m1⟩, p2⟩ => ?_
  cases dp_int p2
  obtain ⟨_, o, ho2, ws, rfl, s⟩ := g2.at e
  obtain ⟨c, rfl⟩ := Int.eq_ofNat_of_zero_le m0
  have hc : c < n := by omega
  have hn : c < ws.length := by rw [paired_len s]; omega
  exact ⟨q, ws, c, c, rfl, rfl, ho2, Evl.ixN_nat hn, k x hx c hc _ _ ⟨F2, g2.mut e ⟨_, rfl, paired_set (R := fun (v : V) (P : MP) => P.p F2 v) ((R x).mono (e1.trans e2) p0) c s⟩, b.mono ((e0.trans e1).trans e2)⟩⟩
end
end Hq
namespace L2
open PySem PySem.Spec PyProof.Rows
theorem c_isE {K : PySem.W.Frag} {X : Cx} (e : X.K = K) {a D : Addr} {oe : Obj} {pn : List (Addr × Obj)} (C : ExcC K D) (hz : Zc (.ref D) none oe) (hf : ∃ vs, oe.data = .fields vs) : CallR (X.suite a ((a, oe) :: pn)) (.builtin "isinstance") (rIsE K D a) := by
  subst e
  exact call_isE C hz hf
end L2
namespace L2
open PySem PySem.Spec PyProof.Rows
section
variable {X : Cx}
/-- + of two lists that are read -/
def rCatL (K : PySem.W.Frag) : R2 := fun x y H Q => ∃ l b xs zs, x = .ref l ∧ y = .ref b ∧ SqL K H l xs ∧ SqL K H b zs ∧ xs.length + zs.length ≤ sizeLine ∧ ∀ p, H p = none → Q (.ref p) (upd H p (.lst (xs ++ zs)))
theorem op_catL : OpR X (binaryOp .Add) (rCatL X.K) := by
  intro pins s σ H x y v u Q I rx ry h
  obtain ⟨l, b, xs, zs, rfl, rfl, hH, hB, hz, q⟩ := h
  cases rx
  cases ry
  obtain ⟨its, r, p1, z1⟩ := I.list hH
  obtain ⟨its2, r2, p2, z2⟩ := I.list hB
  have l1 := r.length
  have l2 := r2.length
  obtain ⟨⟨cls, dd, data, sl⟩, ho, hc, n, hd⟩ := p1.isList
  obtain ⟨⟨cls2, dd2, data2, sl2⟩, ho2, hc2, n2, hd2⟩ := p2.isList
  simp only at hc hd hc2 hd2
  subst hc hd hc2 hd2
  have ea : its.toArray ++ its2.toArray = (its ++ its2).toArray := by simp
  refine concat_meets ⟨_, ho, rfl⟩ ⟨_, ho2, rfl⟩ noFill_list_add seq_list_add PySem.F.slot_list_add PySem.F.entry_list_add (PySem.F.args_list_add_2 _ _) (list_addW l b its.toArray its2.toArray n n2 dd dd2 sl sl2 (by rw [List.size_toArray, List.size_toArray]; omega)) ⟨ho, ho2, ?_⟩
  rw [ea]
  exact ⟨.ref _, _, I.lnew (t' := s.toks) (r.append r2) (by rw [List.length_append]; omega), rfl, q _ I.fresh⟩
theorem c_catL {K : PySem.W.Frag} {Y : Cx} (e : Y.K = K) : OpR Y (binaryOp .Add) (rCatL K) := e ▸ op_catL
end
end L2
namespace Hq
open PySem L2
section
variable {K : PySem.W.Frag} {M M1 M2 : Ms} {Γ : Gm} {ta tb : TE} {ps qs : List MP}
theorem evn_catL (h1 : Ev ta Γ M (PLi K ps) M1) (h2 : Ev tb Γ M1 (PLi K qs) M2) (hz : ps.length + qs.length ≤ 100000) : EvN (tOp (rCatL K) ta tb) Γ M (ML (ps ++ qs)) M2 := fun E F σ H a b Q k =>
  h1 E F σ H a b _ fun x F1 H1 e1 g1 p1 => h2 E F1 σ H1 g1 (b.mono e1) _ fun y F2 H2 e2 g2 p2 => by
    obtain ⟨l, xs, rfl, s, q⟩ := (PLi K ps).mono e2 p1
    obtain ⟨l2, ys, rfl, s2, q2⟩ := p2
    refine ⟨l, l2, xs, ys, rfl, rfl, Evl.ex_l g2.ex s, Evl.ex_l g2.ex s2, sz_of (by rw [paired_len q, paired_len q2]; exact hz), fun p hp => ?_⟩
    exact k p F2 _ (g2.fresh hp) (e1.trans e2) (g2.new hp ⟨_, rfl, paired_app q q2⟩)
end
end Hq
namespace Hq
open PySem
theorem kit_ref {K : PySem.W.Frag} {t : Value} {C : Addr} (h0 : PySem.W.isClsIn K C = true) (h1 : PySem.W.typeIn K (.ref C) = some (.type "type")) (h2 : PySem.W.subIn K t (.ref C) = some true) : PySem.W.kitOne K t (.ref C) = some true := by
  unfold PySem.W.kitOne
  split
  · rfl
  · have h0' : (PySem.W.clsIn K C).isSome = true := h0
    show (if ((PySem.W.clsIn K C).isSome && PySem.W.typeIn K (.ref C) == some (.type "type")) = true then PySem.W.subIn K t (.ref C) else none) = some true
    rw [if_pos (by rw [h0', h1]; rfl)]; exact h2
theorem kit_ty {K : PySem.W.Frag} {t : Value} {T : String} (h1 : PySem.W.kitMeta T = true) (h2 : PySem.W.subIn K t (.type T) = some true) : PySem.W.kitOne K t (.type T) = some true := by
  unfold PySem.W.kitOne
  split
  · rfl
  · show (if PySem.W.kitMeta T = true then PySem.W.subIn K t (.type T) else none) = some true
    rw [if_pos h1]; exact h2
end Hq
/-! ### dicts of ints to ints, list(range(..)), unpacking three, isinstance of an own object -/
namespace Hq
open PySem L2
section
variable {K : PySem.W.Frag} {E E0 : Ent} {F H : Hp} {M M1 M2 M' : Ms} {Γ : Gm} {P P1 : MP} {O O' : MO} {q : Addr} {te ta tb tl tk tv td : TE} {tr : TA} {D1 : Ends} {tu tz : TS} {t u : TT} {ps : List MP} {i j : Nat}
theorem evn_dnewI : EvN tDNewK Γ M (MDO (fun _ => none) 0) M := fun E F σ H a b Q k p hp => k p F _ (a.fresh hp) (Evl.Ex.refl _) (a.new hp ⟨[], rfl, Nat.le_refl _, fun _ => rfl⟩)
theorem ev_dnotinI {g : Int → Option Int} {n : Nat} {x : Int} (hk : Ev tk Γ M (D K (.int x)) M1) (hd : Ev td Γ M1 (Own q) M2) (e : M2[j]? = some (q, MDO g n)) : Ev (tDNotIn tk td) Γ M (D K (.bool (!(g x).isSome))) M2 := fun E F σ H a b Q k => by
  refine hk E F σ H a b _ fun v F1 H1 e1 g1 p1 => hd E F1 σ H1 g1 (b.mono e1) _ fun y F2 H2 e2 g2 p2 => ?_
  cases dp_int p1
  have p2 : y = .ref q := p2
  subst p2
  obtain ⟨fq, o, ho, kvs, rfl, _, hkv⟩ := g2.at e
  refine ⟨q, _, rfl, DGet.k (k := .inl x) ho, ?_⟩
  rw [hkv, Option.isSome_map]
  exact k _ F2 H2 (e1.trans e2) g2 (.bl _)
theorem go_dputI {g : Int → Option Int} {n : Nat} {x v : Int} (hv : Ev tv Γ M (D K (.int v)) M1) (hd : Ev td Γ M1 (Own q) M1) (hk : Ev tk Γ M1 (D K (.int x)) M1) (e : M1[j]? = some (q, MDO g n)) (hn : n < 50000) (k : Nx E Γ (M1.set j (q, MDO (fun y => if y = x then some v else g y) (n + 1))) D1.nx) : Nx E Γ M (sDPut td tk tv D1) := fun σ H ⟨F, a, b⟩ => by
  refine hv E F σ H a b _ fun y F1 H1 e1 g1 p1 => hd E F1 σ H1 g1 (b.mono e1) _ fun w F2 H2 e2 g2 p2 => hk E F2 σ H2 g2 (b.mono (e1.trans e2)) _ fun z F3 H3 e3 g3 p3 => ?_
  cases dp_int p1
  cases dp_int p3
  have p2 : w = .ref q := p2
  subst p2
  obtain ⟨fq, o, ho, kvs, rfl, hl, hkv⟩ := g3.at e
  refine ⟨q, _, rfl, DPut.k (k := .inl x) ho (sz_lt (by omega)), ?_⟩
  refine k _ _ ⟨F3, g3.mut e ⟨_, rfl, Nat.le_trans (length_putK _ _ _) (by omega), fun y => ?_⟩, b.mono ((e1.trans e2).trans e3)⟩
  rw [valV_put]
  by_cases c : y = x
  · subst c; rw [if_pos rfl]; show some (V.int v) = Option.map V.int (if y = y then some v else g y); rw [if_pos rfl]; rfl
  · rw [if_neg (fun z => c (Sum.inl.inj z))]; show _ = Option.map V.int (if y = x then some v else g y); rw [if_neg c, hkv]
theorem q_dputI {g : Int → Option Int} {n : Nat} {x v : Int} (hv : Ev tv Γ M (D K (.int v)) M1) (hd : Ev td Γ M1 (Own q) M1) (hk : Ev tk Γ M1 (D K (.int x)) M1) (e : M1[j]? = some (q, MDO g n)) (hn : n < 50000) (k : Nx E Γ (M1.set j (q, MDO (fun y => if y = x then some v else g y) (n + 1))) (tz D1)) : Nx E Γ M (tSeq (sDPut td tk tv) tz D1) :=
  go_dputI (D1 := { D1 with nx := tz D1 }) hv hd hk e hn k
theorem evn_dispI {x v : Int} (hk : ∀ r : Addr × MO, Ev tk Γ (r :: M) (D K (.int x)) (r :: M)) (hv : ∀ M, Ev tv Γ M (D K (.int v)) M) : EvN (tDisp [(tk, tv)]) Γ M (MDO (fun y => if y = x then some v else none) 1) M := fun E F σ H a b Q k p hp => by
  have g0 := a.new (q := p) (O := MDO (fun _ => none) 0) (o := .dK []) hp ⟨[], rfl, Nat.le_refl _, fun _ => rfl⟩
  refine hk _ E F σ _ g0 b _ fun y F1 H1 e1 g1 p1 => hv _ E F1 σ H1 g1 (b.mono e1) _ fun z F2 H2 e2 g2 p2 => ?_
  cases dp_int p1
  cases dp_int p2
  obtain ⟨fq, o, ho, kvs, rfl, hl, hkv⟩ := g2.at (j := 0) rfl
  have : kvs = [] := List.length_eq_zero_iff.mp (by omega)
  subst this
  refine ⟨ho, [(.inl x, .int v)], rfl, by simp, ?_⟩
  refine k p F2 _ (a.fresh hp) (e1.trans e2) (g2.mut (j := 0) rfl ⟨_, rfl, Nat.le_refl _, fun y => ?_⟩)
  show valV (putK ([] : List (Key × V)) (.inl x) (.int v)) (.inl y) = Option.map V.int (if y = x then some v else none)
  rw [valV_put]
  by_cases c : y = x
  · subst c; rw [if_pos rfl, if_pos rfl]; rfl
  · rw [if_neg (fun z => c (Sum.inl.inj z)), if_neg c]; rfl
/-! the keys alone -/
theorem evn_dispS {x : Int} (hk : ∀ M, Ev tk Γ M (D K (.int x)) M) (hv : ∀ M, Ev tv Γ M P M) : EvN (tDisp [(tk, tv)]) Γ M (MSet [x]) M := fun E F σ H a b Q k p hp => by
  have g0 := a.new (q := p) (O := MSet []) (o := .dK []) hp ⟨[], rfl, Nat.le_refl _, fun _ => rfl⟩
  refine hk _ E F σ _ g0 b _ fun y F1 H1 e1 g1 p1 => hv _ E F1 σ H1 g1 (b.mono e1) _ fun z F2 H2 e2 g2 p2 => ?_
  cases dp_int p1
  obtain ⟨fq, o, ho, kvs, rfl, hl, hkv⟩ := g2.at (j := 0) rfl
  have : kvs = [] := List.length_eq_zero_iff.mp (by simpa using hl)
  subst this
  refine ⟨ho, [(.inl x, z)], rfl, by simp, ?_⟩
  refine k p F2 _ (a.fresh hp) (e1.trans e2) (g2.mut (j := 0) rfl ⟨_, rfl, Nat.le_refl _, fun y => ?_⟩)
  show (valV (putK ([] : List (Key × V)) (.inl x) z) (.inl y)).isSome = _
  rw [valV_put]
  by_cases c : y = x
  · subst c; rw [if_pos rfl]; simp
  · rw [if_neg (fun z => c (Sum.inl.inj z))]; simp [c]; rfl
theorem ev_dnotinS {x : Int} {ks : List Int} (hk : Ev tk Γ M (D K (.int x)) M1) (hd : Ev td Γ M1 (Own q) M2) (e : M2[j]? = some (q, MSet ks)) : Ev (tDNotIn tk td) Γ M (D K (.bool (!decide (x ∈ ks)))) M2 := fun E F σ H a b Q k => by
  refine hk E F σ H a b _ fun v F1 H1 e1 g1 p1 => hd E F1 σ H1 g1 (b.mono e1) _ fun y F2 H2 e2 g2 p2 => ?_
  cases dp_int p1
  have p2 : y = .ref q := p2
  subst p2
  obtain ⟨fq, o, ho, kvs, rfl, _, hkv⟩ := g2.at e
  refine ⟨q, _, rfl, DGet.k (k := .inl x) ho, ?_⟩
  rw [hkv]
  exact k _ F2 H2 (e1.trans e2) g2 (.bl _)
theorem q_dputS {x : Int} {ks : List Int} (hv : Ev tv Γ M P M1) (hd : Ev td Γ M1 (Own q) M1) (hk : Ev tk Γ M1 (D K (.int x)) M1) (e : M1[j]? = some (q, MSet ks)) (hn : ks.length < 50000) (k : Nx E Γ (M1.set j (q, MSet (x :: ks))) (tz D1)) : Nx E Γ M (tSeq (sDPut td tk tv) tz D1) := fun σ H ⟨F, a, b⟩ => by
  refine hv E F σ H a b _ fun y F1 H1 e1 g1 p1 => hd E F1 σ H1 g1 (b.mono e1) _ fun w F2 H2 e2 g2 p2 => hk E F2 σ H2 g2 (b.mono (e1.trans e2)) _ fun z F3 H3 e3 g3 p3 => ?_
  cases dp_int p3
  have p2 : w = .ref q := p2
  subst p2
  obtain ⟨fq, o, ho, kvs, rfl, hl, hkv⟩ := g3.at e
  refine ⟨q, _, rfl, DPut.k (k := .inl x) ho (sz_lt (by omega)), ?_⟩
  refine k _ _ ⟨F3, g3.mut e ⟨_, rfl, Nat.le_trans (length_putK _ _ _) (by rw [List.length_cons]; omega), fun y => ?_⟩, b.mono ((e1.trans e2).trans e3)⟩
  rw [valV_put]
  by_cases c : y = x
  · subst c; rw [if_pos rfl]; simp
  · rw [if_neg (fun z => c (Sum.inl.inj z)), hkv]; simp [c]
/-! list(range(n)) -/
theorem evn_listRg {n : Nat} (h : Ev te Γ M (D K (.int (n : Int))) M1) (hn : n ≤ 10000) : EvN (tLstRg (tRg1 te)) Γ M (MInts K ((List.range n).map fun i : Nat => (i : Int))) M1 := fun E F σ H a b Q k => h E F σ H a b _ fun v F1 H1 e1 g1 p1 => by
  cases dp_int p1
  refine ⟨(n : Int), rfl, RgOk.of_le (by omega) (by omega) (by omega) (by omega), fun l hl => k l F1 _ (g1.fresh hl) e1 (g1.new hl ⟨_, rfl, ?_⟩)⟩
  have e : rgV 0 (n : Int) = ((List.range n).map fun i : Nat => (i : Int)).map V.int := by
    unfold rgV
    rw [Int.sub_zero, Int.toNat_natCast, List.map_map]
    exact List.map_congr_left fun i _ => by show V.int (0 + (i : Int)) = V.int (i : Int); rw [Int.zero_add]
  rw [e]
  exact map_ints _
/-! a, b, c = e -/
theorem q_unp3 {α : Type} {φ : α → Prop} {R1 R2 R3 : α → MP} {l : Nat} (h : Ev te Γ M (PEx fun x => PAn (φ x) (PTu K [R1 x, R2 x, R3 x])) M1) (k : ∀ x, φ x → Nx E (((Γ.set i (some (R1 x))).set j (some (R2 x))).set l (some (R3 x))) M1 (tz D1)) :
    Nx E Γ M (tSeq (tAsg te (gTup K 3 (gCons (gName i) (gCons (gName j) (gCons (gName l) gNil))))) tz D1) := fun σ H ⟨F, a, b⟩ => h E F σ H a b _ fun v F1 H1 e1 g1 ⟨x, hx, p, vs, ev, s, q⟩ => by
  cases q with
  | @cons y _ _ _ hy q =>
    cases q with
    | @cons z _ _ _ hz q =>
      cases q with
      | @cons u _ _ _ hu q =>
        cases q
        exact ⟨p, [y, z, u], ev, Evl.ex_t g1.ex s, rfl, y, [z, u], rfl, z, [u], rfl, u, [], rfl, rfl, k x hx _ _ ⟨F1, g1, (((b.mono e1).set i hy).set j hz).set l hu⟩⟩
/-! isinstance(o, C) -/
structure InsC (K : PySem.W.Frag) (C : Addr) : Prop where
  cl : Cls K C
  ha : PySem.W.findIn K (.ref C) "__class__" = some (some (.builtin "object.__class__"))
  hn : PySem.W.specialIn K (.builtin "object.__class__") "__get__" = some (some (.builtin "getset_descriptor.__get__"))
  ht : PySem.W.takesIn K (.builtin "object.__class__") = some true
  hm : PySem.W.mroIn K C (.type "object") = some true
  hk : PySem.W.kitOne K (.ref C) (.ref C) = some true
theorem rc_isiC {C : Addr} {fps : List (Str × MP)} (c : InsC K C) : RC (rIsi K) [PIns C fps, PV (.ref C)] M (D K (.bool true)) M := fun E F H vs a h Q k => by
  obtain ⟨v, w, rfl, ⟨p, dx, fs, rfl, h1, _⟩, hw⟩ := ps2 h
  have hw : w = .ref C := hw
  subst hw
  exact ⟨.ref p, .ref C, .ref C, .ref C, true, rfl, .own C, .base (.ins (a.ex _ _ h1) c.cl c.ha c.hn c.ht c.hm), c.hk, k _ F H (Evl.Ex.refl _) a (.bl true)⟩
theorem RC.pre {rc : List V → Hp → VK → Prop} {Q Q' : MP} (l : Q'.le Q) (h : RC rc [Q] M P M') : RC rc [Q'] M P M' := fun E F H vs a p Qk k => h E F H vs a (by cases p with | cons z t => exact .cons (l _ _ z) t) Qk k
theorem c_lindex {Y : Cx} (e : Y.K = K) : MtR Y "list.index" (rIndex K) := e ▸ mt_index
theorem rc_tupW {b : Bool} {l : List Int} : RC (rTuple K) [D K (dW b l)] M (D K (dT l)) M := by
  cases b with
  | true => exact RC.pre le_dT (rc_tupleT.weak dT_le)
  | false => exact RC.pre le_dL (rc_tupleL.weak dT_le)
theorem evn_orL {wi wj : TI} {g : TG} {l : List Nat} (h : EvN (tLc wi g t te l) Γ M O M1) : EvN (tLc (iOr wi wj) g t te l) Γ M O M1 := fun E F σ H a b Q k => .inl (h E F σ H a b Q k)
theorem evn_orR {wi wj : TI} {g : TG} {l : List Nat} (h : EvN (tLc wj g t te l) Γ M O M1) : EvN (tLc (iOr wi wj) g t te l) Γ M O M1 := fun E F σ H a b Q k => .inr (h E F σ H a b Q k)
end
end Hq
namespace Hq
open PySem L2
section
variable {K : PySem.W.Frag} {E E0 : Ent} {F H : Hp} {M M1 M2 M' : Ms} {Γ : Gm} {P P1 : MP} {O O' : MO} {q : Addr} {te ta tb tl tk tv td : TE} {tr : TA} {D1 : Ends} {tu tz : TS} {t u : TT} {ps : List MP} {i j : Nat}
/-! in and index of own lists -/
theorem dp_own {ds : List PyData} {ws : List V} (h : H q = some (.lst ws)) (e : Ex F H) (s : Ps F ws (ds.map (D K))) : Dp K H (.ref q) (.list ds) := by
  refine .lst (SqL.of h) ?_
  have key : ∀ {ws : List V} {ds : List PyData}, Ps F ws (ds.map (D K)) → Paired (fun v d => Dp K H v d) ws ds := by
    intro ws ds
    induction ds generalizing ws with
    | nil => intro h; cases h; exact .nil
    | cons d ds ih => intro h; cases h with | cons a t => exact .cons (Dp.mono e a) (ih t)
  have := key s
  clear s h
  induction this with
  | nil => exact .nil
  | cons a t ih => exact .cons a ih
theorem ps_mapD {F : Hp} {α : Type} {f : α → PyData} {l : List α} {ws : List V} (h : Ps F ws (l.map fun x => D K (f x))) : Ps F ws ((l.map f).map (D K)) := by rw [List.map_map]; exact h
theorem rv_notInDO {α : Type} [DecidableEq α] {f : α → PyData} {n : Nat} (en : Enc f n) (hn : n + 1 ≤ 64) {x : α} {l : List α} (e : M[j]? = some (q, ML (l.map fun x => D K (f x)))) : RV (rNotInD K) (D K (f x)) (Own q) M (D K (.bool (!decide (x ∈ l)))) M := fun E F H y z a p1 p2 Q k => by
  have p2 : z = .ref q := p2
  subst p2
  obtain ⟨_, o, ho, ws, rfl, s⟩ := a.at e
  exact ⟨_, _, Dp.mono a.ex p1, dp_own ho a.ex (ps_mapD s), en.shaped (by omega) x, (enc_list en).shaped hn l, by rw [any_enc en]; exact k _ F H (Evl.Ex.refl _) a (.bl _)⟩
theorem ix_flat {ns : List Int} {x : Int} {k : Nat} (hk : ns[k]? = some x) (hno : ∀ m, m < k → ns[m]? ≠ some x) : flatV (.int x) = true ∧ (ns.map V.int).all flatV = true ∧ (ns.map V.int)[k]? = some (.int x) ∧ eqV (.int x) (.int x) = true ∧ ∀ (m : Nat) (z' : V), m < k → (ns.map V.int)[m]? = some z' → eqV z' (.int x) = false := by
  refine ⟨rfl, by rw [List.all_map]; exact List.all_eq_true.mpr fun _ _ => rfl, by rw [List.getElem?_map, hk]; rfl, by simp [eqV], fun m z hm hz => ?_⟩
  rw [List.getElem?_map] at hz
  obtain ⟨y, hy, rfl⟩ := Option.map_eq_some_iff.mp hz
  have : y ≠ x := fun e => hno m hm (by rw [hy, e])
  simp [eqV, this]
theorem ev_indexIL {ns : List Int} {x : Int} {k : Nat} (ho : Ev ta Γ M (D K (dL ns)) M) (h : Ev te Γ M (D K (.int x)) M) (hk : ns[k]? = some x) (hno : ∀ m, m < k → ns[m]? ≠ some x) : Ev (tBM K "list" (rIndex K) ta (tCons te tNil)) Γ M (D K (.int (k : Int))) M := fun E F σ H a b Q kk => ho E F σ H a b _ fun v F1 H1 e1 g1 p1 => by
  obtain ⟨p, ws, hv, s, q⟩ := le_dL _ _ p1
  have es := ints_map q
  subst es
  subst hv
  refine ⟨.inl ⟨rfl, _, Evl.ex_l g1.ex s⟩, ?_⟩
  refine h E F1 σ H1 g1 (b.mono e1) _ fun w F2 H2 e2 g2 p2 => ?_
  cases dp_int p2
  obtain ⟨f1, f2, f3, f4, f5⟩ := ix_flat hk hno
  exact ⟨p, _, .int x, k, .int x, rfl, rfl, Evl.ex_l (e2.trans g2.ex) s, f1, f2, f3, f4, f5, kk _ F2 H2 (e1.trans e2) g2 (.int _)⟩
theorem ev_indexIO {ns : List Int} {x : Int} {k : Nat} (ho : Ev ta Γ M (Own q) M) (h : Ev te Γ M (D K (.int x)) M) (e : M[j]? = some (q, MInts K ns)) (hk : ns[k]? = some x) (hno : ∀ m, m < k → ns[m]? ≠ some x) : Ev (tBM K "list" (rIndex K) ta (tCons te tNil)) Γ M (D K (.int (k : Int))) M := fun E F σ H a b Q kk => ho E F σ H a b _ fun v F1 H1 e1 g1 p1 => by
  have p1 : v = .ref q := p1
  subst p1
  obtain ⟨_, o, ho1, ws0, rfl, _⟩ := g1.at e
  refine ⟨.inl ⟨rfl, ws0, SqL.of ho1⟩, ?_⟩
  refine h E F1 σ H1 g1 (b.mono e1) _ fun w F2 H2 e2 g2 p2 => ?_
  cases dp_int p2
  obtain ⟨_, o, ho2, ws, rfl, s⟩ := g2.at e
  have es := ints_map s
  subst es
  obtain ⟨f1, f2, f3, f4, f5⟩ := ix_flat hk hno
  exact ⟨q, _, .int x, k, .int x, rfl, rfl, SqL.of ho2, f1, f2, f3, f4, f5, kk _ F2 H2 (e1.trans e2) g2 (.int _)⟩
end
end Hq
/-! ### own lists of own lists: read by a call and owned after it -/
namespace Hq
open PySem L2
/-- what does not speak of lists -/
def Pure (P : MP) : Prop := ∀ (F F' : Hp) (v : V), (∀ a o, F a = some o → (∀ xs, o ≠ .lst xs) → F' a = some o) → P.p F v → P.p F' v
def PureO (O : MO) : Prop := ∀ (F F' : Hp) (o : HO), (∀ a o, F a = some o → (∀ xs, o ≠ .lst xs) → F' a = some o) → O.p F o → O.p F' o
section
variable {K : PySem.W.Frag} {E E0 : Ent} {F H : Hp} {M M1 M2 M' : Ms} {Γ : Gm} {P P1 : MP} {O O' : MO} {q : Addr} {te ta tb tl tk tv td : TE} {tr : TA} {D1 : Ends} {tu tz : TS} {t u : TT} {ps : List MP} {i j : Nat}
theorem pure_int {n : Int} : Pure (D K (.int n)) := fun F F' v _ h => by cases dp_int h; exact .int n
theorem pure_non : Pure (D K .none) := fun F F' v _ h => by cases dp_non h; exact .non
theorem sqt_pure {F F' : Hp} {a : Addr} {xs : List V} (e : ∀ a o, F a = some o → (∀ xs, o ≠ .lst xs) → F' a = some o) (h : SqT K F a xs) : SqT K F' a xs := by
  rcases h with (h | ⟨o, h⟩) | h
  · exact .inl (.inl (e _ _ h fun xs z => nomatch z))
  · exact .inl (.inr ⟨o, e _ _ h fun xs z => nomatch z⟩)
  · exact .inr h
theorem ps_pure {F F' : Hp} (e : ∀ a o, F a = some o → (∀ xs, o ≠ .lst xs) → F' a = some o) : ∀ {ps : List MP} {vs : List V}, (∀ p ∈ ps, Pure p) → Ps F vs ps → Ps F' vs ps
  | [], _, _, h => by cases h; exact .nil
  | p :: ps, _, hp, h => by
    cases h with
    | cons z t => exact .cons (hp _ List.mem_cons_self F F' _ e z) (ps_pure e (fun q hq => hp q (List.mem_cons_of_mem _ hq)) t)
theorem pure_tu {ps : List MP} (h : ∀ p ∈ ps, Pure p) : Pure (PTu K ps) := fun F F' v e ⟨a, vs, hv, s, q⟩ => ⟨a, vs, hv, sqt_pure e s, ps_pure e h q⟩
theorem pure_dT {l : List Int} : Pure (D K (dT l)) := fun F F' v e h => dT_le F' v (pure_tu (K := K) (fun p hp => by obtain ⟨n, _, rfl⟩ := List.mem_map.mp hp; exact pure_int) F F' v e (le_dT F v h))
theorem pure_dTT {R : List (List Int)} : Pure (D K (dTT R)) := fun F F' v e h => Tm_le (f := dT) F' v (pure_tu (K := K) (fun p hp => by obtain ⟨n, _, rfl⟩ := List.mem_map.mp hp; exact pure_dT) F F' v e (le_Tm (f := dT) F v h))
theorem pure_ins {C : Addr} {fps : List (Str × MP)} (h : ∀ f ∈ fps, Pure f.2) : Pure (PIns C fps) := fun F F' v e ⟨p, dx, fs, h1, h2, h3⟩ => ⟨p, dx, fs, h1, e _ _ h2 (fun xs z => nomatch z), fun f hf => let ⟨x, hx, px⟩ := h3 f hf; ⟨x, hx, h f hf F F' x e px⟩⟩
theorem pure_ints : PureO (MX fun ns : List Int => MA (ns.length ≤ 1000) (MInts K ns)) := fun F F' o e ⟨ns, hl, vs, ho, q⟩ => by
  have es := ints_map q
  subst es
  exact ⟨ns, hl, _, ho, map_ints ns⟩
theorem pure_dr : PureO (MDr K) := pure_ints
/-- owned lists are read as lists that stand while e is worked out, and are owned after it -/
theorem ev_borrow {MB M0 : Ms} {Γ' : Gm} (hb : ∀ r ∈ MB, ∃ ps, r.2 = ML ps) (pP : Pure P) (pM : ∀ r ∈ M0, PureO r.2)
    (hΓ : ∀ (σ : St) (F F1 : Hp), EnvOk F σ Γ → Ex F F1 → (∀ r ∈ MB, ∃ o, F1 r.1 = some o ∧ r.2.p F1 o) → EnvOk F1 σ Γ')
    (h : Ev te Γ' M0 P M0) : Ev te Γ (MB ++ M0) P (MB ++ M0) := fun E F σ H a b Q k => by
  let B : Addr → Prop := fun x => x ∈ keys MB
  letI : DecidablePred B := fun _ => Classical.propDecidable _
  have nd := a.wd.nd
  have own := a.wd.own
  have ndk : (keys MB ++ keys M0).Nodup := by have := nd; rwa [keys, List.map_append] at this
  have off0 : ∀ r ∈ M0, ¬ B r.1 := fun r hr hB => (List.nodup_append.mp ndk).2.2 r.1 hB r.1 (List.mem_map_of_mem (f := (·.1)) hr) rfl
  have atB : ∀ x, B x → F x = none ∧ ∃ r ∈ MB, r.1 = x := fun x hx => by
    obtain ⟨r, hr, rfl⟩ := List.mem_map.mp hx
    exact ⟨(own r (List.mem_append_left _ hr)).1, r, hr, rfl⟩
  let F1 : Hp := fun x => if B x then H x else F x
  have e1 : Ex F F1 := fun x o hx => by
    show (if B x then H x else F x) = some o
    by_cases c : B x
    · rw [(atB x c).1] at hx; cases hx
    · rw [if_neg c]; exact hx
  have w1 : Wd F1 M0 H := by
    refine ⟨fun x o hx => ?_, (List.nodup_append.mp ndk).2.1, fun r hr => ?_⟩
    · have hx : (if B x then H x else F x) = some o := hx
      by_cases c : B x
      · rw [if_pos c] at hx; exact hx
      · rw [if_neg c] at hx; exact a.wd.ex x o hx
    · obtain ⟨h1, o, h2, h3⟩ := own r (List.mem_append_right _ hr)
      refine ⟨?_, o, h2, r.2.mono e1 h3⟩
      show (if B r.1 then H r.1 else F r.1) = none
      rw [if_neg (off0 r hr)]; exact h1
  have rd : ∀ r ∈ MB, ∃ o, F1 r.1 = some o ∧ r.2.p F1 o := fun r hr => by
    obtain ⟨_, o, h2, h3⟩ := own r (List.mem_append_left _ hr)
    refine ⟨o, ?_, r.2.mono e1 h3⟩
    show (if B r.1 then H r.1 else F r.1) = some o
    rw [if_pos (show B r.1 from List.mem_map_of_mem (f := (·.1)) hr)]; exact h2
  refine h ⟨F1, H, keys M0⟩ F1 σ H (Pt.start w1) (hΓ σ F F1 b e1 rd) _ fun v F2 H2 e2 g2 p2 => ?_
  have e2 : Ex F1 F2 := e2
  let F3 : Hp := fun x => if B x then none else F2 x
  have e3 : Ex F F3 := fun x o hx => by
    show (if B x then none else F2 x) = some o
    by_cases c : B x
    · rw [(atB x c).1] at hx; cases hx
    · rw [if_neg c]; exact e2 _ _ (e1 _ _ hx)
  have lst : ∀ x o, F2 x = some o → (∀ xs, o ≠ .lst xs) → F3 x = some o := fun x o hx hn => by
    show (if B x then none else F2 x) = some o
    by_cases c : B x
    · exfalso
      obtain ⟨_, r, hr, rfl⟩ := atB x c
      obtain ⟨o', h1, h2⟩ := rd r hr
      obtain ⟨ps, hp⟩ := hb r hr
      rw [hp] at h2
      obtain ⟨vs, ho, _⟩ := h2
      rw [e2 _ _ h1] at hx
      exact hn vs ((Option.some.inj hx).symm.trans ho)
    · rw [if_neg c]; exact hx
  have g3 : Pt ⟨F, H, keys (MB ++ M0)⟩ F3 (MB ++ M0) H2 := by
    refine ⟨⟨e3, fun x o hx ho => g2.gr.keep x o (fun z => hx (by rw [keys, List.map_append]; exact List.mem_append_right _ z)) ho, fun x h1 h2 h3 => ?_, g2.gr.stay, g2.gr.nott⟩, ⟨fun x o hx => ?_, nd, fun r hr => ?_⟩, fun r hr => .inl (List.mem_map_of_mem hr)⟩
    · show (if B x then none else F2 x) = none
      by_cases c : B x
      · rw [if_pos c]
      · rw [if_neg c]
        exact g2.gr.off x (show (if B x then H x else F x) = none by rw [if_neg c]; exact h1) h2 h3
    · have hx : (if B x then none else F2 x) = some o := hx
      by_cases c : B x
      · rw [if_pos c] at hx; cases hx
      · rw [if_neg c] at hx; exact g2.wd.ex x o hx
    · rcases List.mem_append.mp hr with hr | hr
      · have hB : B r.1 := List.mem_map_of_mem (f := (·.1)) hr
        obtain ⟨h1, o, h2, h3⟩ := own r (List.mem_append_left _ hr)
        refine ⟨show (if B r.1 then none else F2 r.1) = none by rw [if_pos hB], o, ?_, r.2.mono e3 h3⟩
        have : F1 r.1 = some o := show (if B r.1 then H r.1 else F r.1) = some o by rw [if_pos hB]; exact h2
        exact g2.wd.ex _ _ (e2 _ _ this)
      · obtain ⟨h1, o, h2, h3⟩ := g2.wd.own r hr
        exact ⟨show (if B r.1 then none else F2 r.1) = none by rw [if_neg (off0 r hr)]; exact h1, o, h2, pM r hr F2 F3 o lst h3⟩
  exact k v F3 H2 e3 (a.back g3) (pP F2 F3 v lst p2)
/-- [e for x in xs] where e makes a list, kept under a name; xs stands -/
theorem q_lcOwnL {α : Type} {xs : List α} {R : α → MP} {O : Nat → MO} (h : Ev tl Γ M (PLi K (xs.map R)) M) (hz : xs.length ≤ 50000) (he : ∀ (n : Nat) (x : α), xs[n]? = some x → EvN te ((Γ.set i none).set i (some (R x))) M (O n) M)
    (k : ∀ q as, E.H q = none → (∀ a ∈ as, E.H a = none) → as.length = xs.length → Nx E (Γ.set j (some (Own q))) ((q, ML (as.map Own)) :: (M ++ zipR O as xs.length)) (tz D1)) :
    Nx E Γ M (tSeq (tAsg (tLc (iList K tl) (gName i) tYes te [i]) (gName j)) tz D1) := fun σ H ⟨F, a, b⟩ => h E F σ H a b _ fun v F1 H1 e1 g1 ⟨p, vs, hp, s, q⟩ => by
  refine ⟨p, hp, ⟨vs, Evl.ex_l g1.ex s⟩, fun D2 hD => ?_⟩
  have gn : Pt E F1 ((D2, ML []) :: M) (upd H1 D2 (.lst [])) := g1.new hD ⟨[], rfl, .nil⟩
  refine lc_list (xs := vs) (fun n H' => ∃ F' as, Pt E F' ((D2, ML (as.map Own)) :: (M ++ zipR O as n)) H' ∧ Ex F1 F' ∧ as.length = n ∧ ∀ a ∈ as, E.H a = none) ⟨F1, [], by simpa [zipR] using gn, Evl.Ex.refl _, rfl, fun _ h => by cases h⟩ (fun n H2 _ ⟨F2, as, g2, e2, _⟩ => Evl.ex_l (e2.trans g2.ex) s) (fun n x H2 hx ⟨F2, as, g2, e2, hl, hf⟩ => ⟨wipe_one, ?_⟩) (fun H2 ⟨F2, as, g2, e2, hl, hf⟩ => ?_)
  · obtain ⟨P, hP, hx2⟩ := paired_get' q hx
    rw [List.getElem?_map] at hP
    obtain ⟨y, hy, rfl⟩ := Option.map_eq_some_iff.mp hP
    have nl : n < xs.length := (List.getElem?_eq_some_iff.mp hy).1
    have sub : List.Sublist M ((D2, ML (as.map Own)) :: (M ++ zipR O as n)) := (List.sublist_append_left _ _).trans (List.sublist_cons_self _ _)
    show te _ H2 _
    refine he n y hy ⟨F2, H2, keys M⟩ F2 _ H2 (Pt.start (g2.drop sub).wd) ((env_wipe (b.mono (e1.trans e2))).set i ((R y).mono e2 hx2)) _ fun q F3 H3 hq e3 g3 => ?_
    have g4 : Pt E F3 ((q, O n) :: (D2, ML (as.map Own)) :: (M ++ zipR O as n)) H3 := g2.frameN hq g3 (fun x hx => by
      obtain ⟨r, hr, e⟩ := List.mem_map.mp hx
      exact List.mem_map.mpr ⟨r, sub.subset hr, e⟩) rfl fun r hr => by
        by_cases hm : r.1 ∈ keys M
        · obtain ⟨s, hs, e⟩ := List.mem_map.mp hm
          have one : ∀ {L : Ms}, (keys L).Nodup → ∀ r ∈ L, ∀ s ∈ L, r.1 = s.1 → r = s := by
            intro L
            induction L with
            | nil => intro _ r hr; cases hr
            | cons m L ih =>
              intro nd r hr s hs e
              have nd' := List.nodup_cons.mp (show (m.1 :: keys L).Nodup from nd)
              rcases List.mem_cons.mp hr with e1 | hr <;> rcases List.mem_cons.mp hs with e2 | hs
              · rw [e1, e2]
              · exact absurd (show m.1 ∈ keys L by rw [← e1, e]; exact List.mem_map_of_mem (f := (·.1)) hs) nd'.1
              · exact absurd (show m.1 ∈ keys L by rw [← e2, ← e]; exact List.mem_map_of_mem (f := (·.1)) hr) nd'.1
              · exact ih nd'.2 r hr s hs e
          have := one g2.wd.nd r hr s (sub.subset hs) e.symm
          rw [this]; exact .inr hs
        · exact .inl ⟨hm, hr⟩
    obtain ⟨_, o, ho, ws, rfl, s⟩ := g4.at (j := 1) rfl
    refine ⟨ws, ho, sz_lt (by rw [paired_len s, List.length_map]; omega), F3, as ++ [q], ?_, e2.trans e3, by rw [List.length_append, hl]; rfl, fun x hx => ?_⟩
    · have g5 := g4.mut (j := 1) (O' := ML ((as ++ [q]).map Own)) (o' := .lst (ws ++ [.ref q])) rfl ⟨_, rfl, by rw [List.map_append]; exact paired_app s (.cons (show (Own q).p F3 (.ref q) from rfl) .nil)⟩
      rw [zipR_snoc hl]
      refine g5.perm ?_
      show ((q, O n) :: (D2, ML ((as ++ [q]).map Own)) :: (M ++ zipR O as n)).Perm _
      refine (List.Perm.swap _ _ _).trans (List.Perm.cons _ ?_)
      rw [← List.append_assoc]
      exact (List.perm_append_singleton _ _).symm
    · rcases List.mem_append.mp hx with h1 | h1
      · exact hf x h1
      · rw [List.mem_singleton.mp h1]; exact g2.fresh hq
  · have lv : vs.length = xs.length := by have := paired_len q; rwa [List.length_map] at this
    rw [lv] at g2 hl
    exact k D2 as (g1.fresh hD) hf hl _ _ ⟨F2, g2, (b.mono (e1.trans e2)).set j (P := Own D2) rfl⟩
theorem ev_borrowN {α : Type} {f : α → PyData} {as : List Addr} {ls : List (List α)} {M0 : Ms} (hl : as.length = ls.length) (hg : Γ[i]? = some (some (Own q))) (pP : Pure P) (pM : ∀ r ∈ M0, PureO r.2)
    (h : Ev te (Γ.set i (some (D K (.list (ls.map fun l => .list (l.map f)))))) M0 P M0) : Ev te Γ (((q, ML (as.map Own)) :: innerE K f as ls) ++ M0) P (((q, ML (as.map Own)) :: innerE K f as ls) ++ M0) := by
  refine ev_borrow (fun r hr => ?_) pP pM (fun σ F F1 b e rd => (b.mono e).upd hg fun v hv => ?_) h
  · rcases List.mem_cons.mp hr with rfl | hr
    · exact ⟨_, rfl⟩
    · obtain ⟨p, _, rfl⟩ := List.mem_map.mp hr
      exact ⟨_, rfl⟩
  · have hv : v = .ref q := hv
    subst hv
    obtain ⟨o, ho, ws, rfl, s⟩ := rd _ List.mem_cons_self
    have inn : ∀ r ∈ innerE K f as ls, ∃ o, F1 r.1 = some o ∧ r.2.p F1 o := fun r hr => rd r (List.mem_cons_of_mem _ hr)
    have key : ∀ {as : List Addr} {ls : List (List α)} {ws : List V}, as.length = ls.length → Ps F1 ws (as.map Own) → (∀ r ∈ innerE K f as ls, ∃ o, F1 r.1 = some o ∧ r.2.p F1 o) → Ps F1 ws (ls.map fun l => D K (.list (l.map f))) := by
      intro as
      induction as with
      | nil => intro ls ws hl h _; cases ls with
        | nil => cases h; exact .nil
        | cons _ _ => cases hl
      | cons a as ih =>
        intro ls ws hl h hi
        cases ls with
        | nil => cases hl
        | cons l ls =>
          cases h with
          | cons z t =>
            have z : _ = V.ref a := z
            subst z
            obtain ⟨o, h1, vs, rfl, s⟩ := hi (a, ML (l.map fun x => D K (f x))) List.mem_cons_self
            exact .cons (Lm_le (K := K) F1 _ ⟨a, vs, rfl, SqL.of h1, s⟩) (ih (by simpa using hl) t fun r hr => hi r (List.mem_cons_of_mem _ hr))
    exact Lm_le (K := K) (f := fun l : List α => PyData.list (l.map f)) F1 _ ⟨q, ws, rfl, SqL.of ho, key hl s inn⟩
theorem zipR_rows {R : List (List Int)} {as : List Addr} (h : as.length = R.length) : zipR (fun n => MInts K (R.getD n [])) as R.length = innerE K PyData.int as R := by
  unfold zipR innerE
  apply List.ext_getElem
  · simp [h]
  · intro i h1 h2
    rw [List.length_map, List.length_zip] at h2
    have hi : i < R.length := by omega
    rw [List.getElem_map, List.getElem_map, List.getElem_zip, List.getElem_zip, List.getElem_range]
    show (as[i], MInts K (R.getD i [])) = (as[i], MInts K R[i])
    rw [List.getD_eq_getElem?_getD, List.getElem?_eq_getElem hi]; rfl
/-- rows[..].append(e), a drawn place -/
theorem go_appNX {as : List Addr} {ls : List (List Int)} {j0 : Nat} {x : Int} (ho : Ev ta Γ M (PEx fun i : Fin as.length => PAn True (Own as[i])) M1) (h : Ev te Γ M1 (D K (.int x)) M1) (e : ∀ i, (hi : i < as.length) → M1[i + j0]? = some (as[i], MInts K (ls.getD i []))) (hz : ∀ i, i < as.length → (ls.getD i []).length < 100000)
    (k : ∀ i, (hi : i < as.length) → Nx E Γ (M1.set (i + j0) (as[i], MInts K (ls.getD i [] ++ [x]))) D1.nx) : Nx E Γ M (tDrop (tBM K "list" rAppend ta (tCons te tNil)) D1) := fun σ H ⟨F, a, b⟩ => ho E F σ H a b _ fun v F1 H1 e1 g1 ⟨⟨i, hi⟩, _, p1⟩ => by
  have p1 : v = .ref as[i] := p1
  subst p1
  obtain ⟨_, o, ho1, ws0, rfl, _⟩ := g1.at (e i hi)
  refine ⟨.inl ⟨rfl, ws0, SqL.of ho1⟩, ?_⟩
  refine h E F1 σ H1 g1 (b.mono e1) _ fun w F2 H2 e2 g2 p2 => ?_
  obtain ⟨_, o, ho2, ws, rfl, s⟩ := g2.at (e i hi)
  refine ⟨as[i], ws, w, rfl, rfl, ho2, sz_lt (by rw [paired_len s, List.length_map]; exact hz i hi), ?_⟩
  exact k i hi _ _ ⟨F2, g2.mut (e i hi) ⟨_, rfl, by rw [List.map_append]; exact paired_app s (.cons p2 .nil)⟩, b.mono (e1.trans e2)⟩
/-- an owned inner list, drawn -/
theorem rv_ixOX {as : List Addr} {n : Nat} (e : M[j]? = some (q, ML (as.map Own))) (hn : n = as.length) : RV (rIx K) (Own q) (PIn K 0 (n : Int)) M (PEx fun i : Fin as.length => PAn True (Own as[i])) M := RV.ex2 fun x => RV.an2 fun hx => by
  obtain ⟨c, rfl⟩ := Int.eq_ofNat_of_zero_le hx.1
  have hc : c < as.length := by omega
  refine (rv_ixO (P := Own as[c]) e (by omega) (by rw [Int.toNat_natCast, List.getElem?_map, List.getElem?_eq_getElem hc]; rfl)).weak fun F v h => ⟨⟨c, hc⟩, trivial, h⟩
/-- rows[..][..] = e, drawn places -/
theorem go_setNX {φ : Int → Prop} {as : List Addr} {ls : List (List Int)} {m : Nat} {j0 : Nat} (hl : as.length = ls.length) (h : Ev te Γ M (PEx fun x => PAn (φ x) (D K (.int x))) M1) (ho : Ev ta Γ M1 (PEx fun i : Fin as.length => PAn True (Own as[i])) M1) (hb : Ev tb Γ M1 (PIn K 0 (m : Int)) M1)
    (e : ∀ i, (hi : i < as.length) → M1[i + j0]? = some (as[i], MInts K (ls.getD i []))) (hm : ∀ i, i < as.length → m = (ls.getD i []).length)
    (k : ∀ x i c, φ x → (hi : i < as.length) → c < m → Nx E Γ (M1.set (i + j0) (as[i], MInts K ((ls.getD i []).set c x))) D1.nx) : Nx E Γ M (tAsg te (gSub ta tb rSetL) D1) := fun σ H ⟨F, a, b⟩ => h E F σ H a b _ fun w F0 H0 e0 g0 ⟨x, hx, p0⟩ => ho E F0 σ H0 g0 (b.mono e0) _ fun v F1 H1 e1 g1 ⟨⟨i, hi⟩, _, p1⟩ => by
  have p1 : v = .ref as[i] := p1
  subst p1
  refine hb E F1 σ H1 g1 (b.mono (e0.trans e1)) _ fun y F2 H2 e2 g2 ⟨z, ⟨z0, z1⟩, p2⟩ => ?_
  cases dp_int p2
  obtain ⟨_, o, ho2, ws, rfl, s⟩ := g2.at (e i hi)
  obtain ⟨c, rfl⟩ := Int.eq_ofNat_of_zero_le z0
  have hc : c < m := by omega
  have hn : c < ws.length := by rw [paired_len s, List.length_map, ← hm i hi]; omega
  exact ⟨as[i], ws, c, c, rfl, rfl, ho2, Evl.ixN_nat hn, k x i c hx hi hc _ _ ⟨F2, g2.mut (e i hi) ⟨_, rfl, by rw [List.map_set]; exact paired_set (R := fun (v : V) (P : MP) => P.p F2 v) ((D K (.int x)).mono (e1.trans e2) p0) c s⟩, b.mono ((e0.trans e1).trans e2)⟩⟩
theorem cut_no {w : TS} (h : EvT t Γ M (· = false) M) (k : Nx E Γ M (w D1)) : Nx E Γ M (Evl.tCut (tIfS t tu tNext) w D1) :=
  go_cut (fun Γ' M' => Γ' = Γ ∧ M' = M) (go_if h (fun z => by cases z) fun _ => go_next (JA.of ⟨rfl, rfl⟩)) (by rintro _ _ ⟨rfl, rfl⟩; exact k)
theorem cut_yes {w : TS} (J : Gm → Ms → Prop) (h : EvT t Γ M (· = true) M) (h1 : Nx E Γ M (tu { D1 with nx := JA E J })) (h2 : ∀ Γ' M', J Γ' M' → Nx E Γ' M' (w D1)) : Nx E Γ M (Evl.tCut (tIfS t tu tNext) w D1) :=
  go_cut J (go_if h (fun _ => h1) fun z => by cases z) h2
end
end Hq
/-! ### tuple(range(n)) -/
namespace Hq
open PySem L2
section
variable {K : PySem.W.Frag} {E E0 : Ent} {F H : Hp} {M M1 M2 M' : Ms} {Γ : Gm} {P P1 : MP} {O O' : MO} {q : Addr} {te ta tb tl tk tv td : TE} {tr : TA} {D1 : Ends} {tu tz : TS} {t u : TT} {ps : List MP} {i j : Nat}
theorem ev_tupRg {n : Nat} (h : Ev te Γ M (D K (.int (n : Int))) M1) (hn : n ≤ 10000) : Ev (tTupRg (tRg1 te)) Γ M (NT ((List.range n).map fun i : Nat => (i : Int))) M1 := fun E F σ H a b Q k => h E F σ H a b _ fun v F1 H1 e1 g1 p1 => by
  cases dp_int p1
  have e : rgV 0 (n : Int) = ((List.range n).map fun i : Nat => (i : Int)).map V.int := by
    unfold rgV
    rw [Int.sub_zero, Int.toNat_natCast, List.map_map]
    exact List.map_congr_left fun i _ => by show V.int (0 + (i : Int)) = V.int (i : Int); rw [Int.zero_add]
  refine ⟨(n : Int), rfl, RgOk.of_le (by omega) (by omega) (by omega) (by omega), fun p hp => k _ _ _ (e1.trans (Evl.Ex.new (Evl.fresh_back g1.ex hp))) (g1.laid hp) ⟨p, rfl, ?_⟩⟩
  rw [e]
  exact upd_same
/-! a dict {t: x} whose key is read out of what is owned -/
theorem evn_dispT2 {l : List Int} (hk : ∀ r : Addr × MO, Ev tk Γ (r :: M) (NT l) (r :: M)) (hv : ∀ M, Ev tv Γ M P M) : EvN (tDispT tk tv) Γ M (MDct [l]) M := fun E F σ H a b Q k p hp => by
  have g0 := a.new (q := p) (O := MDct []) (o := .dT []) hp ⟨[], rfl, rfl⟩
  refine hk _ E F σ _ g0 b _ fun x F1 H1 e1 g1 ⟨bb, ex, hb⟩ => hv _ E F1 σ H1 g1 (b.mono e1) _ fun y F2 H2 e2 g2 p2 => ?_
  subst ex
  obtain ⟨fq, o, ho, kvs, rfl, hkv⟩ := g2.at (j := 0) rfl
  have : kvs = [] := List.map_eq_nil_iff.mp hkv
  subst this
  refine ⟨bb, l.map Sum.inl, rfl, ho, by rw [kv_ints]; exact g2.ex _ _ (e2 _ _ hb), ?_⟩
  exact k p F2 _ (a.fresh hp) (e1.trans e2) (g2.mut (j := 0) rfl ⟨[(l.map Sum.inl, y)], rfl, rfl⟩)
/-! comprehensions over a tuple of ints that give ints -/
theorem evn_lcTg {xs : List Int} {g : Int → Int} {i : Nat} (h : Ev tl Γ M (D K (dT xs)) M1) (hz : xs.length ≤ 50000) (he : ∀ x ∈ xs, Ev te ((Γ.set i none).set i (some (D K (.int x)))) M1 (D K (.int (g x))) M1) : EvN (tLc (iTup K tl) (gName i) tYes te [i]) Γ M (MInts K (xs.map g)) M1 := by
  have lc := evn_lcT (K := K) (xs := xs) (R := fun n => D K (.int n)) (G := fun q => D K (.int (g q))) (i := i) (M := M) (M1 := M1) (Γ := Γ) (t := tYes) (te := te) (fun _ => true) (h.weak (le_Tm (f := PyData.int))) hz (fun _ _ => et_yes) fun x hx _ => he x hx
  rw [filter_true] at lc
  exact lc.is (by rw [MInts, List.map_map]; rfl)
theorem ev_tupNg {xs : List Int} (h : EvN te Γ M (MInts K xs) M1) : Ev (tCB (rTuple K) (tCons te tNil)) Γ M (NT xs) M1 := ev_cb (ea_cons (ev_newL (K := K) h) ea_nil) rc_tupleNL
theorem ev_tupDg {xs : List Int} (h : EvN te Γ M (MInts K xs) M1) : Ev (tCB (rTuple K) (tCons te tNil)) Γ M (D K (dT xs)) M1 := (ev_tupNg h).weak nt_D
theorem ps_mono {α : Type} {R R' : α → MP} : ∀ {l : List α} {vs : List V}, (∀ x ∈ l, (R x).le (R' x)) → Ps F vs (l.map R) → Ps F vs (l.map R')
  | [], vs, _, h => h
  | x :: l, _, le, h => by
    cases h with
    | cons a b => exact .cons (le x (by simp) _ _ a) (ps_mono (fun y hy => le y (List.mem_cons_of_mem _ hy)) b)
theorem PLi_mono {α : Type} {R R' : α → MP} {l : List α} (le : ∀ x ∈ l, (R x).le (R' x)) : (PLi K (l.map R)).le (PLi K (l.map R')) := fun F v ⟨a, xs, e, s, q⟩ => ⟨a, xs, e, s, ps_mono le q⟩
theorem PTu_mono {α : Type} {R R' : α → MP} {l : List α} (le : ∀ x ∈ l, (R x).le (R' x)) : (PTu K (l.map R)).le (PTu K (l.map R')) := fun F v ⟨a, xs, e, s, q⟩ => ⟨a, xs, e, s, ps_mono le q⟩
theorem PTu2_le {P1 P2 Q1 Q2 : MP} (h1 : P1.le Q1) (h2 : P2.le Q2) : (PTu K [P1, P2]).le (PTu K [Q1, Q2]) := fun F v ⟨a, xs, e, s, q⟩ => ⟨a, xs, e, s, by
  cases q with
  | cons a b => cases b with
    | cons c d => cases d; exact .cons (h1 _ _ a) (.cons (h2 _ _ c) .nil)⟩
end
end Hq
/-! ### a comprehension with three generators -/
namespace L2
open PySem PySem.Spec PyProof.Rows
/-- the turn of a clause with a further clause behind it -/
def OutIs (e : Expr) (c : Nat) (tg it1 : Expr) (fs : List Expr) (nx : Expr) : Prop := ∀ (it acc : Value) (env : Env), compTurn e c it acc env = (do
  standAt it1.pos
  match ← pyNext it with
  | none => pure (.done .next)
  | some v => letOwnedTupleGo tg it v; assign tg env v
              let mut ok := true
              for f in fs do
                if ok then ok ← isTrue f env (eval f env)
              if ok then
                let x ← eval nx env
                standAt nx.pos
                let y ← foldedSetIterable nx env x
                let _ ← runOwn (.compStart e (c + 1) (← holding [y] (pyIter y)) acc env) env
              again (.compLoop e c it acc env))
/-- the turn of the last clause -/
def InIs (e : Expr) (c : Nat) (tg it1 : Expr) (fs : List Expr) (el : Expr) : Prop := ∀ (it acc : Value) (env : Env), compTurn e c it acc env = (do
  standAt it1.pos
  match ← pyNext it with
  | none => pure (.done .next)
  | some v => letOwnedTupleGo tg it v; assign tg env v
              let mut ok := true
              for f in fs do
                if ok then ok ← isTrue f env (eval f env)
              if ok then
                (do let _ ← call (.builtin "list.append") [acc, ← eval el env])
              again (.compLoop e c it acc env))
abbrev LC3 (el t0 i0 t1 i1 t2 i2 : Expr) (f0 f1 f2 : List Expr) (sc : Scope) (pos : Pos) : Expr := .ListComp el [⟨t0, i0, f0, 0⟩, ⟨t1, i1, f1, 0⟩, ⟨t2, i2, f2, 0⟩] sc pos
theorem out3_0 {el t0 i0 t1 i1 t2 i2 : Expr} {f0 f1 f2 : List Expr} {sc : Scope} {pos : Pos} : OutIs (LC3 el t0 i0 t1 i1 t2 i2 f0 f1 f2 sc pos) 0 t0 i0 f0 i1 := fun _ _ _ => rfl
theorem out3_1 {el t0 i0 t1 i1 t2 i2 : Expr} {f0 f1 f2 : List Expr} {sc : Scope} {pos : Pos} : OutIs (LC3 el t0 i0 t1 i1 t2 i2 f0 f1 f2 sc pos) 1 t1 i1 f1 i2 := fun _ _ _ => rfl
theorem in3 {el t0 i0 t1 i1 t2 i2 : Expr} {f0 f1 f2 : List Expr} {sc : Scope} {pos : Pos} : InIs (LC3 el t0 i0 t1 i1 t2 i2 f0 f1 f2 sc pos) 2 t2 i2 f2 el := fun _ _ _ => rfl
section
variable {prog : Program} {w : World} {A : Around} {R : Result → Shared → Prop} {s : Shared} {el0 tg it1 nx el : Expr} {G : List Comprehension} {sc0 : Scope} {pos0 : Pos} {c : Nat} {fs : List Expr} {it acc : Value} {env : Env}
abbrev Nb (prog : Program) (w : World) (A : Around) (env : Env) (R : Result → Shared → Prop) : Value → Shared → Prop := notedBy (model prog w) A env fun e s' => R (.error e) s'
abbrev Tst (fs : List Expr) (env : Env) : Sem Bool := forIn fs true fun c r => if r = true then do let ok ← isTrue c env (eval c env); pure (ForInStep.yield ok) else pure (ForInStep.yield r)
theorem loop_outG (ho : OutIs (.ListComp el0 G sc0 pos0) c tg it1 fs nx) (hs : ∀ x, foldedSetIterable nx env x = pure x) (I : Nat → Shared → Prop)
    (turn : ∀ n s, I n s → wpAny (model prog w) A (pyNext it) (fun r s₁ => match r with
      | none => R (.ok .next) s₁
      | some v => wpAny (model prog w) A (letOwnedTupleGo tg it v) (fun _ s₂ => wpAny (model prog w) A (assign tg env v) (fun _ s₃ => wpAny (model prog w) A (Tst fs env) (fun ok s₄ =>
            if ok = true then wpAny (model prog w) A (eval nx env) (fun x s₅ => wpAny (model prog w) A (pyIter x) (fun z s₆ => codeAny (model prog w) A (.compStart (.ListComp el0 G sc0 pos0) (c + 1) z acc env) (fun r s' => match r with
                | .ok _ => ∃ m, m < n ∧ I m s'
                | .error _ => False) s₆) (Nb prog w A env R) s₅) (Nb prog w A env R) s₄
            else ∃ m, m < n ∧ I m s₄) (Nb prog w A env R) s₃) (Nb prog w A env R) s₂) (Nb prog w A env R) s₁) (Nb prog w A env R) s)
    (n : Nat) (h : I n s) : codeAny (model prog w) A (.compLoop (.ListComp el0 G sc0 pos0) c it acc env) R s := by
  refine codeAny_loop rfl I (fun n s hI => ?_) n h
  show wpAny _ A ((compTurn (.ListComp el0 G sc0 pos0) c it acc env).onRaise (fun x => do noteFrame x env; theTreesLotGoes x)) _ _ s
  refine wpAny_noted ?_
  rw [ho it acc env]
  refine wpAny_bind (wpAny_standAt (wpAny_bind (wpAny_mono (turn n s hI) (fun r s₁ h₁ => ?_) fun _ _ z => z)))
  cases r with
  | none => exact wpAny_pure h₁
  | some v =>
    refine wpAny_bind (wpAny_mono h₁ (fun _ s₂ h₂ => ?_) fun _ _ z => z)
    refine wpAny_bind (wpAny_mono h₂ (fun _ s₃ h₃ => wpAny_bind (wpAny_mono h₃ (fun ok s₄ h₄ => ?_) fun _ _ z => z)) fun _ _ z => z)
    cases ok with
    | false => exact wpAny_pure ⟨rfl, h₄⟩
    | true =>
      refine wpAny_bind (wpAny_mono h₄ (fun x s₅ h₅ => ?_) fun _ _ z => z)
      refine wpAny_bind (wpAny_standAt (wpAny_bind (wpAny_of_eq (hs x) (wpAny_bind (wpAny_holding (wpAny_mono h₅ (fun z s₆ h₆ => ?_) fun _ _ z => z))))))
      refine wpAny_bind (wpAny_runOwn ?_)
      rw [Around.mark_none]
      refine codeAny_mono h₆ fun r s' hr => ?_
      cases r with
      | ok f => first | exact wpAny_pure ⟨rfl, hr⟩ | exact wpAny_bind (wpAny_pure (wpAny_pure ⟨rfl, hr⟩))
      | error e => exact hr.elim
theorem loop_inG (ho : InIs (.ListComp el0 G sc0 pos0) c tg it1 fs el) (I : Nat → Shared → Prop)
    (turn : ∀ n s, I n s → wpAny (model prog w) A (pyNext it) (fun r s₁ => match r with
      | none => R (.ok .next) s₁
      | some v => wpAny (model prog w) A (letOwnedTupleGo tg it v) (fun _ s₂ => wpAny (model prog w) A (assign tg env v) (fun _ s₃ => wpAny (model prog w) A (Tst fs env) (fun ok s₄ =>
            if ok = true then wpAny (model prog w) A (eval el env) (fun x s₅ => wpAny (model prog w) A (call (.builtin "list.append") [acc, x]) (fun _ s₆ => ∃ m, m < n ∧ I m s₆) (Nb prog w A env R) s₅) (Nb prog w A env R) s₄
            else ∃ m, m < n ∧ I m s₄) (Nb prog w A env R) s₃) (Nb prog w A env R) s₂) (Nb prog w A env R) s₁) (Nb prog w A env R) s)
    (n : Nat) (h : I n s) : codeAny (model prog w) A (.compLoop (.ListComp el0 G sc0 pos0) c it acc env) R s := by
  refine codeAny_loop rfl I (fun n s hI => ?_) n h
  show wpAny _ A ((compTurn (.ListComp el0 G sc0 pos0) c it acc env).onRaise (fun x => do noteFrame x env; theTreesLotGoes x)) _ _ s
  refine wpAny_noted ?_
  rw [ho it acc env]
  refine wpAny_bind (wpAny_standAt (wpAny_bind (wpAny_mono (turn n s hI) (fun r s₁ h₁ => ?_) fun _ _ z => z)))
  cases r with
  | none => exact wpAny_pure h₁
  | some v =>
    refine wpAny_bind (wpAny_mono h₁ (fun _ s₂ h₂ => ?_) fun _ _ z => z)
    refine wpAny_bind (wpAny_mono h₂ (fun _ s₃ h₃ => wpAny_bind (wpAny_mono h₃ (fun ok s₄ h₄ => ?_) fun _ _ z => z)) fun _ _ z => z)
    cases ok with
    | false => exact wpAny_pure ⟨rfl, h₄⟩
    | true => exact wpAny_bind (wpAny_bind (wpAny_mono h₄ (fun x s₅ h₅ => wpAny_bind (wpAny_mono h₅ (fun _ s₆ h₆ => wpAny_pure (wpAny_pure ⟨rfl, h₆⟩)) fun _ _ z => z)) fun _ _ z => z))
end
section
variable {prog : Program} {w : World} {A : Around} {R : Result → Shared → Prop} {s : Shared} {el t0 i0 t1 i1 t2 i2 : Expr} {f0 f1 f2 : List Expr} {sc : Scope} {pos : Pos} {it acc : Value} {env : Env}
theorem start3_1 (h0 : codeAny (model prog w) A (.compLoop (LC3 el t0 i0 t1 i1 t2 i2 f0 f1 f2 sc pos) 1 it acc env) R s)
    (h : wpAny (model prog w) A (pyIter it) (fun z s' => codeAny (model prog w) A (.compLoop (LC3 el t0 i0 t1 i1 t2 i2 f0 f1 f2 sc pos) 1 z acc env) R s') (Nb prog w A env R) s) :
    codeAny (model prog w) A (.compStart (LC3 el t0 i0 t1 i1 t2 i2 f0 f1 f2 sc pos) 1 it acc env) R s := by
  refine codeAny_of_tree ?_
  show wpAny _ _ ((compStart (LC3 el t0 i0 t1 i1 t2 i2 f0 f1 f2 sc pos) 1 it acc env).onRaise (fun x => do noteFrame x env; standAt theWindowsPlace)) _ _ s
  refine wpAny_notedAt ?_
  unfold compStart
  show wpAny _ _ (ask >>= _) _ _ s
  refine wpAny_bind (wpAny_askSetting (wpAny_ite ?_))
  split
  · first | exact wpAny_bind (wpAny_pure (wpAny_pure (And.intro rfl h0))) | exact wpAny_pure (And.intro rfl h0)
  · first
      | exact wpAny_bind (wpAny_rule (wpAny_bind (wpAny_standAt (wpAny_bind (wpAny_mono h (fun z s' q => wpAny_pure (And.intro rfl q)) fun _ _ x => x)))))
      | (refine wpAny_bind (wpAny_rule ?_); show wpAny _ _ (standAt i1.pos >>= _) _ _ s; exact wpAny_bind (wpAny_standAt (wpAny_bind (wpAny_mono h (fun z s' q => wpAny_pure (And.intro rfl q)) fun _ _ x => x))))
theorem start3_2 (h0 : codeAny (model prog w) A (.compLoop (LC3 el t0 i0 t1 i1 t2 i2 f0 f1 f2 sc pos) 2 it acc env) R s)
    (h : wpAny (model prog w) A (pyIter it) (fun z s' => codeAny (model prog w) A (.compLoop (LC3 el t0 i0 t1 i1 t2 i2 f0 f1 f2 sc pos) 2 z acc env) R s') (Nb prog w A env R) s) :
    codeAny (model prog w) A (.compStart (LC3 el t0 i0 t1 i1 t2 i2 f0 f1 f2 sc pos) 2 it acc env) R s := by
  refine codeAny_of_tree ?_
  show wpAny _ _ ((compStart (LC3 el t0 i0 t1 i1 t2 i2 f0 f1 f2 sc pos) 2 it acc env).onRaise (fun x => do noteFrame x env; standAt theWindowsPlace)) _ _ s
  refine wpAny_notedAt ?_
  unfold compStart
  show wpAny _ _ (ask >>= _) _ _ s
  refine wpAny_bind (wpAny_askSetting (wpAny_ite ?_))
  split
  · first | exact wpAny_bind (wpAny_pure (wpAny_pure (And.intro rfl h0))) | exact wpAny_pure (And.intro rfl h0)
  · first
      | exact wpAny_bind (wpAny_rule (wpAny_bind (wpAny_standAt (wpAny_bind (wpAny_mono h (fun z s' q => wpAny_pure (And.intro rfl q)) fun _ _ x => x)))))
      | (refine wpAny_bind (wpAny_rule ?_); show wpAny _ _ (standAt i2.pos >>= _) _ _ s; exact wpAny_bind (wpAny_standAt (wpAny_bind (wpAny_mono h (fun z s' q => wpAny_pure (And.intro rfl q)) fun _ _ x => x))))
end
/-- a clause behind another one: its loop, from which Nx is reached -/
def tCl (wi : TI) (g : TG) (tt : TT) (vs : List Nat) (body : St → Hp → (Hp → Prop) → Prop) : St → Hp → (Hp → Prop) → Prop := fun σ H Nx => wi σ H fun J H1 => ∃ W : Nat → Nat → Hp → Prop, (∃ m, W 0 m H1) ∧ ∀ j k H, W j k H →
  (J.stop j H ∧ Nx H) ∨ (J.go j H ∧ ∃ Nx1 : Hp → Prop, (∀ H', Nx1 H' → ∃ k', k' < k ∧ W (j + 1) k' H') ∧ ∀ x H', J.yld j H x H' → g x (wipe σ vs) H' fun σ3 H5 => wipe σ3 vs = wipe σ vs ∧ tt σ3 H5 fun b H6 => if b = true then body σ3 H6 Nx1 else Nx1 H6)
def bIn (te : TE) (D : Addr) : St → Hp → (Hp → Prop) → Prop := fun σ H Nx => te σ H fun y H7 => ∃ acc, H7 D = some (.lst acc) ∧ acc.length < sizeLine ∧ Nx (upd H7 D (.lst (acc ++ [y])))
section
variable {X : Cx} {s3 : Shared} {H3 : Hp} {scope : Scope} {ce : Env} {fp : List Addr}
/-- ok: what a body of a clause leaves -/
abbrev okR (Φ : Shared → Prop) : Result → Shared → Prop := fun r s' => match r with | .ok _ => Φ s' | .error _ => False
theorem lvl {el0 tg ic : Expr} {G : List Comprehension} {sc0 : Scope} {pos0 : Pos} {c : Nat} {fs : List Expr} {wi : TI} {g : TG} {tt : TT} {vs : List Nat} {body : St → Hp → (Hp → Prop) → Prop} {D : Addr} {Bd : (Shared → Prop) → Shared → Prop} {Φ : Shared → Prop}
    (hc : X.calm = true)
    (hl : ∀ (it : Addr) (s : Shared) (I : Nat → Shared → Prop), (∀ n s, I n s → wpAny (model X.prog X.w) X.A (pyNext (.ref it)) (fun r s₁ => match r with
      | none => Φ s₁
      | some v => wpAny (model X.prog X.w) X.A (letOwnedTupleGo tg (.ref it) v) (fun _ s₂ => wpAny (model X.prog X.w) X.A (assign tg ce v) (fun _ s₃ => wpAny (model X.prog X.w) X.A (Tst fs ce) (fun ok s₄ =>
            if ok = true then Bd (fun s' => ∃ m, m < n ∧ I m s') s₄ else ∃ m, m < n ∧ I m s₄) (fun _ _ => False) s₃) (fun _ _ => False) s₂) (fun _ _ => False) s₁) (fun _ _ => False) s) → ∀ n, I n s → codeAny (model X.prog X.w) X.A (.compLoop (.ListComp el0 G sc0 pos0) c (.ref it) (.ref D) ce) (okR Φ) s)
    (hst : ∀ (it : Addr) (s : Shared), codeAny (model X.prog X.w) X.A (.compLoop (.ListComp el0 G sc0 pos0) c (.ref it) (.ref D) ce) (okR Φ) s → wpAny (model X.prog X.w) X.A (pyIter (.ref it)) (fun z s' => codeAny (model X.prog X.w) X.A (.compLoop (.ListComp el0 G sc0 pos0) c z (.ref D) ce) (okR Φ) s') (Nb X.prog X.w X.A ce (okR Φ)) s → codeAny (model X.prog X.w) X.A (.compStart (.ListComp el0 G sc0 pos0) c (.ref it) (.ref D) ce) (okR Φ) s)
    (pi : PI (X.blk s3 H3 scope ce fp) tg ic wi) (pg : PG (X.blk s3 H3 scope ce fp) tg g) (pt : PTs (X.blk s3 H3 scope ce fp) fs tt)
    (hb : ∀ {P : List (Addr × Obj)} {σ : St} {H : Hp} {s : Shared} {Nx : Hp → Prop} {Ψ : Shared → Prop}, Inv (X.blk s3 H3 scope ce fp) P σ H s → body σ H Nx → (∀ {σ9 : St} {s' : Shared} {H' : Hp}, Inv (X.blk s3 H3 scope ce fp) P σ9 H' s' → σ.length = σ9.length → (∀ (j : Nat) v, (wipe σ vs)[j]? = some (some v) → σ9[j]? = some (some v)) → Nx H' → Ψ s') → Bd Ψ s)
    {P : List (Addr × Obj)} {σ : St} {H : Hp} {s : Shared} {Nx : Hp → Prop} (I0 : Inv (X.blk s3 H3 scope ce fp) P σ H s) (q : tCl wi g tt vs body σ H Nx)
    (fin : ∀ {σ9 : St} {s' : Shared} {H' : Hp}, Inv (X.blk s3 H3 scope ce fp) P σ9 H' s' → σ.length = σ9.length → (∀ (j : Nat) v, (wipe σ vs)[j]? = some (some v) → σ9[j]? = some (some v)) → Nx H' → Φ s') :
    wpAny (model X.prog X.w) X.A (eval ic ce) (fun x s5 => wpAny (model X.prog X.w) X.A (pyIter x) (fun z s6 => codeAny (model X.prog X.w) X.A (.compStart (.ListComp el0 G sc0 pos0) c z (.ref D) ce) (okR Φ) s6) (fun _ _ => False) s5) (fun _ _ => False) s := by
  refine thnF (pi.run P s σ H _ I0 q) fun xv s1 hx => thnF hx fun itv s2 h2 => ?_
  obtain ⟨it, fp1, tn, J, H2, e, I2, T, st2, f2, W, ⟨m, w0⟩, turn⟩ := h2
  subst e
  have stat : ∀ {H' : Hp}, (∀ b ∈ fp1, H' b = none) → ∀ b ∈ fp1, FpOk (X.blk s3 H3 scope ce fp) P H' b := fun hn b hb => ⟨hn b hb, (f2 b hb).2⟩
  have loop : codeAny (model X.prog X.w) X.A (.compLoop (.ListComp el0 G sc0 pos0) c (.ref it) (.ref D) ce) (okR Φ) s2 := by
    refine hl it s2 (fun k s' => ∃ j H', Inv (X.blk s3 H3 scope ce fp) P (wipe σ vs) H' s' ∧ tn j s'.heap ∧ (∀ b ∈ fp1, H' b = none) ∧ W j k H') ?_ m ⟨0, H2, I2.weak (wipe_length _ _) (fun j v e => (wipe_some e).1), st2, fun b hb => (f2 b hb).1, w0⟩
    rintro k s4 ⟨j, H4, I4, st4, n4, w4⟩
    rcases turn j k H4 w4 with ⟨stop, nx⟩ | ⟨go, Nx1, hNx1, step⟩
    · refine thnF (T.done (X.blk s3 H3 scope ce fp) rfl rfl rfl hc j _ s4 (wipe σ vs) H4 (fun _ _ => False) I4 (stat n4) st4 stop) fun r s5 ⟨hr, I5⟩ => ?_
      subst hr
      exact fin I5 (wipe_length σ vs).symm (fun j v e => e) nx
    · refine thnF (T.item (X.blk s3 H3 scope ce fp) rfl rfl rfl hc j _ s4 (wipe σ vs) H4 (fun _ _ => False) I4 (stat n4) st4 go) fun r s5 ⟨u, hr, h5⟩ => ?_
      subst hr
      refine thnF h5 fun _ s6 ⟨x, H6, I6, r6, y6, st6, n6⟩ => ?_
      have I6' := I6.pinned (stat n6) (T.obj _ _ st6)
      refine thnF (pg.run _ s6 (wipe σ vs) H6 x u _ I6' r6 (step x H6 y6)) fun _ s7 ⟨σ7, H7, I7, hw7, q7⟩ => ?_
      refine thnF (pt.run _ s7 σ7 H7 _ I7 q7) fun b s8 ⟨H8, I8, q8⟩ => ?_
      have fin1 : ∀ {σ9 : St} {s' : Shared} {H' : Hp}, Inv (X.blk s3 H3 scope ce fp) (P ++ pinsAt fp1 s6.heap) σ9 H' s' → σ7.length = σ9.length → (∀ (j : Nat) v, (wipe σ7 vs)[j]? = some (some v) → σ9[j]? = some (some v)) → Nx1 H' →
          ∃ m, m < k ∧ ∃ j H', Inv (X.blk s3 H3 scope ce fp) P (wipe σ vs) H' s' ∧ tn j s'.heap ∧ (∀ b ∈ fp1, H' b = none) ∧ W j m H' := fun {σ9 s' H'} I' hln hk nx => by
        obtain ⟨m', hm, w'⟩ := hNx1 H' nx
        have pin' : ∀ b ∈ fp1, ∀ o, s6.heap.get? b = some o → s'.heap.get? b = some o ∧ H' b = none := fun b hb o e =>
          let z := I'.pin (b, o) (List.mem_append_right _ (List.mem_append_right _ (mem_pinsAt hb e)))
          ⟨z.1, z.2.1⟩
        refine ⟨m', hm, j + 1, H', I'.unpinned.weak (by rw [← hln, ← hw7, wipe_length]) (fun j v e => hk j v (by rw [hw7]; exact e)), T.keep _ _ _ st6 fun b hb o e => (pin' b hb o e).1, fun b hb => ?_, w'⟩
        obtain ⟨o, e, _⟩ := T.obj _ _ st6 b hb
        exact (pin' b hb o e).2
      cases b with
      | false =>
        simp only [Bool.false_eq_true, if_false] at q8 ⊢
        exact fin1 I8 rfl (fun j v e => (wipe_some e).1) q8
      | true =>
        simp only [if_true] at q8 ⊢
        exact hb I8 q8 fin1
  exact hst it s2 loop (T.self X.A 0 _ _ _ st2 loop)
end
section
variable {X : Cx}
/-- [elt for t0 in i0 for t1 in i1 for t2 in i2 if ..] -/
def tLc3 (wi : TI) (g : TG) (tt : TT) (wi1 : TI) (g1 : TG) (tt1 : TT) (wi2 : TI) (g2 : TG) (tt2 : TT) (te : TE) (vs vs1 vs2 : List Nat) : TE := fun σ H Q => wi σ H fun J H1 => ∀ D, H1 D = none → ∃ W : Nat → Nat → Hp → Prop, (∃ m, W 0 m (upd H1 D (.lst []))) ∧ ∀ i m H, W i m H →
  (J.stop i H ∧ Q (.ref D) H) ∨ (J.go i H ∧ ∃ Nx : Hp → Prop, (∀ H', Nx H' → ∃ m', m' < m ∧ W (i + 1) m' H') ∧ ∀ x H', J.yld i H x H' → g x (wipe σ vs) H' fun σ2 H2 => wipe σ2 vs = wipe σ vs ∧ tt σ2 H2 fun b H3 =>
    if b = true then tCl wi1 g1 tt1 vs1 (tCl wi2 g2 tt2 vs2 (bIn te D)) σ2 H3 Nx else Nx H3)
theorem lc3_core {pins : List (Addr × Obj)} {s : Shared} {σ : St} {H : Hp} {Q : VK} {el t0 i0 t1 i1 t2 i2 : Expr} {f0 f1 f2 : List Expr} {scope : Scope} {own : List (Str × Nat)} {vs1 vs2 : List Nat} {pos pos' : Pos} {wi wi1 wi2 : TI} {g g1 g2 : TG} {tt tt1 tt2 : TT} {te : TE} {use : Option (Value → Sem Unit)} {Qf : Value → Shared → Prop}
    (hc : X.calm = true) (hN : X.N.Nodup) (I : Inv X pins σ H s) (hi : PI X t0 i0 wi) (ok : BlkOk X.N X.env.scope scope own) (hv : ∀ i ∈ vs1, i ∈ own.map (·.2)) (hv2 : ∀ i ∈ vs2, i ∈ vs1)
    (hg : ∀ (s : Shared) (H : Hp) (C : Addr) (cl : List (Str × Addr)) (fp : List Addr), PG (X.blk s H scope (compEnvC scope cl C X.env) fp) t0 g) (ht : ∀ (s : Shared) (H : Hp) (C : Addr) (cl : List (Str × Addr)) (fp : List Addr), PTs (X.blk s H scope (compEnvC scope cl C X.env) fp) f0 tt)
    (hi1 : ∀ (s : Shared) (H : Hp) (C : Addr) (cl : List (Str × Addr)) (fp : List Addr), PI (X.blk s H scope (compEnvC scope cl C X.env) fp) t1 i1 wi1) (hg1 : ∀ (s : Shared) (H : Hp) (C : Addr) (cl : List (Str × Addr)) (fp : List Addr), PG (X.blk s H scope (compEnvC scope cl C X.env) fp) t1 g1) (ht1 : ∀ (s : Shared) (H : Hp) (C : Addr) (cl : List (Str × Addr)) (fp : List Addr), PTs (X.blk s H scope (compEnvC scope cl C X.env) fp) f1 tt1)
    (hi2 : ∀ (s : Shared) (H : Hp) (C : Addr) (cl : List (Str × Addr)) (fp : List Addr), PI (X.blk s H scope (compEnvC scope cl C X.env) fp) t2 i2 wi2) (hg2 : ∀ (s : Shared) (H : Hp) (C : Addr) (cl : List (Str × Addr)) (fp : List Addr), PG (X.blk s H scope (compEnvC scope cl C X.env) fp) t2 g2) (ht2 : ∀ (s : Shared) (H : Hp) (C : Addr) (cl : List (Str × Addr)) (fp : List Addr), PTs (X.blk s H scope (compEnvC scope cl C X.env) fp) f2 tt2)
    (he : ∀ (s : Shared) (H : Hp) (C : Addr) (cl : List (Str × Addr)) (fp : List Addr), PE (X.blk s H scope (compEnvC scope cl C X.env) fp) el te) (hs : ∀ x, foldedSetIterable i0 X.env x = pure x) (hs1 : ∀ env x, foldedSetIterable i1 env x = pure x) (hs2 : ∀ env x, foldedSetIterable i2 env x = pure x)
    (h : tLc3 wi g tt wi1 g1 tt1 wi2 g2 tt2 te (own.map (·.2)) vs1 vs2 σ H Q)
    (hRR : ∀ D C s' m H', Inv X pins σ H' s' → Q (.ref D) H' → s'.heap.Ns C m → FpOk X pins H' C → compPost (model X.prog X.w) X.A X.xe use Qf (.ref D) C (.ok .next) s') :
    wpAny (model X.prog X.w) X.A (comprehension (LC3 el t0 i0 t1 i1 t2 i2 f0 f1 f2 scope pos) scope X.env pos' (newList []) false (eval i0 X.env) use) Qf X.xe s := by
  have hfree : ∀ y ∈ scope.names, y.2 = .free → ∃ c, X.env.cells.lookup y.1 = some c := fun y hy e => by
    rcases ok.free y hy e with k | k
    · exact I.ok.has _ (.inl k)
    · exact I.ok.has _ (.inr k)
  refine wpAny_comprehension_free (use := use) rfl hs (closure_ok hfree) ok.kind (fun y hy e => by rw [ok.uniq y hy, e]) (thn (hi.run pins s σ H _ I h) fun xv s1 hx => thn hx fun itv s2 h2 => ?_)
  obtain ⟨it, fp, tn, J, H2, e, I2, T, st2, f2', q⟩ := h2
  subst e
  refine wpAny_newObj_type (newEnv_comp ?_) (by show 0 ≤ sizeLine; decide)
  generalize hD : s2.heap.objs.size = D
  obtain ⟨W, ⟨m0, w0⟩, turn⟩ := q D (I2.hok.fresh (Nat.le_of_eq hD))
  generalize hs3 : ({ s2 with heap := s2.heap.push { cls := .type "list", data := .seq ([] : List Value).toArray } } : Shared) = s3
  have I3 : Inv X pins σ (upd H2 D (.lst [])) s3 := by
    rw [← hs3]
    refine I2.laid (t' := s2.toks) (fun b o e => Heap.get?_push_of_some _ e) (Nat.le_of_eq hD) ⟨Nat.zero_le _, [], 0, .nil, ?_⟩
    rw [← hD]; exact Heap.get?_push_size _ rfl
  have h3 : s3.heap = s2.heap.push { cls := .type "list", data := .seq ([] : List Value).toArray } := by rw [← hs3]
  have f3 : ∀ b ∈ fp, FpOk X pins (upd H2 D (.lst [])) b ∧ b < s3.heap.objs.size := fun b hb => by
    obtain ⟨o, e, _⟩ := T.obj _ _ st2 b hb
    have hlt := Heap.lt_size e
    refine ⟨⟨?_, (f2' b hb).2⟩, by rw [h3, Heap.size_push]; exact Nat.lt_succ_of_lt hlt⟩
    rw [upd_ne (by rw [← hD]; exact Nat.ne_of_lt hlt)]; exact (f2' b hb).1
  have st3 : tn 0 s3.heap := T.keep _ _ _ st2 fun b _ o e => by rw [h3]; exact Heap.get?_push_of_some _ e
  have I4 := block_start I3 ok hN f3
  have pg := hg s3 (upd H2 D (.lst [])) s3.heap.objs.size (cellsFrom (s3.heap.objs.size + 1) scope.names (cloFrom X.env.cells scope.names [])) fp
  have pt := ht s3 (upd H2 D (.lst [])) s3.heap.objs.size (cellsFrom (s3.heap.objs.size + 1) scope.names (cloFrom X.env.cells scope.names [])) fp
  have pe := he s3 (upd H2 D (.lst [])) s3.heap.objs.size (cellsFrom (s3.heap.objs.size + 1) scope.names (cloFrom X.env.cells scope.names [])) fp
  have pi1 := hi1 s3 (upd H2 D (.lst [])) s3.heap.objs.size (cellsFrom (s3.heap.objs.size + 1) scope.names (cloFrom X.env.cells scope.names [])) fp
  have pg1 := hg1 s3 (upd H2 D (.lst [])) s3.heap.objs.size (cellsFrom (s3.heap.objs.size + 1) scope.names (cloFrom X.env.cells scope.names [])) fp
  have pt1 := ht1 s3 (upd H2 D (.lst [])) s3.heap.objs.size (cellsFrom (s3.heap.objs.size + 1) scope.names (cloFrom X.env.cells scope.names [])) fp
  have pi2 := hi2 s3 (upd H2 D (.lst [])) s3.heap.objs.size (cellsFrom (s3.heap.objs.size + 1) scope.names (cloFrom X.env.cells scope.names [])) fp
  have pg2 := hg2 s3 (upd H2 D (.lst [])) s3.heap.objs.size (cellsFrom (s3.heap.objs.size + 1) scope.names (cloFrom X.env.cells scope.names [])) fp
  have pt2 := ht2 s3 (upd H2 D (.lst [])) s3.heap.objs.size (cellsFrom (s3.heap.objs.size + 1) scope.names (cloFrom X.env.cells scope.names [])) fp
  show codeAny _ _ (.compStart (LC3 el t0 i0 t1 i1 t2 i2 f0 f1 f2 scope pos) 0 (.ref it) (.ref D) (compEnvC scope (cellsFrom (s3.heap.objs.size + 1) scope.names (cloFrom X.env.cells scope.names [])) s3.heap.objs.size X.env)) (compPost (model X.prog X.w) X.A X.xe use Qf (.ref D) s3.heap.objs.size) { s3 with heap := pushCells (s3.heap.push { cls := .type "dict", data := .dict #[] }) scope.names }
  have nfp : ∀ b ∈ fp, (upd H2 D (.lst [])) b = none := fun b hb => (f3 b hb).1.1
  generalize hce : compEnvC scope (cellsFrom (s3.heap.objs.size + 1) scope.names (cloFrom X.env.cells scope.names [])) s3.heap.objs.size X.env = ce at I4 pg pt pe pi1 pg1 pt1 pi2 pg2 pt2 ⊢
  have cL : ce.locals = s3.heap.objs.size := by subst hce; rfl
  generalize hH3 : upd H2 D (.lst []) = H3 at I3 I4 pg pt pe pi1 pg1 pt1 pi2 pg2 pt2 w0 nfp f3
  generalize hs4 : ({ s3 with heap := pushCells (s3.heap.push { cls := .type "dict", data := .dict #[] }) scope.names } : Shared) = s4 at I4 ⊢
  have st4 : tn 0 s4.heap := T.keep _ _ _ st3 fun b _ o e => by rw [← hs4]; exact pushCells_keeps _ _ _ _ (Heap.get?_push_of_some _ e)
  have stat : ∀ {σ' : St} {H' : Hp} {s' : Shared}, Inv (X.blk s3 H3 scope ce fp) [] σ' H' s' → (∀ b ∈ fp, H' b = none) → ∀ b ∈ fp, FpOk (X.blk s3 H3 scope ce fp) [] H' b := fun {σ' H' s'} I' hn b hb =>
    ⟨hn b hb, (I'.ok.exf b hb).1, I'.ok.exfs b hb, .inl hb, fun x c e => (I'.ok.exf b hb).2 x c e, fun p hp => absurd (show p ∈ ([] : List (Addr × Obj)) ++ [] from hp) (by simp)⟩
  have loop : codeAny (model X.prog X.w) X.A (.compLoop (LC3 el t0 i0 t1 i1 t2 i2 f0 f1 f2 scope pos) 0 (.ref it) (.ref D) ce) (compPost (model X.prog X.w) X.A X.xe use Qf (.ref D) s3.heap.objs.size) s4 := by
    refine loop_outG out3_0 (hs1 ce) (fun n s' => ∃ i H', Inv (X.blk s3 H3 scope ce fp) [] (wipe σ (own.map (·.2))) H' s' ∧ tn i s'.heap ∧ (∀ b ∈ fp, H' b = none) ∧ W i n H') ?_ m0 ⟨0, H3, I4, st4, nfp, w0⟩
    rintro n s5 ⟨i, H5, I5, st5, n5, w5⟩
    rcases turn i n H5 w5 with ⟨stop, qq⟩ | ⟨go, Nx, hNx, step⟩
    · refine thnF (T.done (X.blk s3 H3 scope ce fp) rfl rfl rfl hc i [] s5 _ H5 (fun _ _ => False) I5 (stat I5 n5) st5 stop) fun r s6 ⟨hr, I6⟩ => ?_
      subst hr
      have I7 : Inv X pins σ H5 s6 := I3.call' (ch := fp) I6.os I6.base I6.hok I6.bare fun b hb => ⟨(f3 b hb).1.2.2.2.1, (f3 b hb).1.2.1, (f3 b hb).1.2.2.2.2.1, (f3 b hb).1.2.2.2.2.2⟩
      have nC : H5 s3.heap.objs.size = none := by
        have z : H5 ce.locals = none := I6.free
        rw [cL] at z; exact z
      obtain ⟨m, hn, _⟩ := I6.loc
      have hn : s6.heap.Ns ce.locals m := hn
      rw [cL] at hn
      exact hRR D s3.heap.objs.size s6 m H5 I7 qq hn (I3.fpOk (Nat.le_refl _) nC)
    · refine thnF (T.item (X.blk s3 H3 scope ce fp) rfl rfl rfl hc i [] s5 _ H5 (fun _ _ => False) I5 (stat I5 n5) st5 go) fun r s6 ⟨u, hr, h6⟩ => ?_
      subst hr
      refine thnF h6 fun _ s7 ⟨x, H7, I7, r7, y7, st7, n7⟩ => ?_
      refine thnF (pg.run _ s7 _ H7 x u _ (I7.pinned (stat I7 n7) (T.obj _ _ st7)) r7 (step x H7 y7)) fun _ s8 ⟨σ8, H8, I8, hw8, q8⟩ => ?_
      refine thnF (pt.run _ s8 σ8 H8 _ I8 q8) fun b s9 ⟨H9, I9, q9⟩ => ?_
      have fin : ∀ {σ9 : St} {s' : Shared} {H' : Hp}, Inv (X.blk s3 H3 scope ce fp) ([] ++ pinsAt fp s7.heap) σ9 H' s' → σ8.length = σ9.length → (∀ (j : Nat) v, (wipe σ8 (own.map (·.2)))[j]? = some (some v) → σ9[j]? = some (some v)) → Nx H' →
          ∃ m, m < n ∧ ∃ i H', Inv (X.blk s3 H3 scope ce fp) [] (wipe σ (own.map (·.2))) H' s' ∧ tn i s'.heap ∧ (∀ b ∈ fp, H' b = none) ∧ W i m H' := fun {σ9 s' H'} I' hln hk nx => by
        obtain ⟨m', hm, w'⟩ := hNx H' nx
        have pin' : ∀ b ∈ fp, ∀ o, s7.heap.get? b = some o → s'.heap.get? b = some o ∧ H' b = none := fun b hb o e =>
          let z := I'.pin (b, o) (List.mem_append_right _ (List.mem_append_right _ (mem_pinsAt hb e)))
          ⟨z.1, z.2.1⟩
        refine ⟨m', hm, i + 1, H', (I'.unpinned (pins := [])).weak (by rw [← hln, ← hw8, wipe_length]) (fun j v e => hk j v (by rw [hw8]; exact e)), T.keep _ _ _ st7 fun b hb o e => (pin' b hb o e).1, fun b hb => ?_, w'⟩
        obtain ⟨o, e, _⟩ := T.obj _ _ st7 b hb
        exact (pin' b hb o e).2
      cases b with
      | false =>
        simp only [Bool.false_eq_true, if_false] at q9 ⊢
        exact fin I9 rfl (fun j v e => (wipe_some e).1) q9
      | true =>
        simp only [if_true] at q9 ⊢
        have sub : ∀ {us vs : List Nat} {τ : St} {j : Nat} {v : V}, (∀ i ∈ vs, i ∈ us) → (wipe τ us)[j]? = some (some v) → (wipe τ vs)[j]? = some (some v) := fun {us vs τ j v} hsub e => by
          obtain ⟨e1, e2⟩ := wipe_some e
          rw [wipe_out fun z => e2 (hsub j z)]; exact e1
        refine thnF (lvl (X := X) (el0 := el) (G := [⟨t0, i0, f0, 0⟩, ⟨t1, i1, f1, 0⟩, ⟨t2, i2, f2, 0⟩]) (sc0 := scope) (pos0 := pos) (Φ := fun s' => ∃ m, m < n ∧ ∃ i H', Inv (X.blk s3 H3 scope ce fp) [] (wipe σ (own.map (·.2))) H' s' ∧ tn i s'.heap ∧ (∀ b ∈ fp, H' b = none) ∧ W i m H') (D := D) (c := 1) (vs := vs1) (body := tCl wi2 g2 tt2 vs2 (bIn te D)) (Bd := fun Ψ s => wpAny (model X.prog X.w) X.A (eval i2 ce) (fun x s5 => wpAny (model X.prog X.w) X.A (pyIter x) (fun z s6 => codeAny (model X.prog X.w) X.A (.compStart (LC3 el t0 i0 t1 i1 t2 i2 f0 f1 f2 scope pos) 2 z (.ref D) ce) (okR Ψ) s6) (fun _ _ => False) s5) (fun _ _ => False) s)
          hc (fun it1 s' I hI n hn => loop_outG out3_1 (hs2 ce) I (fun n s hh => ?_) n hn) (fun it1 s' a b => start3_1 a b) pi1 pg1 pt1 (fun {P σ' H' s' Nx' Ψ} I' bq fin' => ?_) I9 q9 (fun I' hln hk nx => fin I' hln (fun j v e => hk j v (sub hv e)) nx)) fun x s' hx => thnF hx fun z s6 h6 => h6
        · refine thnF (hI n s hh) fun r s1 h1 => ?_
          cases r with
          | none => exact h1
          | some v => exact thnF h1 fun _ s2 h2 => thnF h2 fun _ s3 h3 => thnF h3 fun ok s4 h4 => match ok, h4 with
              | false, h4 => h4
              | true, h4 => thnF h4 fun x s5 h5 => thnF h5 fun z s6 h6 => h6
        · refine (lvl (X := X) (el0 := el) (G := [⟨t0, i0, f0, 0⟩, ⟨t1, i1, f1, 0⟩, ⟨t2, i2, f2, 0⟩]) (sc0 := scope) (pos0 := pos) (D := D) (c := 2) (vs := vs2) (body := bIn te D) (Φ := Ψ) (Bd := fun Ψ s => wpAny (model X.prog X.w) X.A (eval el ce) (fun x s5 => wpAny (model X.prog X.w) X.A (call (.builtin "list.append") [.ref D, x]) (fun _ s6 => Ψ s6) (fun _ _ => False) s5) (fun _ _ => False) s)
            hc (fun it1 s' I hI n hn => loop_inG in3 I (fun n s hh => ?_) n hn) (fun it1 s' a b => start3_2 a b) pi2 pg2 pt2 (fun {P2 σ2 H2 s2 Nx2 Ψ2} I2 bq2 fin2 => ?_) I' bq (fun I' hln hk nx => fin' I' hln (fun j v e => hk j v (sub hv2 e)) nx))
          · refine thnF (hI n s hh) fun r s1 h1 => ?_
            cases r with
            | none => exact h1
            | some v => exact thnF h1 fun _ s2 h2 => thnF h2 fun _ s3 h3 => thnF h3 fun ok s4 h4 => match ok, h4 with
                | false, h4 => h4
                | true, h4 => thnF h4 fun x s5 h5 => thnF h5 fun z s6 h6 => h6
          · refine thnF (pe.run _ s2 σ2 H2 _ I2 bq2) fun z s33 ⟨yv, H17, I17, r17, acc, hD17, hz17, nx⟩ => ?_
            exact app_ok (X := X.blk s3 H3 scope ce fp) I17 hD17 hz17 r17 fun s18 I18 => fin2 I18 rfl (fun j v e => (wipe_some e).1) nx
  exact codeAny_compStart_list loop (T.self X.A 0 _ _ _ st4 loop)
theorem pe_lc3 {el t0 i0 t1 i1 t2 i2 : Expr} {f0 f1 f2 : List Expr} {scope : Scope} {own : List (Str × Nat)} {vs1 vs2 : List Nat} {pos : Pos} {wi wi1 wi2 : TI} {g g1 g2 : TG} {tt tt1 tt2 : TT} {te : TE}
    (hc : X.calm = true) (hN : X.N.Nodup) (hi : PI X t0 i0 wi) (ok : BlkOk X.N X.env.scope scope own) (hv : ∀ i ∈ vs1, i ∈ own.map (·.2)) (hv2 : ∀ i ∈ vs2, i ∈ vs1)
    (hg : ∀ (s : Shared) (H : Hp) (C : Addr) (cl : List (Str × Addr)) (fp : List Addr), PG (X.blk s H scope (compEnvC scope cl C X.env) fp) t0 g) (ht : ∀ (s : Shared) (H : Hp) (C : Addr) (cl : List (Str × Addr)) (fp : List Addr), PTs (X.blk s H scope (compEnvC scope cl C X.env) fp) f0 tt)
    (hi1 : ∀ (s : Shared) (H : Hp) (C : Addr) (cl : List (Str × Addr)) (fp : List Addr), PI (X.blk s H scope (compEnvC scope cl C X.env) fp) t1 i1 wi1) (hg1 : ∀ (s : Shared) (H : Hp) (C : Addr) (cl : List (Str × Addr)) (fp : List Addr), PG (X.blk s H scope (compEnvC scope cl C X.env) fp) t1 g1) (ht1 : ∀ (s : Shared) (H : Hp) (C : Addr) (cl : List (Str × Addr)) (fp : List Addr), PTs (X.blk s H scope (compEnvC scope cl C X.env) fp) f1 tt1)
    (hi2 : ∀ (s : Shared) (H : Hp) (C : Addr) (cl : List (Str × Addr)) (fp : List Addr), PI (X.blk s H scope (compEnvC scope cl C X.env) fp) t2 i2 wi2) (hg2 : ∀ (s : Shared) (H : Hp) (C : Addr) (cl : List (Str × Addr)) (fp : List Addr), PG (X.blk s H scope (compEnvC scope cl C X.env) fp) t2 g2) (ht2 : ∀ (s : Shared) (H : Hp) (C : Addr) (cl : List (Str × Addr)) (fp : List Addr), PTs (X.blk s H scope (compEnvC scope cl C X.env) fp) f2 tt2)
    (he : ∀ (s : Shared) (H : Hp) (C : Addr) (cl : List (Str × Addr)) (fp : List Addr), PE (X.blk s H scope (compEnvC scope cl C X.env) fp) el te) (hs : ∀ x, foldedSetIterable i0 X.env x = pure x := by intro _; rfl) (hs1 : ∀ env x, foldedSetIterable i1 env x = pure x := by intro _ _; rfl) (hs2 : ∀ env x, foldedSetIterable i2 env x = pure x := by intro _ _; rfl) :
    PE X (.ListComp el [⟨t0, i0, f0, 0⟩, ⟨t1, i1, f1, 0⟩, ⟨t2, i2, f2, 0⟩] scope pos) (tLc3 wi g tt wi1 g1 tt1 wi2 g2 tt2 te (own.map (·.2)) vs1 vs2) := by
  refine ⟨fun pins s σ H Q I h => ?_⟩
  rw [eval_ListComp]
  refine lc3_core hc hN I hi ok hv hv2 hg ht hi1 hg1 ht1 hi2 hg2 ht2 he hs hs1 hs2 h fun D C s' m H' I' q hn f => ⟨m, hn, fun h'' sb => ?_⟩
  obtain ⟨f0, f1, f2, f3, f4, f5⟩ := f
  exact ⟨.ref D, H', I'.turned (t' := s'.toks) (fun b o hb e => (sb.2 b hb).trans e) f0 f1 f3 f4 f5, rfl, q⟩
end
end L2
namespace Hq
open PySem L2
section
variable {K : PySem.W.Frag} {E : Ent} {F H : Hp} {M M1 M2 : Ms} {Γ Γw : Gm} {P : MP} {O : MO} {q D : Addr} {te ta tb tl tl1 tl2 tk td : TE} {t t0 t1 u : TT} {ps : List MP} {i j l : Nat}
/-- a clause over a list that stands -/
theorem cl_L {β : Type} {xs : List β} {R : β → MP} {vs : List Nat} {acc : List MP} {ex : β → List MP} {body : St → Hp → (Hp → Prop) → Prop} {σ : St} {Nx : Hp → Prop}
    (hw : ∀ F σ, EnvOk F σ Γ → EnvOk F (wipe σ vs) Γw) (hww : ∀ σ (x : V), wipe ((wipe σ vs).set i (some x)) vs = wipe σ vs)
    (h : Ev tl Γ ((D, ML acc) :: M) (PLi K (xs.map R)) ((D, ML acc) :: M)) (hB : (acc ++ xs.flatMap ex).length < 100000)
    (hb : ∀ x ∈ xs, ∀ (acc1 : List MP) F1 σ1 H1, (acc1 ++ ex x).length < 100000 → Pt E F1 ((D, ML acc1) :: M) H1 → EnvOk F1 σ1 (Γw.set i (some (R x))) → ∀ Nx1 : Hp → Prop, (∀ F2 H2, Ex F1 F2 → Pt E F2 ((D, ML (acc1 ++ ex x)) :: M) H2 → Nx1 H2) → t σ1 H1 fun b H6 => if b = true then body σ1 H6 Nx1 else Nx1 H6)
    (a : Pt E F ((D, ML acc) :: M) H) (b : EnvOk F σ Γ) (k : ∀ F' H', Ex F F' → Pt E F' ((D, ML (acc ++ xs.flatMap ex)) :: M) H' → Nx H') : tCl (iList K tl) (gName i) t vs body σ H Nx := h E F σ H a b _ fun v F1 H1 e1 g1 ⟨p, us, hp, s, q⟩ => by
  have hl : us.length = xs.length := by have := paired_len q; rwa [List.length_map] at this
  refine ⟨p, hp, ⟨us, Evl.ex_l g1.ex s⟩, ?_⟩
  refine ⟨fun m k H' => k = xs.length - m ∧ m ≤ xs.length ∧ ∃ F', Ex F1 F' ∧ Pt E F' ((D, ML (acc ++ (xs.take m).flatMap ex)) :: M) H', ⟨_, rfl, Nat.zero_le _, F1, Evl.Ex.refl _, by simpa using g1⟩, ?_⟩
  rintro m k2 H5 ⟨rfl, hm, F5, e5, g5⟩
  have sl5 : SqL K H5 p us := Evl.ex_l (e5.trans g5.ex) s
  rcases Nat.lt_or_ge m xs.length with hlt | hge
  case inr =>
    refine .inl ⟨⟨us, sl5, by omega⟩, ?_⟩
    rw [List.take_of_length_le hge] at g5
    exact k F5 H5 (e1.trans e5) g5
  refine .inr ⟨⟨us, us[m], sl5, List.getElem?_eq_getElem (by omega)⟩, fun H' => ∃ F', Ex F1 F' ∧ Pt E F' ((D, ML (acc ++ (xs.take (m + 1)).flatMap ex)) :: M) H', fun H' c => ⟨_, by omega, rfl, hlt, c⟩, fun x2 H' y2 => ?_⟩
  obtain ⟨e, y2⟩ := y2
  subst e
  obtain ⟨P', hP, hx6⟩ := paired_get' q (y2 us sl5)
  have hxm : xs[m]? = some xs[m] := List.getElem?_eq_getElem hlt
  rw [List.getElem?_map, hxm] at hP
  have hP : R xs[m] = P' := Option.some.inj hP
  subst hP
  have xm := List.mem_of_getElem? hxm
  have tk : xs.take (m + 1) = xs.take m ++ [xs[m]] := by rw [List.take_add_one, hxm]; rfl
  have sp : (xs.take (m + 1)).flatMap ex = (xs.take m).flatMap ex ++ ex xs[m] := by rw [tk, List.flatMap_append, List.flatMap_singleton]
  have bd : (acc ++ (xs.take m).flatMap ex ++ ex xs[m]).length < 100000 := by
    have e : xs.flatMap ex = (xs.take (m + 1)).flatMap ex ++ (xs.drop (m + 1)).flatMap ex := by rw [← List.flatMap_append, List.take_append_drop]
    rw [e, sp] at hB
    simp only [List.length_append] at hB ⊢
    omega
  refine ⟨hww σ _, ?_⟩
  refine hb _ xm _ F5 _ _ bd g5 (EnvOk.set i (hw _ _ (b.mono (e1.trans e5))) ((R xs[m]).mono e5 hx6)) _ fun F6 H6 e6 g6 => ⟨F6, e5.trans e6, ?_⟩
  rw [sp, ← List.append_assoc]
  exact g6
/-- [G for x in xs for y in ys for z in zs if f], all lists that stand -/
theorem evn_lc3 {α β γ : Type} {xs : List α} {ys : α → List β} {zs : α → β → List γ} {R : α → MP} {S : β → MP} {U : γ → MP} {G : α → β → γ → MP} (f : α → β → γ → Bool) (hij : i ≠ j) (hil : i ≠ l) (hjl : j ≠ l)
    (h : Ev tl Γ M (PLi K (xs.map R)) M1) (hz : (xs.flatMap fun x => (ys x).flatMap fun y => ((zs x y).map (G x y))).length < 100000)
    (h0 : ∀ x ∈ xs, ∀ M, EvT t0 ((((Γ.set l none).set j none).set i none).set i (some (R x))) M (· = true) M)
    (h1 : ∀ x ∈ xs, ∀ M, Ev tl1 ((((Γ.set l none).set j none).set i none).set i (some (R x))) M (PLi K ((ys x).map S)) M)
    (h1t : ∀ x ∈ xs, ∀ y ∈ ys x, ∀ M, EvT t1 (((((((Γ.set l none).set j none).set i none).set i (some (R x))).set l none).set j none).set j (some (S y))) M (· = true) M)
    (h2 : ∀ x ∈ xs, ∀ y ∈ ys x, ∀ M, Ev tl2 (((((((Γ.set l none).set j none).set i none).set i (some (R x))).set l none).set j none).set j (some (S y))) M (PLi K ((zs x y).map U)) M)
    (ht : ∀ x ∈ xs, ∀ y ∈ ys x, ∀ z ∈ zs x y, EvT t (((((((((Γ.set l none).set j none).set i none).set i (some (R x))).set l none).set j none).set j (some (S y))).set l none).set l (some (U z))) M1 (· = f x y z) M1)
    (he : ∀ x ∈ xs, ∀ y ∈ ys x, ∀ z ∈ zs x y, f x y z = true → Ev te (((((((((Γ.set l none).set j none).set i none).set i (some (R x))).set l none).set j none).set j (some (S y))).set l none).set l (some (U z))) M1 (G x y z) M1) :
    EvN (tLc3 (iList K tl) (gName i) t0 (iList K tl1) (gName j) t1 (iList K tl2) (gName l) t te [i, j, l] [j, l] [l]) Γ M (ML (xs.flatMap fun x => (ys x).flatMap fun y => ((zs x y).filter (f x y)).map (G x y))) M1 := fun E F σ H a b Q k => h E F σ H a b _ fun v F1 H1 e1 g1 ⟨p, vs, hp, s, q⟩ => by
  refine ⟨p, hp, ⟨vs, Evl.ex_l g1.ex s⟩, fun D hD => ?_⟩
  have hl : vs.length = xs.length := by have := paired_len q; rwa [List.length_map] at this
  have gn : Pt ⟨F1, H1, keys M1⟩ F1 ((D, ML []) :: M1) (upd H1 D (.lst [])) := g1.enter.new hD ⟨[], rfl, .nil⟩
  have lenI : ∀ x y, (((zs x y).filter (f x y)).map (G x y)).length ≤ ((zs x y).map (G x y)).length := fun x y => by rw [List.length_map, List.length_map]; exact List.length_filter_le _ _
  have lenF : ∀ {A B : List (List MP)} , True := fun {_ _} => trivial
  have fl_le : ∀ {δ : Type} (L : List δ) (u v : δ → List MP), (∀ d, (u d).length ≤ (v d).length) → (L.flatMap u).length ≤ (L.flatMap v).length := fun L u v huv => by
    induction L with
    | nil => exact Nat.le_refl _
    | cons d L ih => rw [List.flatMap_cons, List.flatMap_cons, List.length_append, List.length_append]; have := huv d; omega
  have total : (xs.flatMap fun x => (ys x).flatMap fun y => ((zs x y).filter (f x y)).map (G x y)).length < 100000 := Nat.lt_of_le_of_lt (fl_le _ _ _ fun x => fl_le _ _ _ fun y => lenI x y) hz
  refine ⟨fun n m H' => m = xs.length - n ∧ n ≤ xs.length ∧ ∃ F', Pt ⟨F1, H1, keys M1⟩ F' ((D, ML ((xs.take n).flatMap fun x => (ys x).flatMap fun y => ((zs x y).filter (f x y)).map (G x y))) :: M1) H', ⟨_, rfl, Nat.zero_le _, F1, gn⟩, ?_⟩
  rintro n m H2 ⟨rfl, hn, F2, g2⟩
  have sl2 : SqL K H2 p vs := Evl.ex_l (g2.gr.ex.trans g2.ex) s
  rcases Nat.lt_or_ge n xs.length with hlt | hge
  case inr =>
    refine .inl ⟨⟨vs, sl2, by omega⟩, ?_⟩
    rw [List.take_of_length_le (by omega)] at g2
    exact k D F2 H2 (g1.fresh hD) (e1.trans g2.gr.ex) (g1.back g2)
  refine .inr ⟨⟨vs, vs[n], sl2, List.getElem?_eq_getElem (by omega)⟩, fun H' => n + 1 ≤ xs.length ∧ ∃ F', Pt ⟨F1, H1, keys M1⟩ F' ((D, ML ((xs.take (n + 1)).flatMap fun x => (ys x).flatMap fun y => ((zs x y).filter (f x y)).map (G x y))) :: M1) H', fun H' ⟨c1, c2⟩ => ⟨_, by omega, rfl, c1, c2⟩, fun x H' y => ?_⟩
  obtain ⟨rfl, y⟩ := y
  obtain ⟨P, hP, hx2⟩ := paired_get' q (y vs sl2)
  have hxn : xs[n]? = some xs[n] := List.getElem?_eq_getElem hlt
  rw [List.getElem?_map, hxn] at hP
  have hP : R xs[n] = P := Option.some.inj hP
  subst hP
  have tk : xs.take (n + 1) = xs.take n ++ [xs[n]] := by rw [List.take_add_one, hxn]; rfl
  have xm := List.mem_of_getElem? hxn
  have sp : ((xs.take (n + 1)).flatMap fun x => (ys x).flatMap fun y => ((zs x y).filter (f x y)).map (G x y)) = ((xs.take n).flatMap fun x => (ys x).flatMap fun y => ((zs x y).filter (f x y)).map (G x y)) ++ (ys xs[n]).flatMap fun y => ((zs xs[n] y).filter (f xs[n] y)).map (G xs[n] y) := by rw [tk, List.flatMap_append, List.flatMap_singleton]
  have bd : (((xs.take n).flatMap fun x => (ys x).flatMap fun y => ((zs x y).filter (f x y)).map (G x y)) ++ (ys xs[n]).flatMap fun y => ((zs xs[n] y).filter (f xs[n] y)).map (G xs[n] y)).length < 100000 := by
    have e : (xs.flatMap fun x => (ys x).flatMap fun y => ((zs x y).filter (f x y)).map (G x y)) = ((xs.take (n + 1)).flatMap fun x => (ys x).flatMap fun y => ((zs x y).filter (f x y)).map (G x y)) ++ ((xs.drop (n + 1)).flatMap fun x => (ys x).flatMap fun y => ((zs x y).filter (f x y)).map (G x y)) := by rw [← List.flatMap_append, List.take_append_drop]
    rw [e, sp, List.length_append] at total
    omega
  rw [sp]
  generalize xs[n] = z at *
  have b2 : EnvOk F2 ((wipe σ [i, j, l]).set i (some x)) ((((Γ.set l none).set j none).set i none).set i (some (R z))) := EnvOk.set i (EnvOk.forget i (EnvOk.forget j (EnvOk.forget l (b.mono (e1.trans g2.gr.ex))))) ((R z).mono g2.gr.ex hx2)
  have w3 : ∀ (τ : St) (v : V), wipe ((wipe τ [i, j, l]).set i (some v)) [i, j, l] = wipe τ [i, j, l] := fun τ v => by
    show (((((((τ.set l none).set j none).set i none).set i (some v)).set l none).set j none).set i none) = (((τ.set l none).set j none).set i none)
    rw [List.set_set]
    apply List.ext_getElem
    · simp
    · intro c h1 h2
      simp only [List.getElem_set]
      (repeat' split) <;> simp_all
  have w2 : ∀ (τ : St) (v : V), wipe ((wipe τ [j, l]).set j (some v)) [j, l] = wipe τ [j, l] := fun τ v => wipe_out hjl
  have w1 : ∀ (τ : St) (v : V), wipe ((wipe τ [l]).set l (some v)) [l] = wipe τ [l] := fun τ v => wipe_one
  refine ⟨w3 σ x, ?_⟩
  refine h0 z xm _ _ F2 _ _ g2 b2 _ fun c F3 H3 e3 g3 hc => ?_
  have hc : c = true := hc
  subst hc
  rw [if_pos rfl]
  refine cl_L (acc := (xs.take n).flatMap fun x => (ys x).flatMap fun y => ((zs x y).filter (f x y)).map (G x y)) (ex := fun y => ((zs z y).filter (f z y)).map (G z y)) (fun F σ b => EnvOk.forget j (EnvOk.forget l b)) w2 (h1 z xm _) bd (fun y ym acc1 F4 σ4 H4 hB4 g4 b4 Nx1 k1 => ?_) g3 (b2.mono e3) fun F' H' e' g' => ⟨hlt, F', g'⟩
  refine h1t z xm y ym _ _ F4 _ _ g4 b4 _ fun c F5 H5 e5 g5 hc => ?_
  have hc : c = true := hc
  subst hc
  rw [if_pos rfl]
  refine cl_L (acc := acc1) (ex := fun w => if f z y w = true then [G z y w] else []) (fun F σ b => EnvOk.forget l b) w1 (h2 z xm y ym _) ?_ (fun w wm acc2 F6 σ6 H6 hB6 g6 b6 Nx2 k2 => ?_) g5 (b4.mono e5) fun F' H' e' g' => k1 F' H' (e5.trans e') ?_
  · have e : ((zs z y).flatMap fun w => if f z y w = true then [G z y w] else []) = ((zs z y).filter (f z y)).map (G z y) := by
      generalize zs z y = L
      induction L with
      | nil => rfl
      | cons w L ih => rw [List.flatMap_cons, ih, List.filter_cons]; cases f z y w <;> simp
    rw [e]; exact hB4
  · refine lc_turn g6 b6 (ht z xm y ym w wm) (he z xm y ym w wm) ?_ _ fun F7 H7 e7 g7 => k2 F7 H7 e7 ?_
    · rw [List.length_append] at hB6; omega
    · cases hf : f z y w
      · rw [hf] at g7; simpa using g7
      · rw [hf] at g7; simpa using g7
  · have e : ((zs z y).flatMap fun w => if f z y w = true then [G z y w] else []) = ((zs z y).filter (f z y)).map (G z y) := by
      generalize zs z y = L
      induction L with
      | nil => rfl
      | cons w L ih => rw [List.flatMap_cons, ih, List.filter_cons]; cases f z y w <;> simp
    rw [← e]; exact g'
end
end Hq
/-! ### tuples of tuples, sorted lists of tuples, lists of lists of which the inner ones come to rest -/
namespace Hq
open PySem L2
section
variable {K : PySem.W.Frag} {E : Ent} {F H : Hp} {M M1 M2 : Ms} {Γ : Gm} {P : MP} {O : MO} {q : Addr} {te ta tb tl tl1 tk td : TE} {tr : TA} {D1 : Ends} {tu tz : TS} {t t0 u : TT} {ps : List MP} {i j : Nat}
theorem evn_lc2T {α β : Type} {xs : List α} {ys : α → List β} {N : Nat} {R : α → MP} {S : β → MP} {G : α → β → MP} (f : α → β → Bool) (hij : i ≠ j)
    (h : Ev tl Γ M (PTu K (xs.map R)) M1) (hy : ∀ x ∈ xs, (ys x).length ≤ N) (hz : (xs.length + 1) * N ≤ 50000)
    (h0 : ∀ x ∈ xs, ∀ M, EvT t0 (((Γ.set j none).set i none).set i (some (R x))) M (· = true) M)
    (h1 : ∀ x ∈ xs, ∀ M, Ev tl1 (((Γ.set j none).set i none).set i (some (R x))) M (PTu K ((ys x).map S)) M)
    (ht : ∀ x ∈ xs, ∀ y ∈ ys x, EvT t (((((Γ.set j none).set i none).set i (some (R x))).set j none).set j (some (S y))) M1 (· = f x y) M1)
    (he : ∀ x ∈ xs, ∀ y ∈ ys x, f x y = true → Ev te (((((Γ.set j none).set i none).set i (some (R x))).set j none).set j (some (S y))) M1 (G x y) M1) :
    EvN (tLc2 (iTup K tl) (gName i) t0 (iTup K tl1) (gName j) t te [i, j] [j]) Γ M (ML (xs.flatMap fun x => ((ys x).filter (f x)).map (G x))) M1 := fun E F σ H a b Q k => h E F σ H a b _ fun v F1 H1 e1 g1 ⟨p, vs, hp, s, q⟩ => by
  refine ⟨p, hp, ⟨vs, Evl.ex_t g1.ex s⟩, fun D2 hD => ?_⟩
  have hl : vs.length = xs.length := by have := paired_len q; rwa [List.length_map] at this
  have gn : Pt ⟨F1, H1, keys M1⟩ F1 ((D2, ML []) :: M1) (upd H1 D2 (.lst [])) := g1.enter.new hD ⟨[], rfl, .nil⟩
  refine ⟨fun n m H' => m = xs.length - n ∧ n ≤ xs.length ∧ ∃ F', Pt ⟨F1, H1, keys M1⟩ F' ((D2, ML ((xs.take n).flatMap fun x => ((ys x).filter (f x)).map (G x))) :: M1) H', ⟨_, rfl, Nat.zero_le _, F1, gn⟩, ?_⟩
  rintro n m H2 ⟨rfl, hn, F2, g2⟩
  have sl2 : SqT K H2 p vs := Evl.ex_t (g2.gr.ex.trans g2.ex) s
  rcases Nat.lt_or_ge n xs.length with hlt | hge
  case inr =>
    refine .inl ⟨⟨vs, sl2, by omega⟩, ?_⟩
    rw [List.take_of_length_le (by omega)] at g2
    exact k D2 F2 H2 (g1.fresh hD) (e1.trans g2.gr.ex) (g1.back g2)
  refine .inr ⟨⟨vs, vs[n], sl2, List.getElem?_eq_getElem (by omega)⟩, fun H' => n + 1 ≤ xs.length ∧ ∃ F', Pt ⟨F1, H1, keys M1⟩ F' ((D2, ML ((xs.take (n + 1)).flatMap fun x => ((ys x).filter (f x)).map (G x))) :: M1) H', fun H' ⟨c1, c2⟩ => ⟨_, by omega, rfl, c1, c2⟩, fun x H' y => ?_⟩
  obtain ⟨rfl, y⟩ := y
  have hx := y vs sl2
  obtain ⟨P, hP, hx2⟩ := paired_get' q hx
  have hxn : xs[n]? = some xs[n] := List.getElem?_eq_getElem hlt
  rw [List.getElem?_map, hxn] at hP
  have hP : R xs[n] = P := Option.some.inj hP
  subst hP
  have tk : xs.take (n + 1) = xs.take n ++ [xs[n]] := by rw [List.take_add_one, hxn]; rfl
  have tl : (xs.take n).length = n := by rw [List.length_take]; omega
  rw [tk]
  have xm := List.mem_of_getElem? hxn
  generalize xs[n] = z at *
  have b2 : EnvOk F2 ((wipe σ [i, j]).set i (some x)) (((Γ.set j none).set i none).set i (some (R z))) := (env_wipe2 (b.mono (e1.trans g2.gr.ex))).set i ((R z).mono g2.gr.ex hx2)
  refine ⟨wipe_out hij, ?_⟩
  refine h0 z xm _ _ F2 _ _ g2 b2 _ fun c F3 H3 e3 g3 hc => ?_
  have hc : c = true := hc
  subst hc
  rw [if_pos rfl]
  refine h1 z xm _ _ F3 _ H3 g3 (b2.mono e3) _ fun v1 F4 H4 e4 g4 ⟨p1, hp1q⟩ => ?_
  obtain ⟨vs1, hp1, s1, q1⟩ := hp1q
  have hl1 : vs1.length = (ys z).length := by have := paired_len q1; rwa [List.length_map] at this
  have b4 := b2.mono (e3.trans e4)
  refine ⟨p1, hp1, ⟨vs1, Evl.ex_t g4.ex s1⟩, ?_⟩
  have e14 : Ex F1 F4 := g4.gr.ex
  refine ⟨fun m k H' => k = (ys z).length - m ∧ m ≤ (ys z).length ∧ ∃ F', Ex F4 F' ∧ Pt ⟨F1, H1, keys M1⟩ F' ((D2, ML (((xs.take n).flatMap fun x => ((ys x).filter (f x)).map (G x)) ++ (((ys z).take m).filter (f z)).map (G z))) :: M1) H', ⟨_, rfl, Nat.zero_le _, F4, Evl.Ex.refl _, by simpa using g4⟩, ?_⟩
  rintro m k2 H5 ⟨rfl, hm, F5, e5, g5⟩
  have sl5 : SqT K H5 p1 vs1 := Evl.ex_t (e5.trans g5.ex) s1
  rcases Nat.lt_or_ge m (ys z).length with hlt2 | hge2
  case inr =>
    refine .inl ⟨⟨vs1, sl5, by omega⟩, hlt, F5, ?_⟩
    rw [List.take_of_length_le hge2] at g5
    rw [List.flatMap_append, List.flatMap_singleton]
    exact g5
  refine .inr ⟨⟨vs1, vs1[m], sl5, List.getElem?_eq_getElem (by omega)⟩, fun H' => ∃ F', Ex F4 F' ∧ Pt ⟨F1, H1, keys M1⟩ F' ((D2, ML (((xs.take n).flatMap fun x => ((ys x).filter (f x)).map (G x)) ++ (((ys z).take (m + 1)).filter (f z)).map (G z))) :: M1) H', fun H' c => ⟨_, by omega, rfl, hlt2, c⟩, fun x2 H' y2 => ?_⟩
  obtain ⟨e, y2⟩ := y2
  subst e
  have hx5 := y2 vs1 sl5
  obtain ⟨P, hP, hx6⟩ := paired_get' q1 hx5
  have hym : (ys z)[m]? = some (ys z)[m] := List.getElem?_eq_getElem hlt2
  rw [List.getElem?_map, hym] at hP
  have hP : S (ys z)[m] = P := Option.some.inj hP
  subst hP
  have tk2 := take_filter (ys z) (f z) m (ys z)[m] hym
  have ym := List.mem_of_getElem? hym
  generalize (ys z)[m] = y at *
  refine ⟨wipe_one, ?_⟩
  refine lc_turn g5 ((env_wipe (b4.mono e5)).set j ((S y).mono e5 hx6)) (ht z xm y ym) (he z xm y ym) ?_ _ fun F6 H6 e6 g6 => ⟨F6, e5.trans e6, ?_⟩
  · have l1 := flatD_len (ys := ys) (f := f) (G := G) (N := N) (xs := xs.take n) (fun x hx => hy x (List.mem_of_mem_take hx))
    rw [tl] at l1
    have l2 : n * N ≤ xs.length * N := Nat.mul_le_mul_right _ hn
    have l3 := List.length_filter_le (f z) ((ys z).take m)
    have l4 := hy z xm
    rw [List.length_append, List.length_map]
    rw [List.length_take] at l3
    rw [Nat.succ_mul] at hz
    omega
  · rw [tk2, List.map_append, ← List.append_assoc]
    cases hf : f z y
    · rw [hf] at g6; simpa using g6
    · rw [hf] at g6; simpa using g6
theorem rcn_sortDP {L : List (List Int)} (hne : (∀ l ∈ L, l ≠ []) ∨ L.length ≤ 1) : RCN (rSortD K) [PLi K (L.map fun l => D K (dT l))] M (MX fun L' : List (List Int) => MA (L'.Perm L ∧ L'.Pairwise (· ≤ ·)) (ML (L'.map fun l => D K (dT l)))) M := fun E F H vs a h Q k => by
  obtain ⟨v, rfl, hv⟩ := ps1 h
  obtain ⟨p0, ws, rfl, hs0, s⟩ := hv
  have hl : ws.length = L.length := by have := paired_len s; rwa [List.length_map] at this
  have dp : ∀ {ws : List V} {L : List (List Int)}, Ps F ws (L.map fun l => D K (dT l)) → Paired (fun x l => Dp K H x (dT l)) ws L := by
    intro ws L
    induction L generalizing ws with
    | nil => intro h; cases h; exact .nil
    | cons l L ih => intro h; cases h with | cons b t => exact .cons (Dp.mono a.ex b) (ih t)
  have zz : ∀ {ws : List V} {L : List (List Int)}, Ps F ws (L.map fun l => D K (dT l)) → ∀ b ∈ ws.zip L, (D K (dT b.2)).p F b.1 := by
    intro ws L
    induction L generalizing ws with
    | nil => intro h b hb; cases h; cases hb
    | cons l L ih =>
      intro h b hb
      cases h with
      | cons c t =>
        rcases List.mem_cons.mp hb with rfl | hb
        · exact c
        · exact ih t b hb
  have of : ∀ {B : List (V × List Int)}, (∀ b ∈ B, (D K (dT b.2)).p F b.1) → Ps F (B.map (·.1)) ((B.map (·.2)).map fun l => D K (dT l)) := by
    intro B
    induction B with
    | nil => intro _; exact .nil
    | cons b B ih => intro h; exact .cons (h b List.mem_cons_self) (ih fun c hc => h c (List.mem_cons_of_mem _ hc))
  refine ⟨p0, ws, L, rfl, Evl.ex_l a.ex hs0, dp s, hne, fun B p hp hs hf => ?_⟩
  refine k p F _ (a.fresh hf) (Evl.Ex.refl _) (a.new hf ⟨B.map (·.2), ⟨?_, hs⟩, _, rfl, of fun b hb => zz s b (hp.subset hb)⟩)
  have := hp.map (·.2)
  rwa [List.map_snd_zip (by omega)] at this
/-- the inner lists come to rest -/
theorem nx_inner {α : Type} {f : α → PyData} {g : St → Hp → Prop} {as : List Addr} {ls : List (List α)} {M0 : Ms} (hl : as.length = ls.length) (ha : ∀ a ∈ as, E.H a = none)
    (h : Nx E Γ ((q, ML (ls.map fun l => D K (.list (l.map f)))) :: M0) g) : Nx E Γ ((q, ML (as.map Own)) :: (M0 ++ innerE K f as ls)) g := fun σ H ⟨F, a, b⟩ => by
  obtain ⟨F', e, g2, p⟩ := freezeE (K := K) (f := f) (M0 := (q, ML (as.map Own)) :: M0) hl ha a
  have key : ∀ {as : List Addr} {ls : List (List α)} {ws : List V}, Paired (fun a l => Dp K F' (.ref a) (.list (l.map f))) as ls → Ps F' ws (as.map Own) → Ps F' ws (ls.map fun l => D K (.list (l.map f))) := by
    intro as ls ws p
    induction p generalizing ws with
    | nil => intro h; cases h; exact .nil
    | cons r t ih =>
      intro h
      cases h with
      | cons z zs =>
        refine .cons ?_ (ih zs)
        have z : _ = V.ref _ := z
        rw [z]; exact r
  obtain ⟨fq, o, ho, ws, rfl, s⟩ := g2.at (j := 0) rfl
  have g3 := g2.mut (j := 0) (O' := ML (ls.map fun l => D K (.list (l.map f)))) (o' := .lst ws) rfl ⟨ws, rfl, key p s⟩
  rw [upd_id ho] at g3
  exact h σ H ⟨F', g3, b.mono e⟩
end
section
variable {K : PySem.W.Frag} {E : Ent} {F H : Hp} {M M1 : Ms} {Γ : Gm} {P : MP} {O : MO} {q : Addr} {te ta : TE} {tr : TA} {D1 : Ends} {ps : List MP} {j : Nat} {C Cx : Addr} {X : XK} {sp : Sp}
/-- C(..) that raises -/
theorem make0_no (h : EvA tr Γ M ps M1) (hs : ∀ x vs H Q X, (∃ F, Wd F [(x, MIns C 0 [])] H ∧ Ps F vs (Own x :: ps) ∧ RtE ⟨F, H, keys [(x, MIns C 0 [])]⟩ [(x, MAny)] Cx X) → sp vs H Q X) (k : RtE E M1 Cx X) : Nx E Γ M (tRet (tMake C sp [] X tr) D1) := fun σ H ⟨F, a, b⟩ => h E F σ H a b _ fun vs F1 H1 e1 a1 p1 => fun x dx hx hdx hne => by
  have hx2 : upd H1 dx (.own x) x = none := by rw [upd_ne hne.symm]; exact hx
  have g2 : Pt E F1 ((x, MIns C 0 []) :: M1) (upd (upd H1 dx (.own x)) x (.ins C dx [])) := (a1.junk hdx).new hx2 ⟨dx, [], rfl, Nat.le_refl _, fun f hf => by cases hf⟩
  show sp (V.ref x :: (vs ++ [])) _ _ X
  rw [List.append_nil]
  refine hs x (.ref x :: vs) _ _ X ⟨F1, ⟨g2.ex, by simp [keys], fun r hr => ?_⟩, .cons rfl p1, fun F' H' g => k F' H' ?_⟩
  · rw [List.mem_singleton.mp hr]; exact g2.wd.own _ List.mem_cons_self
  · refine (g2.frame (M' := (x, MAny) :: M1) g (fun z hz => ?_) rfl fun r hr => ?_).drop (List.sublist_cons_self _ _)
    · rw [List.mem_singleton.mp hz]; exact List.mem_cons_self
    · rcases List.mem_cons.mp hr with z | z
      · rw [z]; exact .inr List.mem_cons_self
      · exact .inl ⟨fun w => (List.nodup_cons.mp (show (x :: keys M1).Nodup from g2.wd.nd)).1 (by rw [show x = r.1 from (List.mem_singleton.mp w).symm]; exact List.mem_map_of_mem (f := (·.1)) z), List.mem_cons_of_mem _ z⟩
/-- self.f while C(..) is being made -/
theorem ev_fldI {f : Str} {n : Nat} {fps : List (Str × MP)} (ho : Ev ta Γ M (Own q) M1) (e : M1[j]? = some (q, MIns C n fps)) (hf : (f, P) ∈ fps) (hc : Cls K C) (ha : NoAttr K C f) : Ev (tFld K ta f) Γ M P M1 := fun E F σ H a b Q k => ho E F σ H a b _ fun v F1 H1 e1 g1 p1 => by
  have p1 : v = .ref q := p1
  subst p1
  obtain ⟨_, o, ho2, dx, fs, rfl, _, h⟩ := g1.at e
  obtain ⟨x, hx, px⟩ := h _ hf
  exact ⟨q, C, dx, fs, x, rfl, ho2, hc, ha, hx, k x F1 H1 e1 g1 px⟩
end
end Hq
namespace My
/-! ### letters, places: plain lists -/
abbrev Lets := List (List Int)
/-- the places of a letter -/
def pl (ls : Lets) (a : Int) : List Int := ls.getD a.toNat []
def disj (l m : List Int) : Bool := !(l.any fun x => decide (x ∈ m))
/-- two letters without a common place -/
def free (ls : Lets) (a b : Int) : Bool := disj (pl ls a) (pl ls b)
structure AlphaOk (k : Int) (ls : Lets) : Prop where
  k1 : 1 ≤ k
  k4 : k ≤ 4
  l1 : 1 ≤ ls.length
  l6 : ls.length ≤ 6
  ok : ∀ l ∈ ls, l ≠ [] ∧ l.Pairwise (· < ·) ∧ ∀ x ∈ l, 0 ≤ x ∧ x < k
/-- a word of the letters -/
def WordOk (ls : Lets) (w : List Int) : Prop := ∀ x ∈ w, 0 ≤ x ∧ x < (ls.length : Int)
theorem pl_get {ls : Lets} {a : Int} (h0 : 0 ≤ a) (h : a < (ls.length : Int)) : ls[a.toNat]? = some (pl ls a) := by
  unfold pl
  have : a.toNat < ls.length := by omega
  rw [List.getD_eq_getElem?_getD, List.getElem?_eq_getElem this]; rfl
theorem pl_mem {ls : Lets} {a : Int} (h0 : 0 ≤ a) (h : a < (ls.length : Int)) : pl ls a ∈ ls := List.mem_of_getElem? (pl_get h0 h)
theorem disj_filter (l m : List Int) : decide (((l.filter fun x => decide (x ∈ m)).length : Int) = 0) = disj l m := by
  unfold disj
  induction l with
  | nil => rfl
  | cons x l ih =>
    rw [List.filter_cons, List.any_cons]
    by_cases h : x ∈ m
    · simp [h]
      omega
    · simp only [h, decide_false, Bool.false_eq_true, if_false, Bool.false_or]
      exact ih
theorem disj_comm (l m : List Int) : disj l m = disj m l := by
  unfold disj
  congr 1
  rw [Bool.eq_iff_iff, List.any_eq_true, List.any_eq_true]
  simp only [decide_eq_true_eq]
  exact ⟨fun ⟨x, a, b⟩ => ⟨x, b, a⟩, fun ⟨x, a, b⟩ => ⟨x, b, a⟩⟩
theorem free_comm (ls : Lets) (a b : Int) : free ls a b = free ls b a := disj_comm _ _
theorem disj_iff {l m : List Int} : disj l m = true ↔ ∀ x ∈ l, x ∉ m := by
  unfold disj
  simp
theorem not_disj {l m : List Int} : disj l m = false ↔ ∃ x ∈ l, x ∈ m := by
  unfold disj
  simp
/-- the word of a place -/
def at_ (ls : Lets) (p : Int) (w : List Int) : List Int := w.filter fun a => decide (p ∈ pl ls a)
/-- swaps of independent neighbours -/
inductive Swp (ls : Lets) : List Int → List Int → Prop where
  | refl (w) : Swp ls w w
  | step {w u v a b} : Swp ls w (u ++ a :: b :: v) → free ls a b = true → Swp ls w (u ++ b :: a :: v)
theorem Swp.word {ls w w'} (h : Swp ls w w') (k : WordOk ls w) : WordOk ls w' ∧ w'.length = w.length := by
  induction h with
  | refl => exact ⟨k, rfl⟩
  | step h f ih =>
    obtain ⟨a, b⟩ := ih
    refine ⟨fun x hx => a x ?_, ?_⟩
    · simp only [List.mem_append, List.mem_cons] at hx ⊢
      rcases hx with h | h | h | h
      · exact .inl h
      · exact .inr (.inr (.inl h))
      · exact .inr (.inl h)
      · exact .inr (.inr (.inr h))
    · rw [← b]; simp
theorem Swp.at_ {ls w w'} (h : Swp ls w w') (p : Int) : at_ ls p w' = at_ ls p w := by
  induction h with
  | refl => rfl
  | @step u v a b h f ih =>
    rw [← ih]
    unfold My.at_
    rw [List.filter_append, List.filter_append]
    congr 1
    have : ¬ (p ∈ pl ls a ∧ p ∈ pl ls b) := fun ⟨x, y⟩ => disj_iff.mp f p x y
    by_cases ha : p ∈ pl ls a
    · have hb : p ∉ pl ls b := fun y => this ⟨ha, y⟩
      simp [List.filter_cons, ha, hb]
    · simp [List.filter_cons, ha]
end My
namespace My
/-! ### sorted lists -/
theorem sorted_unique : ∀ {l m : List Int}, l.Perm m → l.Pairwise (· ≤ ·) → m.Pairwise (· ≤ ·) → l = m
  | [], m, p, _, _ => (List.Perm.nil_eq p)
  | a :: l, [], p, _, _ => absurd p.symm (by simp)
  | a :: l, b :: m, p, h1, h2 => by
    have hab : a = b := by
      have ha : a ∈ b :: m := p.subset List.mem_cons_self
      have hb : b ∈ a :: l := p.symm.subset List.mem_cons_self
      rcases List.mem_cons.mp ha with e | e
      · exact e
      · rcases List.mem_cons.mp hb with e2 | e2
        · exact e2.symm
        · have x := (List.pairwise_cons.mp h1).1 b e2
          have y := (List.pairwise_cons.mp h2).1 a e
          omega
    subst hab
    rw [sorted_unique (List.Perm.cons_inv p) (List.pairwise_cons.mp h1).2 (List.pairwise_cons.mp h2).2]
/-- the items in ascending order -/
def srt (l : List Int) : List Int := l.mergeSort
theorem srt_perm (l : List Int) : (srt l).Perm l := List.mergeSort_perm _ _
theorem srt_up (l : List Int) : (srt l).Pairwise (· ≤ ·) := by
  have := List.pairwise_mergeSort (le := fun a b : Int => decide (a ≤ b)) (fun a b c h1 h2 => by simp at *; omega) (fun a b => by simp; omega) l
  unfold srt
  refine List.Pairwise.imp ?_ this
  intro a b h
  simpa using h
theorem srt_eq {l m : List Int} (p : m.Perm l) (h : m.Pairwise (· ≤ ·)) : m = srt l := sorted_unique (p.trans (srt_perm l).symm) h (srt_up l)
/-- the greatest of some numbers that are not negative -/
def top0 (l : List Int) : Int := l.foldr max 0
theorem top0_le {l : List Int} : ∀ y ∈ l, y ≤ top0 l := by
  induction l with
  | nil => intro y h; cases h
  | cons a l ih =>
    intro y h
    show y ≤ max a (top0 l)
    rcases List.mem_cons.mp h with e | e
    · subst e; omega
    · have := ih y e; omega
theorem top0_eq {l : List Int} {m : Int} (h : m ∈ l) (hm : ∀ y ∈ l, y ≤ m) (h0 : ∀ y ∈ l, 0 ≤ y) : top0 l = m := by
  have h1 := top0_le m h
  have h2 : ∀ (l : List Int), (∀ y ∈ l, y ≤ m) → 0 ≤ m → top0 l ≤ m := by
    intro l
    induction l with
    | nil => intro _ h; exact h
    | cons a l ih =>
      intro h hm0
      have := ih (fun y hy => h y (List.mem_cons_of_mem _ hy)) hm0
      have := h a List.mem_cons_self
      show max a (top0 l) ≤ m
      omega
  have := h2 l hm (h0 m h)
  omega
theorem top0_mem {l : List Int} (h : l ≠ []) (h0 : ∀ y ∈ l, 0 ≤ y) : top0 l ∈ l := by
  induction l with
  | nil => exact absurd rfl h
  | cons a l ih =>
    show max a (top0 l) ∈ a :: l
    by_cases e : l = []
    · subst e
      have := h0 a List.mem_cons_self
      have : max a (top0 []) = a := by show max a 0 = a; omega
      rw [this]; exact List.mem_cons_self
    · have := ih e fun y hy => h0 y (List.mem_cons_of_mem _ hy)
      by_cases c : a ≤ top0 l
      · rw [show max a (top0 l) = top0 l by omega]; exact List.mem_cons_of_mem _ this
      · rw [show max a (top0 l) = a by omega]; exact List.mem_cons_self
/-! ### layers: a turn for each letter -/
def setAll (hs : List Int) (ps : List Int) (v : Int) : List Int := ps.foldl (fun hs p => hs.set p.toNat v) hs
def addRow (rs : List (List Int)) (h : Nat) (a : Int) : List (List Int) := if h = rs.length then rs ++ [[a]] else rs.set h (rs.getD h [] ++ [a])
def hts (ls : Lets) (hs : List Int) (a : Int) : List Int := (pl ls a).map fun p => hs.getD p.toNat 0
def lstep (ls : Lets) (s : List Int × List (List Int)) (a : Int) : List Int × List (List Int) :=
  (setAll s.1 (pl ls a) (top0 (hts ls s.1 a) + 1), addRow s.2 (top0 (hts ls s.1 a)).toNat a)
def lay (ls : Lets) (k : Int) (w : List Int) : List Int × List (List Int) := w.foldl (lstep ls) (List.replicate k.toNat 0, [])
def layers (ls : Lets) (k : Int) (w : List Int) : List (List Int) := (lay ls k w).2.map srt
theorem setAll_len (ps : List Int) (v : Int) : ∀ hs : List Int, (setAll hs ps v).length = hs.length := by
  induction ps with
  | nil => intro hs; rfl
  | cons p ps ih =>
    intro hs
    show (setAll (hs.set p.toNat v) ps v).length = hs.length
    rw [ih, List.length_set]
theorem setAll_get {ps : List Int} {v : Int} (h0 : ∀ p ∈ ps, 0 ≤ p) {q : Nat} : ∀ {hs : List Int}, q < hs.length → (setAll hs ps v).getD q 0 = if (q : Int) ∈ ps then v else hs.getD q 0 := by
  induction ps with
  | nil => intro hs _; simp [setAll]
  | cons p ps ih =>
    intro hs hq
    show (setAll (hs.set p.toNat v) ps v).getD q 0 = _
    rw [ih (fun x hx => h0 x (List.mem_cons_of_mem _ hx)) (by rw [List.length_set]; exact hq)]
    have hp := h0 p List.mem_cons_self
    by_cases h1 : (q : Int) ∈ ps
    · rw [if_pos h1, if_pos (List.mem_cons_of_mem _ h1)]
    · rw [if_neg h1]
      by_cases h2 : p = q
      · subst h2
        rw [if_pos List.mem_cons_self]
        simp [List.getD_eq_getElem?_getD, hq]
      · rw [if_neg (by simp [h1]; omega)]
        have : p.toNat ≠ q := by omega
        simp [List.getD_eq_getElem?_getD, List.getElem?_set, this]
theorem addRow_len {rs : List (List Int)} {h : Nat} {a : Int} (hh : h ≤ rs.length) : (addRow rs h a).length = max rs.length (h + 1) := by
  unfold addRow
  split
  · rw [List.length_append, List.length_singleton]; omega
  · rw [List.length_set]; omega
theorem addRow_get {rs : List (List Int)} {h : Nat} {a : Int} (hh : h ≤ rs.length) (i : Nat) : (addRow rs h a).getD i [] = if i = h then rs.getD h [] ++ [a] else rs.getD i [] := by
  unfold addRow
  split
  · rename_i e
    subst e
    by_cases h1 : i < rs.length
    · rw [if_neg (by omega)]
      simp [List.getD_eq_getElem?_getD, List.getElem?_append_left h1]
    · by_cases h2 : i = rs.length
      · subst h2
        rw [if_pos rfl]
        simp [List.getD_eq_getElem?_getD]
      · rw [if_neg h2]
        have : rs.length ≤ i := by omega
        rw [List.getD_eq_getElem?_getD, List.getD_eq_getElem?_getD, List.getElem?_append_right this, List.getElem?_eq_none (by simp; omega), List.getElem?_eq_none (by omega)]
  · by_cases h2 : i = h
    · subst h2
      rw [if_pos rfl]
      simp [List.getD_eq_getElem?_getD, show i < rs.length by omega]
    · rw [if_neg h2]
      simp [List.getD_eq_getElem?_getD, List.getElem?_set, Ne.symm h2]
/-- what holds between the turns -/
structure LInv (ls : Lets) (k : Int) (w : List Int) (s : List Int × List (List Int)) : Prop where
  len : s.1.length = k.toNat
  hi : ∀ q : Nat, q < k.toNat → 0 ≤ s.1.getD q 0 ∧ s.1.getD q 0 ≤ s.2.length
  word : ∀ p, at_ ls p s.2.flatten = at_ ls p w
  above : ∀ (q : Nat) (i : Nat), q < k.toNat → s.1.getD q 0 ≤ i → at_ ls q (s.2.getD i []) = []
  apart : ∀ i, (s.2.getD i []).Pairwise fun a b => free ls a b = true
  rests : ∀ i a, a ∈ s.2.getD (i + 1) [] → ∃ b ∈ s.2.getD i [], free ls a b = false
  full : ∀ i, i < s.2.length → s.2.getD i [] ≠ []
  some : ∀ (q : Nat), q < k.toNat → 0 < s.1.getD q 0 → at_ ls q (s.2.getD ((s.1.getD q 0).toNat - 1) []) ≠ []
  ok : ∀ i, ∀ x ∈ s.2.getD i [], 0 ≤ x ∧ x < (ls.length : Int)
  cnt : s.2.length ≤ w.length
  few : ∀ i, (s.2.getD i []).length ≤ w.length
theorem at_append (ls : Lets) (p : Int) (u v : List Int) : at_ ls p (u ++ v) = at_ ls p u ++ at_ ls p v := List.filter_append ..
theorem at_flatten (ls : Lets) (p : Int) (rs : List (List Int)) : at_ ls p rs.flatten = (rs.map (at_ ls p)).flatten := by
  induction rs with
  | nil => rfl
  | cons r rs ih => rw [List.flatten_cons, at_append, ih]; rfl
theorem flat_nil {rs : List (List Int)} (h : ∀ r ∈ rs, r = []) : rs.flatten = [] := by
  induction rs with
  | nil => rfl
  | cons r rs ih => rw [List.flatten_cons, h r List.mem_cons_self, ih fun x hx => h x (List.mem_cons_of_mem _ hx)]; rfl
theorem addRow_at {ls : Lets} {rs : List (List Int)} {h : Nat} {a p : Int} (hh : h ≤ rs.length) (hp : p ∈ pl ls a → ∀ i, h ≤ i → at_ ls p (rs.getD i []) = []) : at_ ls p (addRow rs h a).flatten = at_ ls p rs.flatten ++ at_ ls p [a] := by
  unfold addRow
  split
  · rw [List.flatten_append, at_append]
    congr 1
  · have hlt : h < rs.length := by omega
    have e1 : rs.set h (rs.getD h [] ++ [a]) = rs.take h ++ (rs.getD h [] ++ [a]) :: rs.drop (h + 1) := by
      rw [List.set_eq_take_append_cons_drop, if_pos hlt]
    have e2 : rs = rs.take h ++ rs.getD h [] :: rs.drop (h + 1) := by
      conv => lhs; rw [← List.take_append_drop h rs, List.drop_eq_getElem_cons hlt]
      simp [List.getD_eq_getElem?_getD, hlt]
    rw [e1]
    conv => rhs; rw [e2]
    rw [List.flatten_append, List.flatten_cons, List.flatten_append, List.flatten_cons]
    simp only [at_append, List.append_assoc]
    congr 2
    by_cases hpa : p ∈ pl ls a
    · have hn := hp hpa
      have : at_ ls p (rs.drop (h + 1)).flatten = [] := by
        rw [at_flatten]
        apply flat_nil
        intro r hr
        obtain ⟨r0, hr0, rfl⟩ := List.mem_map.mp hr
        obtain ⟨n, hn2, e⟩ := List.getElem_of_mem hr0
        rw [List.getElem_drop] at e
        have := hn (h + 1 + n) (by omega)
        rw [← e]
        rw [List.length_drop] at hn2
        simpa [List.getD_eq_getElem?_getD, show h + 1 + n < rs.length by omega] using this
      rw [this]; simp
    · have : at_ ls p [a] = [] := by simp [at_, hpa]
      rw [this]; simp
theorem at_one {ls : Lets} {p a : Int} : at_ ls p [a] = if p ∈ pl ls a then [a] else [] := by
  by_cases h : p ∈ pl ls a <;> simp [at_, h]
theorem at_nil_iff {ls : Lets} {p : Int} {l : List Int} : at_ ls p l = [] ↔ ∀ x ∈ l, p ∉ pl ls x := by
  unfold at_
  rw [List.filter_eq_nil_iff]
  simp
theorem LInv.step {ls : Lets} {k : Int} {w : List Int} {s : List Int × List (List Int)} (A : AlphaOk k ls) (I : LInv ls k w s) {a : Int} (ha : 0 ≤ a ∧ a < (ls.length : Int)) : LInv ls k (w ++ [a]) (lstep ls s a) := by
  obtain ⟨hs, rs⟩ := s
  obtain ⟨pne, _, pok⟩ := A.ok _ (pl_mem ha.1 ha.2)
  have pin : ∀ p ∈ pl ls a, p.toNat < k.toNat ∧ ((p.toNat : Nat) : Int) = p := fun p hp => by have := pok p hp; omega
  -- the height
  have hmem : top0 (hts ls hs a) ∈ hts ls hs a := top0_mem (by simp [hts, pne]) fun y hy => by
    obtain ⟨p, hp, rfl⟩ := List.mem_map.mp hy
    exact (I.hi _ (pin p hp).1).1
  obtain ⟨p0, hp0, e0⟩ := List.mem_map.mp hmem
  have hge : ∀ p ∈ pl ls a, hs.getD p.toNat 0 ≤ top0 (hts ls hs a) := fun p hp => top0_le _ (List.mem_map_of_mem hp)
  have hb := I.hi _ (pin p0 hp0).1
  generalize hh : top0 (hts ls hs a) = h at *
  obtain ⟨n, rfl⟩ : ∃ n : Nat, h = n := ⟨h.toNat, by dsimp only at hb; omega⟩
  have hn : n ≤ rs.length := by dsimp only at hb; omega
  have E : lstep ls (hs, rs) a = (setAll hs (pl ls a) ((n : Int) + 1), addRow rs n a) := by
    show (setAll hs (pl ls a) (top0 (hts ls hs a) + 1), addRow rs (top0 (hts ls hs a)).toNat a) = _
    rw [hh]; rfl
  rw [E]
  have hl : hs.length = k.toNat := I.len
  have gs : ∀ q : Nat, q < k.toNat → (setAll hs (pl ls a) ((n : Int) + 1)).getD q 0 = if (q : Int) ∈ pl ls a then (n : Int) + 1 else hs.getD q 0 := fun q hq => setAll_get (fun p hp => (pok p hp).1) (by omega)
  have gr := addRow_get (a := a) hn
  have gl := addRow_len (a := a) hn
  have emp : ∀ p ∈ pl ls a, ∀ i, n ≤ i → at_ ls p (rs.getD i []) = [] := fun p hp i hi => by
    have := I.above p.toNat i (pin p hp).1 (by have := hge p hp; dsimp only; omega)
    rw [(pin p hp).2] at this
    exact this
  refine ⟨by rw [setAll_len]; exact hl, fun q hq => ?_, fun p => ?_, fun q i hq hi => ?_, fun i => ?_, fun i b hbm => ?_, fun i hi => ?_, fun q hq h0 => ?_, fun i x hx => ?_, by have := I.cnt; dsimp only at this ⊢; rw [gl, List.length_append, List.length_singleton]; omega, fun i => by
    have := I.few i
    have h2 := I.few n
    dsimp only at this h2 ⊢
    rw [gr, List.length_append, List.length_singleton]
    split
    · rw [List.length_append, List.length_singleton]; omega
    · omega⟩
  · dsimp only
    rw [gs q hq, gl]
    have := I.hi q hq
    dsimp only at this
    split <;> omega
  · dsimp only
    rw [addRow_at hn (fun hp => emp p hp), at_append, I.word p]
  · dsimp only at hi ⊢
    rw [gs q hq] at hi
    rw [gr]
    split at hi
    · rename_i hqa
      rw [if_neg (by omega)]
      exact emp _ hqa i (by omega)
    · rename_i hqa
      split
      · rename_i e
        subst e
        rw [at_append, at_one, if_neg hqa, I.above q i hq hi]; rfl
      · exact I.above q i hq hi
  · dsimp only
    rw [gr]
    split
    · rw [List.pairwise_append]
      refine ⟨I.apart n, List.pairwise_singleton _ _, fun b hb c hc => ?_⟩
      rw [List.mem_singleton.mp hc]
      refine disj_iff.mpr fun p hpb hpa => ?_
      exact at_nil_iff.mp (emp p hpa n (Nat.le_refl _)) b hb hpb
    · exact I.apart i
  · dsimp only at hbm ⊢
    rw [gr] at hbm
    have old : ∀ (c : Int), c ∈ rs.getD i [] → c ∈ (addRow rs n a).getD i [] := fun c hc => by
      rw [gr]
      split
      · rename_i e; subst e; exact List.mem_append_left _ hc
      · exact hc
    have fromold : b ∈ rs.getD (i + 1) [] → ∃ c ∈ (addRow rs n a).getD i [], free ls b c = false := fun h => by
      obtain ⟨c, hc, f⟩ := I.rests i b h
      exact ⟨c, old c hc, f⟩
    split at hbm
    · rename_i e
      rcases List.mem_append.mp hbm with h | h
      · exact fromold (by rw [e]; exact h)
      · rw [List.mem_singleton.mp h]
        have sm := I.some p0.toNat (pin p0 hp0).1 (by dsimp only; omega)
        dsimp only at sm
        rw [show (hs.getD p0.toNat 0).toNat - 1 = i by omega, (pin p0 hp0).2] at sm
        cases hat : at_ ls p0 (rs.getD i []) with
        | nil => exact absurd hat sm
        | cons c cs =>
          have hc : c ∈ at_ ls p0 (rs.getD i []) := by rw [hat]; exact List.mem_cons_self
          unfold at_ at hc
          obtain ⟨h1, h2⟩ := List.mem_filter.mp hc
          exact ⟨c, old c h1, not_disj.mpr ⟨p0, hp0, by simpa using h2⟩⟩
    · exact fromold hbm
  · dsimp only at hi ⊢
    rw [gr]
    rw [gl] at hi
    split
    · simp
    · exact I.full i (by dsimp only; omega)
  · dsimp only at h0 ⊢
    rw [gs q hq] at h0 ⊢
    split
    · rename_i hqa
      rw [show (((n : Int) + 1).toNat - 1) = n by omega, gr, if_pos rfl, at_append, at_one, if_pos hqa]
      simp
    · rename_i hqa
      rw [if_neg hqa] at h0
      have := I.some q hq h0
      dsimp only at this
      rw [gr]
      split
      · rename_i e
        rw [e] at this
        rw [at_append]
        intro z
        exact this (List.append_eq_nil_iff.mp z).1
      · exact this
  · dsimp only at hx
    rw [gr] at hx
    split at hx
    · rcases List.mem_append.mp hx with h | h
      · exact I.ok n x h
      · rw [List.mem_singleton.mp h]; exact ha
    · exact I.ok i x hx
theorem LInv.start {ls : Lets} {k : Int} : LInv ls k [] (List.replicate k.toNat 0, []) := by
  have g : ∀ q : Nat, (List.replicate k.toNat (0 : Int)).getD q 0 = 0 := fun q => by
    rw [List.getD_eq_getElem?_getD, List.getElem?_replicate]; split <;> rfl
  refine ⟨List.length_replicate, fun q _ => ?_, fun p => rfl, fun q i _ _ => rfl, fun i => List.Pairwise.nil, fun i a h => (by cases h), fun i h => (by cases h), fun q _ h => ?_, fun i x h => (by cases h), Nat.le_refl _, fun i => Nat.le_refl _⟩
  · dsimp only; rw [g]; exact ⟨Int.le_refl _, Int.le_refl _⟩
  · dsimp only at h; rw [g] at h; omega
theorem lay_inv {ls : Lets} {k : Int} (A : AlphaOk k ls) {w : List Int} (hw : WordOk ls w) : LInv ls k w (lay ls k w) := by
  have key : ∀ (v u : List Int) (s : List Int × List (List Int)), WordOk ls v → LInv ls k u s → LInv ls k (u ++ v) (v.foldl (lstep ls) s) := by
    intro v
    induction v with
    | nil => intro u s _ I; rw [List.append_nil]; exact I
    | cons a v ih =>
      intro u s h I
      have := ih (u ++ [a]) (lstep ls s a) (fun x hx => h x (List.mem_cons_of_mem _ hx)) (I.step A (h a List.mem_cons_self))
      rw [List.append_assoc] at this
      exact this
  exact key w [] _ hw LInv.start
/-! ### the order of free neighbours doesn't matter -/
structure Like (s t : List Int × List (List Int)) : Prop where
  hs : s.1 = t.1
  len : s.2.length = t.2.length
  row : ∀ i, (s.2.getD i []).Perm (t.2.getD i [])
theorem hgt_le {ls : Lets} {k : Int} {w : List Int} {s : List Int × List (List Int)} (A : AlphaOk k ls) (I : LInv ls k w s) {a : Int} (ha : 0 ≤ a ∧ a < (ls.length : Int)) : (top0 (hts ls s.1 a)).toNat ≤ s.2.length ∧ 0 ≤ top0 (hts ls s.1 a) := by
  obtain ⟨pne, _, pok⟩ := A.ok _ (pl_mem ha.1 ha.2)
  have hb : ∀ p ∈ pl ls a, 0 ≤ s.1.getD p.toNat 0 ∧ s.1.getD p.toNat 0 ≤ s.2.length := fun p hp => I.hi _ (by have := pok p hp; omega)
  have hmem : top0 (hts ls s.1 a) ∈ hts ls s.1 a := top0_mem (by simp [hts, pne]) fun y hy => by
    obtain ⟨p, hp, rfl⟩ := List.mem_map.mp hy
    exact (hb p hp).1
  obtain ⟨p, hp, e⟩ := List.mem_map.mp hmem
  have := hb p hp
  omega
theorem Like.step {ls : Lets} {k : Int} {w : List Int} {s t : List Int × List (List Int)} (A : AlphaOk k ls) (I : LInv ls k w s) (L : Like s t) {a : Int} (ha : 0 ≤ a ∧ a < (ls.length : Int)) : Like (lstep ls s a) (lstep ls t a) := by
  have h1 := (hgt_le A I ha).1
  have e : hts ls t.1 a = hts ls s.1 a := by rw [L.hs]
  refine ⟨?_, ?_, fun i => ?_⟩
  · show setAll s.1 _ (top0 (hts ls s.1 a) + 1) = setAll t.1 _ (top0 (hts ls t.1 a) + 1)
    rw [e, L.hs]
  · show (addRow s.2 _ a).length = (addRow t.2 (top0 (hts ls t.1 a)).toNat a).length
    rw [e, addRow_len h1, addRow_len (by rw [← L.len]; exact h1), L.len]
  · show ((addRow s.2 _ a).getD i []).Perm ((addRow t.2 (top0 (hts ls t.1 a)).toNat a).getD i [])
    rw [e, addRow_get h1, addRow_get (by rw [← L.len]; exact h1)]
    split
    · exact (L.row _).append_right _
    · exact L.row i
theorem addRow2 {rs : List (List Int)} {h1 h2 : Nat} {a b : Int} (l1 : h1 ≤ rs.length) (l2 : h2 ≤ rs.length) : (addRow (addRow rs h1 a) h2 b).length = max (max rs.length (h1 + 1)) (h2 + 1) ∧
    ∀ i, (addRow (addRow rs h1 a) h2 b).getD i [] = if i = h2 then (if h2 = h1 then rs.getD h1 [] ++ [a] else rs.getD h2 []) ++ [b] else if i = h1 then rs.getD h1 [] ++ [a] else rs.getD i [] := by
  have e := addRow_len (a := a) l1
  have l3 : h2 ≤ (addRow rs h1 a).length := by rw [e]; omega
  refine ⟨by rw [addRow_len l3, e], fun i => ?_⟩
  rw [addRow_get l3, addRow_get l1, addRow_get l1]
theorem lstep_comm {ls : Lets} {k : Int} {w : List Int} {s : List Int × List (List Int)} (A : AlphaOk k ls) (I : LInv ls k w s) {a b : Int} (ha : 0 ≤ a ∧ a < (ls.length : Int)) (hb : 0 ≤ b ∧ b < (ls.length : Int)) (f : free ls a b = true) : Like (lstep ls (lstep ls s a) b) (lstep ls (lstep ls s b) a) := by
  obtain ⟨_, _, oka⟩ := A.ok _ (pl_mem ha.1 ha.2)
  obtain ⟨_, _, okb⟩ := A.ok _ (pl_mem hb.1 hb.2)
  have l1 := (hgt_le A I ha).1
  have l2 := (hgt_le A I hb).1
  have other : ∀ {x y : Int} {v : Int}, (∀ p ∈ pl ls x, 0 ≤ p ∧ p < k) → (∀ p ∈ pl ls y, 0 ≤ p ∧ p < k) → free ls x y = true → hts ls (setAll s.1 (pl ls x) v) y = hts ls s.1 y := fun {x y v} ox oy fr => by
    refine List.map_congr_left fun p hp => ?_
    have hp2 := oy p hp
    rw [setAll_get (fun q hq => (ox q hq).1) (by rw [I.len]; omega), if_neg fun z => ?_]
    rw [show ((p.toNat : Nat) : Int) = p by omega] at z
    exact disj_iff.mp fr p z hp
  have e1 : hts ls (lstep ls s a).1 b = hts ls s.1 b := other oka okb f
  have e2 : hts ls (lstep ls s b).1 a = hts ls s.1 a := other okb oka (by rw [free_comm]; exact f)
  refine ⟨?_, ?_, fun i => ?_⟩
  · show setAll (setAll s.1 (pl ls a) _) (pl ls b) (top0 (hts ls (lstep ls s a).1 b) + 1) = setAll (setAll s.1 (pl ls b) _) (pl ls a) (top0 (hts ls (lstep ls s b).1 a) + 1)
    rw [e1, e2]
    apply List.ext_getElem
    · simp only [setAll_len]
    · intro n h1 h2
      simp only [setAll_len] at h1 h2
      have g : ∀ (l : List Int) (h : n < l.length), l[n] = l.getD n 0 := fun l h => by rw [List.getD_eq_getElem?_getD, List.getElem?_eq_getElem h]; rfl
      rw [g, g, setAll_get (fun q hq => (okb q hq).1) (by rw [setAll_len]; exact h1), setAll_get (fun q hq => (oka q hq).1) h1, setAll_get (fun q hq => (oka q hq).1) (by rw [setAll_len]; exact h1), setAll_get (fun q hq => (okb q hq).1) h1]
      by_cases c1 : (n : Int) ∈ pl ls b
      · rw [if_pos c1, if_pos c1, if_neg fun c2 => disj_iff.mp f _ c2 c1]
      · rw [if_neg c1, if_neg c1]
  · show (addRow (addRow s.2 _ a) (top0 (hts ls (lstep ls s a).1 b)).toNat b).length = (addRow (addRow s.2 _ b) (top0 (hts ls (lstep ls s b).1 a)).toNat a).length
    rw [e1, e2, (addRow2 l1 l2).1, (addRow2 l2 l1).1]
    omega
  · show ((addRow (addRow s.2 _ a) (top0 (hts ls (lstep ls s a).1 b)).toNat b).getD i []).Perm ((addRow (addRow s.2 _ b) (top0 (hts ls (lstep ls s b).1 a)).toNat a).getD i [])
    rw [e1, e2, (addRow2 l1 l2).2, (addRow2 l2 l1).2]
    generalize (top0 (hts ls s.1 a)).toNat = x
    generalize (top0 (hts ls s.1 b)).toNat = y
    by_cases c1 : i = x <;> by_cases c2 : i = y
    · subst c1; subst c2
      simp only [if_true, List.append_assoc]
      exact (List.perm_append_comm (l₁ := [a]) (l₂ := [b])).append_left _
    · subst c1
      simp only [if_neg c2, if_true]
      exact List.Perm.refl _
    · subst c2
      simp only [if_neg c1, if_true]
      exact List.Perm.refl _
    · simp only [if_neg c1, if_neg c2]
      exact List.Perm.refl _
theorem srt_congr {l m : List Int} (p : l.Perm m) : srt l = srt m := srt_eq ((srt_perm l).trans p) (srt_up l)
theorem Like.same {s t : List Int × List (List Int)} (L : Like s t) : s.2.map srt = t.2.map srt := by
  apply List.ext_getElem
  · simp [L.len]
  · intro n h1 h2
    rw [List.length_map] at h1 h2
    rw [List.getElem_map, List.getElem_map]
    have := L.row n
    rw [List.getD_eq_getElem?_getD, List.getD_eq_getElem?_getD, List.getElem?_eq_getElem h1, List.getElem?_eq_getElem h2] at this
    exact srt_congr this
theorem lay_foldl {ls : Lets} {k : Int} (A : AlphaOk k ls) : ∀ (v : List Int) (w : List Int) (s t : List Int × List (List Int)), WordOk ls v → LInv ls k w s → Like s t → Like (v.foldl (lstep ls) s) (v.foldl (lstep ls) t)
  | [], _, _, _, _, _, L => L
  | a :: v, w, s, t, hv, I, L => lay_foldl A v (w ++ [a]) _ _ (fun x hx => hv x (List.mem_cons_of_mem _ hx)) (I.step A (hv a List.mem_cons_self)) (L.step A I (hv a List.mem_cons_self))
theorem layers_swp {ls : Lets} {k : Int} (A : AlphaOk k ls) {w w' : List Int} (h : Swp ls w w') (hw : WordOk ls w) : layers ls k w' = layers ls k w := by
  induction h with
  | refl => rfl
  | @step u v a b h f ih =>
    rw [← ih]
    obtain ⟨ok, _⟩ := h.word hw
    have oka := ok a (by simp)
    have okb := ok b (by simp)
    have oku : WordOk ls u := fun x hx => ok x (List.mem_append_left _ hx)
    have okv : WordOk ls v := fun x hx => ok x (by simp [hx])
    have I := lay_inv A oku
    have L := lstep_comm A I okb oka (by rw [free_comm]; exact f)
    refine Like.same ?_
    unfold lay
    rw [List.foldl_append, List.foldl_append]
    exact lay_foldl A v (u ++ [b] ++ [a]) _ _ okv ((I.step A okb).step A oka) L
/-! ### what the law asks of the layers -/
theorem free_self {ls : Lets} {k : Int} (A : AlphaOk k ls) {a : Int} (ha : 0 ≤ a ∧ a < (ls.length : Int)) : free ls a a = false := by
  obtain ⟨h, _, _⟩ := A.ok _ (pl_mem ha.1 ha.2)
  obtain ⟨x, xs, e⟩ := List.exists_cons_of_ne_nil h
  exact not_disj.mpr ⟨x, by rw [e]; exact List.mem_cons_self, by rw [e]; exact List.mem_cons_self⟩
theorem at_few {ls : Lets} {p : Int} : ∀ {l m : List Int}, l.Pairwise (fun a b => free ls a b = true) → m.Perm l → at_ ls p m = at_ ls p l := by
  intro l m h pm
  have h1 : (at_ ls p l).length ≤ 1 := by
    have hp : (at_ ls p l).Pairwise (fun a b => free ls a b = true) := h.sublist List.filter_sublist
    have hm : ∀ x ∈ at_ ls p l, p ∈ pl ls x := fun x hx => by simpa using (List.mem_filter.mp hx).2
    match hq : at_ ls p l with
    | [] => simp
    | [_] => simp
    | a :: b :: r =>
      rw [hq] at hp hm
      have f := (List.pairwise_cons.mp hp).1 b List.mem_cons_self
      exact absurd (hm b (by simp)) (disj_iff.mp f p (hm a (by simp)))
  have pq : (at_ ls p m).Perm (at_ ls p l) := pm.filter _
  match hq : at_ ls p l, h1 with
  | [], _ => rw [hq] at pq; exact pq.eq_nil
  | [x], _ => rw [hq] at pq; exact List.perm_singleton.mp pq
structure LayOk (ls : Lets) (w : List Int) (l : List (List Int)) : Prop where
  full : ∀ x ∈ l, x ≠ []
  up : ∀ x ∈ l, x.Pairwise (· < ·)
  apart : ∀ x ∈ l, ∀ a ∈ x, ∀ b ∈ x, a ≠ b → free ls a b = true
  rests : ∀ i x y, l[i]? = some x → l[i + 1]? = some y → ∀ a ∈ y, ∃ b ∈ x, free ls a b = false
  word : ∀ p, at_ ls p l.flatten = at_ ls p w
  ok : ∀ x ∈ l, ∀ a ∈ x, 0 ≤ a ∧ a < (ls.length : Int)
  cnt : l.length ≤ w.length
  few : l.flatten.length ≤ w.length * w.length
  row : ∀ x ∈ l, x.length ≤ w.length
theorem srt_lt {ls : Lets} {k : Int} (A : AlphaOk k ls) {l : List Int} (h : l.Pairwise (fun a b => free ls a b = true)) (ok : ∀ x ∈ l, 0 ≤ x ∧ x < (ls.length : Int)) : (srt l).Pairwise (· < ·) := by
  have nd : (srt l).Nodup := (srt_perm l).nodup_iff.mpr (by
    rw [List.nodup_iff_pairwise_ne]
    refine List.Pairwise.imp_of_mem ?_ h
    intro a b ha hb f e
    subst e
    rw [free_self A (ok a ha)] at f
    cases f)
  have up := srt_up l
  rw [List.nodup_iff_pairwise_ne] at nd
  refine List.Pairwise.imp₂ ?_ up nd
  intro a b h1 h2
  omega
theorem layers_ok {ls : Lets} {k : Int} (A : AlphaOk k ls) {w : List Int} (hw : WordOk ls w) : LayOk ls w (layers ls k w) := by
  have I := lay_inv A hw
  unfold layers
  generalize lay ls k w = s at I
  obtain ⟨hs, rs⟩ := s
  dsimp only at I ⊢
  have get : ∀ x ∈ rs, ∃ i, rs.getD i [] = x ∧ i < rs.length := fun x hx => by
    obtain ⟨i, hi, e⟩ := List.getElem_of_mem hx
    exact ⟨i, by rw [List.getD_eq_getElem?_getD, List.getElem?_eq_getElem hi]; exact e, hi⟩
  have sub : ∀ (P : List Int → Prop), (∀ i, i < rs.length → P (srt (rs.getD i []))) → ∀ x ∈ rs.map srt, P x := fun P h x hx => by
    obtain ⟨y, hy, rfl⟩ := List.mem_map.mp hx
    obtain ⟨i, e, hi⟩ := get y hy
    rw [← e]; exact h i hi
  have pw : ∀ {l : List Int}, l.Pairwise (fun a b => free ls a b = true) → ∀ a ∈ l, ∀ b ∈ l, a ≠ b → free ls a b = true := by
    intro l
    induction l with
    | nil => intro _ a ha; cases ha
    | cons x l ih =>
      intro h a ha b hb ne
      obtain ⟨h1, h2⟩ := List.pairwise_cons.mp h
      rcases List.mem_cons.mp ha with e | ha <;> rcases List.mem_cons.mp hb with e2 | hb
      · exact absurd (e.trans e2.symm) ne
      · rw [e]; exact h1 b hb
      · rw [e2, free_comm]; exact h1 a ha
      · exact ih h2 a ha b hb ne
  refine ⟨sub _ fun i hi e => ?_, sub _ fun i _ => srt_lt A (I.apart i) (I.ok i), sub _ fun i _ a ha b hb ne => ?_, fun i x y hx hy a ha => ?_, fun p => ?_, sub _ fun i _ a ha => I.ok i a ((srt_perm _).subset ha), by rw [List.length_map]; exact I.cnt, ?_, sub _ fun i _ => by rw [(srt_perm _).length_eq]; exact I.few i⟩
  · have := (srt_perm (rs.getD i [])).length_eq
    rw [e] at this
    exact I.full i hi (List.eq_nil_of_length_eq_zero this.symm)
  · exact pw (I.apart i) a ((srt_perm _).subset ha) b ((srt_perm _).subset hb) ne
  · rw [List.getElem?_map] at hx hy
    obtain ⟨x0, hx0, rfl⟩ := Option.map_eq_some_iff.mp hx
    obtain ⟨y0, hy0, rfl⟩ := Option.map_eq_some_iff.mp hy
    have ex : rs.getD i [] = x0 := by rw [List.getD_eq_getElem?_getD, hx0]; rfl
    have ey : rs.getD (i + 1) [] = y0 := by rw [List.getD_eq_getElem?_getD, hy0]; rfl
    obtain ⟨b, hb, f⟩ := I.rests i a (by dsimp only; rw [ey]; exact (srt_perm _).subset ha)
    dsimp only at hb
    rw [ex] at hb
    exact ⟨b, (srt_perm _).symm.subset hb, f⟩
  · rw [← I.word p, at_flatten, at_flatten, List.map_map]
    dsimp only
    congr 1
    refine List.map_congr_left fun x hx => ?_
    obtain ⟨i, e, hi⟩ := get x hx
    refine at_few ?_ (srt_perm x)
    rw [← e]; exact I.apart i
  · have bound : ∀ (l : List (List Int)) (n : Nat), (∀ x ∈ l, x.length ≤ n) → l.flatten.length ≤ l.length * n := by
      intro l n
      induction l with
      | nil => intro _; simp
      | cons x l ih =>
        intro h
        have := ih fun y hy => h y (List.mem_cons_of_mem _ hy)
        have := h x List.mem_cons_self
        rw [List.flatten_cons, List.length_append, List.length_cons, Nat.add_mul]
        omega
    have := bound (rs.map srt) w.length (sub _ fun i _ => by rw [(srt_perm _).length_eq]; exact I.few i)
    rw [List.length_map] at this
    exact Nat.le_trans this (Nat.mul_le_mul_right _ I.cnt)
theorem lt_unique : ∀ {l m : List Int}, l.Pairwise (· < ·) → m.Pairwise (· < ·) → (∀ k, k ∈ l ↔ k ∈ m) → l = m
  | [], [], _, _, _ => rfl
  | [], b :: m, _, _, h => absurd ((h b).mpr List.mem_cons_self) (by simp)
  | a :: l, [], _, _, h => absurd ((h a).mp List.mem_cons_self) (by simp)
  | a :: l, b :: m, h1, h2, h => by
    obtain ⟨x1, x2⟩ := List.pairwise_cons.mp h1
    obtain ⟨y1, y2⟩ := List.pairwise_cons.mp h2
    have hab : a = b := by
      rcases List.mem_cons.mp ((h a).mp List.mem_cons_self) with e | e
      · exact e
      · rcases List.mem_cons.mp ((h b).mpr List.mem_cons_self) with e2 | e2
        · exact e2.symm
        · have := x1 b e2; have := y1 a e; omega
    subst hab
    refine congrArg _ (lt_unique x2 y2 fun k => ⟨fun hk => ?_, fun hk => ?_⟩)
    · rcases List.mem_cons.mp ((h k).mp (List.mem_cons_of_mem _ hk)) with e | e
      · subst e; have := x1 k hk; omega
      · exact e
    · rcases List.mem_cons.mp ((h k).mpr (List.mem_cons_of_mem _ hk)) with e | e
      · subst e; have := y1 k hk; omega
      · exact e
end My
namespace My
/-! ### the order of events -/
/-- event j of the word depends on event k -/
def dep (ls : Lets) (w : List Int) (j k : Nat) : Bool := !free ls (w.getD j 0) (w.getD k 0)
inductive Bel (d : Nat → Nat → Bool) : Nat → Nat → Prop where
  | refl (i : Nat) : Bel d i i
  | step {i j k : Nat} : Bel d i j → j < k → d j k = true → Bel d i k
theorem Bel.le {d : Nat → Nat → Bool} {i k : Nat} (h : Bel d i k) : i ≤ k := by
  induction h with
  | refl => exact Nat.le_refl _
  | step _ h _ ih => omega
theorem Bel.cons {d : Nat → Nat → Bool} {i j k : Nat} (h : d i j = true) (l : i < j) (b : Bel d j k) : Bel d i k := by
  induction b with
  | refl => exact .step (.refl i) l h
  | step _ l2 h2 ih => exact .step ih l2 h2
theorem Bel.first {d : Nat → Nat → Bool} {i k : Nat} (b : Bel d i k) : i = k ∨ ∃ j, i < j ∧ d i j = true ∧ Bel d j k := by
  induction b with
  | refl => exact .inl rfl
  | @step j k b l h ih =>
    rcases ih with e | ⟨m, h1, h2, h3⟩
    · subst e; exact .inr ⟨k, l, h, .refl k⟩
    · exact .inr ⟨m, h1, h2, .step h3 l h⟩
theorem Bel.last {d : Nat → Nat → Bool} {i k : Nat} : Bel d i k ↔ i = k ∨ ∃ j, j < k ∧ d j k = true ∧ Bel d i j := by
  constructor
  · intro b
    cases b with
    | refl => exact .inl rfl
    | step b l h => exact .inr ⟨_, l, h, b⟩
  · rintro (e | ⟨j, l, h, b⟩)
    · subst e; exact .refl i
    · exact .step b l h
/-- a table of truth values at a place -/
def cell (m : List (List Bool)) (r c : Nat) : Bool := (m.getD r []).getD c false
def Sized (m : List (List Bool)) (n : Nat) : Prop := m.length = n ∧ ∀ r, r < n → (m.getD r []).length = n
def setCell (m : List (List Bool)) (r c : Nat) : List (List Bool) := m.set r ((m.getD r []).set c true)
theorem cell_set {m : List (List Bool)} {n r c r' c' : Nat} (s : Sized m n) (hr : r < n) (hc : c < n) : cell (setCell m r c) r' c' = if r' = r ∧ c' = c then true else cell m r' c' := by
  unfold cell setCell
  have h1 := s.1
  have h2 := s.2 r hr
  by_cases e : r' = r
  · subst e
    have : (m.set r' ((m.getD r' []).set c true)).getD r' [] = (m.getD r' []).set c true := by simp [List.getD_eq_getElem?_getD, h1, hr]
    rw [this]
    by_cases e2 : c' = c
    · subst e2
      rw [if_pos ⟨rfl, rfl⟩]
      simp only [List.getD_eq_getElem?_getD] at h2 ⊢
      simp [h2, hc]
    · rw [if_neg (fun z => e2 z.2)]
      simp [List.getD_eq_getElem?_getD, List.getElem?_set, Ne.symm e2]
  · rw [if_neg (fun z => e z.1)]
    simp [List.getD_eq_getElem?_getD, List.getElem?_set, Ne.symm e]
theorem sized_set {m : List (List Bool)} {n r c : Nat} (s : Sized m n) : Sized (setCell m r c) n := by
  unfold setCell
  refine ⟨by rw [List.length_set]; exact s.1, fun r' h => ?_⟩
  by_cases e : r' = r
  · subst e
    have h1 := s.1
    have : (m.set r' ((m.getD r' []).set c true)).getD r' [] = (m.getD r' []).set c true := by simp [List.getD_eq_getElem?_getD, h1, h]
    rw [this, List.length_set]; exact s.2 r' h
  · have := s.2 r' h
    simp only [List.getD_eq_getElem?_getD] at this ⊢
    rw [List.getElem?_set, if_neg (Ne.symm e)]; exact this
/-! ### masks -/
/-- the bits of a mask are the places of the letter -/
def MaskOf (m : Nat) (l : List Int) : Prop := ∀ p : Nat, m.testBit p = true ↔ (p : Int) ∈ l
theorem mask_add {m : Nat} {l : List Int} {p : Nat} (h : MaskOf m l) : MaskOf (m ||| 2 ^ p) (l ++ [(p : Int)]) := by
  intro q
  rw [Nat.testBit_or, Bool.or_eq_true, h q, Nat.testBit_two_pow, List.mem_append, List.mem_singleton, decide_eq_true_iff]
  constructor
  · rintro (h | h)
    · exact .inl h
    · subst h; exact .inr rfl
  · rintro (h | h)
    · exact .inl h
    · exact .inr (by omega)
theorem mask_meet {m n : Nat} : (m &&& n ≠ 0) ↔ ∃ p, m.testBit p = true ∧ n.testBit p = true := by
  constructor
  · intro h
    obtain ⟨p, hp⟩ := Nat.exists_testBit_of_ne_zero h
    rw [Nat.testBit_and, Bool.and_eq_true] at hp
    exact ⟨p, hp⟩
  · rintro ⟨p, h1, h2⟩ e
    have : (m &&& n).testBit p = true := by rw [Nat.testBit_and, h1, h2]; rfl
    rw [e, Nat.zero_testBit] at this
    cases this
theorem band_nat (m n : Nat) : PySem.Builtin.bitAnd (m : Int) (n : Int) = ((m &&& n : Nat) : Int) := by
  have := PyProof.Rows.bitAnd_pp (x := (m : Int)) (y := (n : Int)) (by omega) (by omega)
  simpa using this
theorem bor_nat (m n : Nat) : PySem.Builtin.bitOr (m : Int) (n : Int) = ((m ||| n : Nat) : Int) := by
  have := Bits.bitOr_pp (x := (m : Int)) (y := (n : Int)) (by omega) (by omega)
  simpa using this
theorem nz_true {x : Nat} (h : true = !decide ((x : Int) = 0)) : x ≠ 0 := by
  intro e; subst e; simp at h
theorem nz_false {x : Nat} (h : false = !decide ((x : Int) = 0)) : ¬ x ≠ 0 := by
  intro e
  simp at h
  exact e h
theorem nz_is {x : Nat} {b : Bool} (h : x ≠ 0 ↔ b = true) : (!decide ((x : Int) = 0)) = b := by
  cases b with
  | true =>
    have := h.mpr rfl
    simp
    exact this
  | false =>
    have : x = 0 := Classical.byContradiction fun e => by have := h.mp e; cases this
    subst this; rfl
end My
namespace My
/-! ### words of places, swaps, least forms -/
/-- the same words of all places -/
def Alk (ls : Lets) (k : Int) (u v : List Int) : Prop := ∀ p : Int, 0 ≤ p → p < k → at_ ls p u = at_ ls p v
theorem Alk.symm {ls k u v} (h : Alk ls k u v) : Alk ls k v u := fun p a b => (h p a b).symm
theorem Alk.trans {ls k u v x} (h : Alk ls k u v) (g : Alk ls k v x) : Alk ls k u x := fun p a b => (h p a b).trans (g p a b)
theorem AlphaOk.pl_ok {k : Int} {ls : Lets} (A : AlphaOk k ls) {a : Int} (ha : 0 ≤ a ∧ a < (ls.length : Int)) : pl ls a ≠ [] ∧ ∀ p ∈ pl ls a, 0 ≤ p ∧ p < k := by
  obtain ⟨h1, _, h3⟩ := A.ok _ (pl_mem ha.1 ha.2)
  exact ⟨h1, h3⟩
theorem AlphaOk.some {k : Int} {ls : Lets} (A : AlphaOk k ls) {a : Int} (ha : 0 ≤ a ∧ a < (ls.length : Int)) : ∃ p ∈ pl ls a, 0 ≤ p ∧ p < k := by
  obtain ⟨h1, h3⟩ := A.pl_ok ha
  obtain ⟨p, hp⟩ := List.exists_mem_of_ne_nil _ h1
  exact ⟨p, hp, h3 p hp⟩
/-- the letter comes next at each of its places -/
def rdy (ls : Lets) (r : List Int) (a : Int) : Bool := (pl ls a).all fun p => decide ((at_ ls p r).head? = some a)
theorem rdy_iff {ls : Lets} {r : List Int} {a : Int} : rdy ls r a = true ↔ ∀ p ∈ pl ls a, (at_ ls p r).head? = some a := by
  unfold rdy; simp
theorem at_cons_in {ls : Lets} {p a : Int} {r : List Int} (h : p ∈ pl ls a) : at_ ls p (a :: r) = a :: at_ ls p r := by
  unfold at_; rw [List.filter_cons, if_pos (by simpa using h)]
theorem at_cons_out {ls : Lets} {p a : Int} {r : List Int} (h : p ∉ pl ls a) : at_ ls p (a :: r) = at_ ls p r := by
  unfold at_; rw [List.filter_cons, if_neg (by simpa using h)]
theorem rdy_first {ls : Lets} {r : List Int} {a : Int} : rdy ls (a :: r) a = true := rdy_iff.mpr fun p hp => by rw [at_cons_in hp]; rfl
theorem WordOk.tail {ls : Lets} {a : Int} {r : List Int} (h : WordOk ls (a :: r)) : WordOk ls r := fun x hx => h x (List.mem_cons_of_mem _ hx)
theorem WordOk.erase {ls : Lets} {a : Int} {r : List Int} (h : WordOk ls r) : WordOk ls (r.erase a) := fun x hx => h x (List.mem_of_mem_erase hx)
theorem rdy_split {k : Int} {ls : Lets} (A : AlphaOk k ls) {a : Int} (ha : 0 ≤ a ∧ a < (ls.length : Int)) : ∀ {r : List Int}, rdy ls r a = true → ∃ r1 r2, r = r1 ++ a :: r2 ∧ a ∉ r1 ∧ (∀ b ∈ r1, free ls b a = true) ∧ r.erase a = r1 ++ r2
  | [], h => by
    obtain ⟨p, hp, _⟩ := A.some ha
    have := rdy_iff.mp h p hp
    simp [at_] at this
  | b :: r, h => by
    by_cases e : b = a
    · subst e
      exact ⟨[], r, rfl, by simp, (by simp), by simp⟩
    · have hp : ∀ p ∈ pl ls a, p ∉ pl ls b := fun p hp hb => by
        have := rdy_iff.mp h p hp
        rw [at_cons_in hb] at this
        exact e (by simpa using this)
      have h2 : rdy ls r a = true := rdy_iff.mpr fun p q => by
        have := rdy_iff.mp h p q
        rwa [at_cons_out (hp p q)] at this
      obtain ⟨r1, r2, e1, n1, f1, x1⟩ := rdy_split A ha h2
      refine ⟨b :: r1, r2, by rw [e1]; rfl, ?_, ?_, ?_⟩
      · intro hm
        rcases List.mem_cons.mp hm with hm | hm
        · exact e hm.symm
        · exact n1 hm
      · intro c hc
        rcases List.mem_cons.mp hc with rfl | hc
        · exact disj_iff.mpr fun p hpb hpa => hp p hpa hpb
        · exact f1 c hc
      · rw [List.erase_cons, if_neg (by simpa using e), x1]; rfl
theorem rdy_at {k : Int} {ls : Lets} (A : AlphaOk k ls) {a : Int} (ha : 0 ≤ a ∧ a < (ls.length : Int)) {r : List Int} (h : rdy ls r a = true) (p : Int) : at_ ls p r = at_ ls p (a :: r.erase a) := by
  obtain ⟨r1, r2, e1, n1, f1, x1⟩ := rdy_split A ha h
  rw [x1]
  by_cases hp : p ∈ pl ls a
  · have : at_ ls p r1 = [] := at_nil_iff.mpr fun b hb q => disj_iff.mp (f1 b hb) p q hp
    rw [at_cons_in hp, e1, at_append, at_append, this, at_cons_in hp]; rfl
  · rw [at_cons_out hp, e1, at_append, at_append, at_cons_out hp]
theorem rdy_mem {k : Int} {ls : Lets} (A : AlphaOk k ls) {a : Int} (ha : 0 ≤ a ∧ a < (ls.length : Int)) {r : List Int} (h : rdy ls r a = true) : a ∈ r := by
  obtain ⟨r1, r2, e1, _⟩ := rdy_split A ha h
  rw [e1]; simp
theorem Swp.trans1 {ls : Lets} {w u v : List Int} {a : Int} : ∀ {r : List Int}, Swp ls w (u ++ (r ++ a :: v)) → (∀ b ∈ r, free ls b a = true) → Swp ls w (u ++ a :: (r ++ v)) := by
  intro r
  induction r generalizing u with
  | nil => intro h _; exact h
  | cons b r ih =>
    intro h hf
    have h1 : Swp ls w ((u ++ [b]) ++ (r ++ a :: v)) := by simpa using h
    have h2 := ih h1 fun c hc => hf c (List.mem_cons_of_mem _ hc)
    have h3 : Swp ls w (u ++ b :: a :: (r ++ v)) := by simpa using h2
    exact .step h3 (hf b List.mem_cons_self)
theorem Alk.nil {k : Int} {ls : Lets} (A : AlphaOk k ls) {u : List Int} (hu : WordOk ls u) (h : Alk ls k u []) : u = [] := by
  cases u with
  | nil => rfl
  | cons a u =>
    obtain ⟨p, hp, h0, h1⟩ := A.some (hu a List.mem_cons_self)
    have := h p h0 h1
    rw [at_cons_in hp] at this
    cases this
theorem Alk.rdy {k : Int} {ls : Lets} (A : AlphaOk k ls) {u v : List Int} (h : Alk ls k u v) {a : Int} (ha : 0 ≤ a ∧ a < (ls.length : Int)) : rdy ls u a = rdy ls v a := by
  have := (A.pl_ok ha).2
  rw [Bool.eq_iff_iff, rdy_iff, rdy_iff]
  exact ⟨fun x p hp => by rw [← h p (this p hp).1 (this p hp).2]; exact x p hp, fun x p hp => by rw [h p (this p hp).1 (this p hp).2]; exact x p hp⟩
theorem Alk.tail {k : Int} {ls : Lets} {a : Int} {u v : List Int} (h : Alk ls k (a :: u) (a :: v)) : Alk ls k u v := fun p h0 h1 => by
  have := h p h0 h1
  by_cases hp : p ∈ pl ls a
  · rw [at_cons_in hp, at_cons_in hp] at this
    exact (List.cons.inj this).2
  · rwa [at_cons_out hp, at_cons_out hp] at this
theorem Alk.erase {k : Int} {ls : Lets} (A : AlphaOk k ls) {u v : List Int} (h : Alk ls k u v) {a : Int} (ha : 0 ≤ a ∧ a < (ls.length : Int)) (r : My.rdy ls u a = true) : Alk ls k (u.erase a) (v.erase a) := by
  have r2 : My.rdy ls v a = true := by rw [← h.rdy A ha]; exact r
  refine Alk.tail (a := a) fun p h0 h1 => ?_
  rw [← rdy_at A ha r, ← rdy_at A ha r2]
  exact h p h0 h1
theorem Alk.head {k : Int} {ls : Lets} (A : AlphaOk k ls) {u v : List Int} {a : Int} (h : Alk ls k u (a :: v)) (ha : 0 ≤ a ∧ a < (ls.length : Int)) : My.rdy ls u a = true ∧ Alk ls k (u.erase a) v := by
  have r : My.rdy ls u a = true := by rw [h.rdy A ha]; exact rdy_first
  have := h.erase A ha r
  rw [List.erase_cons_head] at this
  exact ⟨r, this⟩
theorem swp_of_alk {k : Int} {ls : Lets} (A : AlphaOk k ls) : ∀ {v u w x : List Int}, WordOk ls u → WordOk ls v → Alk ls k u v → Swp ls w (x ++ u) → Swp ls w (x ++ v)
  | [], u, w, x, hu, hv, h, s => by rw [h.nil A hu] at s; exact s
  | a :: v, u, w, x, hu, hv, h, s => by
    have ha := hv a List.mem_cons_self
    obtain ⟨r, h2⟩ := h.head A ha
    obtain ⟨r1, r2, e1, n1, f1, x1⟩ := rdy_split A ha r
    have s2 : Swp ls w (x ++ a :: (r1 ++ r2)) := by
      rw [e1] at s
      exact s.trans1 f1
    rw [← x1] at s2
    have s3 : Swp ls w ((x ++ [a]) ++ u.erase a) := by simpa using s2
    have := swp_of_alk A hu.erase hv.tail h2 s3
    simpa using this
theorem Alk.len {k : Int} {ls : Lets} (A : AlphaOk k ls) {u v : List Int} (hu : WordOk ls u) (hv : WordOk ls v) (h : Alk ls k u v) : v.length = u.length :=
  (swp_of_alk A (x := []) hu hv h (.refl u)).word hu |>.2
theorem Alk.layers {k : Int} {ls : Lets} (A : AlphaOk k ls) {u v : List Int} (hu : WordOk ls u) (hv : WordOk ls v) (h : Alk ls k u v) : My.layers ls k v = My.layers ls k u :=
  layers_swp A (swp_of_alk A (x := []) hu hv h (.refl u)) hu
/-! least forms -/
def nxt (ls : Lets) (r : List Int) : Option Nat := ((List.range ls.length).filter fun a : Nat => rdy ls r a).head?
def lfN (ls : Lets) : Nat → List Int → List Int
  | 0, _ => []
  | n + 1, r => match nxt ls r with
    | none => []
    | some a => (a : Int) :: lfN ls n (r.erase a)
theorem lfN_succ {ls : Lets} {n : Nat} {r : List Int} : lfN ls (n + 1) r = match nxt ls r with | none => [] | some a => (a : Int) :: lfN ls n (r.erase a) := rfl
def lf (ls : Lets) (w : List Int) : List Int := lfN ls w.length w
theorem nxt_some {ls : Lets} {r : List Int} (hr : WordOk ls r) (h : r ≠ []) : ∃ a : Nat, nxt ls r = some a ∧ a < ls.length ∧ rdy ls r a = true := by
  obtain ⟨b, r', rfl⟩ := List.exists_cons_of_ne_nil h
  have hb := hr b List.mem_cons_self
  obtain ⟨c, rfl⟩ := Int.eq_ofNat_of_zero_le hb.1
  have hc : c ∈ (List.range ls.length).filter fun a : Nat => rdy ls ((c : Int) :: r') a := List.mem_filter.mpr ⟨List.mem_range.mpr (by omega), rdy_first⟩
  cases e : nxt ls ((c : Int) :: r') with
  | none =>
    unfold nxt at e
    rw [List.head?_eq_none_iff] at e
    rw [e] at hc; cases hc
  | some a =>
    have hm := List.mem_of_mem_head? (by exact e : _ ∈ ((List.range ls.length).filter fun a : Nat => rdy ls ((c : Int) :: r') a).head?)
    obtain ⟨h1, h2⟩ := List.mem_filter.mp hm
    exact ⟨a, rfl, List.mem_range.mp h1, h2⟩
theorem nxt_alk {k : Int} {ls : Lets} (A : AlphaOk k ls) {u v : List Int} (h : Alk ls k u v) : nxt ls u = nxt ls v := by
  unfold nxt
  congr 1
  apply List.filter_congr
  intro a ha
  have := List.mem_range.mp ha
  exact h.rdy A ⟨by omega, by omega⟩
theorem lfN_ok {k : Int} {ls : Lets} (A : AlphaOk k ls) : ∀ {n : Nat} {r : List Int}, WordOk ls r → r.length = n → (lfN ls n r).length = n ∧ WordOk ls (lfN ls n r) ∧ ∀ p, at_ ls p (lfN ls n r) = at_ ls p r
  | 0, r, hr, h => by
    have : r = [] := List.length_eq_zero_iff.mp h
    subst this
    exact ⟨rfl, (fun x hx => absurd hx (by simp [lfN]) : WordOk ls (lfN ls 0 [])), fun p => rfl⟩
  | n + 1, r, hr, h => by
    obtain ⟨a, e, ha, rd⟩ := nxt_some hr (fun z => by subst z; cases h)
    have hA : 0 ≤ (a : Int) ∧ (a : Int) < (ls.length : Int) := ⟨by omega, by omega⟩
    have hm := rdy_mem A hA rd
    have hl : (r.erase (a : Int)).length = n := by rw [List.length_erase_of_mem hm]; omega
    obtain ⟨i1, i2, i3⟩ := lfN_ok A hr.erase hl
    have e2 : lfN ls (n + 1) r = (a : Int) :: lfN ls n (r.erase a) := by rw [lfN_succ, e]
    rw [e2]
    refine ⟨by simpa using i1, fun x hx => ?_, fun p => ?_⟩
    · rcases List.mem_cons.mp hx with rfl | hx
      · exact hA
      · exact i2 x hx
    · rw [rdy_at A hA rd p]
      by_cases hp : p ∈ pl ls a
      · rw [at_cons_in hp, at_cons_in hp, i3]
      · rw [at_cons_out hp, at_cons_out hp, i3]
theorem lfN_alk {k : Int} {ls : Lets} (A : AlphaOk k ls) : ∀ {n : Nat} {u v : List Int}, WordOk ls u → WordOk ls v → Alk ls k u v → lfN ls n u = lfN ls n v
  | 0, u, v, _, _, _ => rfl
  | n + 1, u, v, hu, hv, h => by
    rw [lfN_succ, lfN_succ, nxt_alk A h]
    cases e : nxt ls v with
    | none => rfl
    | some a =>
      have hm := List.mem_of_mem_head? (by exact e : _ ∈ ((List.range ls.length).filter fun a : Nat => rdy ls v a).head?)
      obtain ⟨h1, h2⟩ := List.mem_filter.mp hm
      have := List.mem_range.mp h1
      have hA : 0 ≤ (a : Int) ∧ (a : Int) < (ls.length : Int) := ⟨by omega, by omega⟩
      have := lfN_alk A (n := n) hu.erase hv.erase (h.erase A hA (by rw [h.rdy A hA]; exact h2))
      simp only [this]
theorem lf_ok {k : Int} {ls : Lets} (A : AlphaOk k ls) {w : List Int} (hw : WordOk ls w) : (lf ls w).length = w.length ∧ WordOk ls (lf ls w) ∧ ∀ p, at_ ls p (lf ls w) = at_ ls p w := lfN_ok A hw rfl
theorem lf_alk {k : Int} {ls : Lets} (A : AlphaOk k ls) {u v : List Int} (hu : WordOk ls u) (hv : WordOk ls v) : lf ls u = lf ls v ↔ Alk ls k u v := by
  constructor
  · intro h p _ _
    rw [← (lf_ok A hu).2.2 p, h, (lf_ok A hv).2.2 p]
  · intro h
    have := h.len A hu hv
    unfold lf
    rw [this]
    exact lfN_alk A hu hv h
theorem lf_lf {k : Int} {ls : Lets} (A : AlphaOk k ls) {w : List Int} (hw : WordOk ls w) : lf ls (lf ls w) = lf ls w :=
  (lf_alk A (lf_ok A hw).2.1 hw).mpr fun p _ _ => (lf_ok A hw).2.2 p
theorem lf_step {ls : Lets} {r : List Int} {a : Nat} (h : nxt ls r = some a) (hm : (a : Int) ∈ r) : lf ls r = (a : Int) :: lf ls (r.erase a) := by
  unfold lf
  obtain ⟨n, e⟩ : ∃ n, r.length = n + 1 := ⟨r.length - 1, by have := List.length_pos_of_mem hm; omega⟩
  have hl : (r.erase (a : Int)).length = n := by rw [List.length_erase_of_mem hm]; omega
  rw [e, hl]
  show (match nxt ls r with | none => [] | some a => (a : Int) :: lfN ls n (r.erase a)) = _
  rw [h]
/-! lists of swaps -/
def swp1 (ls : Lets) (w : List Int) (a : Int) : Option (List Int) :=
  if 0 ≤ a ∧ a + 1 < (w.length : Int) ∧ free ls (w.getD a.toNat 0) (w.getD (a.toNat + 1) 0) = true then some ((w.set a.toNat (w.getD (a.toNat + 1) 0)).set (a.toNat + 1) (w.getD a.toNat 0)) else none
def swpAll (ls : Lets) (w : List Int) (ps : List Int) : Option (List Int) := ps.foldl (fun o a => o.bind fun w => swp1 ls w a) (some w)
theorem swpAll_snoc {ls : Lets} {w : List Int} {ps : List Int} {a : Int} : swpAll ls w (ps ++ [a]) = (swpAll ls w ps).bind fun w => swp1 ls w a := by
  unfold swpAll; rw [List.foldl_append]; rfl
theorem swpAll_none {ls : Lets} : ∀ {ps : List Int}, ps.foldl (fun o a => o.bind fun w => swp1 ls w a) none = none
  | [] => rfl
  | _ :: ps => by rw [List.foldl_cons]; exact swpAll_none
theorem swpAll_take {ls : Lets} {w : List Int} {ps : List Int} {i : Nat} (h : swpAll ls w (ps.take i) = none) : swpAll ls w ps = none := by
  unfold swpAll at h ⊢
  rw [← List.take_append_drop i ps, List.foldl_append, h]
  exact swpAll_none
theorem swp1_mid {ls : Lets} {x y : List Int} {b a : Int} (h : free ls b a = true) : swp1 ls (x ++ b :: a :: y) (x.length : Int) = some (x ++ a :: b :: y) := by
  unfold swp1
  have g1 : (x ++ b :: a :: y).getD x.length 0 = b := by simp [List.getD_eq_getElem?_getD]
  have g2 : (x ++ b :: a :: y).getD (x.length + 1) 0 = a := by simp [List.getD_eq_getElem?_getD]
  rw [Int.toNat_natCast, g1, g2, if_pos ⟨by omega, by simp; omega, h⟩]
  congr 1
  rw [List.set_append_right _ _ (by omega), List.set_append_right _ _ (by omega)]
  simp
theorem swpAll_word {ls : Lets} {w : List Int} : ∀ {ps v : List Int}, WordOk ls w → swpAll ls w ps = some v → WordOk ls v ∧ v.length = w.length := by
  intro ps
  induction ps generalizing w with
  | nil => intro v hw h; cases h; exact ⟨hw, rfl⟩
  | cons a ps ih =>
    intro v hw h
    unfold swpAll at h
    rw [List.foldl_cons] at h
    cases e : swp1 ls w a with
    | none => rw [show (Option.bind (some w) fun w => swp1 ls w a) = none from e, swpAll_none] at h; cases h
    | some u =>
      rw [show (Option.bind (some w) fun w => swp1 ls w a) = some u from e] at h
      have hu : WordOk ls u ∧ u.length = w.length := by
        unfold swp1 at e
        split at e
        · rename_i c
          cases e
          refine ⟨fun x hx => ?_, by simp⟩
          have m : ∀ i : Nat, i < w.length → w.getD i 0 ∈ w := fun i hi => by rw [List.getD_eq_getElem?_getD, List.getElem?_eq_getElem hi]; exact List.getElem_mem hi
          rcases List.mem_or_eq_of_mem_set hx with hx | rfl
          · rcases List.mem_or_eq_of_mem_set hx with hx | rfl
            · exact hw x hx
            · exact hw _ (m _ (by omega))
          · exact hw _ (m _ (by omega))
        · cases e
      obtain ⟨h1, h2⟩ := ih hu.1 h
      exact ⟨h1, by omega⟩
end My
namespace My
/-! ### swaps counted -/
def tot : List Int → List Int → Nat
  | _, [] => 0
  | x, a :: v => x.idxOf a + tot (x.erase a) v
theorem idxOf_mid {r1 r2 : List Int} {a : Int} (h : a ∉ r1) : (r1 ++ a :: r2).idxOf a = r1.length := by
  rw [List.idxOf_append, if_neg h, List.idxOf_cons_self]; omega
/-- how often the letter at e stands before e -/
def occ (u : List Int) (e : Nat) : Nat := (u.take e).count (u.getD e 0)
def num (u : List Int) : List (Int × Int) := (List.range u.length).map fun e => (u.getD e 0, (occ u e : Int))
def pk (u : List Int) : List Int → List Int → List Nat
  | _, [] => []
  | pre, a :: v => (num u).idxOf (a, (pre.count a : Int)) :: pk u (pre ++ [a]) v
def rho (u pre : List Int) : List Nat := (List.range u.length).filter fun e => decide (pre.count (u.getD e 0) ≤ occ u e)
theorem occ_ex : ∀ {u : List Int} {a : Int} {c : Nat}, c < u.count a → ∃ e, e < u.length ∧ u.getD e 0 = a ∧ (u.take e).count a = c
  | [], a, c, h => by simp at h
  | b :: u, a, c, h => by
    by_cases e : b = a
    · subst e
      cases c with
      | zero => exact ⟨0, by simp, rfl, rfl⟩
      | succ c =>
        rw [List.count_cons_self] at h
        obtain ⟨e, h1, h2, h3⟩ := occ_ex (u := u) (a := b) (c := c) (by omega)
        exact ⟨e + 1, by simp; omega, by simpa using h2, by rw [List.take_succ_cons, List.count_cons_self, h3]⟩
    · rw [List.count_cons_of_ne (by simpa using e)] at h
      obtain ⟨i, h1, h2, h3⟩ := occ_ex (u := u) h
      exact ⟨i + 1, by simp; omega, by simpa using h2, by rw [List.take_succ_cons, List.count_cons_of_ne (by simpa using e), h3]⟩
theorem occ_mono {u : List Int} {a : Int} {d e : Nat} (hd : d < e) (he : e < u.length) (ha : u.getD d 0 = a) : (u.take d).count a < (u.take e).count a := by
  have e1 : u.take (d + 1) = u.take d ++ [a] := by
    rw [List.take_add_one, List.getElem?_eq_getElem (by omega)]
    rw [List.getD_eq_getElem?_getD, List.getElem?_eq_getElem (by omega)] at ha
    have ha : u[d] = a := ha
    rw [ha]; rfl
  have e2 : (u.take (d + 1)).count a ≤ (u.take e).count a := by
    have : u.take (d + 1) = (u.take e).take (d + 1) := by rw [List.take_take, Nat.min_eq_left (by omega)]
    rw [this]
    exact List.Sublist.count_le _ (List.take_sublist _ _)
  rw [e1, List.count_append] at e2
  simp at e2
  omega
theorem occ_inj {u : List Int} {d e : Nat} (hd : d < u.length) (he : e < u.length) (h : u.getD d 0 = u.getD e 0) (h2 : occ u d = occ u e) : d = e := by
  unfold occ at h2
  rcases Nat.lt_trichotomy d e with x | x | x
  · have := occ_mono x he h
    rw [h] at h2; omega
  · exact x
  · have := occ_mono x hd h.symm
    rw [← h] at h2
    omega
theorem num_at {u : List Int} {e : Nat} (h : e < u.length) : (num u)[e]? = some (u.getD e 0, (occ u e : Int)) := by
  unfold num; rw [List.getElem?_map, List.getElem?_range h]; rfl
theorem num_idx {u : List Int} {e : Nat} (h : e < u.length) : (num u).idxOf (u.getD e 0, (occ u e : Int)) = e := by
  have hm : (u.getD e 0, (occ u e : Int)) ∈ num u := List.mem_of_getElem? (num_at h)
  have hl := List.idxOf_lt_length_of_mem hm
  have hlen : (num u).length = u.length := by unfold num; simp
  have hg : (num u)[(num u).idxOf (u.getD e 0, (occ u e : Int))] = _ := List.getElem_idxOf hl
  have h2 := num_at (u := u) (e := (num u).idxOf (u.getD e 0, (occ u e : Int))) (by omega)
  rw [List.getElem?_eq_getElem hl, hg] at h2
  have h3 := Option.some.inj h2
  have h4 := congrArg Prod.fst h3
  have h5 := congrArg Prod.snd h3
  dsimp only at h4 h5
  exact (occ_inj h (by omega) h4 (by omega)).symm
/-- a run: each time one of what is left is taken -/
inductive Run : List Nat → List Nat → Nat → Prop where
  | nil : Run [] [] 0
  | cons {r1 r2 P e t} : Run (r1 ++ r2) P t → Run (r1 ++ e :: r2) (e :: P) (r1.length + t)
def inv : List Nat → Nat
  | [] => 0
  | e :: P => (P.filter fun p => decide (p < e)).length + inv P
theorem Run.ok {r P t} (h : Run r P t) : r.Pairwise (· < ·) → r.Perm P ∧ t = inv P := by
  induction h with
  | nil => exact fun _ => ⟨.refl _, rfl⟩
  | @cons r1 r2 P e t h ih =>
    intro hp
    have hs : List.Sublist (r1 ++ r2) (r1 ++ e :: r2) := List.Sublist.append_left (List.sublist_cons_self _ _) _
    obtain ⟨p1, p2⟩ := ih (hp.sublist hs)
    refine ⟨List.perm_middle.trans (.cons e p1), ?_⟩
    have hf : (P.filter fun p => decide (p < e)).length = r1.length := by
      rw [← (p1.filter _).length_eq, List.filter_append]
      obtain ⟨q1, q2, q3⟩ := List.pairwise_append.mp hp
      rw [List.filter_eq_self.mpr fun x hx => decide_eq_true (q3 x hx e List.mem_cons_self), List.filter_eq_nil_iff.mpr fun x hx => by
        have := (List.pairwise_cons.mp q2).1 x hx
        simp; omega]
      simp
    unfold inv
    rw [hf, p2]
theorem run_of {u : List Int} : ∀ {v pre : List Int}, u.Perm (pre ++ v) → Run (rho u pre) (pk u pre v) (tot ((rho u pre).map fun e => u.getD e 0) v)
  | [], pre, h => by
    have : rho u pre = [] := by
      unfold rho
      rw [List.filter_eq_nil_iff]
      intro e he
      have he := List.mem_range.mp he
      rw [List.append_nil] at h
      have h1 := h.count_eq (u.getD e 0)
      have e1 : u = u.take e ++ u.getD e 0 :: u.drop (e + 1) := by
        conv => lhs; rw [← List.take_append_drop e u, List.drop_eq_getElem_cons he]
        rw [List.getD_eq_getElem?_getD, List.getElem?_eq_getElem he]; rfl
      have h2 : u.count (u.getD e 0) = (u.take e).count (u.getD e 0) + ((u.drop (e + 1)).count (u.getD e 0) + 1) := by
        conv => lhs; rw [e1]
        rw [List.count_append]
        have : u.take e ++ u.getD e 0 :: u.drop (e + 1) = u := e1.symm
        rw [show (u.take e ++ u.getD e 0 :: u.drop (e + 1)).getD e 0 = u.getD e 0 by rw [this], List.count_cons_self]
      simp only [decide_eq_true_eq]
      unfold occ
      omega
    rw [this]
    exact .nil
  | a :: v, pre, h => by
    have hc : pre.count a < u.count a := by
      rw [h.count_eq a, List.count_append, List.count_cons_self]; omega
    obtain ⟨e, h1, h2, h3⟩ := occ_ex hc
    have ho : occ u e = pre.count a := by unfold occ; rw [h2]; exact h3
    have hi : (num u).idxOf (a, (pre.count a : Int)) = e := by
      rw [← num_idx h1, h2, ho]
    have hm : e ∈ rho u pre := List.mem_filter.mpr ⟨List.mem_range.mpr h1, by rw [h2, ho]; simp⟩
    have hpw : (rho u pre).Pairwise (· < ·) := List.pairwise_lt_range.sublist List.filter_sublist
    obtain ⟨r1, r2, er⟩ := List.append_of_mem hm
    have hpw2 := hpw
    rw [er] at hpw2
    obtain ⟨q1, q2, q3⟩ := List.pairwise_append.mp hpw2
    have hr : rho u (pre ++ [a]) = r1 ++ r2 := by
      have : rho u (pre ++ [a]) = (rho u pre).filter fun d => decide (d ≠ e) := by
        unfold rho
        rw [List.filter_filter]
        apply List.filter_congr
        intro d hd
        have hd := List.mem_range.mp hd
        rw [Bool.eq_iff_iff]
        simp only [Bool.and_eq_true, decide_eq_true_eq, List.count_append]
        by_cases z : u.getD d 0 = a
        · rw [z, List.count_singleton_self]
          constructor
          · intro hh
            refine ⟨?_, by omega⟩
            rintro rfl; omega
          · rintro ⟨hh1, hh2⟩
            rcases Nat.lt_or_ge (pre.count a) (occ u d) with hlt | hge
            · omega
            · exact absurd (occ_inj hd h1 (by rw [z, h2]) (by omega)) hh1
        · rw [List.count_eq_zero_of_not_mem (a := u.getD d 0) (l := [a]) (by simpa using z)]
          constructor
          · intro hh
            exact ⟨by rintro rfl; exact z h2, by omega⟩
          · rintro ⟨_, hh⟩; omega
      rw [this, er, List.filter_append, List.filter_cons]
      have n1 : r1.filter (fun d => decide (d ≠ e)) = r1 := List.filter_eq_self.mpr fun x hx => by
        have := q3 x hx e List.mem_cons_self
        simp; omega
      have n2 : r2.filter (fun d => decide (d ≠ e)) = r2 := List.filter_eq_self.mpr fun x hx => by
        have := (List.pairwise_cons.mp q2).1 x hx
        simp; omega
      rw [n1, n2]; simp
    have hn : a ∉ r1.map fun e => u.getD e 0 := by
      intro hx
      obtain ⟨d, hd, hda⟩ := List.mem_map.mp hx
      have hlt := q3 d hd e List.mem_cons_self
      have hdm : d ∈ rho u pre := by rw [er]; simp [hd]
      obtain ⟨hd1, hd2⟩ := List.mem_filter.mp hdm
      have hd1 := List.mem_range.mp hd1
      have := occ_mono hlt h1 hda
      have hd2 : pre.count (u.getD d 0) ≤ occ u d := by simpa using hd2
      unfold occ at hd2
      rw [hda] at hd2
      omega
    have ih := run_of (u := u) (v := v) (pre := pre ++ [a]) (by simpa using h)
    have et : (rho u pre).map (fun e => u.getD e 0) = r1.map (fun e => u.getD e 0) ++ a :: r2.map (fun e => u.getD e 0) := by rw [er, List.map_append, List.map_cons, h2]
    have eT : tot ((rho u pre).map fun e => u.getD e 0) (a :: v) = r1.length + tot ((r1 ++ r2).map fun e => u.getD e 0) v := by
      show List.idxOf a _ + tot (List.erase _ a) v = _
      rw [et, idxOf_mid hn, List.erase_append_right _ hn, List.erase_cons_head, List.length_map, List.map_append]
    rw [eT]
    show Run _ ((num u).idxOf (a, (pre.count a : Int)) :: pk u (pre ++ [a]) v) _
    rw [hi, er]
    rw [hr] at ih
    exact .cons ih
theorem rho_nil {u : List Int} : (rho u []).map (fun e => u.getD e 0) = u := by
  have : rho u [] = List.range u.length := by
    unfold rho
    exact List.filter_eq_self.mpr fun x _ => by simp
  rw [this]
  apply List.ext_getElem
  · simp
  · intro i h1 h2
    simp [List.getD_eq_getElem?_getD, h2]
theorem tot_inv {u v : List Int} (h : u.Perm v) : tot u v = inv (pk u [] v) := by
  have r := run_of (u := u) (v := v) (pre := []) (by simpa using h)
  rw [rho_nil] at r
  refine (r.ok ?_).2
  exact List.pairwise_lt_range.sublist List.filter_sublist
/-- the crossings as they are counted, row by row -/
def crs (P : List Nat) : Nat → Nat
  | 0 => 0
  | k + 1 => crs P k + ((List.range k).filter fun j => decide (P.getD j 0 > P.getD k 0)).length
theorem crs_cons {e : Nat} {P : List Nat} : ∀ {i : Nat}, i ≤ P.length → crs (e :: P) (i + 1) = crs P i + ((P.take i).filter fun p => decide (p < e)).length
  | 0, _ => by simp [crs]
  | i + 1, h => by
    have ih := crs_cons (e := e) (P := P) (i := i) (by omega)
    show crs (e :: P) (i + 1) + _ = crs P i + _ + _
    rw [ih, List.take_add_one, List.getElem?_eq_getElem (by omega), List.filter_append, List.length_append, List.range_succ_eq_map, List.filter_cons]
    have e1 : (e :: P).getD (i + 1) 0 = P[i] := by simp [List.getD_eq_getElem?_getD, List.getElem?_eq_getElem (show i < P.length by omega)]
    have e2 : P.getD i 0 = P[i] := by simp [List.getD_eq_getElem?_getD, List.getElem?_eq_getElem (show i < P.length by omega)]
    rw [e1, e2, List.filter_map]
    have e3 : ((List.range i).filter ((fun j => decide ((e :: P).getD j 0 > P[i])) ∘ Nat.succ)) = (List.range i).filter fun j => decide (P.getD j 0 > P[i]) := by
      apply List.filter_congr
      intro j hj
      simp [List.getD_eq_getElem?_getD]
    show _ + List.length (if decide ((e :: P).getD 0 0 > P[i]) = true then _ else _) = _
    have e4 : (e :: P).getD 0 0 = e := rfl
    rw [e4]
    by_cases hlt : P[i] < e
    · rw [if_pos (by simpa using hlt), List.length_cons, List.length_map, e3]
      simp [hlt]; omega
    · rw [if_neg (by simpa using hlt), List.length_map, e3]
      simp [hlt]; omega
theorem crs_inv : ∀ {P : List Nat}, crs P P.length = inv P
  | [] => rfl
  | e :: P => by
    rw [List.length_cons, crs_cons (Nat.le_refl _), List.take_length, crs_inv]
    show _ = (P.filter fun p => decide (p < e)).length + inv P
    omega
theorem swp_perm {ls : Lets} {u v : List Int} (h : Swp ls u v) : u.Perm v := by
  induction h with
  | refl => exact .refl _
  | step h f ih => exact ih.trans (List.Perm.append_left _ (List.Perm.swap _ _ _))
end My
namespace My
theorem num_perm {u v : List Int} (h : u.Perm v) {x : Int × Int} (hx : x ∈ num v) : x ∈ num u := by
  obtain ⟨e, he, rfl⟩ := List.mem_map.mp hx
  have he := List.mem_range.mp he
  have hc : occ v e < u.count (v.getD e 0) := by
    rw [h.count_eq]
    have e1 : v = v.take e ++ v.getD e 0 :: v.drop (e + 1) := by
      conv => lhs; rw [← List.take_append_drop e v, List.drop_eq_getElem_cons he]
      rw [List.getD_eq_getElem?_getD, List.getElem?_eq_getElem he]; rfl
    unfold occ
    generalize v.getD e 0 = a at e1 ⊢
    conv => rhs; rw [e1]
    rw [List.count_append, List.count_cons_self]; omega
  obtain ⟨d, h1, h2, h3⟩ := occ_ex hc
  have := List.mem_of_getElem? (num_at h1)
  unfold occ at this
  rw [h2, h3] at this
  exact this
theorem pk_map {u : List Int} : ∀ {v pre : List Int}, pk u pre v = (List.range v.length).map fun e => (num u).idxOf (v.getD e 0, ((pre.count (v.getD e 0) + occ v e : Nat) : Int))
  | [], pre => rfl
  | a :: v, pre => by
    show (num u).idxOf (a, (pre.count a : Int)) :: pk u (pre ++ [a]) v = _
    rw [pk_map, List.length_cons, List.range_succ_eq_map, List.map_cons, List.map_map]
    congr 1
    apply List.map_congr_left
    intro e he
    have e1 : (a :: v).getD (e + 1) 0 = v.getD e 0 := by simp [List.getD_eq_getElem?_getD]
    have e2 : occ (a :: v) (e + 1) = [a].count (v.getD e 0) + occ v e := by
      unfold occ
      rw [e1, List.take_succ_cons, List.count_cons, List.count_cons, List.count_nil]; omega
    show _ = List.idxOf ((a :: v).getD (e + 1) 0, _) _
    rw [e1]
    show _ = List.idxOf (v.getD e 0, ((pre.count ((a :: v).getD (e + 1) 0) + occ (a :: v) (e + 1) : Nat) : Int)) _
    rw [e1, e2, List.count_append, Nat.add_assoc]
theorem pk_num {u v : List Int} : pk u [] v = (num v).map fun x => (num u).idxOf x := by
  rw [pk_map]
  unfold num
  rw [List.map_map]
  apply List.map_congr_left
  intro e _
  simp
end My
namespace My
/-! ### all orders of a word, found breadth first -/
def ins (a : Int) : List Int → List (List Int)
  | [] => [[a]]
  | b :: l => (a :: b :: l) :: (ins a l).map (b :: ·)
def prms : List Int → List (List Int)
  | [] => [[]]
  | a :: w => (prms w).flatMap (ins a)
def fct : Nat → Nat
  | 0 => 1
  | n + 1 => (n + 1) * fct n
theorem ins_len {a : Int} : ∀ {l : List Int}, (ins a l).length = l.length + 1
  | [] => rfl
  | b :: l => by show (_ :: (ins a l).map _).length = _; rw [List.length_cons, List.length_map, ins_len]; rfl
theorem ins_mem {a : Int} {t : List Int} : ∀ {s : List Int}, s ++ a :: t ∈ ins a (s ++ t)
  | [] => by cases t <;> simp [ins]
  | b :: s => by
    show b :: (s ++ a :: t) ∈ (a :: b :: (s ++ t)) :: (ins a (s ++ t)).map (b :: ·)
    exact List.mem_cons_of_mem _ (List.mem_map.mpr ⟨_, ins_mem, rfl⟩)
theorem prms_mem : ∀ {w x : List Int}, x.Perm w → x ∈ prms w
  | [], x, h => by rw [h.eq_nil]; simp [prms]
  | a :: w, x, h => by
    have ha : a ∈ x := h.symm.subset List.mem_cons_self
    obtain ⟨s, t, rfl⟩ := List.append_of_mem ha
    have h2 : (s ++ t).Perm w := (List.perm_middle.symm.trans h).cons_inv
    exact List.mem_flatMap.mpr ⟨s ++ t, prms_mem h2, ins_mem⟩
theorem ins_each {a : Int} : ∀ {l x : List Int}, x ∈ ins a l → x.length = l.length + 1
  | [], x, h => by simp [ins] at h; rw [h]; rfl
  | b :: l, x, h => by
    rcases List.mem_cons.mp h with rfl | h
    · rfl
    · obtain ⟨y, hy, rfl⟩ := List.mem_map.mp h
      rw [List.length_cons, ins_each hy]; rfl
theorem prms_each : ∀ {w x : List Int}, x ∈ prms w → x.length = w.length
  | [], x, h => by simp [prms] at h; rw [h]
  | a :: w, x, h => by
    obtain ⟨y, hy, hx⟩ := List.mem_flatMap.mp h
    rw [ins_each hx, prms_each hy]; rfl
theorem flat_len {f : List Int → List (List Int)} {n : Nat} : ∀ {l : List (List Int)}, (∀ x ∈ l, (f x).length = n) → (l.flatMap f).length = n * l.length
  | [], _ => by simp
  | x :: l, h => by
    rw [List.flatMap_cons, List.length_append, h x List.mem_cons_self, flat_len fun y hy => h y (List.mem_cons_of_mem _ hy), List.length_cons, Nat.mul_add]; omega
theorem prms_len : ∀ {w : List Int}, (prms w).length = fct w.length
  | [] => rfl
  | a :: w => by
    show ((prms w).flatMap (ins a)).length = (w.length + 1) * fct w.length
    rw [flat_len (n := w.length + 1) fun x hx => by rw [ins_len, prms_each hx], prms_len]
theorem nodup_le {α : Type} [DecidableEq α] : ∀ {l m : List α}, l.Nodup → (∀ x ∈ l, x ∈ m) → l.length ≤ m.length
  | [], m, _, _ => Nat.zero_le _
  | x :: l, m, h, s => by
    obtain ⟨h1, h2⟩ := List.nodup_cons.mp h
    have hx := s x List.mem_cons_self
    have := nodup_le (l := l) (m := m.erase x) h2 fun y hy => by
      have hne : y ≠ x := fun e => h1 (e ▸ hy)
      exact (List.mem_erase_of_ne hne).mpr (s y (List.mem_cons_of_mem _ hy))
    rw [List.length_erase_of_mem hx] at this
    have := List.length_pos_of_mem hx
    rw [List.length_cons]; omega
theorem fct_mono : ∀ {n m : Nat}, n ≤ m → fct n ≤ fct m := by
  intro n m h
  induction h with
  | refl => exact Nat.le_refl _
  | step h ih =>
    refine Nat.le_trans ih ?_
    show _ ≤ (_ + 1) * fct _
    exact Nat.le_mul_of_pos_left _ (Nat.succ_pos _)
/-- one swap, at a -/
def swq (l : List Int) (a : Nat) : List Int := (l.set a (l.getD (a + 1) 0)).set (a + 1) (l.getD a 0)
def add1 (ls : Lets) (one : List Int) (f : List (List Int)) (a : Nat) : List (List Int) :=
  if free ls (one.getD a 0) (one.getD (a + 1) 0) = true ∧ swq one a ∉ f then f ++ [swq one a] else f
def turn1 (ls : Lets) (one : List Int) (f : List (List Int)) (m : Nat) : List (List Int) := (List.range m).foldl (add1 ls one) f
def turn (ls : Lets) (f : List (List Int)) (i : Nat) : List (List Int) := if i < f.length then turn1 ls (f.getD i []) f ((f.getD i []).length - 1) else f
def bfs (ls : Lets) (w : List Int) (m : Nat) : List (List Int) := (List.range m).foldl (turn ls) [w]
theorem turn1_succ {ls : Lets} {one : List Int} {f : List (List Int)} {m : Nat} : turn1 ls one f (m + 1) = add1 ls one (turn1 ls one f m) m := by
  unfold turn1; rw [List.range_succ, List.foldl_append]; rfl
theorem bfs_succ {ls : Lets} {w : List Int} {m : Nat} : bfs ls w (m + 1) = turn ls (bfs ls w m) m := by
  unfold bfs; rw [List.range_succ, List.foldl_append]; rfl
theorem swq_split {l : List Int} {a : Nat} (h : a + 1 < l.length) : l = l.take a ++ l.getD a 0 :: l.getD (a + 1) 0 :: l.drop (a + 2) ∧ swq l a = l.take a ++ l.getD (a + 1) 0 :: l.getD a 0 :: l.drop (a + 2) := by
  have g1 : l.getD a 0 = l[a] := by simp [List.getD_eq_getElem?_getD, show a < l.length by omega]
  have g2 : l.getD (a + 1) 0 = l[a + 1] := by simp [List.getD_eq_getElem?_getD, h]
  have e : l = l.take a ++ l.getD a 0 :: l.getD (a + 1) 0 :: l.drop (a + 2) := by
    rw [g1, g2]
    conv => lhs; rw [← List.take_append_drop a l, List.drop_eq_getElem_cons (show a < l.length by omega), List.drop_eq_getElem_cons h]
  refine ⟨e, ?_⟩
  have tl : (l.take a).length = a := by rw [List.length_take]; omega
  unfold swq
  generalize l.getD a 0 = x at e ⊢
  generalize l.getD (a + 1) 0 = y at e ⊢
  conv => lhs; rw [e]
  rw [List.set_append_right _ _ (by omega), List.set_append_right _ _ (by omega), tl]
  simp
structure Bfs (ls : Lets) (w : List Int) (f : List (List Int)) : Prop where
  nd : f.Nodup
  sw : ∀ x ∈ f, Swp ls w x
  me : w ∈ f
theorem add1_ok {ls : Lets} {w one : List Int} {f : List (List Int)} {a : Nat} (h : Bfs ls w f) (h1 : Swp ls w one) (ha : a + 1 < one.length) : Bfs ls w (add1 ls one f a) ∧ f <+: add1 ls one f a ∧ (free ls (one.getD a 0) (one.getD (a + 1) 0) = true → swq one a ∈ add1 ls one f a) := by
  unfold add1
  split
  · rename_i c
    refine ⟨⟨?_, fun x hx => ?_, List.mem_append_left _ h.me⟩, List.prefix_append _ _, fun _ => by simp⟩
    · rw [List.nodup_append]
      refine ⟨h.nd, by simp, fun x hx y hy e => ?_⟩
      rw [List.mem_singleton] at hy
      subst hy; subst e
      exact c.2 hx
    · rcases List.mem_append.mp hx with hx | hx
      · exact h.sw x hx
      · rw [List.mem_singleton.mp hx]
        obtain ⟨e1, e2⟩ := swq_split ha
        rw [e2]
        exact .step (by rw [← e1]; exact h1) c.1
  · rename_i c
    refine ⟨h, List.prefix_refl _, fun hf => ?_⟩
    by_cases z : swq one a ∈ f
    · exact z
    · exact absurd ⟨hf, z⟩ c
theorem turn1_ok {ls : Lets} {w one : List Int} {f : List (List Int)} (h : Bfs ls w f) (h1 : Swp ls w one) : ∀ {m : Nat}, m + 1 ≤ one.length ∨ m = 0 → Bfs ls w (turn1 ls one f m) ∧ f <+: turn1 ls one f m ∧ ∀ a, a < m → free ls (one.getD a 0) (one.getD (a + 1) 0) = true → swq one a ∈ turn1 ls one f m
  | 0, _ => ⟨h, List.prefix_refl _, fun a ha => absurd ha (Nat.not_lt_zero _)⟩
  | m + 1, hm => by
    obtain ⟨i1, i2, i3⟩ := turn1_ok h h1 (m := m) (by omega)
    obtain ⟨j1, j2, j3⟩ := add1_ok i1 h1 (a := m) (by omega)
    rw [turn1_succ]
    refine ⟨j1, i2.trans j2, fun a ha hf => ?_⟩
    by_cases e : a = m
    · subst e; exact j3 hf
    · exact j2.subset (i3 a (by omega) hf)
def Done (ls : Lets) (f : List (List Int)) (x : List Int) : Prop := ∀ a, a + 1 < x.length → free ls (x.getD a 0) (x.getD (a + 1) 0) = true → swq x a ∈ f
theorem bfs_ok {ls : Lets} {w : List Int} : ∀ {m : Nat}, Bfs ls w (bfs ls w m) ∧ ∀ i, i < m → i < (bfs ls w m).length → Done ls (bfs ls w m) ((bfs ls w m).getD i [])
  | 0 => ⟨⟨by simp [bfs], fun x hx => by
      have : x = w := by simpa [bfs] using hx
      rw [this]; exact .refl _, by simp [bfs]⟩, fun i hi => absurd hi (Nat.not_lt_zero _)⟩
  | m + 1 => by
    obtain ⟨b, d⟩ := bfs_ok (m := m) (ls := ls) (w := w)
    rw [bfs_succ]
    unfold turn
    split
    · rename_i hlt
      have hm : (bfs ls w m).getD m [] ∈ bfs ls w m := by rw [List.getD_eq_getElem?_getD, List.getElem?_eq_getElem hlt]; exact List.getElem_mem hlt
      obtain ⟨t1, t2, t3⟩ := turn1_ok b (b.sw _ hm) (m := ((bfs ls w m).getD m []).length - 1) (by omega)
      have same : ∀ i, i < (bfs ls w m).length → (turn1 ls ((bfs ls w m).getD m []) (bfs ls w m) (((bfs ls w m).getD m []).length - 1)).getD i [] = (bfs ls w m).getD i [] := fun i hi => by
        obtain ⟨t, ht⟩ := t2
        rw [← ht, List.getD_eq_getElem?_getD, List.getElem?_append_left hi, List.getD_eq_getElem?_getD]
      refine ⟨t1, fun i hi hil => ?_⟩
      rcases Nat.lt_or_ge i m with h | h
      · rw [same i (by omega)]
        exact fun a ha hf => t2.subset (d i h (by omega) a ha hf)
      · have : i = m := by omega
        subst this
        rw [same i hlt]
        exact fun a ha hf => t3 a (by omega) hf
    · rename_i hge
      refine ⟨b, fun i hi hil => ?_⟩
      exact d i (by omega) hil
/-- after enough turns all orders are found, each once -/
theorem bfs_all {ls : Lets} {w : List Int} {m : Nat} (hm : fct w.length ≤ m) : (bfs ls w m).Nodup ∧ (bfs ls w m).length ≤ fct w.length ∧ ∀ x, x ∈ bfs ls w m ↔ Swp ls w x := by
  obtain ⟨b, d⟩ := bfs_ok (m := m) (ls := ls) (w := w)
  have hl : (bfs ls w m).length ≤ fct w.length := by
    rw [← prms_len]
    exact nodup_le b.nd fun x hx => prms_mem (swp_perm (b.sw x hx)).symm
  refine ⟨b.nd, hl, fun x => ⟨b.sw x, fun h => ?_⟩⟩
  induction h with
  | refl => exact b.me
  | @step u v p q h f ih =>
    obtain ⟨i, hi, e⟩ := List.getElem_of_mem ih
    have := d i (by omega) hi
    rw [List.getD_eq_getElem?_getD, List.getElem?_eq_getElem hi] at this
    have this : Done ls (bfs ls w m) (u ++ p :: q :: v) := by rw [← e]; exact this
    have g1 : (u ++ p :: q :: v).getD u.length 0 = p := by simp [List.getD_eq_getElem?_getD]
    have g2 : (u ++ p :: q :: v).getD (u.length + 1) 0 = q := by simp [List.getD_eq_getElem?_getD]
    have := this u.length (by simp) (by rw [g1, g2]; exact f)
    have hs := (swq_split (l := u ++ p :: q :: v) (a := u.length) (by simp)).2
    rw [g1, g2] at hs
    rw [hs] at this
    simpa using this
end My
namespace My
/-! ### automata: states that no words tell apart, least automata -/
structure Au where
  L : Nat
  s : Int
  F : List Int
  R : List (List Int)
def Au.row (A : Au) (q : Int) : List Int := A.R.getD q.toNat []
def Au.In (A : Au) (q : Int) : Prop := 0 ≤ q ∧ q < (A.R.length : Int)
structure Au.Ok (A : Au) : Prop where
  L1 : 1 ≤ A.L
  s : A.In A.s
  F : ∀ x ∈ A.F, A.In x
  up : A.F.Pairwise (· < ·)
  R : ∀ r ∈ A.R, r.length = A.L ∧ ∀ x ∈ r, A.In x
theorem Au.row_mem {A : Au} {q : Int} (h : A.In q) : A.row q ∈ A.R := by
  have : q.toNat < A.R.length := by unfold Au.In at h; omega
  unfold Au.row
  rw [List.getD_eq_getElem?_getD, List.getElem?_eq_getElem this]
  exact List.getElem_mem this
theorem Au.row_at {A : Au} {q : Int} (h : A.In q) : A.R[q.toNat]? = some (A.row q) := by
  have : q.toNat < A.R.length := by unfold Au.In at h; omega
  unfold Au.row
  rw [List.getD_eq_getElem?_getD, List.getElem?_eq_getElem this]; rfl
def nxA (A : Au) (q : Int) (a : Nat) : Int := (A.row q).getD a 0
/-- not told apart by words of up to k letters -/
def eqn (A : Au) : Nat → Int → Int → Prop
  | 0, p, q => (p ∈ A.F ↔ q ∈ A.F)
  | k + 1, p, q => eqn A k p q ∧ ∀ a, a < A.L → eqn A k (nxA A p a) (nxA A q a)
def eqI (A : Au) (p q : Int) : Prop := ∀ k, eqn A k p q
theorem eqn.refl {A : Au} : ∀ (k : Nat) (p : Int), eqn A k p p
  | 0, _ => Iff.rfl
  | k + 1, p => ⟨eqn.refl k p, fun a _ => eqn.refl k _⟩
theorem eqn.symm {A : Au} : ∀ {k : Nat} {p q : Int}, eqn A k p q → eqn A k q p
  | 0, _, _, h => Iff.symm h
  | k + 1, _, _, h => ⟨eqn.symm h.1, fun a ha => eqn.symm (h.2 a ha)⟩
theorem eqn.trans {A : Au} : ∀ {k : Nat} {p q r : Int}, eqn A k p q → eqn A k q r → eqn A k p r
  | 0, _, _, _, h1, h2 => Iff.trans h1 h2
  | k + 1, _, _, _, h1, h2 => ⟨eqn.trans h1.1 h2.1, fun a ha => eqn.trans (h1.2 a ha) (h2.2 a ha)⟩
theorem eqn.down {A : Au} {p q : Int} : ∀ {m k : Nat}, k ≤ m → eqn A m p q → eqn A k p q := by
  intro m
  induction m with
  | zero => intro k h e; rw [show k = 0 by omega]; exact e
  | succ m ih =>
    intro k h e
    by_cases c : k = m + 1
    · rw [c]; exact e
    · exact ih (by omega) e.1
theorem eqI.refl {A : Au} (p : Int) : eqI A p p := fun k => eqn.refl k p
theorem eqI.symm {A : Au} {p q : Int} (h : eqI A p q) : eqI A q p := fun k => (h k).symm
theorem eqI.trans {A : Au} {p q r : Int} (h1 : eqI A p q) (h2 : eqI A q r) : eqI A p r := fun k => (h1 k).trans (h2 k)
theorem eqI.next {A : Au} {p q : Int} (h : eqI A p q) {a : Nat} (ha : a < A.L) : eqI A (nxA A p a) (nxA A q a) := fun k => (h (k + 1)).2 a ha
theorem eqI.fin {A : Au} {p q : Int} (h : eqI A p q) : p ∈ A.F ↔ q ∈ A.F := h 0
/-- states with all that follow -/
def Clo (A : Au) (S : List Int) : Prop := ∀ q ∈ S, A.In q ∧ ∀ x ∈ A.row q, x ∈ S
theorem Clo.next {A : Au} {S : List Int} (O : A.Ok) (C : Clo A S) {q : Int} (h : q ∈ S) {a : Nat} (ha : a < A.L) : nxA A q a ∈ S := by
  obtain ⟨h1, h2⟩ := C q h
  have l := (O.R _ (Au.row_mem h1)).1
  refine h2 _ ?_
  unfold nxA
  rw [List.getD_eq_getElem?_getD, List.getElem?_eq_getElem (by omega)]
  exact List.getElem_mem _
def Lab (A : Au) (S : List Int) (cl : Int → Int) (k : Nat) : Prop := ∀ p ∈ S, ∀ q ∈ S, (cl p = cl q ↔ eqn A k p q)
def LabI (A : Au) (S : List Int) (cl : Int → Int) : Prop := ∀ p ∈ S, ∀ q ∈ S, (cl p = cl q ↔ eqI A p q)
abbrev Knd := Int × List Int
def kd (A : Au) (cl : Int → Int) (q : Int) : Knd := (cl q, (A.row q).map cl)
theorem kd_eq {A : Au} {S : List Int} {cl : Int → Int} {k : Nat} (O : A.Ok) (C : Clo A S) (h : Lab A S cl k) {p q : Int} (hp : p ∈ S) (hq : q ∈ S) : kd A cl p = kd A cl q ↔ eqn A (k + 1) p q := by
  have lp := (O.R _ (Au.row_mem (C p hp).1)).1
  have lq := (O.R _ (Au.row_mem (C q hq).1)).1
  have key : (A.row p).map cl = (A.row q).map cl ↔ ∀ a, a < A.L → cl (nxA A p a) = cl (nxA A q a) := by
    constructor
    · intro e a ha
      have e2 := congrArg (fun l => l[a]?) e
      simp only [List.getElem?_map] at e2
      rw [List.getElem?_eq_getElem (by omega), List.getElem?_eq_getElem (by omega)] at e2
      unfold nxA
      rw [List.getD_eq_getElem?_getD, List.getD_eq_getElem?_getD, List.getElem?_eq_getElem (by omega), List.getElem?_eq_getElem (by omega)]
      simpa using e2
    · intro e
      apply List.ext_getElem
      · rw [List.length_map, List.length_map, lp, lq]
      · intro a h1 h2
        rw [List.length_map] at h1 h2
        have := e a (by omega)
        unfold nxA at this
        rw [List.getD_eq_getElem?_getD, List.getD_eq_getElem?_getD, List.getElem?_eq_getElem h1, List.getElem?_eq_getElem h2] at this
        simpa using this
  constructor
  · intro e
    have e1 : cl p = cl q := congrArg Prod.fst e
    have e2 := key.mp (congrArg Prod.snd e)
    exact ⟨(h p hp q hq).mp e1, fun a ha => (h _ (C.next O hp ha) _ (C.next O hq ha)).mp (e2 a ha)⟩
  · rintro ⟨e1, e2⟩
    exact Prod.ext ((h p hp q hq).mpr e1) (key.mpr fun a ha => (h _ (C.next O hp ha) _ (C.next O hq ha)).mpr (e2 a ha))
theorem stable_all {A : Au} {S : List Int} {k : Nat} (O : A.Ok) (C : Clo A S) (st : ∀ p ∈ S, ∀ q ∈ S, eqn A k p q → eqn A (k + 1) p q) {p q : Int} (hp : p ∈ S) (hq : q ∈ S) (h : eqn A k p q) : eqI A p q := by
  have key : ∀ d, ∀ p ∈ S, ∀ q ∈ S, eqn A (k + d) p q → eqn A (k + d + 1) p q := by
    intro d
    induction d with
    | zero => exact st
    | succ d ih =>
      intro p hp q hq e
      exact ⟨e, fun a ha => ih _ (C.next O hp ha) _ (C.next O hq ha) (e.2 a ha)⟩
  have up : ∀ d, eqn A (k + d) p q := by
    intro d
    induction d with
    | zero => exact h
    | succ d ih => exact key d p hp q hq ih
  intro m
  by_cases c : m ≤ k
  · exact eqn.down c h
  · have := up (m - k)
    rwa [show k + (m - k) = m by omega] at this
/-! in the order of the first of each -/
section
variable {β : Type} [DecidableEq β]
def ded (l : List β) : List β := l.foldl (fun acc x => if x ∈ acc then acc else acc ++ [x]) []
theorem ded_snoc {l : List β} {x : β} : ded (l ++ [x]) = if x ∈ ded l then ded l else ded l ++ [x] := by
  unfold ded
  rw [List.foldl_append]; rfl
theorem ded_mem {l : List β} : ∀ {x : β}, x ∈ ded l ↔ x ∈ l := by
  have key : ∀ n, n ≤ l.length → ∀ x, x ∈ ded (l.take n) ↔ x ∈ l.take n := by
    intro n
    induction n with
    | zero => intro _ x; simp [ded]
    | succ n ih =>
      intro hn x
      have hx : l[n]? = some l[n] := List.getElem?_eq_getElem (by omega)
      rw [List.take_add_one, hx, Option.toList_some, ded_snoc]
      by_cases c : l[n] ∈ ded (l.take n)
      · rw [if_pos c, ih (by omega), List.mem_append]
        constructor
        · exact fun h => .inl h
        · rintro (h | h)
          · exact h
          · rw [List.mem_singleton.mp h]; exact (ih (by omega) _).mp c
      · rw [if_neg c, List.mem_append, List.mem_append, ih (by omega)]
  have := key l.length (Nat.le_refl _)
  rwa [List.take_length] at this
theorem ded_nodup {l : List β} : (ded l).Nodup := by
  have key : ∀ n, n ≤ l.length → (ded (l.take n)).Nodup := by
    intro n
    induction n with
    | zero => intro _; simp [ded]
    | succ n ih =>
      intro hn
      have hx : l[n]? = some l[n] := List.getElem?_eq_getElem (by omega)
      rw [List.take_add_one, hx, Option.toList_some, ded_snoc]
      by_cases c : l[n] ∈ ded (l.take n)
      · rw [if_pos c]; exact ih (by omega)
      · rw [if_neg c, List.nodup_append]
        exact ⟨ih (by omega), by simp, fun a ha b hb => by rw [List.mem_singleton.mp hb]; rintro rfl; exact c ha⟩
  have := key l.length (Nat.le_refl _)
  rwa [List.take_length] at this
def ix (K : List β) (x : β) : Nat := K.findIdx fun y => decide (y = x)
theorem ix_cons {K : List β} {x y : β} : ix (y :: K) x = if y = x then 0 else ix K x + 1 := by
  unfold ix
  rw [List.findIdx_cons]
  by_cases c : y = x
  · rw [decide_eq_true c, if_pos c]; rfl
  · rw [decide_eq_false c, if_neg c]; rfl
theorem ix_get {x : β} : ∀ {K : List β}, x ∈ K → K[ix K x]? = some x
  | [], h => by cases h
  | y :: K, h => by
    rw [ix_cons]
    by_cases c : y = x
    · rw [if_pos c, c]; rfl
    · rw [if_neg c, List.getElem?_cons_succ]
      rcases List.mem_cons.mp h with h | h
      · exact absurd h.symm c
      · exact ix_get h
theorem ix_lt {K : List β} {x : β} (h : x ∈ K) : ix K x < K.length := (List.getElem?_eq_some_iff.mp (ix_get h)).1
theorem ix_app {x : β} {M : List β} : ∀ {K : List β}, x ∈ K → ix (K ++ M) x = ix K x
  | [], h => by cases h
  | y :: K, h => by
    rw [List.cons_append, ix_cons, ix_cons]
    by_cases c : y = x
    · rw [if_pos c, if_pos c]
    · rw [if_neg c, if_neg c]
      rcases List.mem_cons.mp h with h | h
      · exact absurd h.symm c
      · rw [ix_app h]
theorem ix_new {x : β} : ∀ {K : List β}, x ∉ K → ix (K ++ [x]) x = K.length
  | [], _ => by rw [List.nil_append, ix_cons, if_pos rfl]; rfl
  | y :: K, h => by
    rw [List.cons_append, ix_cons, if_neg (fun z => h (by rw [z]; exact List.mem_cons_self)), ix_new (fun z => h (List.mem_cons_of_mem _ z))]; rfl
theorem ix_at {K : List β} (nd : K.Nodup) {i : Nat} (h : i < K.length) : ix K K[i] = i := by
  have h1 := ix_lt (List.getElem_mem h)
  have h2 := ix_get (List.getElem_mem h)
  rw [List.getElem?_eq_getElem h1] at h2
  exact (List.getElem_inj nd).mp (Option.some.inj h2)
theorem ded_idx {l : List β} {x y : β} (h : x ∈ ded l) : ix (ded (l ++ [y])) x = ix (ded l) x := by
  rw [ded_snoc]
  by_cases c : y ∈ ded l
  · rw [if_pos c]
  · rw [if_neg c, ix_app h]
theorem idx_inj {K : List β} {x y : β} (hx : x ∈ K) (hy : y ∈ K) : ix K x = ix K y ↔ x = y := ⟨fun h => by
  have h1 := ix_get hx
  have h2 := ix_get hy
  rw [h, h2] at h1
  exact (Option.some.inj h1).symm, fun h => by rw [h]⟩
end
/-- labels by the order of the kinds -/
def clN (A : Au) (S : List Int) (cl : Int → Int) (q : Int) : Int := (ix (ded (S.map (kd A cl))) (kd A cl q) : Nat)
theorem kd_mem {A : Au} {S : List Int} {cl : Int → Int} {q : Int} (h : q ∈ S) : kd A cl q ∈ ded (S.map (kd A cl)) := ded_mem.mpr (List.mem_map_of_mem h)
theorem clN_eq {A : Au} {S : List Int} {cl : Int → Int} {p q : Int} (hp : p ∈ S) (hq : q ∈ S) : clN A S cl p = clN A S cl q ↔ kd A cl p = kd A cl q := by
  unfold clN
  rw [Int.ofNat_inj, idx_inj (kd_mem hp) (kd_mem hq)]
theorem clN_lab {A : Au} {S : List Int} {cl : Int → Int} {k : Nat} (O : A.Ok) (C : Clo A S) (h : Lab A S cl k) : Lab A S (clN A S cl) (k + 1) := fun p hp q hq => by rw [clN_eq hp hq, kd_eq O C h hp hq]
theorem clN_all {A : Au} {S : List Int} {cl : Int → Int} {i : Nat} (h : i < (ded (S.map (kd A cl))).length) : ∃ p ∈ S, clN A S cl p = (i : Int) := by
  have hm := List.getElem_mem h
  obtain ⟨p, hp, e⟩ := List.mem_map.mp (ded_mem.mp hm)
  refine ⟨p, hp, ?_⟩
  unfold clN
  rw [e, Int.ofNat_inj]
  exact ix_at ded_nodup h
/-- where no kind is split, nothing is split any more -/
theorem kinds_stop {A : Au} {S : List Int} {cl : Int → Int} {n : Nat} (hall : ∀ i, i < n → ∃ p ∈ S, cl p = (i : Int)) (hn : (ded (S.map (kd A cl))).length ≤ n) {p q : Int} (hp : p ∈ S) (hq : q ∈ S) (h : cl p = cl q) : kd A cl p = kd A cl q := by
  refine Classical.byContradiction fun ne => ?_
  have hK := kd_mem (A := A) (cl := cl) hq
  have l1 := List.length_erase_of_mem hK
  have l2 := List.length_pos_of_mem hK
  have nd : ((List.range n).map fun i : Nat => (i : Int)).Nodup := by
    rw [List.Nodup, List.pairwise_map]
    exact List.nodup_range.imp fun h e => h (by omega)
  have := nodup_le nd (m := ((ded (S.map (kd A cl))).erase (kd A cl q)).map Prod.fst) fun x hx => by
    obtain ⟨i, hi, rfl⟩ := List.mem_map.mp hx
    obtain ⟨r, hr, e⟩ := hall i (List.mem_range.mp hi)
    by_cases c : kd A cl r = kd A cl q
    · have e2 : cl r = cl q := congrArg Prod.fst c
      exact List.mem_map.mpr ⟨kd A cl p, (List.mem_erase_of_ne ne).mpr (kd_mem hp), by show cl p = _; rw [h, ← e2, e]⟩
    · exact List.mem_map.mpr ⟨kd A cl r, (List.mem_erase_of_ne c).mpr (kd_mem hr), e⟩
  rw [List.length_map, List.length_map, List.length_range, l1] at this
  omega
end My
namespace My
/-! ### rounds of labels -/
def fin01 (A : Au) (q : Int) : Int := if q ∈ A.F then 1 else 0
def lcl (A : Au) (S : List Int) : Nat → Int → Int
  | 0 => fin01 A
  | k + 1 => clN A S (lcl A S k)
theorem lcl_lab {A : Au} {S : List Int} (O : A.Ok) (C : Clo A S) : ∀ k, Lab A S (lcl A S k) k
  | 0 => fun p _ q _ => by
    show fin01 A p = fin01 A q ↔ (p ∈ A.F ↔ q ∈ A.F)
    unfold fin01
    by_cases h1 : p ∈ A.F <;> by_cases h2 : q ∈ A.F <;> simp [h1, h2]
  | k + 1 => clN_lab O C (lcl_lab O C k)
/-- how many labels there are in round k -/
def nnl (A : Au) (S : List Int) (k : Nat) : Nat := (ded (S.map (kd A (lcl A S k)))).length
theorem ded_le {β : Type} [DecidableEq β] {l : List β} : (ded l).length ≤ l.length := nodup_le ded_nodup fun x hx => ded_mem.mp hx
theorem nnl_le {A : Au} {S : List Int} {k : Nat} : nnl A S k ≤ S.length := by
  have := ded_le (l := S.map (kd A (lcl A S k)))
  rwa [List.length_map] at this
/-- no more labels: none will be split -/
theorem lcl_stop {A : Au} {S : List Int} {k : Nat} (O : A.Ok) (C : Clo A S) (h : nnl A S (k + 1) ≤ nnl A S k) : ∀ p ∈ S, ∀ q ∈ S, eqn A (k + 1) p q → eqn A (k + 2) p q := fun p hp q hq e => by
  have e1 := (lcl_lab O C (k + 1) p hp q hq).mpr e
  have := kinds_stop (A := A) (S := S) (cl := lcl A S (k + 1)) (n := nnl A S k) (fun i hi => clN_all hi) h hp hq e1
  exact (kd_eq O C (lcl_lab O C (k + 1)) hp hq).mp this
theorem lcl_inf {A : Au} {S : List Int} {k : Nat} (O : A.Ok) (C : Clo A S) (h : nnl A S (k + 1) ≤ nnl A S k) {m : Nat} (hm : k + 1 ≤ m) : LabI A S (lcl A S m) := fun p hp q hq => by
  rw [lcl_lab O C m p hp q hq]
  exact ⟨fun e => stable_all O C (lcl_stop O C h) hp hq (eqn.down hm e), fun e => e m⟩
theorem lcl_many {A : Au} {S : List Int} (O : A.Ok) (C : Clo A S) : ∀ k, (∃ j, j < k ∧ nnl A S (j + 1) ≤ nnl A S j) ∨ nnl A S 0 + k ≤ nnl A S k
  | 0 => .inr (Nat.le_refl _)
  | k + 1 => by
    rcases lcl_many O C k with ⟨j, h1, h2⟩ | h
    · exact .inl ⟨j, by omega, h2⟩
    · by_cases c : nnl A S (k + 1) ≤ nnl A S k
      · exact .inl ⟨k, by omega, c⟩
      · exact .inr (by omega)
theorem lcl_end {A : Au} {S : List Int} (O : A.Ok) (C : Clo A S) (hs : S ≠ []) {m : Nat} (hm : S.length ≤ m) : LabI A S (lcl A S m) := by
  have h0 : 1 ≤ nnl A S 0 := by
    obtain ⟨x, hx⟩ := List.exists_mem_of_ne_nil S hs
    have := List.length_pos_of_mem (kd_mem (A := A) (cl := lcl A S 0) hx)
    exact this
  rcases lcl_many O C S.length with ⟨j, h1, h2⟩ | h
  · exact lcl_inf O C h2 (by omega)
  · have := nnl_le (A := A) (S := S) (k := S.length)
    omega
/-! ### one state for each class, as they are first reached -/
open Classical in
noncomputable def st1 (A : Au) (C : List Int) (t : Int) : List Int := if ∃ c ∈ C, eqI A c t then C else C ++ [t]
open Classical in
noncomputable def idc (A : Au) (C : List Int) (t : Int) : Nat := C.findIdx fun c => decide (eqI A c t)
noncomputable def cC (A : Au) : Nat → List Int
  | 0 => [A.s]
  | i + 1 => match (cC A i)[i]? with
    | none => cC A i
    | some c => (A.row c).foldl (st1 A) (cC A i)
open Classical in
theorem idc_cons {A : Au} {C : List Int} {c t : Int} : idc A (c :: C) t = if eqI A c t then 0 else idc A C t + 1 := by
  unfold idc
  rw [List.findIdx_cons]
  by_cases h : eqI A c t
  · rw [if_pos h, decide_eq_true h]; rfl
  · rw [if_neg h, decide_eq_false h]; rfl
open Classical in
theorem idc_lt {A : Au} {t : Int} : ∀ {C : List Int}, (∃ c ∈ C, eqI A c t) → idc A C t < C.length
  | [], h => by obtain ⟨_, h, _⟩ := h; cases h
  | c :: C, h => by
    rw [idc_cons, List.length_cons]
    by_cases e : eqI A c t
    · rw [if_pos e]; omega
    · rw [if_neg e]
      obtain ⟨d, hd, h2⟩ := h
      rcases List.mem_cons.mp hd with rfl | hd
      · exact absurd h2 e
      · have := idc_lt ⟨d, hd, h2⟩; omega
open Classical in
theorem idc_app {A : Au} {t : Int} {M : List Int} : ∀ {C : List Int}, (∃ c ∈ C, eqI A c t) → idc A (C ++ M) t = idc A C t
  | [], h => by obtain ⟨_, h, _⟩ := h; cases h
  | c :: C, h => by
    rw [List.cons_append, idc_cons, idc_cons]
    by_cases e : eqI A c t
    · rw [if_pos e, if_pos e]
    · rw [if_neg e, if_neg e]
      obtain ⟨d, hd, h2⟩ := h
      rcases List.mem_cons.mp hd with rfl | hd
      · exact absurd h2 e
      · rw [idc_app ⟨d, hd, h2⟩]
open Classical in
theorem idc_cong {A : Au} {t t' : Int} (h : eqI A t t') : ∀ {C : List Int}, idc A C t = idc A C t'
  | [] => rfl
  | c :: C => by
    rw [idc_cons, idc_cons, idc_cong h (C := C)]
    by_cases e : eqI A c t
    · rw [if_pos e, if_pos (e.trans h)]
    · rw [if_neg e, if_neg fun z => e (z.trans h.symm)]
open Classical in
theorem ix_idc {A : Au} {cl : Int → Int} {t : Int} : ∀ {C : List Int}, (∀ c ∈ C, cl c = cl t ↔ eqI A c t) → ix (C.map cl) (cl t) = idc A C t
  | [], _ => rfl
  | c :: C, h => by
    rw [List.map_cons, ix_cons, idc_cons, ix_idc fun d hd => h d (List.mem_cons_of_mem _ hd)]
    have := h c List.mem_cons_self
    by_cases e : eqI A c t
    · rw [if_pos e, if_pos (this.mpr e)]
    · rw [if_neg e, if_neg fun z => e (this.mp z)]
theorem mem_cl {A : Au} {cl : Int → Int} {t : Int} {C : List Int} (h : ∀ c ∈ C, cl c = cl t ↔ eqI A c t) : cl t ∈ C.map cl ↔ ∃ c ∈ C, eqI A c t := by
  rw [List.mem_map]
  exact ⟨fun ⟨c, h1, h2⟩ => ⟨c, h1, (h c h1).mp h2⟩, fun ⟨c, h1, h2⟩ => ⟨c, h1, (h c h1).mpr h2⟩⟩
theorem st1_new {A : Au} {C : List Int} {t : Int} (h : ¬ ∃ c ∈ C, eqI A c t) : st1 A C t = C ++ [t] := by unfold st1; rw [if_neg h]
theorem st1_old {A : Au} {C : List Int} {t : Int} (h : ∃ c ∈ C, eqI A c t) : st1 A C t = C := by unfold st1; rw [if_pos h]
theorem st1_pre {A : Au} {C : List Int} {t : Int} : ∃ M, st1 A C t = C ++ M := by
  unfold st1
  by_cases h : ∃ c ∈ C, eqI A c t
  · rw [if_pos h]; exact ⟨[], by simp⟩
  · rw [if_neg h]; exact ⟨[t], rfl⟩
theorem st1_has {A : Au} {C : List Int} {t : Int} : ∃ c ∈ st1 A C t, eqI A c t := by
  unfold st1
  by_cases h : ∃ c ∈ C, eqI A c t
  · rw [if_pos h]; exact h
  · rw [if_neg h]; exact ⟨t, by simp, eqI.refl t⟩
theorem fold_pre {A : Au} : ∀ {ts : List Int} {C : List Int}, ∃ M, ts.foldl (st1 A) C = C ++ M
  | [], C => ⟨[], by simp⟩
  | t :: ts, C => by
    obtain ⟨M1, e1⟩ := st1_pre (A := A) (C := C) (t := t)
    obtain ⟨M2, e2⟩ := fold_pre (A := A) (ts := ts) (C := st1 A C t)
    exact ⟨M1 ++ M2, by rw [List.foldl_cons, e2, e1, List.append_assoc]⟩
theorem fold_has {A : Au} : ∀ {ts : List Int} {C : List Int} {t : Int}, t ∈ ts → ∃ c ∈ ts.foldl (st1 A) C, eqI A c t
  | [], _, _, h => by cases h
  | u :: ts, C, t, h => by
    rw [List.foldl_cons]
    rcases List.mem_cons.mp h with rfl | h
    · obtain ⟨c, h1, h2⟩ := st1_has (A := A) (C := C) (t := t)
      obtain ⟨M, e⟩ := fold_pre (A := A) (ts := ts) (C := st1 A C t)
      exact ⟨c, by rw [e]; exact List.mem_append_left _ h1, h2⟩
    · exact fold_has h
/-- what the list of chosen states is like -/
structure Chs (A : Au) (S C : List Int) : Prop where
  sub : ∀ c ∈ C, c ∈ S
  apart : C.Pairwise fun a b => ¬ eqI A a b
theorem Chs.step {A : Au} {S C : List Int} (h : Chs A S C) {t : Int} (ht : t ∈ S) : Chs A S (st1 A C t) := by
  unfold st1
  by_cases c : ∃ c ∈ C, eqI A c t
  · rw [if_pos c]; exact h
  · rw [if_neg c]
    refine ⟨fun x hx => ?_, ?_⟩
    · rcases List.mem_append.mp hx with hx | hx
      · exact h.sub x hx
      · rw [List.mem_singleton.mp hx]; exact ht
    · rw [List.pairwise_append]
      exact ⟨h.apart, List.pairwise_singleton _ _, fun a ha b hb => by rw [List.mem_singleton.mp hb]; exact fun z => c ⟨a, ha, z⟩⟩
theorem Chs.fold {A : Au} {S : List Int} : ∀ {ts C : List Int}, Chs A S C → (∀ t ∈ ts, t ∈ S) → Chs A S (ts.foldl (st1 A) C)
  | [], _, h, _ => h
  | t :: ts, _, h, ht => by
    rw [List.foldl_cons]
    exact Chs.fold (h.step (ht t List.mem_cons_self)) fun x hx => ht x (List.mem_cons_of_mem _ hx)
theorem cC_next {A : Au} {i : Nat} {c : Int} (h : (cC A i)[i]? = some c) : cC A (i + 1) = (A.row c).foldl (st1 A) (cC A i) := by
  rw [cC, h]
theorem cC_same {A : Au} {i : Nat} (h : (cC A i).length ≤ i) : cC A (i + 1) = cC A i := by
  rw [cC, List.getElem?_eq_none h]
theorem cC_chs {A : Au} {S : List Int} (C : Clo A S) (hs : A.s ∈ S) : ∀ i, Chs A S (cC A i)
  | 0 => ⟨fun c hc => by rw [List.mem_singleton.mp hc]; exact hs, List.pairwise_singleton _ _⟩
  | i + 1 => by
    have ih := cC_chs C hs i
    cases h : (cC A i)[i]? with
    | none => rw [cC, h]; exact ih
    | some c =>
      rw [cC_next h]
      exact ih.fold (C c (ih.sub c (List.mem_of_getElem? h))).2
theorem cC_pre {A : Au} (i : Nat) : ∀ d, ∃ M, cC A (i + d) = cC A i ++ M
  | 0 => ⟨[], by simp⟩
  | d + 1 => by
    obtain ⟨M, e⟩ := cC_pre (A := A) i d
    cases h : (cC A (i + d))[i + d]? with
    | none => exact ⟨M, by rw [← e, show i + (d + 1) = (i + d) + 1 from rfl, cC, h]⟩
    | some c =>
      obtain ⟨M2, e2⟩ := fold_pre (A := A) (ts := A.row c) (C := cC A (i + d))
      exact ⟨M ++ M2, by rw [show i + (d + 1) = (i + d) + 1 from rfl, cC_next h, e2, e, List.append_assoc]⟩
theorem cC_stay {A : Au} {i : Nat} (h : (cC A i).length ≤ i) : ∀ d, cC A (i + d) = cC A i
  | 0 => rfl
  | d + 1 => by
    have ih := cC_stay h d
    rw [show i + (d + 1) = (i + d) + 1 from rfl, cC_same (by rw [ih]; omega), ih]
theorem cC_len {A : Au} {S : List Int} (C : Clo A S) (hs : A.s ∈ S) (i : Nat) : (cC A i).length ≤ A.R.length := by
  have h := cC_chs C hs i
  have nd : (cC A i).Nodup := h.apart.imp fun h e => h (by rw [e]; exact eqI.refl _)
  have := nodup_le nd (m := (List.range A.R.length).map fun n : Nat => (n : Int)) fun x hx => by
    obtain ⟨h1, h2⟩ := (C x (h.sub x hx)).1
    exact List.mem_map.mpr ⟨x.toNat, List.mem_range.mpr (by omega), by omega⟩
  rwa [List.length_map, List.length_range] at this
noncomputable def CC (A : Au) : List Int := cC A A.R.length
theorem CC_eq {A : Au} {S : List Int} (C : Clo A S) (hs : A.s ∈ S) {i : Nat} (h : (cC A i).length ≤ i) : cC A i = CC A := by
  by_cases c : i ≤ A.R.length
  · have := cC_stay h (A.R.length - i)
    rw [show i + (A.R.length - i) = A.R.length by omega] at this
    exact this.symm
  · have := cC_stay (A := A) (i := A.R.length) (cC_len C hs _) (i - A.R.length)
    rw [show A.R.length + (i - A.R.length) = i by omega] at this
    exact this
theorem CC_at {A : Au} {k : Nat} (h : k < (CC A).length) (hk : k ≤ A.R.length) : (cC A k)[k]? = (CC A)[k]? ∧ k < (cC A k).length := by
  obtain ⟨M, e⟩ := cC_pre (A := A) k (A.R.length - k)
  rw [show k + (A.R.length - k) = A.R.length by omega] at e
  have e : CC A = cC A k ++ M := e
  have lt : k < (cC A k).length := by
    refine Nat.lt_of_not_le fun z => ?_
    have := cC_stay z (A.R.length - k)
    rw [show k + (A.R.length - k) = A.R.length by omega] at this
    have : CC A = cC A k := this
    rw [this] at h; omega
  exact ⟨by rw [e, List.getElem?_append_left lt], lt⟩
/-- each next state has one that stands for it -/
theorem CC_has {A : Au} {S : List Int} (C : Clo A S) (hs : A.s ∈ S) {c t : Int} (hc : c ∈ CC A) (ht : t ∈ A.row c) : ∃ d ∈ CC A, eqI A d t := by
  obtain ⟨k, hk, rfl⟩ := List.getElem_of_mem hc
  have l : (CC A).length ≤ A.R.length := cC_len C hs _
  obtain ⟨e1, lt⟩ := CC_at hk (by omega)
  rw [List.getElem?_eq_getElem hk] at e1
  obtain ⟨d, h1, h2⟩ := fold_has (A := A) (C := cC A k) ht
  rw [← cC_next e1] at h1
  obtain ⟨M, e⟩ := cC_pre (A := A) (k + 1) (A.R.length - (k + 1))
  rw [show k + 1 + (A.R.length - (k + 1)) = A.R.length by omega] at e
  have e : CC A = cC A (k + 1) ++ M := e
  exact ⟨d, by rw [e]; exact List.mem_append_left _ h1, h2⟩
/-- the least automaton -/
noncomputable def mrow (A : Au) (c : Int) : List Int := (A.row c).map fun t => (idc A (CC A) t : Int)
noncomputable def minA (A : Au) : Au := ⟨A.L, 0, ((List.range (CC A).length).filter fun k => decide ((CC A).getD k 0 ∈ A.F)).map (fun n : Nat => (n : Int)), (CC A).map (mrow A)⟩
theorem CC_pos {A : Au} : 0 < (CC A).length := by
  obtain ⟨M, e⟩ := cC_pre (A := A) 0 A.R.length
  rw [Nat.zero_add] at e
  have e : CC A = [A.s] ++ M := e
  rw [e]; simp
theorem minA_ok {A : Au} {S : List Int} (O : A.Ok) (C : Clo A S) (hs : A.s ∈ S) : (minA A).Ok := by
  have len : (minA A).R.length = (CC A).length := by show ((CC A).map _).length = _; rw [List.length_map]
  have chs := cC_chs C hs A.R.length
  refine ⟨O.L1, ⟨Int.le_refl 0, ?_⟩, fun x hx => ?_, ?_, fun r hr => ?_⟩
  · rw [len]; have := CC_pos (A := A); show (0 : Int) < _; omega
  · obtain ⟨n, hn, rfl⟩ := List.mem_map.mp hx
    have := List.mem_range.mp (List.mem_filter.mp hn).1
    refine ⟨by omega, ?_⟩
    rw [len]; omega
  · show (List.map _ _).Pairwise (· < ·)
    rw [List.pairwise_map]
    exact (List.pairwise_lt_range.sublist List.filter_sublist).imp fun h => by omega
  · obtain ⟨c, hc, rfl⟩ := List.mem_map.mp hr
    refine ⟨?_, fun x hx => ?_⟩
    · unfold mrow
      rw [List.length_map]
      exact (O.R _ (Au.row_mem (C c (chs.sub c hc)).1)).1
    · obtain ⟨t, ht, rfl⟩ := List.mem_map.mp hx
      have := idc_lt (CC_has C hs hc ht)
      refine ⟨by omega, ?_⟩
      rw [len]; omega
end My
namespace My
/-! ### actions of words on the states of an automaton; powers that settle -/
def lonA (A : Au) (st : List Int) (a : Nat) : List Int := st.map fun q => nxA A q a
abbrev AEnt := List Int × List Int
def stpT (A : Au) (e : AEnt) (T : List AEnt) (a : Nat) : List AEnt := if lonA A e.2 a ∈ T.map Prod.snd then T else T ++ [(e.1 ++ [(a : Int)], lonA A e.2 a)]
def grT (A : Au) (e : AEnt) (n : Nat) (T : List AEnt) : List AEnt := (List.range n).foldl (stpT A e) T
theorem grT_succ {A : Au} {e : AEnt} {n : Nat} {T : List AEnt} : grT A e (n + 1) T = stpT A e (grT A e n T) n := by
  unfold grT; rw [List.range_succ, List.foldl_append]; rfl
def nxT (A : Au) (n : Nat) (T : List AEnt) : List AEnt := match T[n]? with | some e => grT A e A.L T | none => T
def idS (A : Au) : List Int := (List.range A.R.length).map fun i : Nat => (i : Int)
def tbT (A : Au) : Nat → List AEnt
  | 0 => [([], idS A)]
  | n + 1 => nxT A n (tbT A n)
structure TOk (A : Au) (n : Nat) (T : List AEnt) : Prop where
  nd : (T.map Prod.snd).Nodup
  len : ∀ e ∈ T, e.2.length = A.R.length
  ins : ∀ e ∈ T, ∀ q ∈ e.2, A.In q
  wl : ∀ e ∈ T, e.1.length ≤ n
theorem nxA_inM {A : Au} (O : A.Ok) {q : Int} (h : A.In q) {a : Nat} (ha : a < A.L) : A.In (nxA A q a) := by
  have h1 := Au.row_mem h
  have h2 := O.R _ h1
  refine h2.2 _ ?_
  unfold nxA
  rw [List.getD_eq_getElem?_getD, List.getElem?_eq_getElem (by rw [h2.1]; exact ha)]
  exact List.getElem_mem _
theorem idS_in {A : Au} {q : Int} (h : q ∈ idS A) : A.In q := by
  obtain ⟨k, hk, rfl⟩ := List.mem_map.mp h
  have := List.mem_range.mp hk
  exact ⟨by omega, by omega⟩
theorem TOk.start (A : Au) : TOk A 0 (tbT A 0) := ⟨by show [idS A].Nodup; simp, fun e he => by
    rw [List.mem_singleton.mp he]; show (idS A).length = _; unfold idS; rw [List.length_map, List.length_range], fun e he => by
    rw [List.mem_singleton.mp he]; exact fun q hq => idS_in hq, fun e he => by rw [List.mem_singleton.mp he]; exact Nat.le_refl _⟩
theorem TOk.up {A : Au} {n m : Nat} {T : List AEnt} (h : TOk A n T) (hm : n ≤ m) : TOk A m T := ⟨h.nd, h.len, h.ins, fun e he => Nat.le_trans (h.wl e he) hm⟩
theorem TOk.step {A : Au} {n : Nat} {T : List AEnt} {e : AEnt} {a : Nat} (O : A.Ok) (h : TOk A (n + 1) T) (e1 : e.1.length ≤ n) (e2 : e.2.length = A.R.length) (e3 : ∀ q ∈ e.2, A.In q) (ha : a < A.L) : TOk A (n + 1) (stpT A e T a) := by
  unfold stpT
  split
  · exact h
  · rename_i c
    refine ⟨?_, fun x hx => ?_, fun x hx => ?_, fun x hx => ?_⟩
    · rw [List.map_append, List.nodup_append]
      exact ⟨h.nd, by simp, fun x hx y hy => by rw [show y = lonA A e.2 a by simpa using hy]; rintro rfl; exact c hx⟩
    · rcases List.mem_append.mp hx with hx | hx
      · exact h.len x hx
      · rw [List.mem_singleton.mp hx]; show (lonA A e.2 a).length = _; unfold lonA; rw [List.length_map, e2]
    · rcases List.mem_append.mp hx with hx | hx
      · exact h.ins x hx
      · rw [List.mem_singleton.mp hx]
        intro q hq
        obtain ⟨p, hp, rfl⟩ := List.mem_map.mp (show q ∈ lonA A e.2 a from hq)
        exact nxA_inM O (e3 p hp) ha
    · rcases List.mem_append.mp hx with hx | hx
      · exact h.wl x hx
      · rw [List.mem_singleton.mp hx]; show (e.1 ++ [(a : Int)]).length ≤ _; rw [List.length_append]; simpa using e1
theorem TOk.grow {A : Au} {n : Nat} {T : List AEnt} {e : AEnt} (O : A.Ok) (h : TOk A n T) (he : e ∈ T) : ∀ {j : Nat}, j ≤ A.L → TOk A (n + 1) (grT A e j T)
  | 0, _ => h.up (by omega)
  | j + 1, hj => by rw [grT_succ]; exact (TOk.grow O h he (by omega)).step O (h.wl e he) (h.len e he) (h.ins e he) (by omega)
theorem tbT_ok {A : Au} (O : A.Ok) : ∀ n, TOk A n (tbT A n)
  | 0 => TOk.start A
  | n + 1 => by
    show TOk A (n + 1) (nxT A n (tbT A n))
    unfold nxT
    split
    · rename_i e he
      exact (tbT_ok O n).grow O (List.mem_of_getElem? he) (Nat.le_refl _)
    · exact (tbT_ok O n).up (by omega)
theorem grT_pre {A : Au} {e : AEnt} {T : List AEnt} : ∀ {j : Nat}, ∃ M, grT A e j T = T ++ M
  | 0 => ⟨[], by simp [grT]⟩
  | j + 1 => by
    obtain ⟨M, h⟩ := @grT_pre A e T j
    rw [grT_succ, h]
    unfold stpT
    split
    · exact ⟨M, rfl⟩
    · exact ⟨M ++ [_], by rw [List.append_assoc]⟩
theorem tbT_same {A : Au} {n : Nat} (h : (tbT A n).length ≤ n) : ∀ d, tbT A (n + d) = tbT A n
  | 0 => rfl
  | d + 1 => by
    have ih := tbT_same h d
    show nxT A (n + d) (tbT A (n + d)) = _
    unfold nxT
    rw [ih, List.getElem?_eq_none (by omega)]
/-! #### how many there are -/
def encS (N : Nat) : List Int → Nat
  | [] => 0
  | q :: l => q.toNat + N * encS N l
theorem encS_lt {N : Nat} : ∀ {l : List Int}, (∀ q ∈ l, 0 ≤ q ∧ q < (N : Int)) → encS N l < N ^ l.length
  | [], _ => by simp [encS]
  | q :: l, h => by
    have h1 := h q (by simp)
    have ih := encS_lt (l := l) fun x hx => h x (List.mem_cons_of_mem _ hx)
    show q.toNat + N * encS N l < N ^ (l.length + 1)
    rw [Nat.pow_succ, Nat.mul_comm]
    have : (encS N l + 1) * N ≤ N ^ l.length * N := Nat.mul_le_mul_right N ih
    rw [Nat.add_mul, Nat.one_mul] at this
    omega
theorem encS_inj {N : Nat} : ∀ {l m : List Int}, l.length = m.length → (∀ q ∈ l, 0 ≤ q ∧ q < (N : Int)) → (∀ q ∈ m, 0 ≤ q ∧ q < (N : Int)) → encS N l = encS N m → l = m
  | [], [], _, _, _, _ => rfl
  | [], _ :: _, h, _, _, _ => by simp at h
  | _ :: _, [], h, _, _, _ => by simp at h
  | q :: l, p :: m, h, h1, h2, e => by
    have a := h1 q (by simp)
    have b := h2 p (by simp)
    have e : q.toNat + N * encS N l = p.toNat + N * encS N m := e
    have e1 : q.toNat = p.toNat := by
      have := congrArg (· % N) e
      simp only [Nat.add_mul_mod_self_left] at this
      rwa [Nat.mod_eq_of_lt (by omega), Nat.mod_eq_of_lt (by omega)] at this
    have e2 : encS N l = encS N m := by
      rw [e1] at e
      exact Nat.eq_of_mul_eq_mul_left (show 0 < N by omega) (Nat.add_left_cancel e)
    rw [encS_inj (by simpa using h) (fun x hx => h1 x (List.mem_cons_of_mem _ hx)) (fun x hx => h2 x (List.mem_cons_of_mem _ hx)) e2, show q = p by omega]
theorem nodup_mapOn {α β : Type} {f : α → β} : ∀ {l : List α}, l.Nodup → (∀ x ∈ l, ∀ y ∈ l, f x = f y → x = y) → (l.map f).Nodup
  | [], _, _ => by simp
  | x :: l, h, i => by
    rw [List.nodup_cons] at h
    rw [List.map_cons, List.nodup_cons]
    refine ⟨fun m => ?_, nodup_mapOn h.2 fun a ha b hb => i a (List.mem_cons_of_mem _ ha) b (List.mem_cons_of_mem _ hb)⟩
    obtain ⟨y, hy, e⟩ := List.mem_map.mp m
    have := i y (List.mem_cons_of_mem _ hy) x (by simp) e
    rw [this] at hy
    exact h.1 hy
theorem TOk.many {A : Au} {n : Nat} {T : List AEnt} (h : TOk A n T) : T.length ≤ A.R.length ^ A.R.length := by
  have l1 : ∀ s ∈ T.map Prod.snd, s.length = A.R.length ∧ ∀ q ∈ s, 0 ≤ q ∧ q < (A.R.length : Int) := fun s hs => by
    obtain ⟨e, he, rfl⟩ := List.mem_map.mp hs
    exact ⟨h.len e he, h.ins e he⟩
  have nd := nodup_mapOn (f := encS A.R.length) h.nd fun x hx y hy e => encS_inj ((l1 x hx).1.trans (l1 y hy).1.symm) (l1 x hx).2 (l1 y hy).2 e
  have := nodup_le nd (m := List.range (A.R.length ^ A.R.length)) fun x hx => by
    obtain ⟨s, hs, rfl⟩ := List.mem_map.mp hx
    have := encS_lt (l1 s hs).2
    rw [(l1 s hs).1] at this
    exact List.mem_range.mpr this
  rwa [List.length_map, List.length_map, List.length_range] at this
theorem pow_small {N : Nat} (h : N ≤ 4) : N ^ N ≤ 256 := by
  rcases (show N = 0 ∨ N = 1 ∨ N = 2 ∨ N = 3 ∨ N = 4 by omega) with rfl | rfl | rfl | rfl | rfl <;> decide
/-- the whole table -/
def TT (A : Au) : List AEnt := tbT A 401
theorem tbT_end {A : Au} {n : Nat} (h : (tbT A n).length ≤ n) (hn : n ≤ 401) : tbT A n = TT A := by
  have := tbT_same h (401 - n)
  rw [show n + (401 - n) = 401 by omega] at this
  exact this.symm
/-! #### powers -/
def itF (F : Int → Int) : Nat → Int → Int
  | 0, x => x
  | n + 1, x => F (itF F n x)
theorem itF_add {F : Int → Int} {b : Nat} {x : Int} : ∀ {a : Nat}, itF F (a + b) x = itF F a (itF F b x)
  | 0 => by rw [Nat.zero_add]; rfl
  | a + 1 => by
    rw [Nat.add_right_comm]
    show F (itF F (a + b) x) = F (itF F a (itF F b x))
    rw [itF_add]
def fxS (F : Int → Int) (x : Int) (e : Nat) : Prop := F (itF F e x) = itF F e x
theorem fxS.up {F : Int → Int} {x : Int} {e : Nat} (h : fxS F x e) : ∀ d, fxS F x (e + d)
  | 0 => h
  | d + 1 => by
    have := fxS.up h d
    show F (F (itF F (e + d) x)) = F (itF F (e + d) x)
    rw [show F (itF F (e + d) x) = itF F (e + d) x from this]
    exact this
theorem fxS.least {F : Int → Int} {x : Int} {m : Nat} (hF : ∀ y, 0 ≤ y → y < (m : Int) → 0 ≤ F y ∧ F y < (m : Int)) (hx : 0 ≤ x ∧ x < (m : Int)) : ∀ {e : Nat}, fxS F x e → fxS F x m := by
  have hr : ∀ i, 0 ≤ itF F i x ∧ itF F i x < (m : Int) := fun i => by
    induction i with
    | zero => exact hx
    | succ i ih => exact hF _ ih.1 ih.2
  intro e
  induction e using Nat.strongRecOn with
  | _ e ih =>
    intro h
    rcases Nat.lt_or_ge m e with c | c
    · refine Classical.byContradiction fun no => ?_
      have inj : ∀ i, i ∈ List.range (m + 1) → ∀ j, j ∈ List.range (m + 1) → itF F i x = itF F j x → i = j := by
        have key : ∀ i j, i < j → j ≤ m → itF F i x ≠ itF F j x := fun i j hij hj eq => no (ih (e - (j - i)) (by omega) (by
          have e1 : itF F (e - (j - i)) x = itF F e x := by
            rw [show e - (j - i) = (e - j) + i by omega, itF_add, eq, ← itF_add, show e - j + j = e by omega]
          show F _ = _
          rw [e1]; exact h))
        intro i hi j hj eq
        have hi := List.mem_range.mp hi
        have hj := List.mem_range.mp hj
        rcases Nat.lt_trichotomy i j with c | c | c
        · exact absurd eq (key i j c (by omega))
        · exact c
        · exact absurd eq.symm (key j i c (by omega))
      have nd := nodup_mapOn (f := fun i => itF F i x) List.nodup_range fun i hi j hj e => inj i hi j hj e
      have := nodup_le nd (m := (List.range m).map fun k : Nat => (k : Int)) fun y hy => by
        obtain ⟨i, _, rfl⟩ := List.mem_map.mp hy
        have := hr i
        exact List.mem_map.mpr ⟨(itF F i x).toNat, List.mem_range.mpr (by omega), by omega⟩
      simp only [List.length_map, List.length_range] at this
      omega
    · have := h.up (m - e)
      rwa [show e + (m - e) = m by omega] at this
def apF (f : List Int) (q : Int) : Int := f.getD q.toNat 0
/-- the e-th power -/
def pwF (f : List Int) (e : Nat) : List Int := (List.range f.length).map fun i : Nat => itF (apF f) e (i : Int)
structure FOk (f : List Int) : Prop where
  pos : 0 < f.length
  ins : ∀ q ∈ f, 0 ≤ q ∧ q < (f.length : Int)
theorem apF_in {f : List Int} (h : FOk f) {y : Int} (h0 : 0 ≤ y) (h1 : y < (f.length : Int)) : 0 ≤ apF f y ∧ apF f y < (f.length : Int) := by
  unfold apF
  rw [List.getD_eq_getElem?_getD, List.getElem?_eq_getElem (by omega)]
  exact h.ins _ (List.getElem_mem _)
theorem itF_in {f : List Int} (h : FOk f) {y : Int} (h0 : 0 ≤ y ∧ y < (f.length : Int)) : ∀ e, 0 ≤ itF (apF f) e y ∧ itF (apF f) e y < (f.length : Int)
  | 0 => h0
  | e + 1 => apF_in h (itF_in h h0 e).1 (itF_in h h0 e).2
theorem pwF_len {f : List Int} {e : Nat} : (pwF f e).length = f.length := by unfold pwF; rw [List.length_map, List.length_range]
theorem pwF_in {f : List Int} (h : FOk f) {e : Nat} : ∀ q ∈ pwF f e, 0 ≤ q ∧ q < (f.length : Int) := fun q hq => by
  obtain ⟨i, hi, rfl⟩ := List.mem_map.mp hq
  have := List.mem_range.mp hi
  exact itF_in h ⟨by omega, by omega⟩ e
theorem pwF_at {f : List Int} {e : Nat} {y : Int} (h0 : 0 ≤ y) (h1 : y < (f.length : Int)) : (pwF f e).getD y.toNat 0 = itF (apF f) e y := by
  unfold pwF
  rw [List.getD_eq_getElem?_getD, List.getElem?_map, List.getElem?_range (by omega)]
  show itF _ _ ((y.toNat : Nat) : Int) = _
  rw [Int.toNat_of_nonneg h0]
theorem pwF_one {f : List Int} : pwF f 1 = f := by
  apply List.ext_getElem? ; intro i
  unfold pwF
  rcases Nat.lt_or_ge i f.length with c | c
  · rw [List.getElem?_map, List.getElem?_range c]
    show some (apF f (i : Int)) = _
    unfold apF
    rw [Int.toNat_natCast, List.getD_eq_getElem?_getD, List.getElem?_eq_getElem c]; rfl
  · rw [List.getElem?_eq_none c, List.getElem?_eq_none (by rw [List.length_map, List.length_range]; exact c)]
theorem pwF_mul {f : List Int} (h : FOk f) {a b : Nat} : ((pwF f b).map fun q => (pwF f a).getD q.toNat 0) = pwF f (a + b) := by
  show ((List.range f.length).map fun i : Nat => itF (apF f) b (i : Int)).map _ = (List.range f.length).map fun i : Nat => itF (apF f) (a + b) (i : Int)
  rw [List.map_map]
  refine List.map_congr_left fun i hi => ?_
  have hi := List.mem_range.mp hi
  have := itF_in h (y := (i : Int)) ⟨by omega, by omega⟩ b
  show (pwF f a).getD (itF (apF f) b (i : Int)).toNat 0 = _
  rw [pwF_at this.1 this.2, itF_add]
theorem pwF_eq {f : List Int} {e : Nat} : pwF f (1 + e) = pwF f e ↔ ∀ i : Nat, i < f.length → fxS (apF f) (i : Int) e := by
  unfold pwF fxS
  constructor
  · intro h i hi
    have := congrArg (fun l : List Int => l[i]?) h
    simp only [List.getElem?_map, List.getElem?_range hi, Option.map_some, Option.some.injEq] at this
    rw [Nat.add_comm] at this
    exact this
  · intro h
    refine List.map_congr_left fun i hi => ?_
    rw [Nat.add_comm]
    exact h i (List.mem_range.mp hi)
/-- powers come to rest -/
def StlF (f : List Int) : Bool := decide (pwF f (1 + f.length) = pwF f f.length)
theorem stl_of {f : List Int} (h : FOk f) {e : Nat} (he : pwF f (1 + e) = pwF f e) : StlF f = true :=
  decide_eq_true (pwF_eq.mpr fun i hi => fxS.least (fun y h0 h1 => apF_in h h0 h1) ⟨by omega, by omega⟩ (pwF_eq.mp he i hi))
theorem stl_at {f : List Int} (h : FOk f) {e : Nat} (he : f.length ≤ e) : decide (pwF f (1 + e) = pwF f e) = StlF f := by
  rcases hs : StlF f with _ | _
  · refine decide_eq_false fun z => ?_
    rw [stl_of h z] at hs; cases hs
  · have := of_decide_eq_true hs
    refine decide_eq_true (pwF_eq.mpr fun i hi => ?_)
    have := (pwF_eq.mp this i hi).up (e - f.length)
    rwa [show f.length + (e - f.length) = e by omega] at this
theorem stl_rest {f : List Int} (h : FOk f) (no : ∀ k, k ≤ f.length → pwF f (1 + (k + 1)) ≠ pwF f (k + 1)) : StlF f = false := by
  rcases hs : StlF f with _ | _
  · rfl
  · have := of_decide_eq_true hs
    have p := h.pos
    exact absurd (by rw [show f.length - 1 + 1 = f.length by omega]; exact this) (no (f.length - 1) (by omega))
theorem fok_of {A : Au} {n : Nat} {T : List AEnt} (h : TOk A n T) (hp : 0 < A.R.length) {e : AEnt} (he : e ∈ T) : FOk e.2 := ⟨by rw [h.len e he]; exact hp, fun q hq => by rw [h.len e he]; exact h.ins e he q hq⟩
theorem idS_mem {A : Au} {q : Int} (h : A.In q) : q ∈ idS A := List.mem_map.mpr ⟨q.toNat, List.mem_range.mpr (by obtain ⟨h1, h2⟩ := h; omega), Int.toNat_of_nonneg h.1⟩
theorem idS_clo {A : Au} (O : A.Ok) : Clo A (idS A) := fun q hq => by
  have h := idS_in hq
  exact ⟨h, fun x hx => idS_mem ((O.R _ (Au.row_mem h)).2 x hx)⟩
theorem mok {A : Au} (O : A.Ok) : (minA A).Ok := minA_ok O (idS_clo O) (idS_mem O.s)
theorem minR_len {A : Au} : (minA A).R.length = (CC A).length := List.length_map _
theorem minR_le {A : Au} (O : A.Ok) : (minA A).R.length ≤ A.R.length := by rw [minR_len]; exact cC_len (idS_clo O) (idS_mem O.s) _
theorem tbT_len {A : Au} (O : A.Ok) (h : A.R.length ≤ 4) (n : Nat) : (tbT A n).length ≤ 256 := Nat.le_trans (tbT_ok O n).many (pow_small h)
theorem tt_fok {A : Au} (O : A.Ok) {e : AEnt} (he : e ∈ TT (minA A)) : FOk e.2 :=
  fok_of (tbT_ok (mok O) 401) (by obtain ⟨h1, h2⟩ := (mok O).s; omega) he
theorem tt_len {A : Au} (O : A.Ok) {e : AEnt} (he : e ∈ TT (minA A)) : e.2.length = (minA A).R.length := (tbT_ok (mok O) 401).len e he
def looseT (T : List AEnt) : List (List Int) := (T.filter fun e => !StlF e.2).map Prod.fst
theorem loose_hd {T : List AEnt} {j : Nat} {e : AEnt} (he : T[j]? = some e) (hj : ∀ e ∈ T.take j, StlF e.2 = true) (hz : StlF e.2 = false) : ∃ l, looseT T = e.1 :: l := by
  refine ⟨looseT (T.drop (j + 1)), ?_⟩
  have e0 : T = T.take j ++ e :: T.drop (j + 1) := by
    have h := List.getElem?_eq_some_iff.mp he
    rw [← h.2, List.getElem_cons_drop, List.take_append_drop]
  have e1 : looseT (T.take j) = [] := List.map_eq_nil_iff.mpr (List.filter_eq_nil_iff.mpr fun e he => by rw [hj e he]; simp)
  have e2 : looseT T = looseT (T.take j) ++ looseT (e :: T.drop (j + 1)) := by
    conv => lhs; rw [e0]
    unfold looseT
    rw [List.filter_append, List.map_append]
  rw [e2, e1, List.nil_append]
  unfold looseT
  rw [List.filter_cons, hz]; rfl
end My
namespace My
open PySem L2 Hq
/-! ### the text by places -/
def top (i : Nat) : Stmt := PySem.Challenge.pw_placewords_k30_actions.main.body.getD i (.Pass ⟨0, 0, 0, 0⟩)
abbrev s_Automaton_init : Stmt := inClass (top 5) 0
abbrev s__check_states : Stmt := top 6
abbrev s_final_marks : Stmt := top 7
abbrev s_least : Stmt := top 8
abbrev s__reached_states : Stmt := top 9
abbrev s_state_classes : Stmt := top 10
abbrev s_action : Stmt := top 13
abbrev s__longer : Stmt := top 14
abbrev s_actions : Stmt := top 15
abbrev s_unsettled_word : Stmt := top 16
abbrev s__settles : Stmt := top 17
abbrev s__law_draws : Stmt := top 19
abbrev s__law_take : Stmt := top 20
abbrev s__law_word : Stmt := top 21
abbrev s__law_run : Stmt := top 22
abbrev s__law_any_automaton : Stmt := top 23
abbrev s__law_made : Stmt := top 24
abbrev s__law_smallest : Stmt := top 25
abbrev s__law_outcome : Stmt := top 26
abbrev s__law_table : Stmt := top 27
abbrev s__law_rests : Stmt := top 28
abbrev s_law : Stmt := top 29
structure Txt (K : PySem.W.Frag) (mg : Str → Option Value) where
  f_Automaton_init : Addr
  d_Automaton_init : FuncData
  F_Automaton_init : Fun K "__init__" "Automaton.__init__" s_Automaton_init f_Automaton_init d_Automaton_init
  b_Automaton_init : Binds K d_Automaton_init ["self", "letters", "start", "finals", "rows"] []
  f__check_states : Addr
  d__check_states : FuncData
  F__check_states : Fun K "_check_states" "_check_states" s__check_states f__check_states d__check_states
  m__check_states : mg "_check_states" = some (.ref f__check_states)
  b__check_states : Binds K d__check_states ["many", "states"] []
  f_final_marks : Addr
  d_final_marks : FuncData
  F_final_marks : Fun K "final_marks" "final_marks" s_final_marks f_final_marks d_final_marks
  m_final_marks : mg "final_marks" = some (.ref f_final_marks)
  b_final_marks : Binds K d_final_marks ["automaton"] []
  f_least : Addr
  d_least : FuncData
  F_least : Fun K "least" "least" s_least f_least d_least
  m_least : mg "least" = some (.ref f_least)
  b_least : Binds K d_least ["automaton"] []
  f__reached_states : Addr
  d__reached_states : FuncData
  F__reached_states : Fun K "_reached_states" "_reached_states" s__reached_states f__reached_states d__reached_states
  m__reached_states : mg "_reached_states" = some (.ref f__reached_states)
  b__reached_states : Binds K d__reached_states ["automaton"] []
  f_state_classes : Addr
  d_state_classes : FuncData
  F_state_classes : Fun K "state_classes" "state_classes" s_state_classes f_state_classes d_state_classes
  m_state_classes : mg "state_classes" = some (.ref f_state_classes)
  b_state_classes : Binds K d_state_classes ["automaton", "states", "letters"] []
  f_action : Addr
  d_action : FuncData
  F_action : Fun K "action" "action" s_action f_action d_action
  m_action : mg "action" = some (.ref f_action)
  b_action : Binds K d_action ["automaton", "word"] []
  f__longer : Addr
  d__longer : FuncData
  F__longer : Fun K "_longer" "_longer" s__longer f__longer d__longer
  m__longer : mg "_longer" = some (.ref f__longer)
  b__longer : Binds K d__longer ["automaton", "states", "letter"] []
  f_actions : Addr
  d_actions : FuncData
  F_actions : Fun K "actions" "actions" s_actions f_actions d_actions
  m_actions : mg "actions" = some (.ref f_actions)
  b_actions : Binds K d_actions ["automaton"] []
  f_unsettled_word : Addr
  d_unsettled_word : FuncData
  F_unsettled_word : Fun K "unsettled_word" "unsettled_word" s_unsettled_word f_unsettled_word d_unsettled_word
  m_unsettled_word : mg "unsettled_word" = some (.ref f_unsettled_word)
  b_unsettled_word : Binds K d_unsettled_word ["automaton"] []
  f__settles : Addr
  d__settles : FuncData
  F__settles : Fun K "_settles" "_settles" s__settles f__settles d__settles
  m__settles : mg "_settles" = some (.ref f__settles)
  b__settles : Binds K d__settles ["states"] []
  f__law_draws : Addr
  d__law_draws : FuncData
  F__law_draws : Fun K "_law_draws" "_law_draws" s__law_draws f__law_draws d__law_draws
  m__law_draws : mg "_law_draws" = some (.ref f__law_draws)
  b__law_draws : Binds K d__law_draws ["script", "count"] []
  f__law_take : Addr
  d__law_take : FuncData
  F__law_take : Fun K "_law_take" "_law_take" s__law_take f__law_take d__law_take
  m__law_take : mg "_law_take" = some (.ref f__law_take)
  b__law_take : Binds K d__law_take ["draws", "limit"] []
  f__law_word : Addr
  d__law_word : FuncData
  F__law_word : Fun K "_law_word" "_law_word" s__law_word f__law_word d__law_word
  m__law_word : mg "_law_word" = some (.ref f__law_word)
  b__law_word : Binds K d__law_word ["draws", "letters", "most"] []
  f__law_run : Addr
  d__law_run : FuncData
  F__law_run : Fun K "_law_run" "_law_run" s__law_run f__law_run d__law_run
  m__law_run : mg "_law_run" = some (.ref f__law_run)
  b__law_run : Binds K d__law_run ["automaton", "word"] []
  f__law_any_automaton : Addr
  d__law_any_automaton : FuncData
  F__law_any_automaton : Fun K "_law_any_automaton" "_law_any_automaton" s__law_any_automaton f__law_any_automaton d__law_any_automaton
  m__law_any_automaton : mg "_law_any_automaton" = some (.ref f__law_any_automaton)
  b__law_any_automaton : Binds K d__law_any_automaton ["draws", "letters", "most"] []
  f__law_made : Addr
  d__law_made : FuncData
  F__law_made : Fun K "_law_made" "_law_made" s__law_made f__law_made d__law_made
  m__law_made : mg "_law_made" = some (.ref f__law_made)
  b__law_made : Binds K d__law_made ["letters", "automaton"] []
  f__law_smallest : Addr
  d__law_smallest : FuncData
  F__law_smallest : Fun K "_law_smallest" "_law_smallest" s__law_smallest f__law_smallest d__law_smallest
  m__law_smallest : mg "_law_smallest" = some (.ref f__law_smallest)
  b__law_smallest : Binds K d__law_smallest ["automaton"] []
  f__law_outcome : Addr
  d__law_outcome : FuncData
  F__law_outcome : Fun K "_law_outcome" "_law_outcome" s__law_outcome f__law_outcome d__law_outcome
  m__law_outcome : mg "_law_outcome" = some (.ref f__law_outcome)
  b__law_outcome : Binds K d__law_outcome ["automaton"] []
  f__law_table : Addr
  d__law_table : FuncData
  F__law_table : Fun K "_law_table" "_law_table" s__law_table f__law_table d__law_table
  m__law_table : mg "_law_table" = some (.ref f__law_table)
  b__law_table : Binds K d__law_table ["automaton"] []
  f__law_rests : Addr
  d__law_rests : FuncData
  F__law_rests : Fun K "_law_rests" "_law_rests" s__law_rests f__law_rests d__law_rests
  m__law_rests : mg "_law_rests" = some (.ref f__law_rests)
  b__law_rests : Binds K d__law_rests ["one"] []
  f_law : Addr
  d_law : FuncData
  F_law : Fun K "law" "law" s_law f_law d_law
  m_law : mg "law" = some (.ref f_law)
  b_law : Binds K d_law ["script"] []
  c_Automaton : Addr
  mc_Automaton : mg "Automaton" = some (.ref c_Automaton)
  mk_Automaton : PySem.W.makesIn K c_Automaton = true
  in_Automaton : PySem.W.findIn K (.ref c_Automaton) "__init__" = some (some (.ref f_Automaton_init))
  if_Automaton : PySem.W.isFn K (.ref f_Automaton_init) = true
  kc_Automaton : PySem.W.keepIn K (.ref c_Automaton) = true
  cl_Automaton : Cls K c_Automaton
  na_Automaton_letters : NoAttr K c_Automaton "letters"
  na_Automaton_start : NoAttr K c_Automaton "start"
  na_Automaton_finals : NoAttr K c_Automaton "finals"
  na_Automaton_rows : NoAttr K c_Automaton "rows"
  c_InvalidAutomaton : Addr
  mc_InvalidAutomaton : mg "InvalidAutomaton" = some (.ref c_InvalidAutomaton)
  x_InvalidAutomaton : PySem.W.excIn K c_InvalidAutomaton [.type "ValueError", .type "Exception", .type "BaseException", .type "object"] "ValueError.__new__" = true
  k_InvalidAutomaton : PySem.W.keepIn K (.ref c_InvalidAutomaton) = true
  b_InvalidAutomaton : PySem.W.subIn K (.ref c_InvalidAutomaton) (.type "BaseException") = some true
  t_InvalidAutomaton : PySem.W.typeIn K (.ref c_InvalidAutomaton) = some (.type "type")
  e_InvalidAutomaton : PySem.W.exmOne K (.ref c_InvalidAutomaton) (.ref c_InvalidAutomaton) = some true
  c_TooLarge : Addr
  mc_TooLarge : mg "TooLarge" = some (.ref c_TooLarge)
  x_TooLarge : PySem.W.excIn K c_TooLarge [.type "ValueError", .type "Exception", .type "BaseException", .type "object"] "ValueError.__new__" = true
  k_TooLarge : PySem.W.keepIn K (.ref c_TooLarge) = true
  b_TooLarge : PySem.W.subIn K (.ref c_TooLarge) (.type "BaseException") = some true
  t_TooLarge : PySem.W.typeIn K (.ref c_TooLarge) = some (.type "type")
  e_TooLarge : PySem.W.exmOne K (.ref c_TooLarge) (.ref c_TooLarge) = some true
  ii_Automaton : InsC K c_Automaton
  z_enumerate : mg "enumerate" = none
  z_int : mg "int" = none
  z_isinstance : mg "isinstance" = none
  z_len : mg "len" = none
  z_list : mg "list" = none
  z_range : mg "range" = none
  z_tuple : mg "tuple" = none
  t_MOST_ACTIONS : Tok
  v_MOST_ACTIONS : mg "MOST_ACTIONS" = some (.int 400 t_MOST_ACTIONS)
local macro_rules | `(tactic| trivial) => `(tactic| omega)
theorem pin_le {K : PySem.W.Frag} {lo hi x : Int} (h : lo ≤ x ∧ x < hi) : (D K (.int x)).le (PIn K lo hi) := MP.le_trans (PAn.in h) (PEx.in (R := fun x : Int => PAn (lo ≤ x ∧ x < hi) (D K (.int x))) x)
section
variable {P : Program} {wo : World} {K : PySem.W.Frag} {mg : Str → Option Value} {base : Heap}
/-! ### _law_take -/
theorem sc__law_take : FnScope ["draws", "limit"] ["draws", "limit"] (defScope s__law_take) := ⟨rfl, rfl, rfl, by decide +kernel, rfl, by decide +kernel, by decide +kernel⟩
def sp__law_take (T : Txt K mg) : Sp := fun vs H Q _ => ∃ (d : Addr) (n : Int), 0 < n ∧ Prom [Own d, D K (.int n)] [(d, MDr K)] (PIn K 0 n) [(d, MDr K)] vs H Q
theorem sp__law_take_len {T : Txt K mg} {vs H Q E} (h : sp__law_take T vs H Q E) : vs.length = 2 := by obtain ⟨d, n, _, h⟩ := h; exact h.len
set_option maxHeartbeats 4000000 in
theorem ok__law_take (T : Txt K mg) : FnOk P wo K mg base CX0 1 T.f__law_take T.d__law_take ["draws", "limit"] (sp__law_take T) := by
  have nd := (sc__law_take).nd
  refine T.F__law_take.ok sc__law_take (fun vs H Q E h => (sp__law_take_len h)) (fun cdv A outer s H vs Q E hr h => ?_)
  obtain ⟨d, n, hn, F, w, p, k⟩ := h
  refine ⟨_, (pss_cons (ps_if (pt_cmpR op_eq (pe_callB (c_len (K := K) rfl) (by rfl) T.z_len PySem.boot_len (pa_cons (pv 0) pa_nil)) pe_int (nomark _)) (pss_one (ps_ret pe_int)) pss_nil)
    (pss_one (ps_ret (pe_op op_mod (pe_callTy call_int1 (by rfl) T.z_int (by decide +kernel) (pa_cons (pe_bm0 PySem.F.plainAttrs_list PySem.F.slot_list_pop PySem.F.type_list_pop mt_pop (pv 0)) pa_nil)) (pv 1))))), ?_⟩
  refine go_start w p (Γ := [some (Own d), some (D K (.int n))]) rfl ?_
  refine nx_exM (j := 0) rfl fun ns => nx_anM (j := 0) rfl fun hl => ?_
  show Nx _ _ [(d, MInts K ns)] _
  have k2 : ∀ ns' : List Int, ns'.length ≤ 1000 → Rt ⟨F, H, keys [(d, MDr K)]⟩ [(d, MInts K ns')] (PIn K 0 n) Q := fun ns' h => Rt.to (j := 0) (O' := MDr K) k rfl (fun F o q => ⟨ns', h, q⟩) rfl
  refine (q_if (et_test (ev_op (ev_cb (ea_cons (ev_var rfl) ea_nil) (rc_lenO (j := 0) rfl)) (ev_int (K := K)) rv_eqI)) (fun _ => go_ret Le.refl (ev_int (K := K)) (Rt.weak (pin_le (by omega)) (k2 ns hl))) fun hz => go_next ?_)
  have hz : ns ≠ [] := by intro e; subst e; simp at hz
  have hlast : (ns.map fun n => D K (.int n))[(ns.map fun n => D K (.int n)).length - 1]? = some (D K (.int (ns.getLast hz))) := by rw [List.length_map, List.getElem?_map, ← List.getLast?_eq_getElem?, List.getLast?_eq_some_getLast hz]; rfl
  have hd : (ns.map fun n => D K (.int n)).dropLast = ns.dropLast.map fun n => D K (.int n) := by rw [List.map_dropLast]
  refine go_ret Le.refl (ev_op (ev_cb (ea_cons (ev_pop (j := 0) (ev_var rfl) rfl hlast) ea_nil) rc_int) (ev_var rfl) (rv_ic (by trivial))) (Rt.weak (pin_le ⟨Int.emod_nonneg _ (by omega), Int.emod_lt_of_pos _ hn⟩) ?_)
  rw [hd]
  exact k2 _ (by rw [List.length_dropLast]; omega)
theorem use__law_take {T : Txt K mg} {tr : TA} {Γ : Gm} {M M1 : Ms} {d : Addr} {n : Int} {j : Nat} {X : XK} (h : EvA tr Γ M [Own d, D K (.int n)] M1) (hn : 0 < n) (e : M1[j]? = some (d, MDr K)) : Ev (tCall (sp__law_take T) [] X tr) Γ M (PIn K 0 n) M1 :=
  call1 h e fun vs H Q z => ⟨d, n, hn, z⟩
/-! ### _law_draws -/
theorem sc__law_draws : FnScope ["script", "count", "cells", "found", "mixed", "k", "j", "cell", "again"] ["script", "count"] (defScope s__law_draws) := ⟨rfl, rfl, rfl, by decide +kernel, rfl, by decide +kernel, by decide +kernel⟩
def sp__law_draws (T : Txt K mg) : Sp := fun vs H Q _ => ∃ (ns : List Int) (c : Int), 0 ≤ c ∧ c ≤ 1000 ∧ ns.length ≤ 1000 ∧ PromN [PLi K (ns.map fun n => D K (.int n)), D K (.int c)] [] (MDr K) [] vs H Q
theorem sp__law_draws_len {T : Txt K mg} {vs H Q E} (h : sp__law_draws T vs H Q E) : vs.length = 2 := by obtain ⟨_, _, _, _, _, h⟩ := h; exact h.len
set_option maxHeartbeats 4000000 in
theorem ok__law_draws (T : Txt K mg) : FnOk P wo K mg base CX0 1 T.f__law_draws T.d__law_draws ["script", "count"] (sp__law_draws T) := by
  have nd := (sc__law_draws).nd
  refine T.F__law_draws.ok sc__law_draws (fun vs H Q E h => (sp__law_draws_len h)) (fun cdv A outer s H vs Q E hr h => ?_)
  obtain ⟨ns, cnt, c0, c1, nl, F, w, p, k⟩ := h
  refine ⟨_, (pss_cons (ps_set (i := 2) nd rfl (Or.inl rfl) (pe_callTy (c_list (K := K) rfl) (by rfl) T.z_list (by decide +kernel) (pa_cons (pv 0) pa_nil)))
    (Evl.pss_cut (ps_if (pt_cmpR op_eq (pe_callB (c_len (K := K) rfl) (by rfl) T.z_len PySem.boot_len (pa_cons (pv 2) pa_nil)) pe_int (nomark _)) (pss_one (ps_set (i := 2) nd rfl (Or.inl rfl) (pe_lst (pa_cons pe_int pa_nil)))) pss_nil)
    (pss_cons (ps_set (i := 3) nd rfl (Or.inl rfl) (pe_lst pa_nil))
    (pss_cons (ps_set (i := 4) nd rfl (Or.inl rfl) pe_int)
    (pss_cons (ps_for PassesOwn.never rfl (pi_range1 (by rfl) T.z_range (pa_cons (pv 1) pa_nil)) (pg_name (i := 5) nd rfl (by first | exact Or.inl rfl | exact Or.inr rfl))
     (pss_cons (ps_set (i := 6) nd rfl (Or.inl rfl) (pe_op op_mod (pv 5) (pe_callB (c_len (K := K) rfl) (by rfl) T.z_len PySem.boot_len (pa_cons (pv 2) pa_nil))))
     (pss_cons (ps_set (i := 7) nd rfl (Or.inl rfl) (pe_ix (c_ix (K := K) rfl) (pv 2) (pv 6) (fun _ _ => rfl)))
     (pss_cons (ps_set (i := 4) nd rfl (Or.inl rfl) (pe_op op_mod (pe_callTy call_int1 (by rfl) T.z_int (by decide +kernel) (pa_cons (pe_op op_add (pe_op op_add (pe_op op_add (pe_op op_mul (pv 4) pe_int) (pe_op op_mul (pe_op op_mod (pe_callTy call_int1 (by rfl) T.z_int (by decide +kernel) (pa_cons (pv 7) pa_nil)) pe_int) pe_int)) (pe_op op_mul (pv 5) pe_int)) pe_int) pa_nil)) pe_int))
     (pss_cons (ps_set (i := 8) nd rfl (Or.inl rfl) (pe_op op_mod (pe_callTy call_int1 (by rfl) T.z_int (by decide +kernel) (pa_cons (pe_op op_add (pe_op op_add (pe_op op_mul (pv 4) (pv 4)) (pe_op op_mul pe_int (pv 4))) (pv 5)) pa_nil)) pe_int))
     (pss_one (ps_if (pt_cmpR op_ge (pv 7) (pe_op op_pow pe_int pe_int) (nomark _)) (pss_cons (ps_expr (pe_bm PySem.F.plainAttrs_list PySem.F.slot_list_append PySem.F.type_list_append mt_append (pv 3) (pa_cons (pe_op op_mod (pe_callTy call_int1 (by rfl) T.z_int (by decide +kernel) (pa_cons (pv 7) pa_nil)) pe_int) pa_nil)))
      (pss_one (ps_asg (pe_op op_fdiv (pv 7) pe_int) (pg_sub (pv 2) (pv 6) set_list)))) (pss_one (ps_expr (pe_bm PySem.F.plainAttrs_list PySem.F.slot_list_append PySem.F.type_list_append mt_append (pv 3) (pa_cons (pe_op op_mod (pe_callTy call_int1 (by rfl) T.z_int (by decide +kernel) (pa_cons (pv 8) pa_nil)) pe_int) pa_nil)))))))))))
    (pss_cons (ps_expr (pe_bm0 PySem.F.plainAttrs_list PySem.F.slot_list_reverse PySem.F.type_list_reverse mt_reverse (pv 3)))
    (pss_one (ps_ret (pv 3))))))))), ?_⟩
  refine go_start w p (Γ := [some (PLi K (ns.map fun n => D K (.int n))), some (D K (.int cnt)), none, none, none, none, none, none, none]) rfl ?_
  refine (q_asgN (evn_cb (ea_cons (ev_var rfl) ea_nil) rcn_listL) fun c hc => ?_)
  show Nx _ _ [(c, MInts K ns)] _
  refine go_cut (fun Γ M => ∃ (c : Addr) (cs : List Int), Γ = [some (PLi K (ns.map fun n => D K (.int n))), some (D K (.int cnt)), some (Own c), none, none, none, none, none, none] ∧ M = [(c, MInts K cs)] ∧ cs ≠ [] ∧ cs.length ≤ 1000) ?_ ?rest
  · refine go_if (et_test (ev_op (ev_cb (ea_cons (ev_var rfl) ea_nil) (rc_lenO (j := 0) rfl)) (ev_int (K := K)) rv_eqI)) (fun _ => ?_) fun hz => go_next (JA.of ⟨c, ns, rfl, rfl, by intro e; subst e; simp at hz, nl⟩)
    refine go_asgN (evn_lst (ea_cons (ev_int (K := K)) ea_nil) (by simp)) fun c2 h2 => ?_
    exact nx_drop (List.Sublist.cons₂ _ (List.nil_sublist _)) (JA.of ⟨c2, [7], rfl, rfl, by decide, by decide⟩)
  case rest =>
    rintro _ _ ⟨c, cs, rfl, rfl, hne, hlen⟩
    have lpos : 0 < cs.length := List.length_pos_iff.mpr hne
    refine (q_asgN (evn_lst ea_nil (by decide)) fun f hf => ?_)
    show Nx _ _ [(f, MInts K []), (c, MInts K cs)] _
    refine (q_asg (ev_int (K := K)) ?_)
    refine (q_forR (ea_cons (ev_var rfl) ea_nil) (by omega) (by omega) (fun n Γ M => ∃ (zs fs : List Int) (m : Int) (g5 g6 g7 g8 : Option MP), Γ = [some (PLi K (ns.map fun n => D K (.int n))), some (D K (.int cnt)), some (Own c), some (Own f), some (D K (.int m)), g5, g6, g7, g8] ∧
      M = [(f, MInts K fs), (c, MInts K zs)] ∧ zs.length = cs.length ∧ fs.length = n ∧ 0 ≤ m ∧ m < 2147483647) ⟨cs, [], 12345, none, none, none, none, rfl, rfl, rfl, rfl, by decide, by decide⟩ ?_ ?_)
    · rintro n hn _ _ ⟨zs, fs, m, g5, g6, g7, g8, rfl, rfl, hz, hfl, m0, m1⟩
      show Nx _ [some (PLi K (ns.map fun n => D K (.int n))), some (D K (.int cnt)), some (Own c), some (Own f), some (D K (.int m)), some (D K (.int n)), g6, g7, g8] _ _
      have hL : ((zs.map fun n => D K (.int n)).length : Int) = (cs.length : Int) := by rw [List.length_map, hz]
      have hj0 : 0 ≤ (n : Int) % ((zs.map fun n => D K (.int n)).length : Int) := Int.emod_nonneg _ (by omega)
      have hj1 : (n : Int) % ((zs.map fun n => D K (.int n)).length : Int) < zs.length := by rw [hL, ← hz]; exact Int.emod_lt_of_pos _ (by omega)
      refine (q_asg (ev_op (ev_var rfl) (ev_cb (ea_cons (ev_var rfl) ea_nil) (rc_lenO (j := 1) rfl)) (rv_ic (show (0 : Int) < _ by omega))) ?_)
      generalize (n : Int) % ((zs.map fun n => D K (.int n)).length : Int) = jj at hj0 hj1
      obtain ⟨jn, rfl⟩ := Int.eq_ofNat_of_zero_le hj0
      have hjn : jn < zs.length := by omega
      refine (q_asg (ev_op (ev_var rfl) (ev_var rfl) (rv_ixO (j := 1) rfl (by omega) (show (zs.map fun n => D K (.int n))[((jn : Int)).toNat]? = some (D K (.int zs[jn])) by rw [Int.toNat_natCast, List.getElem?_map, List.getElem?_eq_getElem hjn]; rfl))) ?_)
      refine (q_asg (ev_op (ev_cb (ea_cons (ev_op (ev_op (ev_op (ev_op (ev_var rfl) (ev_int (K := K)) (rv_ic (.inr ⟨by decide, by decide⟩))) (ev_op (ev_op (ev_cb (ea_cons (ev_var rfl) ea_nil) rc_int) (ev_int (K := K)) (rv_ic (by trivial))) (ev_int (K := K)) (rv_ic (.inr ⟨by decide, by decide⟩))) rv_i0) (ev_op (ev_var rfl) (ev_int (K := K)) (rv_ic (.inr ⟨by decide, by decide⟩))) rv_i0) (ev_int (K := K)) rv_i0) ea_nil) rc_int) (ev_int (K := K)) (rv_ic (by trivial))) ?_)
      refine (q_asg (ev_op (ev_cb (ea_cons (ev_op (ev_op (ev_op (ev_var rfl) (ev_var rfl) (rv_ic (.inl ⟨?_, ?_⟩))) (ev_op (ev_int (K := K)) (ev_var rfl) (rv_ic (.inl ⟨by decide, by decide⟩))) rv_i0) (ev_var rfl) rv_i0) ea_nil) rc_int) (ev_int (K := K)) (rv_ic (by trivial))) ?_)
      · have := Int.emod_nonneg (m * 48271 + zs[jn] % 1000003 * 69621 + (n : Int) * 7919 + 11) (by decide : (2147483647 : Int) ≠ 0)
        exact Int.lt_of_lt_of_le (by decide) this
      · have := Int.emod_lt_of_pos (m * 48271 + zs[jn] % 1000003 * 69621 + (n : Int) * 7919 + 11) (by decide : (0 : Int) < 2147483647)
        exact Int.lt_trans this (by decide)
      have fin : ∀ (zs' fs' : List Int) (m' : Int) (g5 g6 g7 g8 : Option MP) (Γ : Gm) (M : Ms), Γ = [some (PLi K (ns.map fun n => D K (.int n))), some (D K (.int cnt)), some (Own c), some (Own f), some (D K (.int m')), g5, g6, g7, g8] → M = [(f, MInts K fs'), (c, MInts K zs')] → zs'.length = cs.length → fs'.length = n + 1 → 0 ≤ m' → m' < 2147483647 → Nx ⟨F, H, keys []⟩ Γ M (JA ⟨F, H, keys []⟩ fun Γ M => ∃ (zs fs : List Int) (m : Int) (g5 g6 g7 g8 : Option MP), Γ = [some (PLi K (ns.map fun n => D K (.int n))), some (D K (.int cnt)), some (Own c), some (Own f), some (D K (.int m)), g5, g6, g7, g8] ∧
        M = [(f, MInts K fs), (c, MInts K zs)] ∧ zs.length = cs.length ∧ fs.length = n + 1 ∧ 0 ≤ m ∧ m < 2147483647) := fun zs' fs' m' g5 g6 g7 g8 Γ M e1 e2 e3 e4 e5 e6 => JA.of ⟨zs', fs', m', g5, g6, g7, g8, e1, e2, e3, e4, e5, e6⟩
      have mm0 := Int.emod_nonneg (m * 48271 + zs[jn] % 1000003 * 69621 + (n : Int) * 7919 + 11) (by decide : (2147483647 : Int) ≠ 0)
      have mm1 := Int.emod_lt_of_pos (m * 48271 + zs[jn] % 1000003 * 69621 + (n : Int) * 7919 + 11) (by decide : (0 : Int) < 2147483647)
      refine go_if (et_test (ev_op (ev_var rfl) (ev_op (ev_int (K := K)) (ev_int (K := K)) (rv_ic ⟨by decide, by decide, by decide⟩)) rv_b0)) (fun _ => ?_) fun _ => ?_
      · refine (q_app (j := 0) (ev_var rfl) (ev_op (ev_cb (ea_cons (ev_var rfl) ea_nil) rc_int) (ev_int (K := K)) (rv_ic (by trivial))) rfl rfl (by rw [List.length_map]; omega) ?_)
        refine go_setL (j := 1) (ev_op (ev_var rfl) (ev_int (K := K)) (rv_ic ⟨by decide, by decide⟩)) (ev_var rfl) (ev_var rfl) rfl (by omega) (by rw [List.length_map]; omega) ?_
        exact fin (zs.set jn (zs[jn] / 1000)) (fs ++ [zs[jn] % 1000]) _ _ _ _ _ _ _ rfl (by simp [MInts, List.map_set]) (by rw [List.length_set]; exact hz) (by rw [List.length_append, hfl]; rfl) mm0 mm1
      · refine go_app (j := 0) (ev_var rfl) (ev_op (ev_cb (ea_cons (ev_var rfl) ea_nil) rc_int) (ev_int (K := K)) (rv_ic (by trivial))) rfl rfl (by rw [List.length_map]; omega) ?_
        exact fin zs (fs ++ [_]) _ _ _ _ _ _ _ rfl (by simp [MInts]; rfl) hz (by rw [List.length_append, hfl]; rfl) mm0 mm1
    · rintro _ _ ⟨zs, fs, m, g5, g6, g7, g8, rfl, rfl, hz, hfl, m0, m1⟩
      refine (q_rev (j := 0) (ev_var rfl) rfl ?_)
      refine nx_drop (List.Sublist.cons₂ _ (List.nil_sublist _)) ?_
      refine go_retO Le.refl (ev_var rfl) hf rfl (RtN.to k fun F o h => ⟨fs.reverse, by rw [List.length_reverse]; omega, ?_⟩)
      rw [← List.map_reverse] at h
      exact h
theorem use__law_draws {T : Txt K mg} {tr : TA} {Γ : Gm} {M M1 : Ms} {ns : List Int} {c : Int} {X : XK} (h : EvA tr Γ M [PLi K (ns.map fun n => D K (.int n)), D K (.int c)] M1) (h0 : 0 ≤ c) (h1 : c ≤ 1000) (h2 : ns.length ≤ 1000) : EvN (tCall (sp__law_draws T) [] X tr) Γ M (MDr K) M1 :=
  calln0 h fun vs H Q z => ⟨ns, c, h0, h1, h2, z⟩
/-! ### _law_word -/
theorem sc__law_word : FnScope ["draws", "letters", "most", "k"] ["draws", "letters", "most"] (defScope s__law_word) := ⟨rfl, rfl, rfl, by decide +kernel, rfl, by decide +kernel, by decide +kernel⟩
abbrev PWd (K : PySem.W.Frag) (n m : Int) : MP := PEx fun w : List Int => PAn ((w.length : Int) ≤ m ∧ ∀ x ∈ w, 0 ≤ x ∧ x < n) (D K (dT w))
def sp__law_word (T : Txt K mg) : Sp := fun vs H Q _ => ∃ (d : Addr) (n m : Int), (0 < n ∧ 0 ≤ m ∧ m ≤ 1000) ∧ Prom [Own d, D K (.int n), D K (.int m)] [(d, MDr K)] (PWd K n m) [(d, MDr K)] vs H Q
theorem sp__law_word_len {T : Txt K mg} {vs H Q E} (h : sp__law_word T vs H Q E) : vs.length = 3 := by obtain ⟨_, _, _, _, h⟩ := h; exact h.len
set_option maxHeartbeats 4000000 in
theorem ok__law_word (T : Txt K mg) : FnOk P wo K mg base CX0 2 T.f__law_word T.d__law_word ["draws", "letters", "most"] (sp__law_word T) := by
  have nd := (sc__law_word).nd
  refine T.F__law_word.ok sc__law_word (fun vs H Q E h => (sp__law_word_len h)) (fun cdv A outer s H vs Q E hr h => ?_)
  obtain ⟨d, n, m, ⟨n0, m0, m6⟩, F, w, ps, k⟩ := h
  refine ⟨_, (pss_one (ps_ret (pe_callTy (c_tuple (K := K) rfl) (by rfl) T.z_tuple (by decide +kernel) (pa_cons (pe_lc (own := [("k", 3)]) (by rfl) nd (pi_range1 (by rfl) T.z_range (pa_cons (pe_call (ok__law_take T) (hr.mono (by decide)) rfl T.m__law_take T.F__law_take.kp T.b__law_take .nil pass0 (pa_cons (pv 0) (pa_cons (pe_op op_add (pv 2) pe_int) pa_nil))) pa_nil)) (blkOk_by (N := ["draws", "letters", "most", "k"]) (sc := defScope s__law_word) (own := [("k", 3)]) (by decide +kernel)) (fun _ _ _ _ _ => pg_name (i := 3) nd rfl (by first | exact Or.inl rfl | exact Or.inr rfl)) (fun _ _ _ _ _ => pts_nil) (fun _ _ _ _ _ => (pe_call (ok__law_take T) (hr.mono (by decide)) rfl T.m__law_take T.F__law_take.kp T.b__law_take .nil pass0 (pa_cons (pv 0) (pa_cons (pv 1) pa_nil))))) pa_nil)))), ?_⟩
  refine go_start w ps (Γ := [some (Own d), some (D K (.int n)), some (D K (.int m)), none]) rfl ?_
  have inn : EvN _ [some (Own d), some (D K (.int n)), some (D K (.int m)), none] [(d, MDr K)] (MX fun xs : List Int => MA (((xs.length : Int) ≤ m) ∧ ∀ x ∈ xs, 0 ≤ x ∧ x < n) (MInts K xs)) [(d, MDr K)] := evn_lcRX (K := K) (φ := fun z => 0 ≤ z ∧ z < m + 1) (use__law_take (T := T) (X := E0) (j := 0) (ea_cons (ev_var (i := 0) rfl) (ea_cons (ev_op (ev_var (i := 2) rfl) (ev_int (K := K)) rv_i0) ea_nil)) (by omega) rfl) fun z hz => by
    have lc := evn_lcR (K := K) (z := z) (i := 3) (G := fun _ => PIn K 0 n) (M := [(d, MDr K)]) (M1 := [(d, MDr K)]) (Γ := [some (Own d), some (D K (.int n)), some (D K (.int m)), none]) (fun _ => true) (ea_cons (ev_int (K := K)) ea_nil) (by omega) (fun _ _ => et_yes)
      (fun _ _ _ => use__law_take (T := T) (X := E0) (ea_cons (ev_var (i := 0) rfl) (ea_cons (ev_var (i := 1) rfl) ea_nil)) n0 (j := 0) rfl)
    rw [filter_true, map_const, List.length_range] at lc
    exact (lc.weak ml_name).weak fun F o ⟨xs, h, q⟩ => ⟨xs, ⟨by omega, h.2⟩, q⟩
  refine go_ret Le.refl (ev_tupOf inn) k
theorem use__law_word {T : Txt K mg} {tr : TA} {Γ : Gm} {M M1 : Ms} {d : Addr} {p m : Int} {j : Nat} {X : XK} (h : EvA tr Γ M [Own d, D K (.int p), D K (.int m)] M1) (hn : 0 < p ∧ 0 ≤ m ∧ m ≤ 1000) (e : M1[j]? = some (d, MDr K)) : Ev (tCall (sp__law_word T) [] X tr) Γ M (PWd K p m) M1 :=
  call1 h e fun vs H Q z => ⟨d, p, m, hn, z⟩
/-! ### _check_states -/
theorem sc__check_states : FnScope ["many", "states", "state"] ["many", "states"] (defScope s__check_states) := ⟨rfl, rfl, rfl, by decide +kernel, rfl, by decide +kernel, by decide +kernel⟩
def StOk (k : Int) (l : List Int) : Prop := ∀ x ∈ l, 0 ≤ x ∧ x < k
def sp__check_states (T : Txt K mg) : Sp := fun vs H Q X => ∃ (k : Int) (l : List Int), ∃ F, Wd F [] H ∧ Ps F vs [D K (.int k), D K (dL l)] ∧ (StOk k l → Rt ⟨F, H, keys []⟩ [] (D K .none) Q) ∧ (¬ StOk k l → RtE ⟨F, H, keys []⟩ [] T.c_InvalidAutomaton X)
theorem sp__check_states_len {T : Txt K mg} {vs H Q E} (h : sp__check_states T vs H Q E) : vs.length = 2 := by obtain ⟨_, _, F, _, p, _⟩ := h; exact paired_len p
theorem qs_callB {E : Ent} {M M1 : Ms} {Γ : Gm} {P : MP} {Cx : Addr} {tr : TA} {D1 : Ends} {tz : TS} {ps : List MP} {X : XK} {sp : Sp} {ok : Bool} (h : EvA tr Γ M ps M1) (hs : ∀ vs H Q X, (∃ F, Wd F [] H ∧ Ps F vs ps ∧ (ok = true → Rt ⟨F, H, keys []⟩ [] P Q) ∧ (ok = false → RtE ⟨F, H, keys []⟩ [] Cx X)) → sp vs H Q X)
    (k1 : ok = true → Nx E Γ M1 (tz D1)) (k2 : ok = false → RtE E M1 Cx X) : Nx E Γ M (tSeq (tDrop (tCall sp [] X tr)) tz D1) := q_callB (D1 := { D1 with nx := tz D1 }) h hs k1 k2
set_option maxHeartbeats 4000000 in
theorem ok__check_states (T : Txt K mg) : FnOk P wo K mg base (L2.CX P wo) 1 T.f__check_states T.d__check_states ["many", "states"] (sp__check_states T) := by
  have nd := (sc__check_states).nd
  refine T.F__check_states.okX sc__check_states (fun vs H Q E h => (sp__check_states_len h)) (fun cdv A outer s H vs Q E hr h => ?_)
  obtain ⟨n, l, F, w, p, k, kx⟩ := h
  refine ⟨_, (pss_one (ps_for (passes_of rfl) rfl (pi_listK (K := K) rfl (pv 1)) (pg_name (i := 2) nd rfl (by first | exact Or.inl rfl | exact Or.inr rfl))
     (pss_one (ps_if (pt_not (pt_chain op_le op_lt pe_int (pv 2) (pv 0))) (pss_one (ps_raise rfl (takes_of rfl rfl rfl rfl) (pmk_own PySem.F.excBase_ValueError T.x_InvalidAutomaton T.mc_InvalidAutomaton T.k_InvalidAutomaton (raises_own T.b_InvalidAutomaton T.t_InvalidAutomaton) (by exact rfl)))) pss_nil)))), ?_⟩
  refine go_start w p (Γ := [some (D K (.int n)), some (D K (dL l)), none]) rfl ?_
  refine (go_forL ((ev_var (i := 1) rfl).weak le_dL) (fun i Γ M => ∃ g2 : Option MP, Γ = [some (D K (.int n)), some (D K (dL l)), g2] ∧ M = [] ∧ ∀ x ∈ l.take i, 0 ≤ x ∧ x < n) ⟨none, rfl, rfl, fun x hx => by simp at hx⟩ ?_ ?_)
  · rintro E' hE i P hP _ _ ⟨g2, rfl, rfl, hp⟩
    rw [List.getElem?_map] at hP
    obtain ⟨x, hx, rfl⟩ := Option.map_eq_some_iff.mp hP
    refine go_if (et_not (et_test (ev_chain (ev_int (K := K)) (ev_var rfl) rv_b0 (fun _ => (ev_var rfl)) rv_b0))) (fun hz => go_raise (RtE.le hE (kx fun L => ?_))) fun hz => go_next (JA.of ⟨_, rfl, rfl, fun y hy => ?_⟩)
    · have := L x (List.mem_of_getElem? hx)
      simp at hz
      omega
    · rw [List.take_add_one, hx] at hy
      rcases List.mem_append.mp hy with hy | hy
      · exact hp y hy
      · have : y = x := by simpa using hy
        subst this
        simp at hz
        omega
  · rintro _ _ ⟨g2, rfl, rfl, hp⟩
    rw [List.length_map, List.take_length] at hp
    exact fun σ H' ⟨F', a, b⟩ => k hp .non F' H' a .non
/-! ### Automaton.__init__ -/
theorem sc_Automaton_init : FnScope ["self", "letters", "start", "finals", "rows", "index", "row"] ["self", "letters", "start", "finals", "rows"] (defScope s_Automaton_init) := ⟨rfl, rfl, rfl, by decide +kernel, rfl, by decide +kernel, by decide +kernel⟩
abbrev dLL (R : List (List Int)) : PyData := .list (R.map dL)
abbrev auF (K : PySem.W.Frag) (A : Au) : List (Str × MP) := [("rows", D K (dTT A.R)), ("finals", D K (dT A.F)), ("start", D K (.int A.s)), ("letters", D K (.int (A.L : Int)))]
/-- an automaton that stands -/
abbrev PAu (T : Txt K mg) (A : Au) : MP := PIns T.c_Automaton (auF K A)
abbrev auOf (n s : Int) (F : List Int) (R : List (List Int)) : Au := ⟨n.toNat, s, F, R⟩
def sp_Automaton_init (T : Txt K mg) : Sp := fun vs H Q X => ∃ (x : Addr) (n s : Int) (Fs : List Int) (R : List (List Int)), (Fs.length ≤ 1000 ∧ R.length ≤ 1000 ∧ ∀ r ∈ R, r.length ≤ 1000) ∧ ∃ F, Wd F [(x, MIns T.c_Automaton 0 [])] H ∧ Ps F vs [Own x, D K (.int n), D K (.int s), D K (dL Fs), D K (dLL R)] ∧
  ((auOf n s Fs R).Ok → Rt ⟨F, H, keys [(x, MIns T.c_Automaton 0 [])]⟩ [(x, MIns T.c_Automaton 4 (auF K (auOf n s Fs R)))] (D K .none) Q) ∧
  (¬ (auOf n s Fs R).Ok → RtE ⟨F, H, keys [(x, MIns T.c_Automaton 0 [])]⟩ [(x, MAny)] T.c_InvalidAutomaton X)
theorem sp_Automaton_init_len {T : Txt K mg} {vs H Q E} (h : sp_Automaton_init T vs H Q E) : vs.length = 5 := by obtain ⟨_, _, _, _, _, _, F, _, p, _⟩ := h; exact paired_len p
theorem pw_adj {l : List Int} (h : ∀ j, ∀ h : j + 1 < l.length, l[j] < l[j + 1]) : l.Pairwise (· < ·) := by
  have key : ∀ (d i : Nat) (h : i + d + 1 < l.length), l[i] < l[i + d + 1] := by
    intro d
    induction d with
    | zero => intro i hi; exact h i hi
    | succ d ih =>
      intro i hi
      exact Int.lt_trans (ih i (by omega)) (h (i + d + 1) (by omega))
  rw [List.pairwise_iff_getElem]
  intro i j hi hj hij
  have := key (j - i - 1) i (by omega)
  have e : i + (j - i - 1) + 1 = j := by omega
  simp only [e] at this
  exact this
/-- behind a word -/
def runA (A : Au) (q : Int) (w : List Int) : Int := w.foldl (fun q a => nxA A q a.toNat) q
def LetOk (A : Au) (w : List Int) : Prop := ∀ a ∈ w, 0 ≤ a ∧ a < (A.L : Int)
theorem nxA_in {A : Au} (O : A.Ok) {q : Int} (h : A.In q) {a : Nat} (ha : a < A.L) : A.In (nxA A q a) := by
  obtain ⟨l, m⟩ := O.R _ (Au.row_mem h)
  unfold nxA
  rw [List.getD_eq_getElem?_getD, List.getElem?_eq_getElem (by omega)]
  exact m _ (List.getElem_mem _)
theorem runA_snoc {A : Au} {q a : Int} {w : List Int} : runA A q (w ++ [a]) = nxA A (runA A q w) a.toNat := by
  unfold runA
  rw [List.foldl_append]; rfl
theorem runA_in {A : Au} (O : A.Ok) : ∀ {w : List Int} {q : Int}, A.In q → LetOk A w → A.In (runA A q w)
  | [], _, h, _ => h
  | a :: w, q, h, hw => by
    have := hw a List.mem_cons_self
    show A.In (runA A (nxA A q a.toNat) w)
    exact runA_in O (nxA_in O h (by omega)) fun b hb => hw b (List.mem_cons_of_mem _ hb)
theorem row_ix {A : Au} {q : Int} (h : A.In q) : (A.R.map dT)[q.toNat]? = some (dT (A.row q)) := by
  rw [List.getElem?_map, Au.row_at h]; rfl
theorem nx_ix {A : Au} (O : A.Ok) {q : Int} (h : A.In q) {a : Nat} (ha : a < A.L) : ((A.row q).map PyData.int)[a]? = some (.int (nxA A q a)) := by
  have l := (O.R _ (Au.row_mem h)).1
  unfold nxA
  rw [List.getElem?_map, List.getElem?_eq_getElem (by omega), List.getD_eq_getElem?_getD, List.getElem?_eq_getElem (by omega)]; rfl
theorem ev_row {T : Txt K mg} {Γ : Gm} {M : Ms} {A : Au} {ta tq : TE} {q : Int} (ha : Ev ta Γ M (PAu T A) M) (hq : Ev tq Γ M (D K (.int q)) M) (h : A.In q) : Ev (tOp (rIx K) (tFld K ta "rows") tq) Γ M (D K (dT (A.row q))) M :=
  ev_op (ev_fld (P := D K (dTT A.R)) (fps := auF K A) ha (by simp) T.cl_Automaton T.na_Automaton_rows) hq (rv_ixDT h.1 (row_ix h))
set_option maxHeartbeats 4000000 in
theorem ok_Automaton_init (T : Txt K mg) : FnOk P wo K mg base (L2.CX P wo) 2 T.f_Automaton_init T.d_Automaton_init ["self", "letters", "start", "finals", "rows"] (sp_Automaton_init T) := by
  have nd := (sc_Automaton_init).nd
  refine T.F_Automaton_init.okX sc_Automaton_init (fun vs H Q E h => (sp_Automaton_init_len h)) (fun cdv A outer s H vs Q E hr h => ?_)
  obtain ⟨x, n, s, Fs, R, ⟨hF, hR, hrr⟩, F, w, p, k, kx⟩ := h
  refine ⟨_, (pss_cons (ps_if (pt_cmpR op_lt (pv 1) pe_int (nomark _)) (pss_one (ps_raise rfl (takes_of rfl rfl rfl rfl) (pmk_own PySem.F.excBase_ValueError T.x_InvalidAutomaton T.mc_InvalidAutomaton T.k_InvalidAutomaton (raises_own T.b_InvalidAutomaton T.t_InvalidAutomaton) (by exact rfl)))) pss_nil)
    (pss_cons (ps_if (pt_cmpR op_eq (pe_callB (c_len (K := K) rfl) (by rfl) T.z_len PySem.boot_len (pa_cons (pv 4) pa_nil)) pe_int (nomark _)) (pss_one (ps_raise rfl (takes_of rfl rfl rfl rfl) (pmk_own PySem.F.excBase_ValueError T.x_InvalidAutomaton T.mc_InvalidAutomaton T.k_InvalidAutomaton (raises_own T.b_InvalidAutomaton T.t_InvalidAutomaton) (by exact rfl)))) pss_nil)
    (pss_cons (ps_expr (pe_call (ok__check_states T) (hr.mono (by decide)) rfl T.m__check_states T.F__check_states.kp T.b__check_states .nil (passes_call (E := E) (takes_of rfl rfl rfl rfl) fun _ _ _ _ h => h) (pa_cons (pe_callB (c_len (K := K) rfl) (by rfl) T.z_len PySem.boot_len (pa_cons (pv 4) pa_nil)) (pa_cons (pe_lst (pa_cons (pv 2) pa_nil)) pa_nil))))
    (pss_cons (ps_expr (pe_call (ok__check_states T) (hr.mono (by decide)) rfl T.m__check_states T.F__check_states.kp T.b__check_states .nil (passes_call (E := E) (takes_of rfl rfl rfl rfl) fun _ _ _ _ h => h) (pa_cons (pe_callB (c_len (K := K) rfl) (by rfl) T.z_len PySem.boot_len (pa_cons (pv 4) pa_nil)) (pa_cons (pv 3) pa_nil))))
    (pss_cons (ps_for (passes_of rfl) rfl (pi_range2 (by rfl) T.z_range (pa_cons pe_int (pa_cons (pe_callB (c_len (K := K) rfl) (by rfl) T.z_len PySem.boot_len (pa_cons (pv 3) pa_nil)) pa_nil))) (pg_name (i := 5) nd rfl (by first | exact Or.inl rfl | exact Or.inr rfl))
     (pss_one (ps_if (pt_cmpR op_ge (pe_ix (c_ix (K := K) rfl) (pv 3) (pe_op op_sub (pv 5) pe_int) (fun _ _ => rfl)) (pe_ix (c_ix (K := K) rfl) (pv 3) (pv 5) (fun _ _ => rfl)) (nomark _)) (pss_one (ps_raise rfl (takes_of rfl rfl rfl rfl) (pmk_own PySem.F.excBase_ValueError T.x_InvalidAutomaton T.mc_InvalidAutomaton T.k_InvalidAutomaton (raises_own T.b_InvalidAutomaton T.t_InvalidAutomaton) (by exact rfl)))) pss_nil)))
    (pss_cons (ps_for (passes_of rfl) rfl (pi_listK (K := K) rfl (pv 4)) (pg_name (i := 6) nd rfl (by first | exact Or.inl rfl | exact Or.inr rfl))
     (pss_cons (ps_if (pt_cmpR op_ne (pe_callB (c_len (K := K) rfl) (by rfl) T.z_len PySem.boot_len (pa_cons (pv 6) pa_nil)) (pv 1) (nomark _)) (pss_one (ps_raise rfl (takes_of rfl rfl rfl rfl) (pmk_own PySem.F.excBase_ValueError T.x_InvalidAutomaton T.mc_InvalidAutomaton T.k_InvalidAutomaton (raises_own T.b_InvalidAutomaton T.t_InvalidAutomaton) (by exact rfl)))) pss_nil)
     (pss_one (ps_expr (pe_call (ok__check_states T) (hr.mono (by decide)) rfl T.m__check_states T.F__check_states.kp T.b__check_states .nil (passes_call (E := E) (takes_of rfl rfl rfl rfl) fun _ _ _ _ h => h) (pa_cons (pe_callB (c_len (K := K) rfl) (by rfl) T.z_len PySem.boot_len (pa_cons (pv 4) pa_nil)) (pa_cons (pv 6) pa_nil)))))))
    (pss_cons (ps_fld (pv 0) (pv 1) rfl)
    (pss_cons (ps_fld (pv 0) (pv 2) rfl)
    (pss_cons (ps_fld (pv 0) (pe_callTy (c_tuple (K := K) rfl) (by rfl) T.z_tuple (by decide +kernel) (pa_cons (pv 3) pa_nil)) rfl)
    (pss_one (ps_fld (pv 0) (pe_callTy (c_tuple (K := K) rfl) (by rfl) T.z_tuple (by decide +kernel) (pa_cons (pe_lc (own := [("row", 6)]) (by rfl) nd (pi_listK (K := K) rfl (pv 4)) (blkOk_by (N := ["self", "letters", "start", "finals", "rows", "index", "row"]) (sc := defScope s_Automaton_init) (own := [("row", 6)]) (by decide +kernel)) (fun _ _ _ _ _ => pg_name (i := 6) nd rfl (by first | exact Or.inl rfl | exact Or.inr rfl)) (fun _ _ _ _ _ => pts_nil) (fun _ _ _ _ _ => (pe_callTy (c_tuple (K := K) rfl) (by rfl) T.z_tuple (by decide +kernel) (pa_cons (pv 6) pa_nil)))) pa_nil)) rfl))))))))))), ?_⟩
  refine go_start w p (Γ := [some (Own x), some (D K (.int n)), some (D K (.int s)), some (D K (dL Fs)), some (D K (dLL R)), none, none]) rfl ?_
  show Nx _ _ [(x, MIns T.c_Automaton 0 [])] _
  have elr : ∀ {Γ : Gm} {M : Ms}, Γ[4]? = some (some (D K (dLL R))) → Ev (tCB (rLn K) (tCons (tVar 4) tNil)) Γ M (D K (.int R.length)) M := fun e => ev_lenM (f := dL) (ev_var e)
  refine (q_if (et_test (ev_op (ev_var (i := 1) rfl) (ev_int (i := 1)) rv_b0)) (fun hz => ?_) fun hz => go_next ?_)
  · refine go_raise (kx fun A => ?_).any0
    have := A.L1
    have : 1 ≤ n.toNat := this
    simp at hz
    omega
  have hn : 1 ≤ n := by simp at hz; omega
  dsimp only
  refine (q_if (et_test (ev_op (elr rfl) (ev_int (i := 0)) rv_eqI)) (fun hz => ?_) fun hz => go_next ?_)
  · refine go_raise (kx fun A => ?_).any0
    obtain ⟨h1, h2⟩ := A.s
    have h2 : s < (R.length : Int) := h2
    have h1 : 0 ≤ s := h1
    simp at hz
    rw [hz] at h2
    simp at h2
    omega
  dsimp only
  letI : ∀ k l, Decidable (StOk k l) := fun _ _ => Classical.propDecidable _
  refine qs_callB (ok := decide (StOk R.length [s])) (Cx := T.c_InvalidAutomaton) (ps := [D K (.int R.length), D K (dL [s])]) (P := D K .none) (ea_cons (elr rfl) (ea_cons ((ev_newL (K := K) (evn_lst (ps := [D K (.int s)]) (ea_cons (ev_var (i := 2) rfl) ea_nil) (by simp))).weak (dL_le (l := [s]))) ea_nil)) (fun vs H Q X ⟨F, w, p, r1, r2⟩ => ⟨R.length, [s], F, w, p, fun h => r1 (decide_eq_true h), fun h => r2 (decide_eq_false h)⟩) (fun ok => ?_) fun no => ?_
  case refine_2 => exact (kx fun A => of_decide_eq_false no fun x hx => by rw [List.mem_singleton.mp hx]; exact A.s).any0
  have ok1 : 0 ≤ s ∧ s < (R.length : Int) := of_decide_eq_true ok s (by simp)
  refine qs_callB (ok := decide (StOk R.length Fs)) (Cx := T.c_InvalidAutomaton) (ps := [D K (.int R.length), D K (dL Fs)]) (P := D K .none) (ea_cons (elr rfl) (ea_cons (ev_var (i := 3) rfl) ea_nil)) (fun vs H Q X ⟨F, w, p, r1, r2⟩ => ⟨R.length, Fs, F, w, p, fun h => r1 (decide_eq_true h), fun h => r2 (decide_eq_false h)⟩) (fun ok => ?_) fun no => ?_
  case refine_2 => exact (kx fun A => of_decide_eq_false no fun x hx => A.F x hx).any0
  have ok2 : StOk R.length Fs := of_decide_eq_true ok
  refine (q_forR2 (lo := 1) (z := (Fs.length : Int)) (ea_cons (ev_int (i := 1)) (ea_cons (ev_lenM (f := PyData.int) (ev_var (i := 3) rfl)) ea_nil)) (by omega) (fun i Γ M => ∃ g5 : Option MP, Γ = [some (Own x), some (D K (.int n)), some (D K (.int s)), some (D K (dL Fs)), some (D K (dLL R)), g5, none] ∧ M = [(x, MIns T.c_Automaton 0 [])] ∧ ∀ j, j < i → ∀ h : j + 1 < Fs.length, Fs[j] < Fs[j + 1]) ⟨none, rfl, rfl, fun j hj => absurd hj (Nat.not_lt_zero _)⟩ ?_ ?_)
  · rintro i hi _ _ ⟨g5, rfl, rfl, hq⟩
    have a1 : i + 1 < Fs.length := by omega
    have e1 : (Fs.map PyData.int)[((1 + (i : Int)) - 1).toNat]? = some (.int Fs[i]) := by
      rw [show ((1 + (i : Int)) - 1).toNat = i by omega, List.getElem?_map, List.getElem?_eq_getElem (by omega)]; rfl
    have e2 : (Fs.map PyData.int)[(1 + (i : Int)).toNat]? = some (.int Fs[i + 1]) := by
      rw [show (1 + (i : Int)).toNat = i + 1 by omega, List.getElem?_map, List.getElem?_eq_getElem a1]; rfl
    refine go_if (et_test (ev_op (ev_op (ev_var (i := 3) rfl) (ev_op (ev_var (i := 5) rfl) (ev_int (i := 1)) rv_i0) (rv_ixDL (by omega) e1)) (ev_op (ev_var (i := 3) rfl) (ev_var (i := 5) rfl) (rv_ixDL (by omega) e2)) rv_b0)) (fun hz => go_raise (kx fun A => ?_).any0) fun hz => go_next (JA.of ⟨_, rfl, rfl, fun j hj h => ?_⟩)
    · have lt : Fs[i] < Fs[i + 1] := List.pairwise_iff_getElem.mp A.up i (i + 1) (by show i < Fs.length; omega) a1 (by omega)
      simp at hz
      omega
    · rcases Nat.lt_succ_iff_lt_or_eq.mp hj with hj | rfl
      · exact hq j hj h
      · simp at hz
        omega
  rintro _ _ ⟨g5, rfl, rfl, hq⟩
  have ok3 : Fs.Pairwise (· < ·) := pw_adj fun j h => hq j (by omega) h
  refine (q_forL ((ev_var (i := 4) rfl).weak (le_Lm (f := dL))) (fun i Γ M => ∃ g6 : Option MP, Γ = [some (Own x), some (D K (.int n)), some (D K (.int s)), some (D K (dL Fs)), some (D K (dLL R)), g5, g6] ∧ M = [(x, MIns T.c_Automaton 0 [])] ∧ ∀ r ∈ R.take i, (r.length : Int) = n ∧ StOk R.length r) ⟨none, rfl, rfl, fun l hl => by simp at hl⟩ ?_ ?_)
  · rintro E' hE i P hP _ _ ⟨g6, rfl, rfl, hp⟩
    rw [List.getElem?_map] at hP
    obtain ⟨r, hx, rfl⟩ := Option.map_eq_some_iff.mp hP
    have hm := List.mem_of_getElem? hx
    dsimp only [List.set]
    refine (q_if (et_test (ev_op (ev_lenM (f := PyData.int) (ev_var (i := 6) rfl)) (ev_var (i := 1) rfl) rv_neI)) (fun hz => ?_) fun hz => go_next ?_)
    · refine go_raise (RtE.le hE (kx fun A => ?_).any0)
      have := (A.R r hm).1
      have : r.length = n.toNat := this
      simp at hz
      omega
    have hl : (r.length : Int) = n := by simpa using hz
    dsimp only
    refine q_callB (ok := decide (StOk R.length r)) (Cx := T.c_InvalidAutomaton) (ps := [D K (.int R.length), D K (dL r)]) (P := D K .none) (ea_cons (elr rfl) (ea_cons (ev_var (i := 6) rfl) ea_nil)) (fun vs H Q X ⟨F, w, p, r1, r2⟩ => ⟨R.length, r, F, w, p, fun h => r1 (decide_eq_true h), fun h => r2 (decide_eq_false h)⟩) (fun ok => ?_) fun no => ?_
    · have ok := of_decide_eq_true ok
      refine JA.of ⟨_, rfl, rfl, fun y hy => ?_⟩
      rw [List.take_add_one, hx] at hy
      rcases List.mem_append.mp hy with hy | hy
      · exact hp y hy
      · have : y = r := by simpa using hy
        rw [this]; exact ⟨hl, ok⟩
    · have no := of_decide_eq_false no
      exact RtE.le hE (kx fun A => no fun x hx => (A.R r hm).2 x hx).any0
  rintro _ _ ⟨g6, rfl, rfl, hp⟩
  rw [List.length_map, List.take_length] at hp
  have A : (auOf n s Fs R).Ok := ⟨by show 1 ≤ n.toNat; omega, ok1, ok2, ok3, fun r h => ⟨by have := (hp r h).1; show r.length = n.toNat; omega, (hp r h).2⟩⟩
  refine (q_fld (j := 0) (n := 0) (fps := []) (P := D K (.int ((auOf n s Fs R).L : Int))) ((ev_var (i := 1) rfl).is (by show D K (.int n) = D K (.int (n.toNat : Int)); rw [Int.toNat_of_nonneg (by omega)])) (ev_var (i := 0) rfl) rfl (by decide) (fun _ h => by cases h) T.cl_Automaton T.na_Automaton_letters ?_)
  refine (q_fld (j := 0) (n := 1) (ev_var (i := 2) rfl) (ev_var (i := 0) rfl) rfl (by decide) (fun g h => by rw [List.mem_singleton.mp h]; show ("letters" : Str) ≠ "start"; decide +kernel) T.cl_Automaton T.na_Automaton_start ?_)
  refine (q_fld (j := 0) (n := 2) (P := D K (dT Fs)) ((ev_cb (ea_cons ((ev_var (i := 3) rfl).weak le_dL) ea_nil) rc_tupleL).weak dT_le) (ev_var (i := 0) rfl) rfl (by decide) (fun g h => by
    rcases List.mem_cons.mp h with rfl | h
    · show ("start" : Str) ≠ "finals"; decide +kernel
    · rw [List.mem_singleton.mp h]; show ("letters" : Str) ≠ "finals"; decide +kernel) T.cl_Automaton T.na_Automaton_finals ?_)
  have lc := evn_lcL (K := K) (xs := R) (R := fun l => D K (dL l)) (G := fun l => D K (dT l)) (i := 6) (M := [(x, MIns T.c_Automaton 3 [("finals", D K (dT Fs)), ("start", D K (.int s)), ("letters", D K (.int ((auOf n s Fs R).L : Int)))])]) (M1 := [(x, MIns T.c_Automaton 3 [("finals", D K (dT Fs)), ("start", D K (.int s)), ("letters", D K (.int ((auOf n s Fs R).L : Int)))])]) (Γ := [some (Own x), some (D K (.int n)), some (D K (.int s)), some (D K (dL Fs)), some (D K (dLL R)), g5, g6]) (fun _ => true) ((ev_var (i := 4) rfl).weak (le_Lm (f := dL))) (by omega) (fun _ _ => et_yes) (fun l _ _ => (ev_cb (ea_cons ((ev_var (i := 6) rfl).weak le_dL) ea_nil) rc_tupleL).weak dT_le)
  rw [filter_true] at lc
  refine go_fld (j := 0) (n := 3) (P := D K (dTT R)) ((ev_cb (ea_cons (ev_newL lc) ea_nil) rc_tupleL).weak (Tm_le (f := dT))) (ev_var (i := 0) rfl) rfl (by decide) (fun g h => by
    rcases List.mem_cons.mp h with rfl | h
    · show ("finals" : Str) ≠ "rows"; decide +kernel
    · rcases List.mem_cons.mp h with rfl | h
      · show ("start" : Str) ≠ "rows"; decide +kernel
      · rw [List.mem_singleton.mp h]; show ("letters" : Str) ≠ "rows"; decide +kernel) T.cl_Automaton T.na_Automaton_rows ?_
  exact fun σ H' ⟨F', a, b⟩ => k A .non F' H' a .non
theorem use_Automaton {T : Txt K mg} {tr : TA} {Γ : Gm} {M M1 : Ms} {A : Au} {X : XK} (h : EvA tr Γ M [D K (.int (A.L : Int)), D K (.int A.s), D K (dL A.F), D K (dLL A.R)] M1) (O : A.Ok) (b : A.F.length ≤ 1000 ∧ A.R.length ≤ 1000 ∧ A.L ≤ 1000) : Ev (tMake T.c_Automaton (sp_Automaton_init T) [] X tr) Γ M (PAu T A) M1 := by
  have e : auOf (A.L : Int) A.s A.F A.R = A := by show Au.mk ((A.L : Int)).toNat A.s A.F A.R = A; rw [Int.toNat_natCast]
  have := (ev_fr (make0 (C := T.c_Automaton) (sp := sp_Automaton_init T) (X := X) (O := MIns T.c_Automaton 4 (auF K (auOf (A.L : Int) A.s A.F A.R))) h fun x vs H Q ⟨F, w, p, r⟩ => ⟨x, (A.L : Int), A.s, A.F, A.R, ⟨b.1, b.2.1, fun r hr => by rw [(O.R r hr).1]; exact b.2.2⟩, F, w, p, fun _ => r, fun c => absurd (by rw [e]; exact O) c⟩)).weak fr_Ins
  rw [e] at this
  exact this
/-! ### final_marks -/
theorem sc_final_marks : FnScope ["automaton", "marks", "state"] ["automaton"] (defScope s_final_marks) := ⟨rfl, rfl, rfl, by decide +kernel, rfl, by decide +kernel, by decide +kernel⟩
theorem rgB_set {N b : Nat} {g : Nat → Bool} {c : Bool} : ((List.range N).map g).set b c = (List.range N).map fun j => if j = b then c else g j := by
  apply List.ext_getElem
  · simp
  · intro j h1 h2
    rw [List.getElem_set]
    by_cases e : b = j
    · subst e; simp
    · rw [if_neg e, List.getElem_map, List.getElem_map, List.getElem_range, if_neg fun z => e z.symm]
abbrev dBs (l : List Bool) : PyData := .list (l.map PyData.bool)
def mksA (A : Au) : List Bool := (List.range A.R.length).map fun i : Nat => decide ((i : Int) ∈ A.F)
theorem mks_ix {A : Au} {q : Int} (h : A.In q) : ((mksA A).map PyData.bool)[q.toNat]? = some (.bool (decide (q ∈ A.F))) := by
  obtain ⟨h1, h2⟩ := h
  unfold mksA
  rw [List.getElem?_map, List.getElem?_map, List.getElem?_eq_getElem (by rw [List.length_range]; omega), List.getElem_range]
  show some (PyData.bool (decide (((q.toNat : Nat) : Int) ∈ A.F))) = _
  rw [Int.toNat_of_nonneg h1]
def sp_final_marks (T : Txt K mg) : Sp := fun vs H Q _ => ∃ (A : Au), (A.Ok ∧ A.R.length ≤ 1000) ∧ Prom [PAu T A] [] (D K (dBs (mksA A))) [] vs H Q
theorem sp_final_marks_len {T : Txt K mg} {vs H Q E} (h : sp_final_marks T vs H Q E) : vs.length = 1 := by obtain ⟨_, _, h⟩ := h; exact h.len
set_option maxHeartbeats 4000000 in
theorem ok_final_marks (T : Txt K mg) : FnOk P wo K mg base CX0 1 T.f_final_marks T.d_final_marks ["automaton"] (sp_final_marks T) := by
  have nd := (sc_final_marks).nd
  refine T.F_final_marks.ok sc_final_marks (fun vs H Q E h => (sp_final_marks_len h)) (fun cdv A outer s H vs Q E hr h => ?_)
  obtain ⟨A, ⟨O, hN⟩, F, w, ps, k⟩ := h
  refine ⟨_, (pss_cons (ps_set (i := 1) nd rfl (Or.inl rfl) (pe_op op_rep (pe_lst (pa_cons pe_bl pa_nil)) (pe_callB (c_len (K := K) rfl) (by rfl) T.z_len PySem.boot_len (pa_cons (c_fld (K := K) rfl (pv 0) rfl) pa_nil))))
    (pss_cons (ps_for PassesOwn.never rfl (pi_tupK (K := K) rfl (c_fld (K := K) rfl (pv 0) rfl)) (pg_name (i := 2) nd rfl (by first | exact Or.inl rfl | exact Or.inr rfl))
     (pss_one (ps_asg pe_bl (pg_sub (pv 1) (pv 2) set_list))))
    (pss_one (ps_ret (pv 1))))), ?_⟩
  refine go_start w ps (Γ := [some (PAu T A), none, none]) rfl ?_
  have rp := evn_rep (K := K) (P := D K (.bool false)) (z := (A.R.length : Int)) (M := []) (M1 := []) (Γ := [some (PAu T A), none, none]) (evn_lst (ps := [D K (.bool false)]) (ea_cons (ev_bl (K := K)) ea_nil) (by simp)) (fun M => ev_lenMT (f := dT) (ev_fld (P := D K (dTT A.R)) (fps := auF K A) (ev_var (i := 0) rfl) (by simp) T.cl_Automaton T.na_Automaton_rows)) (by omega)
  rw [Int.toNat_natCast] at rp
  refine (q_asgN rp fun q hq => ?_)
  clear rp
  dsimp only [List.set]
  refine (q_forT ((ev_fld (P := D K (dT A.F)) (fps := auF K A) (ev_var (i := 0) rfl) (by simp) T.cl_Automaton T.na_Automaton_finals).weak le_dT) (fun i Γ M => ∃ g2 : Option MP, Γ = [some (PAu T A), some (Own q), g2] ∧ M = [(q, ML (((List.range A.R.length).map fun i2 : Nat => decide ((i2 : Int) ∈ A.F.take i)).map fun b => D K (.bool b)))]) ⟨none, rfl, ?_⟩ ?_ ?_)
  · congr 3
    apply List.ext_getElem
    · simp
    · intro i h1 h2; simp
  · rintro E' hE i P hP _ _ ⟨g2, rfl, rfl⟩
    rw [List.getElem?_map] at hP
    obtain ⟨x, hx, rfl⟩ := Option.map_eq_some_iff.mp hP
    obtain ⟨x1, x2⟩ := O.F x (List.mem_of_getElem? hx)
    dsimp only [List.set]
    refine go_setL (j := 0) (ev_bl (K := K)) (ev_var (i := 1) rfl) (ev_var (i := 2) rfl) rfl x1 (by rw [List.length_map, List.length_map, List.length_range]; omega) (JA.of ⟨_, rfl, ?_⟩)
    show [(q, ML ((((List.range A.R.length).map fun i2 : Nat => decide ((i2 : Int) ∈ A.F.take i)).map fun b => D K (.bool b)).set x.toNat (D K (.bool true))))] = _
    congr 3
    rw [← List.map_set, rgB_set]
    refine congrArg _ (List.map_congr_left fun j hj => ?_)
    have e : (j : Int) ∈ A.F.take (i + 1) ↔ (j : Int) ∈ A.F.take i ∨ (j : Int) = x := by rw [List.take_add_one, hx, Option.toList_some, List.mem_append, List.mem_singleton]
    by_cases c : j = x.toNat
    · rw [if_pos c]
      symm
      rw [decide_eq_true_iff, e]
      right; omega
    · rw [if_neg c, decide_eq_decide, e]
      exact ⟨.inl, fun h => h.elim id fun z => absurd (by omega) c⟩
  · rintro _ _ ⟨g2, rfl, rfl⟩
    rw [List.length_map, List.take_length]
    refine nx_freeze (K := K) (i := 1) 0 rfl hq rfl ?_
    dsimp only [List.set, List.eraseIdx]
    exact go_ret Le.refl (P := D K (dBs (mksA A))) ((ev_var (i := 1) rfl).weak (Lm_le (f := PyData.bool))) k
theorem use_final_marks {T : Txt K mg} {tr : TA} {Γ : Gm} {M M1 : Ms} {A : Au} {X : XK} (h : EvA tr Γ M [PAu T A] M1) (hn : A.Ok ∧ A.R.length ≤ 1000) : Ev (tCall (sp_final_marks T) [] X tr) Γ M (D K (dBs (mksA A))) M1 :=
  call0 h fun vs H Q z => ⟨A, hn, z⟩
/-! ### _reached_states -/
theorem sc__reached_states : FnScope ["automaton", "found", "seen", "at", "state"] ["automaton"] (defScope s__reached_states) := ⟨rfl, rfl, rfl, by decide +kernel, rfl, by decide +kernel, by decide +kernel⟩
def sp__reached_states (T : Txt K mg) : Sp := fun vs H Q _ => ∃ (A : Au), (A.Ok ∧ A.R.length ≤ 1000) ∧ Prom [PAu T A] [] (PEx fun S : List Int => PAn ((Clo A S ∧ A.s ∈ S) ∧ S.length ≤ A.R.length) (D K (dL S))) [] vs H Q
theorem sp__reached_states_len {T : Txt K mg} {vs H Q E} (h : sp__reached_states T vs H Q E) : vs.length = 1 := by obtain ⟨_, _, h⟩ := h; exact h.len
structure RcOk (A : Au) (fs ks : List Int) (t : Nat) : Prop where
  nd : fs.Nodup
  ins : ∀ x ∈ fs, A.In x
  st : A.s ∈ fs
  same : ∀ x, x ∈ ks ↔ x ∈ fs
  len : ks.length = fs.length
  done : ∀ i, i < t → ∀ q, fs[i]? = some q → ∀ x ∈ A.row q, x ∈ fs
  le : t ≤ fs.length
theorem RcOk.flen {A : Au} {fs ks : List Int} {t : Nat} (h : RcOk A fs ks t) : fs.length ≤ A.R.length := by
  have := nodup_le h.nd (m := (List.range A.R.length).map fun n : Nat => (n : Int)) fun x hx => by
    obtain ⟨h1, h2⟩ := h.ins x hx
    exact List.mem_map.mpr ⟨x.toNat, List.mem_range.mpr (by omega), by omega⟩
  rwa [List.length_map, List.length_range] at this
theorem RcOk.add {A : Au} {fs ks : List Int} {t : Nat} {x : Int} (h : RcOk A fs ks t) (hx : A.In x) (hn : x ∉ fs) : RcOk A (fs ++ [x]) (x :: ks) t := by
  refine ⟨?_, fun y hy => ?_, List.mem_append_left _ h.st, fun y => ?_, ?_, fun i hi q hq y hy => ?_, ?_⟩
  · rw [List.nodup_append]
    exact ⟨h.nd, by simp, fun a ha b hb => by rw [List.mem_singleton.mp hb]; rintro rfl; exact hn ha⟩
  · rcases List.mem_append.mp hy with hy | hy
    · exact h.ins y hy
    · rw [List.mem_singleton.mp hy]; exact hx
  · rw [List.mem_cons, List.mem_append, h.same, List.mem_singleton]
    exact ⟨fun h => h.symm, fun h => h.symm⟩
  · rw [List.length_cons, List.length_append, h.len]; rfl
  · have := h.le
    rw [List.getElem?_append_left (by omega)] at hq
    exact List.mem_append_left _ (h.done i hi q hq y hy)
  · have := h.le
    rw [List.length_append]; omega
theorem RcOk.done1 {A : Au} {fs ks : List Int} {t : Nat} {q : Int} (h : RcOk A fs ks t) (hq : fs[t]? = some q) (hx : ∀ x ∈ A.row q, x ∈ fs) : RcOk A fs ks (t + 1) :=
  ⟨h.nd, h.ins, h.st, h.same, h.len, fun i hi p hp => by
    by_cases c : i = t
    · rw [c, hq] at hp; rw [← Option.some.inj hp]; exact hx
    · exact h.done i (by omega) p hp, (List.getElem?_eq_some_iff.mp hq).1⟩
set_option maxHeartbeats 4000000 in
theorem ok__reached_states (T : Txt K mg) : FnOk P wo K mg base CX0 1 T.f__reached_states T.d__reached_states ["automaton"] (sp__reached_states T) := by
  have nd := (sc__reached_states).nd
  refine T.F__reached_states.ok sc__reached_states (fun vs H Q E h => (sp__reached_states_len h)) (fun cdv A outer s H vs Q E hr h => ?_)
  obtain ⟨A, ⟨O, hN⟩, F, w, ps, k⟩ := h
  refine ⟨_, (pss_cons (ps_set (i := 1) nd rfl (Or.inl rfl) (pe_lst (pa_cons (c_fld (K := K) rfl (pv 0) rfl) pa_nil)))
    (pss_cons (ps_set (i := 2) nd rfl (Or.inl rfl) (pe_disp (pps_cons (c_fld (K := K) rfl (pv 0) rfl) pe_bl pps_nil) (by rfl) (by rfl) (by simp) (by simp)))
    (pss_cons (ps_set (i := 3) nd rfl (Or.inl rfl) pe_int)
    (pss_cons (ps_while PassesOwn.never (pt_cmpR op_lt (pv 3) (pe_callB (c_len (K := K) rfl) (by rfl) T.z_len PySem.boot_len (pa_cons (pv 1) pa_nil)) (nomark _)) (pss_cons (ps_for PassesOwn.never rfl (pi_tupK (K := K) rfl (pe_ix (c_ix (K := K) rfl) (c_fld (K := K) rfl (pv 0) rfl) (pe_ix (c_ix (K := K) rfl) (pv 1) (pv 3) (fun _ _ => rfl)) (fun _ _ => rfl))) (pg_name (i := 4) nd rfl (by first | exact Or.inl rfl | exact Or.inr rfl))
      (pss_one (ps_if (pt_cmp (pc_dnotin (units1 hr) (pv 4) (pv 2))) (pss_cons (ps_dput (units1 hr) (pv 2) (pv 4) pe_bl rfl)
       (pss_one (ps_expr (pe_bm PySem.F.plainAttrs_list PySem.F.slot_list_append PySem.F.type_list_append mt_append (pv 1) (pa_cons (pv 4) pa_nil))))) pss_nil)))
     (pss_one (ps_aug (i := 3) nd rfl (Or.inl rfl) pe_int ip_add))))
    (pss_one (ps_ret (pv 1))))))), ?_⟩
  refine go_start w ps (Γ := [some (PAu T A), none, none, none, none]) rfl ?_
  have est : ∀ {Γ : Gm} {M : Ms}, Γ[0]? = some (some (PAu T A)) → Ev (tFld K (tVar 0) "start") Γ M (D K (.int A.s)) M := fun h => ev_fld (P := D K (.int A.s)) (fps := auF K A) (ev_var h) (by simp) T.cl_Automaton T.na_Automaton_start
  refine (q_asgN (evn_lst (ps := [D K (.int A.s)]) (ea_cons (est rfl) ea_nil) (by simp)) fun qf hqf => ?_)
  dsimp only [List.set]
  refine (q_asgN (evn_dispS (P := D K (.bool true)) (fun M => est rfl) (fun M => (ev_bl (K := K)))) fun qs hqs => ?_)
  dsimp only [List.set]
  refine (q_asg (ev_int (K := K) (i := 0)) ?_)
  dsimp only [List.set]
  refine (q_while (fun m Γ M => ∃ (fs ks : List Int) (t : Nat) (g4 : Option MP), Γ = [some (PAu T A), some (Own qf), some (Own qs), some (D K (.int (t : Int))), g4] ∧ M = [(qs, MSet ks), (qf, MInts K fs)] ∧ RcOk A fs ks t ∧ m = A.R.length + 1 - t) (A.R.length + 1) ⟨[A.s], [A.s], 0, none, rfl, rfl, ⟨by simp, fun x hx => by rw [List.mem_singleton.mp hx]; exact O.s, by simp, fun x => Iff.rfl, rfl, fun i hi => absurd hi (Nat.not_lt_zero _), by simp⟩, rfl⟩ ?_)
  rintro m _ _ ⟨fs, ks, t, g4, rfl, rfl, R, rfl⟩
  have tle := R.le
  have fle := R.flen
  refine ⟨_, _, et_test (ev_op (ev_var (i := 3) rfl) (ev_lenI (j := 1) (ev_var (i := 1) rfl) rfl) (rv_b0 (g := fun i j => decide (i < j)))), fun hz => ?_, fun hz => ?_⟩
  · have hz : t < fs.length := by simp at hz; omega
    obtain ⟨q, hq⟩ : ∃ q, fs[t]? = some q := ⟨_, List.getElem?_eq_getElem hz⟩
    have hin := R.ins q (List.mem_of_getElem? hq)
    refine (q_forT ((ev_row (ev_var (i := 0) rfl) (ev_op (ev_var (i := 1) rfl) (ev_var (i := 3) rfl) (rv_ixO (j := 1) (P := D K (.int q)) rfl (by omega) (by rw [Int.toNat_natCast, List.getElem?_map, hq]; rfl))) hin).weak le_dT) (fun i Γ M => ∃ (fs' ks' : List Int) (g4 : Option MP), Γ = [some (PAu T A), some (Own qf), some (Own qs), some (D K (.int (t : Int))), g4] ∧ M = [(qs, MSet ks'), (qf, MInts K fs')] ∧ RcOk A fs' ks' t ∧ fs'[t]? = some q ∧ ∀ x ∈ (A.row q).take i, x ∈ fs') ⟨fs, ks, _, rfl, rfl, R, hq, fun x hx => by simp at hx⟩ ?_ ?_)
    · rintro E' hE i P hP _ _ ⟨fs', ks', g4, rfl, rfl, R', hq', hx'⟩
      rw [List.getElem?_map] at hP
      obtain ⟨x, hx, rfl⟩ := Option.map_eq_some_iff.mp hP
      have xin := (O.R _ (Au.row_mem hin)).2 x (List.mem_of_getElem? hx)
      have fle' := R'.flen
      have kl := R'.len
      have tk : (A.row q).take (i + 1) = (A.row q).take i ++ [x] := by rw [List.take_add_one, hx]; rfl
      dsimp only [List.set]
      refine go_if (et_val (ev_dnotinS (j := 0) (ev_var (i := 4) rfl) (ev_var (i := 2) rfl) rfl)) (fun hz => ?_) fun hz => go_next (JA.of ⟨fs', ks', _, rfl, rfl, R', hq', fun y hy => ?_⟩)
      · have hz : x ∉ fs' := fun z => by rw [decide_eq_true ((R'.same x).mpr z)] at hz; cases hz
        refine (q_dputS (j := 0) (ev_bl (K := K)) (ev_var (i := 2) rfl) (ev_var (i := 4) rfl) rfl (by omega) ?_)
        refine go_app (j := 1) (ev_var (i := 1) rfl) (ev_var (i := 4) rfl) rfl rfl (by rw [List.length_map]; omega) (JA.of ⟨fs' ++ [x], x :: ks', _, rfl, ?_, R'.add xin hz, by rw [List.getElem?_append_left (List.getElem?_eq_some_iff.mp hq').1]; exact hq', fun y hy => ?_⟩)
        · show [(qs, MSet (x :: ks')), (qf, ML (fs'.map (fun n => D K (.int n)) ++ [D K (.int x)]))] = _
          rw [MInts, List.map_append]; rfl
        · rw [tk] at hy
          rcases List.mem_append.mp hy with hy | hy
          · exact List.mem_append_left _ (hx' y hy)
          · rw [List.mem_singleton.mp hy]; simp
      · rw [tk] at hy
        rcases List.mem_append.mp hy with hy | hy
        · exact hx' y hy
        · rw [List.mem_singleton.mp hy]
          refine Classical.byContradiction fun c => ?_
          rw [decide_eq_false (fun z => c ((R'.same x).mp z))] at hz
          cases hz
    · rintro _ _ ⟨fs', ks', g4, rfl, rfl, R', hq', hx'⟩
      rw [List.length_map, List.take_length] at hx'
      refine go_aug (x := (t : Int)) (y := 1) rfl (ev_int (K := K)) (JA.of ⟨_, by omega, fs', ks', t + 1, g4, rfl, rfl, R'.done1 hq' hx', rfl⟩)
  · have hz : fs.length = t := by simp at hz; omega
    refine nx_drop (List.sublist_cons_self _ _) ?_
    refine nx_freeze (K := K) (i := 1) 0 rfl hqf rfl ?_
    dsimp only [List.set, List.eraseIdx]
    refine go_ret Le.refl ((ev_var (i := 1) rfl).weak (MP.le_trans dL_le (MP.le_trans (PAn.in (φ := (Clo A fs ∧ A.s ∈ fs) ∧ fs.length ≤ A.R.length) ⟨⟨fun q hq => ?_, R.st⟩, fle⟩) (PEx.in (R := fun S : List Int => PAn ((Clo A S ∧ A.s ∈ S) ∧ S.length ≤ A.R.length) (D K (dL S))) fs)))) k
    obtain ⟨i, hi, rfl⟩ := List.getElem_of_mem hq
    exact ⟨R.ins _ hq, R.done i (by omega) _ (List.getElem?_eq_getElem hi)⟩
theorem use__reached_states {T : Txt K mg} {tr : TA} {Γ : Gm} {M M1 : Ms} {A : Au} {X : XK} (h : EvA tr Γ M [PAu T A] M1) (hn : A.Ok ∧ A.R.length ≤ 1000) : Ev (tCall (sp__reached_states T) [] X tr) Γ M (PEx fun S : List Int => PAn ((Clo A S ∧ A.s ∈ S) ∧ S.length ≤ A.R.length) (D K (dL S))) M1 :=
  call0 h fun vs H Q z => ⟨A, hn, z⟩
/-! ### state_classes -/
theorem sc_state_classes : FnScope ["automaton", "states", "letters", "marks", "classes", "many", "kinds", "following", "state", "row", "kind", "letter"] ["automaton", "states", "letters"] (defScope s_state_classes) := ⟨rfl, rfl, rfl, by decide +kernel, rfl, by decide +kernel, by decide +kernel⟩
abbrev MCls (A : Au) (S : List Int) (n : Nat) : MO := MX fun c : Int → Int => MA (LabI A S c) (MDO (fun x => if x ∈ S then some (c x) else none) n)
def sp_state_classes (T : Txt K mg) : Sp := fun vs H Q _ => ∃ (A : Au) (S : List Int), (A.Ok ∧ Clo A S ∧ S ≠ [] ∧ S.length ≤ 1000 ∧ A.R.length ≤ 1000 ∧ A.L ≤ 1000) ∧ PromN [PAu T A, D K (dL S), D K (dL ((List.range A.L).map fun i : Nat => (i : Int)))] [] (MCls A S 2000) [] vs H Q
theorem sp_state_classes_len {T : Txt K mg} {vs H Q E} (h : sp_state_classes T vs H Q E) : vs.length = 3 := by obtain ⟨_, _, _, h⟩ := h; exact h.len
def encK (k : Knd) : NestedKey := .tup [.num k.1, .tup (k.2.map .num)]
theorem num_inj {a b : List Int} (h : a.map NestedKey.num = b.map NestedKey.num) : a = b := (List.map_inj_right (fun _ _ e => by injection e)).mp h
theorem encK_inj {a b : Knd} (h : encK a = encK b) : a = b := by
  unfold encK at h
  injection h with h
  injection h with h1 h2
  injection h1 with h1
  injection h2 with h2 _
  injection h2 with h2
  exact Prod.ext h1 (num_inj h2)
theorem num_d : ∀ {l : List Int}, NestedKey.depthAll (l.map .num) ≤ 1
  | [] => by simp [NestedKey.depthAll]
  | x :: l => by
    have := num_d (l := l)
    simp only [List.map_cons, NestedKey.depthAll, NestedKey.depth]
    omega
theorem encK_d {k : Knd} : (encK k).depth ≤ 8 := by
  have := num_d (l := k.2)
  unfold encK
  simp only [NestedKey.depthAll, NestedKey.depth]
  omega
def LK (Ks : List Knd) : LN := Ks.zipIdx.map fun p => (encK p.1, (p.2 : Int))
theorem LK_len {Ks : List Knd} : (LK Ks).length = Ks.length := by unfold LK; rw [List.length_map, List.length_zipIdx]
theorem LK_app {Ks : List Knd} {k : Knd} : LK (Ks ++ [k]) = LK Ks ++ [(encK k, (Ks.length : Int))] := by
  unfold LK
  rw [List.zipIdx_append, List.map_append]; simp
theorem lkN_LK {Ks : List Knd} {k : Knd} : lkN (LK Ks) (encK k) = if k ∈ Ks then some ((ix Ks k : Nat) : Int) else none := by
  have key : ∀ (Ks : List Knd) (n : Nat), lkN ((Ks.zipIdx n).map fun p => (encK p.1, (p.2 : Int))) (encK k) = if k ∈ Ks then some ((n + ix Ks k : Nat) : Int) else none := by
    intro Ks
    induction Ks with
    | nil => intro n; rfl
    | cons a Ks ih =>
      intro n
      rw [List.zipIdx_cons, List.map_cons, lkN_cons, ih, ix_cons]
      by_cases c : a = k
      · subst c
        rw [if_pos rfl, if_pos rfl, if_pos List.mem_cons_self]; rfl
      · rw [if_neg (fun z => c (encK_inj z)), if_neg c]
        by_cases c2 : k ∈ Ks
        · rw [if_pos c2, if_pos (List.mem_cons_of_mem _ c2)]
          congr 2; omega
        · rw [if_neg c2, if_neg (fun z => by rcases List.mem_cons.mp z with z | z; exact c z.symm; exact c2 z)]
  have := key Ks 0
  rw [Nat.zero_add] at this
  exact this
structure RdOk (A : Au) (S : List Int) (kk many : Nat) (Ks : List Knd) : Prop where
  zero : kk = 0 → many = 0 ∧ Ks = []
  one : kk = 1 → many = 0
  succ : ∀ j, kk = j + 1 → Ks = ded (S.map (kd A (lcl A S j)))
  two : ∀ j, kk = j + 2 → many = nnl A S j
theorem RdOk.start {A : Au} {S : List Int} : RdOk A S 0 0 [] := ⟨fun _ => ⟨rfl, rfl⟩, fun _ => rfl, fun j h => by omega, fun j h => by omega⟩
theorem RdOk.len_le {A : Au} {S : List Int} {kk many : Nat} {Ks : List Knd} (R : RdOk A S kk many Ks) : Ks.length ≤ S.length := by
  cases kk with
  | zero => rw [(R.zero rfl).2]; exact Nat.zero_le _
  | succ j => rw [R.succ j rfl]; exact nnl_le (k := j)
theorem RdOk.next {A : Au} {S : List Int} {kk many : Nat} {Ks : List Knd} {cl : Int → Int} (R : RdOk A S kk many Ks) (h : cl = lcl A S kk) : RdOk A S (kk + 1) Ks.length (ded (S.map (kd A cl))) := by
  refine ⟨fun h => by omega, fun h => ?_, fun j hj => ?_, fun j hj => ?_⟩
  · rw [(R.zero (by omega)).2]; rfl
  · rw [h, show kk = j by omega]
  · rw [R.succ j (by omega)]; rfl
theorem RdOk.ge2 {A : Au} {S : List Int} {kk many : Nat} {Ks : List Knd} (R : RdOk A S kk many Ks) (h : many ≠ 0) : 2 ≤ kk := by
  refine Nat.le_of_not_lt fun c => ?_
  have : kk = 0 ∨ kk = 1 := by omega
  rcases this with e | e
  · exact h (R.zero e).1
  · exact h (R.one e)
theorem RdOk.pos {A : Au} {S : List Int} {kk many : Nat} {Ks : List Knd} (R : RdOk A S kk many Ks) (hS : 0 < S.length) : kk ≠ 0 → 1 ≤ Ks.length := by
  intro c
  obtain ⟨j, rfl⟩ : ∃ j, kk = j + 1 := ⟨kk - 1, by omega⟩
  rw [R.succ j rfl]
  obtain ⟨x, hx⟩ := List.exists_mem_of_length_pos hS
  exact List.length_pos_of_mem (kd_mem (A := A) (cl := lcl A S j) hx)
theorem mdo_le {g g' : Int → Option Int} {n n' : Nat} (h : n ≤ n') (e : ∀ x, g x = g' x) : ∀ F o, (MDO g n).p F o → (MDO g' n').p F o := fun F o ⟨kvs, h1, h2, h3⟩ => ⟨kvs, h1, Nat.le_trans h2 h, fun x => by rw [← e]; exact h3 x⟩
theorem nx_perm {E : Ent} {M M' : Ms} {Γ : Gm} {f : St → Hp → Prop} (p : M.Perm M') (h : Nx E Γ M' f) : Nx E Γ M f := fun σ H ⟨F, a, b⟩ => h σ H ⟨F, a.perm p, b⟩
theorem row_cl {K : PySem.W.Frag} {A : Au} {q : Int} {cl : Int → Int} (l : (A.row q).length = A.L) : (((List.range A.L).map fun i : Nat => (i : Int)).map fun a => D K (.int (cl (nxA A q a.toNat)))) = ((A.row q).map cl).map fun n => D K (.int n) := by
  rw [List.map_map, List.map_map]
  apply List.ext_getElem
  · rw [List.length_map, List.length_map, List.length_range, l]
  · intro i h1 h2
    rw [List.length_map, List.length_range] at h1
    rw [List.getElem_map, List.getElem_map, List.getElem_range]
    show D K (.int (cl (nxA A q ((i : Int)).toNat))) = D K (.int (cl _))
    rw [Int.toNat_natCast]
    unfold nxA
    rw [List.getD_eq_getElem?_getD, List.getElem?_eq_getElem (by omega)]; rfl
set_option maxHeartbeats 4000000 in
theorem ok_state_classes (T : Txt K mg) : FnOk P wo K mg base CX0 2 T.f_state_classes T.d_state_classes ["automaton", "states", "letters"] (sp_state_classes T) := by
  have nd := (sc_state_classes).nd
  refine T.F_state_classes.ok sc_state_classes (fun vs H Q E h => (sp_state_classes_len h)) (fun cdv A outer s H vs Q E hr h => ?_)
  obtain ⟨A, S, ⟨O, C, hS, hSl, hN, hL⟩, F, w, ps, k⟩ := h
  refine ⟨_, (pss_cons (ps_set (i := 3) nd rfl (Or.inr rfl) (pe_call (ok_final_marks T) (hr.mono (by decide)) rfl T.m_final_marks T.F_final_marks.kp T.b_final_marks .nil pass0 (pa_cons (pv 0) pa_nil)))
    (pss_cons (ps_set (i := 4) nd rfl (Or.inr rfl) (pe_dc (own := [("state", 8)]) (by rfl) nd (pi_listK (K := K) rfl (pv 1)) (blkOk_by (N := ["automaton", "states", "letters", "marks", "classes", "many", "kinds", "following", "state", "row", "kind", "letter"]) (sc := defScope s_state_classes) (own := [("state", 8)]) (by decide +kernel)) (fun _ _ _ _ _ => pg_name (i := 8) nd rfl (by first | exact Or.inl rfl | exact Or.inr rfl)) (fun _ _ _ _ _ => pts_nil) (fun _ _ _ _ _ => (pv 8)) (fun _ _ _ _ _ => (pe_ifExp (pt_val (pe_ix (c_ix (K := K) rfl) (pv 3) (pv 8) (fun _ _ => rfl))) pe_int pe_int))))
    (pss_cons (ps_set (i := 5) nd rfl (Or.inl rfl) pe_int)
    (pss_cons (ps_set (i := 6) nd rfl (Or.inl rfl) pe_dnewN)
    (pss_cons (ps_while PassesOwn.never (PW.pt (pw_or (pt_cmpR op_eq (pv 5) pe_int (nomark _)) (pw_or1 (pt_cmpR op_gt (pe_callB call_lenN (by rfl) T.z_len PySem.boot_len (pa_cons (pv 6) pa_nil)) (pv 5) (nomark _))))) (pss_cons (ps_set (i := 5) nd rfl (Or.inl rfl) (pe_callB call_lenN (by rfl) T.z_len PySem.boot_len (pa_cons (pv 6) pa_nil)))
     (pss_cons (ps_set (i := 6) nd rfl (Or.inl rfl) pe_dnewN)
     (pss_cons (ps_set (i := 7) nd rfl (Or.inl rfl) pe_dnewK)
     (pss_cons (ps_for PassesOwn.never rfl (pi_listK (K := K) rfl (pv 1)) (pg_name (i := 8) nd rfl (by first | exact Or.inl rfl | exact Or.inr rfl))
      (pss_cons (ps_set (i := 9) nd rfl (Or.inr rfl) (pe_ix (c_ix (K := K) rfl) (c_fld (K := K) rfl (pv 0) rfl) (pv 8) (fun _ _ => rfl)))
      (pss_cons (ps_set (i := 10) nd rfl (Or.inl rfl) (pe_tup (pa_cons (pe_dget (units1 hr) (pv 4) (pv 8) (fun _ _ => rfl)) (pa_cons (pe_callTy (c_tuple (K := K) rfl) (by rfl) T.z_tuple (by decide +kernel) (pa_cons (pe_lc (own := [("letter", 11)]) (by rfl) nd (pi_listK (K := K) rfl (pv 2)) (blkOk_by (N := ["automaton", "states", "letters", "marks", "classes", "many", "kinds", "following", "state", "row", "kind", "letter"]) (sc := defScope s_state_classes) (own := [("letter", 11)]) (by decide +kernel)) (fun _ _ _ _ _ => pg_name (i := 11) nd rfl (by first | exact Or.inl rfl | exact Or.inr rfl)) (fun _ _ _ _ _ => pts_nil) (fun _ _ _ _ _ => (pe_dget (units1 hr) (pv 4) (pe_ix (c_ix (K := K) rfl) (pv 9) (pv 11) (fun _ _ => rfl)) (fun _ _ => rfl)))) pa_nil)) pa_nil))))
      (Evl.pss_cut (ps_if (pt_cmp (pc_dnotinN (units8 hr) (pv 10) (pv 6))) (pss_one (ps_dputN (units8 hr) (pv 6) (pv 10) (pe_callB call_lenN (by rfl) T.z_len PySem.boot_len (pa_cons (pv 6) pa_nil)) rfl)) pss_nil)
      (pss_one (ps_dput (units1 hr) (pv 7) (pv 8) (pe_dgetN (units8 hr) (pv 6) (pv 10) (fun _ _ => rfl)) rfl))))))
     (pss_one (ps_set (i := 4) nd rfl (Or.inr rfl) (pv 7))))))))
    (pss_one (ps_ret (pv 4)))))))), ?_⟩
  refine go_start w ps (Γ := [some (PAu T A), some (D K (dL S)), some (D K (dL ((List.range A.L).map fun i : Nat => (i : Int)))), none, none, none, none, none, none, none, none, none]) rfl ?_
  refine (q_asg (use_final_marks (ea_cons (ev_var (i := 0) rfl) ea_nil) ⟨O, hN⟩) ?_)
  dsimp only [List.set]
  have dc := evn_dcV (K := K) (φ := fun xs => xs = S) (L := S) (n := S.length) (val := fin01 A) (i := 8) (M := []) (M1 := []) (Γ := [some (PAu T A), some (D K (dL S)), some (D K (dL ((List.range A.L).map fun i : Nat => (i : Int)))), some (D K (dBs (mksA A))), none, none, none, none, none, none, none, none]) (tv := tIf (tB (tOp (rIx K) (tVar 3) (tVar 8))) (tC (V.int 1)) (tC (V.int 0))) (((ev_var (i := 1) rfl).weak (le_dL (l := S))).weak (MP.le_trans (PAn.in (φ := S = S) rfl) (PEx.in (R := fun xs : List Int => PAn (xs = S) (PLi K (xs.map fun x => D K (.int x)))) S))) (fun xs h => by subst h; exact ⟨fun x => Iff.rfl, Nat.le_refl _⟩) (by omega) (by simp)
    (fun x hx M => (ev_if (b := decide (x ∈ A.F)) (et_val (ev_op (ev_var (i := 3) rfl) (ev_var (i := 8) rfl) (rv_ixDL (C x hx).1.1 (mks_ix (C x hx).1)))) (fun h => (ev_int (K := K) (i := 1)).is (by unfold fin01; rw [if_pos (of_decide_eq_true h)])) fun h => (ev_int (K := K) (i := 0)).is (by unfold fin01; rw [if_neg (of_decide_eq_false h)])))
  refine (q_asgN dc fun q4 hq4 => ?_)
  clear dc
  dsimp only [List.set]
  refine (q_asg (ev_int (K := K) (i := 0)) ?_)
  dsimp only [List.set]
  refine q_newDN (P := P) (w := wo) fun q6 hq6 => ?_
  dsimp only [List.set]
  have Spos : 0 < S.length := List.length_pos_iff.mpr hS
  refine (q_while (fun m Γ M => ∃ (kk many : Nat) (Ks : List Knd) (q4 q6 : Addr) (n : Nat) (g7 g8 g9 g10 : Option MP), Γ = [some (PAu T A), some (D K (dL S)), some (D K (dL ((List.range A.L).map fun i : Nat => (i : Int)))), some (D K (dBs (mksA A))), some (Own q4), some (D K (.int (many : Nat))), some (Own q6), g7, g8, g9, g10, none] ∧ M = [(q6, MDN P wo q6 (LK Ks)), (q4, MDO (fun x => if x ∈ S then some (lcl A S kk x) else none) n)] ∧ (⟨F, H, keys []⟩ : Ent).H q4 = none ∧ n ≤ 1000 ∧ RdOk A S kk many Ks ∧ m = S.length + 2 - many - min kk 1) (S.length + 2) ⟨0, 0, [], q4, q6, S.length, none, none, none, none, rfl, rfl, hq4, hSl, RdOk.start, by simp⟩ ?_)
  rintro m _ _ ⟨kk, many, Ks, q4, q6, n, g7, g8, g9, g10, rfl, rfl, hq4, hn, R, rfl⟩
  have Kle := R.len_le
  refine ⟨_, _, et_or (et_test (ev_op (ev_var (i := 5) rfl) (ev_int (K := K) (i := 0)) rv_eqI)) fun _ => et_test (K := K) (ev_op (ev_lenN (K := K) (P := P) (w := wo) (j := 0) (ev_var (i := 6) rfl) rfl) (ev_var (i := 5) rfl) (rv_b0 (g := fun i j => decide (i > j)))), fun hz => ?_, fun hz => ?_⟩
  · have hz : many = 0 ∨ many < Ks.length := by rw [LK_len] at hz; simp at hz; omega
    refine (q_asg (ev_lenN (K := K) (P := P) (w := wo) (j := 0) (ev_var (i := 6) rfl) rfl) ?_)
    rw [LK_len]
    dsimp only [List.set]
    refine q_newDN (P := P) (w := wo) fun q6p hq6p => ?_
    dsimp only [List.set]
    refine nx_drop (M' := [(q6p, MDN P wo q6p []), (q4, MDO (fun x => if x ∈ S then some (lcl A S kk x) else none) n)]) (.cons₂ _ (List.sublist_cons_self _ _)) ?_
    refine (q_asgN evn_dnewI fun q7 hq7 => ?_)
    dsimp only [List.set]
    have lab := lcl_lab O C kk
    obtain ⟨cl, hcl⟩ : ∃ cl, cl = lcl A S kk := ⟨_, rfl⟩
    rw [← hcl] at lab ⊢
    refine (q_forL ((ev_var (i := 1) rfl).weak le_dL) (fun i Γ M => ∃ (g8 g9 g10 : Option MP), Γ = [some (PAu T A), some (D K (dL S)), some (D K (dL ((List.range A.L).map fun i : Nat => (i : Int)))), some (D K (dBs (mksA A))), some (Own q4), some (D K (.int (Ks.length : Nat))), some (Own q6p), some (Own q7), g8, g9, g10, none] ∧ M = [(q7, MDO (fun x => if x ∈ S.take i then some ((ix (ded ((S.take i).map (kd A cl))) (kd A cl x) : Nat) : Int) else none) i), (q6p, MDN P wo q6p (LK (ded ((S.take i).map (kd A cl))))), (q4, MDO (fun x => if x ∈ S then some (cl x) else none) n)]) ⟨g8, g9, g10, rfl, by rw [List.take_zero]; simp [ded, LK]⟩ ?_ ?_)
    · rintro E' hE i Pm hPm _ _ ⟨g8, g9, g10, rfl, rfl⟩
      rw [List.getElem?_map] at hPm
      obtain ⟨q, hq, rfl⟩ := Option.map_eq_some_iff.mp hPm
      have qS := List.mem_of_getElem? hq
      have qin := (C q qS).1
      have il : i < S.length := (List.getElem?_eq_some_iff.mp hq).1
      have rl := (O.R _ (Au.row_mem qin)).1
      have tk : S.take (i + 1) = S.take i ++ [q] := by rw [List.take_add_one, hq]; rfl
      dsimp only [List.set]
      refine (q_asg (ev_row (ev_var (i := 0) rfl) (ev_var (i := 8) rfl) qin) ?_)
      dsimp only [List.set]
      have lc := evn_lcL (K := K) (xs := (List.range A.L).map fun i : Nat => (i : Int)) (R := fun x => D K (.int x)) (G := fun a => D K (.int (cl (nxA A q a.toNat)))) (i := 11) (M := [(q7, MDO (fun x => if x ∈ S.take i then some ((ix (ded ((S.take i).map (kd A cl))) (kd A cl x) : Nat) : Int) else none) i), (q6p, MDN P wo q6p (LK (ded ((S.take i).map (kd A cl))))), (q4, MDO (fun x => if x ∈ S then some (cl x) else none) n)]) (M1 := [(q7, MDO (fun x => if x ∈ S.take i then some ((ix (ded ((S.take i).map (kd A cl))) (kd A cl x) : Nat) : Int) else none) i), (q6p, MDN P wo q6p (LK (ded ((S.take i).map (kd A cl))))), (q4, MDO (fun x => if x ∈ S then some (cl x) else none) n)]) (Γ := [some (PAu T A), some (D K (dL S)), some (D K (dL ((List.range A.L).map fun i : Nat => (i : Int)))), some (D K (dBs (mksA A))), some (Own q4), some (D K (.int (Ks.length : Nat))), some (Own q6p), some (Own q7), some (D K (.int q)), some (D K (dT (A.row q))), g10, none]) (fun _ => true) ((ev_var (i := 2) rfl).weak le_dL) (by rw [List.length_map, List.length_range]; omega) (fun _ _ => et_yes)
        (fun a ha _ => by
          obtain ⟨an, han, rfl⟩ := List.mem_map.mp ha
          have han := List.mem_range.mp han
          rw [Int.toNat_natCast]
          have nS := C.next O qS han
          exact ev_dgetI (j := 2) (ev_var (i := 4) rfl) (ev_op (ev_var (i := 9) rfl) (ev_var (i := 11) rfl) (rv_ixDT (by omega) (by rw [Int.toNat_natCast]; exact nx_ix O qin han))) rfl (by rw [if_pos nS]))
      rw [filter_true, row_cl rl] at lc
      refine (q_asg (P := NKy (encK (kd A cl q))) (ev_tupK (ks := [.num (cl q), .tup (((A.row q).map cl).map .num)]) (ea_cons ((ev_dgetI (j := 2) (ev_var (i := 4) rfl) (ev_var (i := 8) rfl) rfl (by rw [if_pos qS])).weak nk_int) (ea_cons ((ev_cb (ea_cons (ev_newL (K := K) lc) ea_nil) rc_tupleNL).weak (MP.le_trans nk_T nk_y)) ea_nil)) (by simp)) ?_)
      clear lc
      dsimp only [List.set]
      have Kl : (ded ((S.take i).map (kd A cl))).length ≤ 1000 := by
        have := ded_le (l := (S.take i).map (kd A cl))
        rw [List.length_map, List.length_take] at this
        omega
      refine go_cut (fun Γ M => Γ = [some (PAu T A), some (D K (dL S)), some (D K (dL ((List.range A.L).map fun i : Nat => (i : Int)))), some (D K (dBs (mksA A))), some (Own q4), some (D K (.int (Ks.length : Nat))), some (Own q6p), some (Own q7), some (D K (.int q)), some (D K (dT (A.row q))), some (NKy (encK (kd A cl q))), none] ∧ M = [(q7, MDO (fun x => if x ∈ S.take i then some ((ix (ded ((S.take i).map (kd A cl))) (kd A cl x) : Nat) : Int) else none) i), (q6p, MDN P wo q6p (LK (ded ((S.take (i + 1)).map (kd A cl))))), (q4, MDO (fun x => if x ∈ S then some (cl x) else none) n)]) ?_ ?_
      · refine go_if (et_val (ev_dnotinN (K := K) (P := P) (w := wo) (j := 1) (key := encK (kd A cl q)) (ev_var (i := 10) rfl) (ev_var (i := 6) rfl) rfl encK_d)) (fun hz => ?_) fun hz => go_next (JA.of ⟨rfl, ?_⟩)
        · have hz : kd A cl q ∉ ded ((S.take i).map (kd A cl)) := fun z => by rw [lkN_LK, if_pos z] at hz; cases hz
          refine go_dputN (K := K) (P := P) (w := wo) (j := 1) (key := encK (kd A cl q)) (ev_lenN (K := K) (P := P) (w := wo) (j := 1) (ev_var (i := 6) rfl) rfl) (ev_var (i := 6) rfl) (ev_var (i := 10) rfl) rfl encK_d (by rw [LK_len]; omega) (JA.of ⟨rfl, ?_⟩)
          show [(q7, _), (q6p, MDN P wo q6p (ptN (LK (ded ((S.take i).map (kd A cl)))) (encK (kd A cl q)) ((LK (ded ((S.take i).map (kd A cl)))).length : Int))), (q4, _)] = _
          rw [ptN_new (by rw [lkN_LK, if_neg hz]), LK_len, tk, List.map_append]
          show _ = [(q7, _), (q6p, MDN P wo q6p (LK (ded ((S.take i).map (kd A cl) ++ [kd A cl q])))), (q4, _)]
          rw [ded_snoc, if_neg hz, LK_app]
        · have hz : kd A cl q ∈ ded ((S.take i).map (kd A cl)) := Classical.byContradiction fun z => by rw [lkN_LK, if_neg z] at hz; cases hz
          rw [tk, List.map_append]
          show _ = [(q7, _), (q6p, MDN P wo q6p (LK (ded ((S.take i).map (kd A cl) ++ [kd A cl q])))), (q4, _)]
          rw [ded_snoc, if_pos hz]
      rintro _ _ ⟨rfl, rfl⟩
      have kin : kd A cl q ∈ ded ((S.take (i + 1)).map (kd A cl)) := kd_mem (by rw [tk]; simp)
      refine go_dputI (j := 0) (v := ((ix (ded ((S.take (i + 1)).map (kd A cl))) (kd A cl q) : Nat) : Int)) (ev_dgetN (K := K) (P := P) (w := wo) (j := 1) (key := encK (kd A cl q)) (ev_var (i := 6) rfl) (ev_var (i := 10) rfl) rfl encK_d (by rw [lkN_LK, if_pos kin])) (ev_var (i := 7) rfl) (ev_var (i := 8) rfl) rfl (by omega) (JA.of ⟨_, _, _, rfl, ?_⟩)
      show [(q7, MDO (fun y => if y = q then some ((ix (ded ((S.take (i + 1)).map (kd A cl))) (kd A cl q) : Nat) : Int) else if y ∈ S.take i then some ((ix (ded ((S.take i).map (kd A cl))) (kd A cl y) : Nat) : Int) else none) (i + 1)), _, _] = _
      congr 3
      funext y
      by_cases c : y = q
      · subst c
        rw [if_pos rfl, if_pos (by rw [tk]; simp)]
      · rw [if_neg c]
        by_cases c2 : y ∈ S.take i
        · rw [if_pos c2, if_pos (by rw [tk]; exact List.mem_append_left _ c2), tk, List.map_append]
          show _ = some ((ix (ded ((S.take i).map (kd A cl) ++ [kd A cl q])) (kd A cl y) : Nat) : Int)
          rw [ded_idx (kd_mem c2)]
        · rw [if_neg c2, if_neg (by rw [tk]; simp [c, c2])]
    · rintro _ _ ⟨g8, g9, g10, rfl, rfl⟩
      rw [List.length_map, List.take_length]
      refine go_asg (ev_var (i := 7) rfl) ?_
      dsimp only [List.set]
      refine nx_drop (M' := [(q7, MDO (fun x => if x ∈ S then some ((ix (ded (S.map (kd A cl))) (kd A cl x) : Nat) : Int) else none) S.length), (q6p, MDN P wo q6p (LK (ded (S.map (kd A cl)))))]) (.cons₂ _ (.cons₂ _ (List.nil_sublist _))) ?_
      refine nx_perm (List.Perm.swap _ _ _) ?_
      refine JA.of ⟨_, ?_, kk + 1, Ks.length, _, q7, q6p, S.length, _, g8, g9, g10, rfl, ?_, hq7, hSl, R.next hcl, rfl⟩
      · have := R.pos Spos
        by_cases c : kk = 0
        · have := (R.zero c)
          rw [this.1, this.2, c]; simp
        · have := this c
          have k1 : min kk 1 = 1 := by omega
          have k2 : min (kk + 1) 1 = 1 := by omega
          rw [k1, k2]; omega
      · rw [hcl]; rfl
  · have hz : many ≠ 0 ∧ Ks.length ≤ many := by rw [LK_len] at hz; simp at hz; omega
    obtain ⟨j, rfl⟩ : ∃ j, kk = j + 2 := ⟨kk - 2, by have := R.ge2 hz.1; omega⟩
    have lab := lcl_inf O C (k := j) (m := j + 2) (by have e1 := R.two j rfl; have e2 := R.succ (j + 1) rfl; rw [e1, e2] at hz; exact hz.2) (by omega)
    refine nx_drop (M' := [(q4, _)]) (List.sublist_cons_self _ _) ?_
    exact go_retO (M2 := []) Le.refl (ev_var (i := 4) rfl) hq4 rfl (k.to fun F o h => ⟨lcl A S (j + 2), lab, mdo_le (by omega) (fun x => rfl) F o h⟩)
theorem use_state_classes {T : Txt K mg} {tr : TA} {Γ : Gm} {M M1 : Ms} {A : Au} {S : List Int} {X : XK} (h : EvA tr Γ M [PAu T A, D K (dL S), D K (dL ((List.range A.L).map fun i : Nat => (i : Int)))] M1) (hn : A.Ok ∧ Clo A S ∧ S ≠ [] ∧ S.length ≤ 1000 ∧ A.R.length ≤ 1000 ∧ A.L ≤ 1000) : EvN (tCall (sp_state_classes T) [] X tr) Γ M (MCls A S 2000) M1 :=
  calln0 h fun vs H Q z => ⟨A, S, hn, z⟩
/-! ### least -/
theorem sc_least : FnScope ["automaton", "classes", "numbers", "chosen", "rows", "row", "state", "marks", "finals", "number"] ["automaton"] (defScope s_least) := ⟨rfl, rfl, rfl, by decide +kernel, rfl, by decide +kernel, by decide +kernel⟩
def sp_least (T : Txt K mg) : Sp := fun vs H Q _ => ∃ (A : Au), (A.Ok ∧ A.R.length ≤ 1000 ∧ A.L ≤ 1000) ∧ Prom [PAu T A] [] (PAu T (minA A)) [] vs H Q
theorem sp_least_len {T : Txt K mg} {vs H Q E} (h : sp_least T vs H Q E) : vs.length = 1 := by obtain ⟨_, _, h⟩ := h; exact h.len
theorem use_state_classesX {T : Txt K mg} {tr : TA} {Γ : Gm} {M M1 : Ms} {A : Au} {X : XK} (h : EvA tr Γ M [PAu T A, PEx fun S : List Int => PAn ((Clo A S ∧ A.s ∈ S) ∧ S.length ≤ A.R.length) (D K (dL S)), D K (dL ((List.range A.L).map fun i : Nat => (i : Int)))] M1) (hn : A.Ok ∧ A.R.length ≤ 1000 ∧ A.L ≤ 1000) : EvN (tCall (sp_state_classes T) [] X tr) Γ M (MX fun S : List Int => MA ((Clo A S ∧ A.s ∈ S) ∧ S.length ≤ A.R.length) (MCls A S 2000)) M1 :=
  calln0 h fun vs H Q ⟨F, w, p, kk⟩ => by
    cases p with
    | cons p1 t =>
      cases t with
      | cons p2 t2 =>
        obtain ⟨S, hS, p2⟩ := p2
        exact ⟨A, S, ⟨hn.1, hS.1.1, (fun z => by have := hS.1.2; rw [z] at this; cases this), by have := hS.2; omega, hn.2.1, hn.2.2⟩, F, w, .cons p1 (.cons p2 t2), kk.to fun F o h => ⟨S, hS, h⟩⟩
/-- the numbers of the labels -/
def gN (c : Int → Int) (C : List Int) : Int → Option Int := fun l => if l ∈ C.map c then some ((ix (C.map c) l : Nat) : Int) else none
theorem gN_some {c : Int → Int} {C : List Int} {l : Int} (h : l ∈ C.map c) : gN c C l = some ((ix (C.map c) l : Nat) : Int) := by unfold gN; rw [if_pos h]
theorem gN_none {c : Int → Int} {C : List Int} {l : Int} (h : l ∉ C.map c) : gN c C l = none := by unfold gN; rw [if_neg h]
theorem gN_one {c : Int → Int} {s : Int} : gN c [s] = fun y => if y = c s then some 0 else none := by
  funext y
  unfold gN
  rw [List.map_cons, List.map_nil]
  by_cases e : y = c s
  · rw [if_pos (by rw [e]; simp), if_pos e, ix_cons, if_pos e.symm]; rfl
  · rw [if_neg (by simpa using e), if_neg e]
theorem gN_add {c : Int → Int} {C : List Int} {t : Int} (h : c t ∉ C.map c) : (fun y => if y = c t then some ((C.length : Nat) : Int) else gN c C y) = gN c (C ++ [t]) := by
  funext y
  show (if y = c t then some ((C.length : Nat) : Int) else gN c C y) = _
  unfold gN
  rw [List.map_append]
  by_cases e : y = c t
  · subst e
    rw [if_pos rfl, if_pos (by simp)]
    show _ = some ((ix (C.map c ++ [c t]) (c t) : Nat) : Int)
    rw [ix_new h, List.length_map]
  · rw [if_neg e]
    by_cases m : y ∈ C.map c
    · rw [if_pos m, if_pos (List.mem_append_left _ m), ix_app m]
    · rw [if_neg m, if_neg (by rw [List.mem_append]; rintro (z | z); exact m z; exact e (by simpa using z))]
theorem zipIdx_rg {xs : List Int} : xs.zipIdx = (List.range xs.length).map fun e => (xs.getD e 0, e) := by
  apply List.ext_getElem
  · simp
  · intro i h1 h2
    simp at h1
    simp [h1]
theorem enum_fin {K : PySem.W.Frag} {A : Au} : (((CC A).zipIdx.filter fun z => decide (z.1 ∈ A.F)).map fun z => D K (.int z.2)) = (minA A).F.map fun n => D K (.int n) := by
  rw [zipIdx_rg, List.filter_map, List.map_map]
  show _ = List.map _ (List.map _ (List.filter _ (List.range (CC A).length)))
  rw [List.map_map]; rfl
set_option maxHeartbeats 4000000 in
theorem ok_least (T : Txt K mg) : FnOk P wo K mg base CX0 4 T.f_least T.d_least ["automaton"] (sp_least T) := by
  have nd := (sc_least).nd
  refine T.F_least.ok sc_least (fun vs H Q E h => (sp_least_len h)) (fun cdv A outer s H vs Q E hr h => ?_)
  obtain ⟨A, ⟨O, hN, hL⟩, F, w, ps, k⟩ := h
  refine ⟨_, (pss_cons (ps_set (i := 1) nd rfl (Or.inl rfl) (pe_call (ok_state_classes T) (hr.mono (by decide)) rfl T.m_state_classes T.F_state_classes.kp T.b_state_classes .nil pass0 (pa_cons (pv 0) (pa_cons (pe_call (ok__reached_states T) (hr.mono (by decide)) rfl T.m__reached_states T.F__reached_states.kp T.b__reached_states .nil pass0 (pa_cons (pv 0) pa_nil)) (pa_cons (pe_listRg rfl (by rfl) T.z_list (prg_1 (by rfl) T.z_range (c_fld (K := K) rfl (pv 0) rfl))) pa_nil)))))
    (pss_cons (ps_set (i := 2) nd rfl (Or.inl rfl) (pe_disp (pps_cons (pe_dget (units1 hr) (pv 1) (c_fld (K := K) rfl (pv 0) rfl) (fun _ _ => rfl)) pe_int pps_nil) (by rfl) (by rfl) (by simp) (by simp)))
    (pss_cons (ps_set (i := 3) nd rfl (Or.inl rfl) (pe_lst (pa_cons (c_fld (K := K) rfl (pv 0) rfl) pa_nil)))
    (pss_cons (ps_set (i := 4) nd rfl (Or.inl rfl) (pe_lst pa_nil))
    (pss_cons (ps_while PassesOwn.never (pt_cmpR op_lt (pe_callB (c_len (K := K) rfl) (by rfl) T.z_len PySem.boot_len (pa_cons (pv 4) pa_nil)) (pe_callB (c_len (K := K) rfl) (by rfl) T.z_len PySem.boot_len (pa_cons (pv 3) pa_nil)) (nomark _)) (pss_cons (ps_set (i := 5) nd rfl (Or.inl rfl) (pe_lst pa_nil))
     (pss_cons (ps_for PassesOwn.never rfl (pi_tupK (K := K) rfl (pe_ix (c_ix (K := K) rfl) (c_fld (K := K) rfl (pv 0) rfl) (pe_ix (c_ix (K := K) rfl) (pv 3) (pe_callB (c_len (K := K) rfl) (by rfl) T.z_len PySem.boot_len (pa_cons (pv 4) pa_nil)) (fun _ _ => rfl)) (fun _ _ => rfl))) (pg_name (i := 6) nd rfl (by first | exact Or.inl rfl | exact Or.inr rfl))
      (Evl.pss_cut (ps_if (pt_cmp (pc_dnotin (units1 hr) (pe_dget (units1 hr) (pv 1) (pv 6) (fun _ _ => rfl)) (pv 2))) (pss_cons (ps_dput (units1 hr) (pv 2) (pe_dget (units1 hr) (pv 1) (pv 6) (fun _ _ => rfl)) (pe_callB (c_len (K := K) rfl) (by rfl) T.z_len PySem.boot_len (pa_cons (pv 3) pa_nil)) rfl)
       (pss_one (ps_expr (pe_bm PySem.F.plainAttrs_list PySem.F.slot_list_append PySem.F.type_list_append mt_append (pv 3) (pa_cons (pv 6) pa_nil))))) pss_nil)
      (pss_one (ps_expr (pe_bm PySem.F.plainAttrs_list PySem.F.slot_list_append PySem.F.type_list_append mt_append (pv 5) (pa_cons (pe_dget (units1 hr) (pv 2) (pe_dget (units1 hr) (pv 1) (pv 6) (fun _ _ => rfl)) (fun _ _ => rfl)) pa_nil))))))
     (pss_one (ps_expr (pe_bm PySem.F.plainAttrs_list PySem.F.slot_list_append PySem.F.type_list_append mt_append (pv 4) (pa_cons (pv 5) pa_nil)))))))
    (pss_cons (ps_set (i := 7) nd rfl (Or.inr rfl) (pe_call (ok_final_marks T) (hr.mono (by decide)) rfl T.m_final_marks T.F_final_marks.kp T.b_final_marks .nil pass0 (pa_cons (pv 0) pa_nil)))
    (pss_cons (ps_setLc (i := 8) (own := [("number", 9), ("state", 6)]) (by rfl) nd rfl rfl (sw_true rfl rfl rfl (by decide +kernel)) (pi_enumK (K := K) rfl (by rfl) T.z_enumerate (pa_cons (pv 3) pa_nil)) (blkOk_by (N := ["automaton", "classes", "numbers", "chosen", "rows", "row", "state", "marks", "finals", "number"]) (sc := defScope s_least) (own := [("number", 9), ("state", 6)]) (by decide +kernel)) (fun _ _ _ _ _ => pg_tupK (K := K) (n := 2) rfl (by rfl) (pgs_cons (pg_name (i := 9) nd rfl (by first | exact Or.inl rfl | exact Or.inr rfl)) (pgs_cons (pg_name (i := 6) nd rfl (by first | exact Or.inl rfl | exact Or.inr rfl)) pgs_nil))) (fun _ _ _ _ _ => (pts_one (pt_val (pe_ix (c_ix (K := K) rfl) (pv 7) (pv 6) (fun _ _ => rfl))))) (fun _ _ _ _ _ => (pv 9)))
    (pss_one (ps_ret (pe_make ⟨T.mk_Automaton, T.in_Automaton, T.if_Automaton, T.kc_Automaton⟩ (ok_Automaton_init T) (hr.mono (by decide)) rfl T.mc_Automaton T.b_Automaton_init .nil passL (pa_cons (c_fld (K := K) rfl (pv 0) rfl) (pa_cons pe_int (pa_cons (pv 8) (pa_cons (pv 4) pa_nil)))))))))))))), ?_⟩
  refine go_start w ps (Γ := [some (PAu T A), none, none, none, none, none, none, none, none, none]) rfl ?_
  have est : ∀ {Γ : Gm} {M : Ms}, Γ[0]? = some (some (PAu T A)) → Ev (tFld K (tVar 0) "start") Γ M (D K (.int A.s)) M := fun h => ev_fld (P := D K (.int A.s)) (fps := auF K A) (ev_var h) (by simp) T.cl_Automaton T.na_Automaton_start
  have elt : ∀ {Γ : Gm} {M : Ms}, Γ[0]? = some (some (PAu T A)) → Ev (tFld K (tVar 0) "letters") Γ M (D K (.int (A.L : Int))) M := fun h => ev_fld (P := D K (.int (A.L : Int))) (fps := auF K A) (ev_var h) (by simp) T.cl_Automaton T.na_Automaton_letters
  refine (q_asgN (use_state_classesX (ea_cons (ev_var (i := 0) rfl) (ea_cons (use__reached_states (ea_cons (ev_var (i := 0) rfl) ea_nil) ⟨O, hN⟩) (ea_cons ((ev_newL (K := K) (evn_listRg (elt rfl) (by omega))).weak dL_le) ea_nil))) ⟨O, hN, hL⟩) fun q1 hq1 => nx_exM (j := 0) rfl fun S => nx_anM (j := 0) rfl fun hS => nx_exM (j := 0) rfl fun c => nx_anM (j := 0) rfl fun lab => ?_)
  obtain ⟨⟨C, hs⟩, hSl⟩ := hS
  dsimp only [List.set]
  refine (q_asgN (evn_dispI (x := c A.s) (v := 0) (fun r => ev_dgetI (j := 1) (ev_var (i := 1) rfl) (est rfl) rfl (by rw [if_pos hs])) (fun M => (ev_int (K := K)))) fun q2 hq2 => ?_)
  dsimp only [List.set]
  refine (q_asgN (evn_lst (ps := [D K (.int A.s)]) (ea_cons (est rfl) ea_nil) (by simp)) fun q3 hq3 => ?_)
  dsimp only [List.set]
  refine (q_asgN (evn_lst ea_nil (by decide)) fun q4 hq4 => ?_)
  dsimp only [List.set]
  have chs := cC_chs C hs
  have clen := cC_len C hs
  refine (q_while (fun m Γ M => ∃ (i : Nat) (g5 g6 : Option MP), Γ = [some (PAu T A), some (Own q1), some (Own q2), some (Own q3), some (Own q4), g5, g6, none, none, none] ∧ M = [(q4, ML (((cC A i).take i).map fun cc => D K (dL (mrow A cc)))), (q3, MInts K (cC A i)), (q2, MDO (gN c (cC A i)) (cC A i).length), (q1, MDO (fun x => if x ∈ S then some (c x) else none) 2000)] ∧ i ≤ (cC A i).length ∧ m = A.R.length + 1 - i) (A.R.length + 1) ⟨0, none, none, rfl, ?_, Nat.zero_le _, rfl⟩ ?_)
  · show [(q4, ML []), (q3, ML [D K (.int A.s)]), (q2, _), _] = [(q4, ML []), (q3, ML [D K (.int A.s)]), (q2, MDO (gN c [A.s]) 1), _]
    rw [gN_one]
  rintro m _ _ ⟨i, g5, g6, rfl, rfl, hi, rfl⟩
  have il := clen i
  have rl : (((cC A i).take i).map fun cc => D K (dL (mrow A cc))).length = i := by rw [List.length_map, List.length_take]; omega
  have elr : ∀ {Γ : Gm} {M : Ms} {j : Nat}, Γ[4]? = some (some (Own q4)) → M[j]? = some (q4, ML (((cC A i).take i).map fun cc => D K (dL (mrow A cc)))) → Ev (tCB (rLn K) (tCons (tVar 4) tNil)) Γ M (D K (.int (i : Int))) M := fun h1 h2 => (ev_cb (ea_cons (ev_var h1) ea_nil) (rc_lenO h2)).is (by rw [rl])
  refine ⟨_, _, et_test (ev_op (elr (j := 0) rfl rfl) (ev_lenI (j := 1) (ev_var (i := 3) rfl) rfl) (rv_b0 (g := fun i j => decide (i < j)))), fun hz => ?_, fun hz => ?_⟩
  · have hz : i < (cC A i).length := by simp at hz; omega
    obtain ⟨cc, hcc⟩ : ∃ cc, (cC A i)[i]? = some cc := ⟨_, List.getElem?_eq_getElem hz⟩
    have ccS := (chs i).sub cc (List.mem_of_getElem? hcc)
    obtain ⟨cin, crow⟩ := C cc ccS
    have nxt := cC_next hcc
    obtain ⟨Mp, pre⟩ := cC_pre (A := A) (i + 1) (A.R.length - (i + 1))
    rw [show i + 1 + (A.R.length - (i + 1)) = A.R.length by omega] at pre
    have pre : CC A = cC A (i + 1) ++ Mp := pre
    refine (q_asgN (evn_lst ea_nil (by decide)) fun q5 hq5 => ?_)
    dsimp only [List.set]
    refine (q_forT ((ev_row (ev_var (i := 0) rfl) (ev_op (ev_var (i := 3) rfl) (elr (j := 1) rfl rfl) (rv_ixO (j := 2) (P := D K (.int cc)) rfl (by omega) (by rw [Int.toNat_natCast, List.getElem?_map, hcc]; rfl))) cin).weak le_dT) (fun j Γ M => ∃ g6 : Option MP, Γ = [some (PAu T A), some (Own q1), some (Own q2), some (Own q3), some (Own q4), some (Own q5), g6, none, none, none] ∧ M = [(q5, MInts K (((A.row cc).take j).map fun t => (idc A (CC A) t : Int))), (q4, ML (((cC A i).take i).map fun cc => D K (dL (mrow A cc)))), (q3, MInts K (((A.row cc).take j).foldl (st1 A) (cC A i))), (q2, MDO (gN c (((A.row cc).take j).foldl (st1 A) (cC A i))) (((A.row cc).take j).foldl (st1 A) (cC A i)).length), (q1, MDO (fun x => if x ∈ S then some (c x) else none) 2000)]) ⟨g6, rfl, by rw [List.take_zero]; rfl⟩ ?_ ?_)
    · rintro E' hE j Pm hPm _ _ ⟨g6, rfl, rfl⟩
      rw [List.getElem?_map] at hPm
      obtain ⟨t, ht, rfl⟩ := Option.map_eq_some_iff.mp hPm
      have tS := crow t (List.mem_of_getElem? ht)
      have tk : (A.row cc).take (j + 1) = (A.row cc).take j ++ [t] := by rw [List.take_add_one, ht]; rfl
      have cj : Chs A S (((A.row cc).take j).foldl (st1 A) (cC A i)) := (chs i).fold fun x hx => crow x (List.mem_of_mem_take hx)
      have cl1 : ∀ d ∈ (((A.row cc).take j).foldl (st1 A) (cC A i)), c d = c t ↔ eqI A d t := fun d hd => lab d (cj.sub d hd) t tS
      have cj1 : Chs A S (st1 A (((A.row cc).take j).foldl (st1 A) (cC A i)) t) := cj.step tS
      have cl2 : ∀ d ∈ (st1 A (((A.row cc).take j).foldl (st1 A) (cC A i)) t), c d = c t ↔ eqI A d t := fun d hd => lab d (cj1.sub d hd) t tS
      have fs1 : ((A.row cc).take (j + 1)).foldl (st1 A) (cC A i) = (st1 A (((A.row cc).take j).foldl (st1 A) (cC A i)) t) := by rw [tk, List.foldl_append]; rfl
      have cl : (((A.row cc).take j).foldl (st1 A) (cC A i)).length ≤ A.R.length := by
        obtain ⟨M2, e2⟩ := fold_pre (A := A) (ts := (A.row cc).drop j) (C := (((A.row cc).take j).foldl (st1 A) (cC A i)))
        rw [← List.foldl_append, List.take_append_drop, ← nxt] at e2
        have := clen (i + 1)
        rw [e2, List.length_append] at this
        omega
      have ecl : ∀ {Γ : Gm} {M : Ms} {jj : Nat}, Γ[1]? = some (some (Own q1)) → Γ[6]? = some (some (D K (.int t))) → M[jj]? = some (q1, MDO (fun x => if x ∈ S then some (c x) else none) 2000) → Ev (tDGet (tVar 1) (tVar 6)) Γ M (D K (.int (c t))) M := fun h1 h2 h3 => ev_dgetI (ev_var h1) (ev_var h2) h3 (by rw [if_pos tS])
      dsimp only [List.set]
      refine go_cut (fun Γ M => Γ = [some (PAu T A), some (Own q1), some (Own q2), some (Own q3), some (Own q4), some (Own q5), some (D K (.int t)), none, none, none] ∧ M = [(q5, MInts K (((A.row cc).take j).map fun t => (idc A (CC A) t : Int))), (q4, ML (((cC A i).take i).map fun cc => D K (dL (mrow A cc)))), (q3, MInts K (st1 A (((A.row cc).take j).foldl (st1 A) (cC A i)) t)), (q2, MDO (gN c (st1 A (((A.row cc).take j).foldl (st1 A) (cC A i)) t)) (st1 A (((A.row cc).take j).foldl (st1 A) (cC A i)) t).length), (q1, MDO (fun x => if x ∈ S then some (c x) else none) 2000)]) ?_ ?_
      · refine go_if (et_val (ev_dnotinI (j := 3) (ecl (jj := 4) rfl rfl rfl) (ev_var (i := 2) rfl) rfl)) (fun hz => ?_) fun hz => go_next (JA.of ⟨rfl, ?_⟩)
        · have hz : ¬ ∃ d ∈ (((A.row cc).take j).foldl (st1 A) (cC A i)), eqI A d t := fun z => by rw [gN_some ((mem_cl cl1).mpr z)] at hz; cases hz
          have e1 : (st1 A (((A.row cc).take j).foldl (st1 A) (cC A i)) t) = (((A.row cc).take j).foldl (st1 A) (cC A i)) ++ [t] := st1_new hz
          refine (q_dputI (j := 3) (ev_lenI (j := 2) (ev_var (i := 3) rfl) rfl) (ev_var (i := 2) rfl) (ecl (jj := 4) rfl rfl rfl) rfl (by omega) ?_)
          refine go_app (j := 2) (ev_var (i := 3) rfl) (ev_var (i := 6) rfl) rfl rfl (by rw [List.length_map]; omega) (JA.of ⟨rfl, ?_⟩)
          show [_, _, (q3, ML ((((A.row cc).take j).foldl (st1 A) (cC A i)).map (fun n => D K (.int n)) ++ [D K (.int t)])), (q2, MDO (fun y => if y = c t then some (((((A.row cc).take j).foldl (st1 A) (cC A i)).length : Nat) : Int) else gN c (((A.row cc).take j).foldl (st1 A) (cC A i)) y) ((((A.row cc).take j).foldl (st1 A) (cC A i)).length + 1)), _] = _
          rw [gN_add (fun z => hz ((mem_cl cl1).mp z)), e1, show MInts K ((((A.row cc).take j).foldl (st1 A) (cC A i)) ++ [t]) = ML ((((A.row cc).take j).foldl (st1 A) (cC A i)).map (fun n => D K (.int n)) ++ [D K (.int t)]) by rw [MInts, List.map_append]; rfl, List.length_append]; rfl
        · have hz : ∃ d ∈ (((A.row cc).take j).foldl (st1 A) (cC A i)), eqI A d t := Classical.byContradiction fun z => by rw [gN_none (fun y => z ((mem_cl cl1).mp y))] at hz; cases hz
          have e1 : (st1 A (((A.row cc).take j).foldl (st1 A) (cC A i)) t) = (((A.row cc).take j).foldl (st1 A) (cC A i)) := st1_old hz
          rw [e1]
      rintro _ _ ⟨rfl, rfl⟩
      have has : ∃ d ∈ (st1 A (((A.row cc).take j).foldl (st1 A) (cC A i)) t), eqI A d t := st1_has
      have val : gN c (st1 A (((A.row cc).take j).foldl (st1 A) (cC A i)) t) (c t) = some ((idc A (CC A) t : Nat) : Int) := by
        rw [gN_some ((mem_cl cl2).mpr has), ix_idc cl2]
        obtain ⟨M2, e2⟩ := fold_pre (A := A) (ts := (A.row cc).drop (j + 1)) (C := (st1 A (((A.row cc).take j).foldl (st1 A) (cC A i)) t))
        rw [← fs1, ← List.foldl_append, List.take_append_drop, ← nxt] at e2
        rw [pre, e2, fs1, List.append_assoc, idc_app has]
      refine go_app (j := 0) (ev_var (i := 5) rfl) (ev_dgetI (j := 3) (ev_var (i := 2) rfl) (ecl (jj := 4) rfl rfl rfl) rfl val) rfl rfl (by
        have := (O.R _ (Au.row_mem cin)).1
        rw [List.length_map, List.length_map, List.length_take]; omega) (JA.of ⟨_, rfl, ?_⟩)
      rw [fs1]
      show [(q5, ML ((((A.row cc).take j).map fun t => (idc A (CC A) t : Int)).map (fun n => D K (.int n)) ++ [D K (.int (idc A (CC A) t : Int))])), _, _, _, _] = _
      have er : MInts K (((A.row cc).take (j + 1)).map fun t => (idc A (CC A) t : Int)) = ML ((((A.row cc).take j).map fun t => (idc A (CC A) t : Int)).map (fun n => D K (.int n)) ++ [D K (.int (idc A (CC A) t : Int))]) := by rw [tk, MInts, List.map_append, List.map_append]; rfl
      rw [er]
    · rintro _ _ ⟨g6, rfl, rfl⟩
      rw [List.length_map, List.take_length, ← nxt]
      refine nx_freeze (K := K) (i := 5) 0 rfl hq5 rfl ?_
      dsimp only [List.set, List.eraseIdx]
      refine go_app (j := 0) (P := D K (dL (mrow A cc))) (ev_var (i := 4) rfl) ((ev_var (i := 5) rfl).weak (dL_le (l := mrow A cc))) rfl rfl (by rw [rl]; omega) (JA.of ⟨_, by omega, i + 1, _, g6, rfl, ?_, ?_, rfl⟩)
      · obtain ⟨M1, p1⟩ := cC_pre (A := A) i 1
        have e : (cC A (i + 1)).take (i + 1) = (cC A i).take i ++ [cc] := by
          rw [p1, List.take_append_of_le_length (by omega), List.take_add_one, hcc]; rfl
        rw [e, List.map_append]; rfl
      · obtain ⟨M1, p1⟩ := cC_pre (A := A) i 1
        rw [p1, List.length_append]; omega
  · have hz : (cC A i).length ≤ i := by simp at hz; omega
    have e := CC_eq C hs hz
    have tk : (cC A i).take i = CC A := by rw [e]; exact List.take_of_length_le (by rw [← e]; exact hz)
    rw [tk, e]
    have ccl : (CC A).length ≤ A.R.length := by rw [← e]; exact il
    refine (q_asg (use_final_marks (ea_cons (ev_var (i := 0) rfl) ea_nil) ⟨O, hN⟩) ?_)
    dsimp only [List.set]
    refine nx_freeze (K := K) (i := 3) 1 rfl hq3 rfl ?_
    dsimp only [List.set, List.eraseIdx]
    refine nx_freeze (K := K) (i := 4) 0 rfl hq4 rfl ?_
    dsimp only [List.set, List.eraseIdx]
    refine nx_drop (List.nil_sublist _) ?_
    have lc := evn_lcEnumL (K := K) (xs := CC A) (R := fun x => D K (.int x)) (G := fun z => D K (.int z.2)) (i := 9) (j := 6) (M := []) (M1 := []) (Γ := [some (PAu T A), some (Own q1), some (Own q2), some (PLi K ((CC A).map fun n => D K (.int n))), some (PLi K ((CC A).map fun cc => D K (dL (mrow A cc)))), g5, g6, some (D K (dBs (mksA A))), none, none]) (fun z => decide (z.1 ∈ A.F)) (by decide) (ev_var (i := 3) rfl) (by omega) (fun z hz => by
      have hz : z.1 ∈ CC A := by
        rw [zipIdx_rg] at hz
        obtain ⟨e, he, rfl⟩ := List.mem_map.mp hz
        have he := List.mem_range.mp he
        show (CC A).getD e 0 ∈ CC A
        rw [List.getD_eq_getElem?_getD, List.getElem?_eq_getElem he]
        exact List.getElem_mem he
      have zin := (C z.1 ((chs A.R.length).sub z.1 hz)).1
      exact et_val (ev_op (ev_var (i := 7) rfl) (ev_var (i := 6) rfl) (rv_ixDL zin.1 (mks_ix zin)))) (fun z _ _ => ev_var (i := 9) rfl)
    rw [enum_fin] at lc
    refine (q_asg (P := D K (dL (minA A).F)) ((ev_newL (K := K) lc).weak (dL_le (l := (minA A).F))) ?_)
    clear lc
    dsimp only [List.set]
    have eR : dLL (minA A).R = .list ((CC A).map fun cc => dL (mrow A cc)) := by
      show PyData.list (((CC A).map (mrow A)).map dL) = _
      rw [List.map_map]; rfl
    exact go_ret Le.refl (use_Automaton (A := minA A) (ea_cons (elt rfl) (ea_cons (ev_int) (ea_cons (ev_var (i := 8) rfl) (ea_cons (by rw [eR]; exact (ev_var (i := 4) rfl).weak (Lm_le (f := fun cc => dL (mrow A cc)))) ea_nil)))) (minA_ok O C hs) ⟨by
      show (List.map _ (List.filter _ (List.range (CC A).length))).length ≤ 1000
      rw [List.length_map]
      exact Nat.le_trans (List.length_filter_le _ _) (by rw [List.length_range]; omega), by show ((CC A).map _).length ≤ 1000; rw [List.length_map]; omega, hL⟩) k
theorem use_least {T : Txt K mg} {tr : TA} {Γ : Gm} {M M1 : Ms} {A : Au} {X : XK} (h : EvA tr Γ M [PAu T A] M1) (hn : A.Ok ∧ A.R.length ≤ 1000 ∧ A.L ≤ 1000) : Ev (tCall (sp_least T) [] X tr) Γ M (PAu T (minA A)) M1 :=
  call0 h fun vs H Q z => ⟨A, hn, z⟩
/-! ### _law_run -/
theorem sc__law_run : FnScope ["automaton", "word", "state", "letter"] ["automaton", "word"] (defScope s__law_run) := ⟨rfl, rfl, rfl, by decide +kernel, rfl, by decide +kernel, by decide +kernel⟩
/-- the law's automaton as data -/
abbrev dAu (A : Au) : PyData := .tuple [.int A.s, dL A.F, dLL A.R]
def sp__law_run (T : Txt K mg) : Sp := fun vs H Q _ => ∃ (A : Au) (w : List Int), (A.Ok ∧ LetOk A w ∧ w.length ≤ 1000) ∧ Prom [D K (dAu A), D K (dT w)] [] (D K (.int (runA A A.s w))) [] vs H Q
theorem sp__law_run_len {T : Txt K mg} {vs H Q E} (h : sp__law_run T vs H Q E) : vs.length = 2 := by obtain ⟨_, _, _, h⟩ := h; exact h.len
theorem row_ixL {A : Au} {q : Int} (h : A.In q) : (A.R.map dL)[q.toNat]? = some (dL (A.row q)) := by
  rw [List.getElem?_map, Au.row_at h]; rfl
set_option maxHeartbeats 4000000 in
theorem ok__law_run (T : Txt K mg) : FnOk P wo K mg base CX0 1 T.f__law_run T.d__law_run ["automaton", "word"] (sp__law_run T) := by
  have nd := (sc__law_run).nd
  refine T.F__law_run.ok sc__law_run (fun vs H Q E h => (sp__law_run_len h)) (fun cdv A outer s H vs Q E hr h => ?_)
  obtain ⟨A, w, ⟨O, hw, hl⟩, F, wd, ps, k⟩ := h
  refine ⟨_, (pss_cons (ps_set (i := 2) nd rfl (Or.inl rfl) (pe_ix (c_ix (K := K) rfl) (pv 0) pe_int (fun _ _ => rfl)))
    (pss_cons (ps_for PassesOwn.never rfl (pi_tupK (K := K) rfl (pv 1)) (pg_name (i := 3) nd rfl (by first | exact Or.inl rfl | exact Or.inr rfl))
     (pss_one (ps_set (i := 2) nd rfl (Or.inl rfl) (pe_ix (c_ix (K := K) rfl) (pe_ix (c_ix (K := K) rfl) (pe_ix (c_ix (K := K) rfl) (pv 0) pe_int (fun _ _ => rfl)) (pv 2) (fun _ _ => rfl)) (pv 3) (fun _ _ => rfl)))))
    (pss_one (ps_ret (pv 2))))), ?_⟩
  refine go_start wd ps (Γ := [some (D K (dAu A)), some (D K (dT w)), none, none]) rfl ?_
  refine (q_asg (P := D K (.int A.s)) (ev_op (ev_var (i := 0) rfl) (ev_int (K := K) (i := 0)) (rv_ixDT (by omega) rfl)) ?_)
  dsimp only [List.set]
  refine (q_forT ((ev_var (i := 1) rfl).weak le_dT) (fun j Γ M => ∃ (g3 : Option MP), Γ = [some (D K (dAu A)), some (D K (dT w)), some (D K (.int (runA A A.s (w.take j)))), g3] ∧ M = []) ⟨none, rfl, rfl⟩ ?_ ?_)
  · rintro E2 hE2 j Pm hPm _ _ ⟨g3, rfl, rfl⟩
    rw [List.getElem?_map] at hPm
    obtain ⟨a, ha, rfl⟩ := Option.map_eq_some_iff.mp hPm
    have ha2 := hw a (List.mem_of_getElem? ha)
    have hin := runA_in O O.s (w := w.take j) fun b hb => hw b (List.mem_of_mem_take hb)
    dsimp only [List.set]
    refine go_asg (P := D K (.int (runA A A.s (w.take (j + 1))))) ((ev_op (ev_op (ev_op (ev_var (i := 0) rfl) (ev_int (K := K) (i := 2)) (rv_ixDT (d := dLL A.R) (by omega) rfl)) (ev_var (i := 2) rfl) (rv_ixDL hin.1 (row_ixL hin))) (ev_var (i := 3) rfl) (rv_ixDL (by omega) (nx_ix O hin (by omega)))).is ?_) (JA.of ⟨_, rfl, rfl⟩)
    rw [List.take_add_one, ha, Option.toList_some, runA_snoc]
  · rintro _ _ ⟨g3, rfl, rfl⟩
    rw [List.length_map, List.take_length]
    exact go_ret Le.refl (ev_var (i := 2) rfl) k
theorem use__law_run {T : Txt K mg} {tr : TA} {Γ : Gm} {M M1 : Ms} {A : Au} {w : List Int} {X : XK} (h : EvA tr Γ M [D K (dAu A), D K (dT w)] M1) (hn : A.Ok ∧ LetOk A w ∧ w.length ≤ 1000) : Ev (tCall (sp__law_run T) [] X tr) Γ M (D K (.int (runA A A.s w))) M1 :=
  call0 h fun vs H Q z => ⟨A, w, hn, z⟩
/-! ### _law_any_automaton -/
theorem sc__law_any_automaton : FnScope ["draws", "letters", "most", "size", "rows", "finals", "k", "letter"] ["draws", "letters", "most"] (defScope s__law_any_automaton) := ⟨rfl, rfl, rfl, by decide +kernel, rfl, by decide +kernel, by decide +kernel⟩
def sp__law_any_automaton (T : Txt K mg) : Sp := fun vs H Q _ => ∃ (d : Addr) (n m : Int), (1 ≤ n ∧ n ≤ 100 ∧ 1 ≤ m ∧ m ≤ 100) ∧ Prom [Own d, D K (.int n), D K (.int m)] [(d, MDr K)] (PEx fun A : Au => PAn (A.Ok ∧ (A.L : Int) = n ∧ A.R.length ≤ m) (PTu K [D K (.int A.s), D K (dL A.F), D K (dLL A.R)])) [(d, MDr K)] vs H Q
theorem sp__law_any_automaton_len {T : Txt K mg} {vs H Q E} (h : sp__law_any_automaton T vs H Q E) : vs.length = 3 := by obtain ⟨_, _, _, _, h⟩ := h; exact h.len
theorem le_frN {K : PySem.W.Frag} {l : List Nat} : (PLi K (l.map fun x : Nat => D K (.int (x : Int)))).le (D K (dL (l.map fun x : Nat => (x : Int)))) := fun F v h => dL_le (K := K) F v (by rw [List.map_map]; exact h)
set_option maxHeartbeats 4000000 in
theorem ok__law_any_automaton (T : Txt K mg) : FnOk P wo K mg base CX0 2 T.f__law_any_automaton T.d__law_any_automaton ["draws", "letters", "most"] (sp__law_any_automaton T) := by
  have nd := (sc__law_any_automaton).nd
  refine T.F__law_any_automaton.ok sc__law_any_automaton (fun vs H Q E h => (sp__law_any_automaton_len h)) (fun cdv A outer s H vs Q E hr h => ?_)
  obtain ⟨d, n, m, ⟨n1, n2, m1, m2⟩, F, w, ps, k⟩ := h
  refine ⟨_, (pss_cons (ps_set (i := 3) nd rfl (Or.inr rfl) (pe_op op_add pe_int (pe_call (ok__law_take T) (hr.mono (by decide)) rfl T.m__law_take T.F__law_take.kp T.b__law_take .nil pass0 (pa_cons (pv 0) (pa_cons (pv 2) pa_nil)))))
    (pss_cons (ps_setLc (i := 4) (own := [("k", 6)]) (by rfl) nd rfl rfl (sw_true rfl rfl rfl (by decide +kernel)) (pi_range1 (by rfl) T.z_range (pa_cons (pv 3) pa_nil)) (blkOk_by (N := ["draws", "letters", "most", "size", "rows", "finals", "k", "letter"]) (sc := defScope s__law_any_automaton) (own := [("k", 6)]) (by decide +kernel)) (fun _ _ _ _ _ => pg_name (i := 6) nd rfl (by first | exact Or.inl rfl | exact Or.inr rfl)) (fun _ _ _ _ _ => pts_nil) (fun _ _ _ _ _ => (pe_lc (own := [("letter", 7)]) (by rfl) nd (pi_range1 (by rfl) T.z_range (pa_cons (pv 1) pa_nil)) (blkOk_by (N := ["draws", "letters", "most", "size", "rows", "finals", "k", "letter"]) (sc := (relS ({ kind := PySem.ScopeKind.function, names := [ (PySem.Str.ofString ".0", PySem.NameKind.local), (PySem.Str.ofString "k", PySem.NameKind.local), (PySem.Str.ofString "range", PySem.NameKind.globalImplicit), (PySem.Str.ofString "draws", PySem.NameKind.free), (PySem.Str.ofString "letters", PySem.NameKind.free), (PySem.Str.ofString "size", PySem.NameKind.free)], isGenerator := false, isCoroutine := false, more := [] : PySem.Scope }) (defScope s__law_any_automaton))) (own := [("letter", 7)]) (by decide +kernel)) (fun _ _ _ _ _ => pg_name (i := 7) nd rfl (by first | exact Or.inl rfl | exact Or.inr rfl)) (fun _ _ _ _ _ => pts_nil) (fun _ _ _ _ _ => (pe_call (ok__law_take T) (hr.mono (by decide)) rfl T.m__law_take T.F__law_take.kp T.b__law_take .nil pass0 (pa_cons (pv 0) (pa_cons (pv 3) pa_nil)))))))
    (pss_cons (ps_setLc (i := 5) (own := [("k", 6)]) (by rfl) nd rfl rfl (sw_true rfl rfl rfl (by decide +kernel)) (pi_range1 (by rfl) T.z_range (pa_cons (pv 3) pa_nil)) (blkOk_by (N := ["draws", "letters", "most", "size", "rows", "finals", "k", "letter"]) (sc := defScope s__law_any_automaton) (own := [("k", 6)]) (by decide +kernel)) (fun _ _ _ _ _ => pg_name (i := 6) nd rfl (by first | exact Or.inl rfl | exact Or.inr rfl)) (fun _ _ _ _ _ => (pts_one (pt_cmpR op_eq (pe_call (ok__law_take T) (hr.mono (by decide)) rfl T.m__law_take T.F__law_take.kp T.b__law_take .nil pass0 (pa_cons (pv 0) (pa_cons pe_int pa_nil))) pe_int (nomark _)))) (fun _ _ _ _ _ => (pv 6)))
    (pss_one (ps_ret (pe_tup (pa_cons (pe_call (ok__law_take T) (hr.mono (by decide)) rfl T.m__law_take T.F__law_take.kp T.b__law_take .nil pass0 (pa_cons (pv 0) (pa_cons (pv 3) pa_nil))) (pa_cons (pv 5) (pa_cons (pv 4) pa_nil))))))))), ?_⟩
  refine go_start w ps (Γ := [some (Own d), some (D K (.int n)), some (D K (.int m)), none, none, none, none, none]) rfl ?_
  refine (q_asg (ev_op (ev_int (K := K) (i := 1)) (use__law_take (n := m) (ea_cons (ev_var (i := 0) rfl) (ea_cons (ev_var (i := 2) rfl) ea_nil)) (by omega) (j := 0) rfl) rv_addIn) (nx_ex (i := 3) rfl fun z => nx_an (i := 3) rfl fun hz => ?_))
  obtain ⟨N, rfl⟩ := Int.eq_ofNat_of_zero_le (by omega : 0 ≤ z)
  dsimp only [List.set]
  have rowE : ∀ x : Nat, Ev (tLc (iRng1 (tCons (tVar 1) tNil)) (gName 7) tYes (tCall (sp__law_take T) [] E0 (tCons (tVar 0) (tCons (tVar 3) tNil))) [7]) [some (Own d), some (D K (.int n)), some (D K (.int m)), some (D K (.int (N : Int))), none, none, some (D K (.int (x : Int))), none] [(d, MDr K)] (PEx fun r : List Int => PAn (r.length = n.toNat ∧ ∀ y ∈ r, 0 ≤ y ∧ y < (N : Int)) (D K (dL r))) [(d, MDr K)] := fun x => by
    have lc := evn_lcR (K := K) (z := n) (i := 7) (G := fun _ => PIn K 0 (N : Int)) (M := [(d, MDr K)]) (M1 := [(d, MDr K)]) (Γ := [some (Own d), some (D K (.int n)), some (D K (.int m)), some (D K (.int (N : Int))), none, none, some (D K (.int (x : Int))), none]) (fun _ => true) (ea_cons (ev_var (i := 1) rfl) ea_nil) (by omega) (fun _ _ => et_yes)
      (fun _ _ _ => use__law_take (T := T) (X := E0) (ea_cons (ev_var (i := 0) rfl) (ea_cons (ev_var (i := 3) rfl) ea_nil)) (by omega) (j := 0) rfl)
    rw [filter_true, map_const, List.length_range] at lc
    exact (ev_fr (lc.weak ml_name)).weak (MP.le_trans fr_X (PEx.le fun xs => MP.le_trans fr_A (PAn.le fun _ => MP.le_trans (fr_L (K := K)) (dL_le (l := xs)))))
  have lc := evn_lcR (K := K) (z := (N : Int)) (i := 6) (G := fun _ => PEx fun r : List Int => PAn (r.length = n.toNat ∧ ∀ y ∈ r, 0 ≤ y ∧ y < (N : Int)) (D K (dL r))) (M := [(d, MDr K)]) (M1 := [(d, MDr K)]) (Γ := [some (Own d), some (D K (.int n)), some (D K (.int m)), some (D K (.int (N : Int))), none, none, none, none]) (t := tYes) (fun _ => true) (ea_cons (ev_var (i := 3) rfl) ea_nil) (by omega) (fun _ _ => et_yes) (fun x _ _ => rowE x)
  rw [filter_true, map_const, List.length_range, Int.toNat_natCast] at lc
  refine (q_asgN (lc.weak ml_name) fun q4 hq4 => nx_exM (j := 0) rfl fun R => nx_anM (j := 0) rfl fun hR => ?_)
  clear lc rowE
  dsimp only [List.set]
  refine nx_freeze (K := K) (i := 4) 0 rfl hq4 rfl ?_
  dsimp only [List.set, List.eraseIdx]
  refine (q_asgN (evn_lcRD (K := K) (z := (N : Int)) (G := fun x : Nat => D K (.int (x : Int))) (ea_cons (ev_var (i := 3) rfl) ea_nil) (by omega) (fun x _ => et_testX (φ := fun _ => True) (ev_op (use__law_take (n := 2) (ea_cons (ev_var (i := 0) rfl) (ea_cons (ev_int (K := K) (i := 2)) ea_nil)) (by decide) (j := 0) rfl) (ev_int (K := K) (i := 0)) rv_eqX)) (fun x _ => ev_var (i := 6) rfl)) fun q5 hq5 => nx_exM (j := 0) rfl fun C0 => nx_anM (j := 0) rfl fun hC0 => ?_)
  dsimp only [List.set]
  rw [Int.toNat_natCast] at hC0
  refine nx_freeze (K := K) (i := 5) 0 rfl hq5 rfl ?_
  dsimp only [List.set, List.eraseIdx]
  have Fm : ∀ x ∈ C0, x < N := fun x hx => List.mem_range.mp (hC0.subset hx)
  refine go_ret Le.refl ((ev_tup (K := K) (ps := [PIn K 0 (N : Int), D K (dL (C0.map fun x : Nat => (x : Int))), D K (dLL R)]) (ea_cons (use__law_take (n := (N : Int)) (ea_cons (ev_var (i := 0) rfl) (ea_cons (ev_var (i := 3) rfl) ea_nil)) (by omega) (j := 0) rfl) (ea_cons ((ev_var (i := 5) rfl).weak (le_frN (l := C0))) (ea_cons ((ev_var (i := 4) rfl).weak (Lm_le (f := dL))) ea_nil))) (by simp)).weak (P' := PEx fun A : Au => PAn (A.Ok ∧ (A.L : Int) = n ∧ A.R.length ≤ m) (PTu K [D K (.int A.s), D K (dL A.F), D K (dLL A.R)])) ?_) k
  intro F v h
  obtain ⟨p, vs, e, s, q⟩ := h
  cases q with
  | cons p1 q =>
    obtain ⟨s0, hs0, p1⟩ := p1
    refine ⟨⟨n.toNat, s0, C0.map fun x : Nat => (x : Int), R⟩, ⟨⟨by show 1 ≤ n.toNat; omega, ⟨hs0.1, by show s0 < (R.length : Int); rw [hR.1]; exact hs0.2⟩, fun x hx => ?_, ?_, fun r hr => ⟨(hR.2 r hr).1, fun x hx => ?_⟩⟩, by show ((n.toNat : Nat) : Int) = n; omega, by show (R.length : Int) ≤ m; rw [hR.1]; omega⟩, p, _, e, s, .cons p1 q⟩
    · obtain ⟨y, hy, rfl⟩ := List.mem_map.mp hx
      have := Fm y hy
      exact ⟨by omega, by show (y : Int) < (R.length : Int); rw [hR.1]; omega⟩
    · show (List.map _ C0).Pairwise (· < ·)
      rw [List.pairwise_map]
      exact (List.pairwise_lt_range.sublist hC0).imp fun h => by omega
    · have := (hR.2 r hr).2 x hx
      exact ⟨this.1, by show x < (R.length : Int); rw [hR.1]; exact this.2⟩
theorem use__law_any_automaton {T : Txt K mg} {tr : TA} {Γ : Gm} {M M1 : Ms} {d : Addr} {n m : Int} {j : Nat} {X : XK} (h : EvA tr Γ M [Own d, D K (.int n), D K (.int m)] M1) (hn : 1 ≤ n ∧ n ≤ 100 ∧ 1 ≤ m ∧ m ≤ 100) (e : M1[j]? = some (d, MDr K)) : Ev (tCall (sp__law_any_automaton T) [] X tr) Γ M (PEx fun A : Au => PAn (A.Ok ∧ (A.L : Int) = n ∧ A.R.length ≤ m) (PTu K [D K (.int A.s), D K (dL A.F), D K (dLL A.R)])) M1 :=
  call1 h e fun vs H Q z => ⟨d, n, m, hn, z⟩
/-! ### _law_smallest -/
theorem sc__law_smallest : FnScope ["automaton", "start", "finals", "rows", "classes", "turn", "signs", "order", "sign", "found", "table", "at", "state", "row", "target", "ends", "k"] ["automaton"] (defScope s__law_smallest) := ⟨rfl, rfl, rfl, by decide +kernel, rfl, by decide +kernel, by decide +kernel⟩
def sp__law_smallest (T : Txt K mg) : Sp := fun vs H Q _ => ∃ (A : Au), (A.Ok ∧ A.R.length ≤ 100 ∧ A.L ≤ 100) ∧ Prom [D K (dAu A)] [] (D K (.tuple [.int 0, dT (minA A).F, dTT (minA A).R])) [] vs H Q
theorem sp__law_smallest_len {T : Txt K mg} {vs H Q E} (h : sp__law_smallest T vs H Q E) : vs.length = 1 := by obtain ⟨_, _, h⟩ := h; exact h.len
theorem in_ex {α : Type} {R : α → MP} {φ : α → Prop} (x : α) (h : φ x) : (R x).le (PEx fun x => PAn (φ x) (R x)) := fun F v p => ⟨x, h, p⟩
/-- all states -/
def allS (A : Au) : List Int := (List.range A.R.length).map fun k : Nat => (k : Int)
theorem allS_mem {A : Au} {q : Int} (h : A.In q) : q ∈ allS A := List.mem_map.mpr ⟨q.toNat, List.mem_range.mpr (by obtain ⟨h1, h2⟩ := h; omega), Int.toNat_of_nonneg h.1⟩
theorem allS_clo {A : Au} (O : A.Ok) : Clo A (allS A) := fun q hq => by
  obtain ⟨k, hk, rfl⟩ := List.mem_map.mp hq
  have hk := List.mem_range.mp hk
  have h : A.In (k : Int) := ⟨by omega, by omega⟩
  exact ⟨h, fun x hx => allS_mem ((O.R _ (Au.row_mem h)).2 x hx)⟩
abbrev sgD (k : Knd) : PyData := .tuple [.int k.1, dT k.2]
theorem enc_sg : Enc sgD 3 := enc_pair enc_int enc_dT
theorem ix_min {β : Type} [DecidableEq β] {x : β} : ∀ {K : List β} {m : Nat}, m < ix K x → K[m]? ≠ some x
  | [], m, h => by simp [ix] at h
  | y :: K, m, h => by
    rw [ix_cons] at h
    by_cases c : y = x
    · rw [if_pos c] at h; omega
    · rw [if_neg c] at h
      cases m with
      | zero => intro z; exact c (Option.some.inj z)
      | succ m => rw [List.getElem?_cons_succ]; exact ix_min (by omega)
theorem idxOf_ix {β : Type} [DecidableEq β] [BEq β] [LawfulBEq β] {x : β} : ∀ {K : List β}, K.idxOf x = ix K x
  | [] => rfl
  | y :: K => by
    rw [ix_cons, List.idxOf_cons, idxOf_ix (K := K)]
    by_cases c : y = x
    · subst c; simp
    · have h : (y == x) = false := by simpa using c
      simp [c, h]
set_option maxHeartbeats 4000000 in
theorem ok__law_smallest (T : Txt K mg) : FnOk P wo K mg base CX0 1 T.f__law_smallest T.d__law_smallest ["automaton"] (sp__law_smallest T) := by
  have nd := (sc__law_smallest).nd
  refine T.F__law_smallest.ok sc__law_smallest (fun vs H Q E h => (sp__law_smallest_len h)) (fun cdv A outer s H vs Q E hr h => ?_)
  obtain ⟨A, ⟨O, hN, hL⟩, F, w, ps, k⟩ := h
  refine ⟨_, (pss_cons (ps_asg (pv 0) (pg_tupK (K := K) (n := 3) rfl (by rfl) (pgs_cons (pg_name (i := 1) nd rfl (by first | exact Or.inl rfl | exact Or.inr rfl)) (pgs_cons (pg_name (i := 2) nd rfl (by first | exact Or.inl rfl | exact Or.inr rfl)) (pgs_cons (pg_name (i := 3) nd rfl (by first | exact Or.inl rfl | exact Or.inr rfl)) pgs_nil)))))
    (pss_cons (ps_set (i := 4) nd rfl (Or.inr rfl) (pe_lc (own := [("k", 16)]) (by rfl) nd (pi_range1 (by rfl) T.z_range (pa_cons (pe_callB (c_len (K := K) rfl) (by rfl) T.z_len PySem.boot_len (pa_cons (pv 3) pa_nil)) pa_nil)) (blkOk_by (N := ["automaton", "start", "finals", "rows", "classes", "turn", "signs", "order", "sign", "found", "table", "at", "state", "row", "target", "ends", "k"]) (sc := defScope s__law_smallest) (own := [("k", 16)]) (by decide +kernel)) (fun _ _ _ _ _ => pg_name (i := 16) nd rfl (by first | exact Or.inl rfl | exact Or.inr rfl)) (fun _ _ _ _ _ => pts_nil) (fun _ _ _ _ _ => (pe_callTy call_int1 (by rfl) T.z_int (by decide +kernel) (pa_cons (pe_cmpR (c_in (K := K) rfl) (pv 16) (pv 2) (by rfl)) pa_nil)))))
    (pss_cons (ps_for PassesOwn.never rfl (pi_range1 (by rfl) T.z_range (pa_cons (pe_callB (c_len (K := K) rfl) (by rfl) T.z_len PySem.boot_len (pa_cons (pv 3) pa_nil)) pa_nil)) (pg_name (i := 5) nd rfl (by first | exact Or.inl rfl | exact Or.inr rfl))
     (pss_cons (ps_setLc (i := 6) (own := [("k", 16)]) (by rfl) nd rfl rfl (sw_true rfl rfl rfl (by decide +kernel)) (pi_range1 (by rfl) T.z_range (pa_cons (pe_callB (c_len (K := K) rfl) (by rfl) T.z_len PySem.boot_len (pa_cons (pv 3) pa_nil)) pa_nil)) (blkOk_by (N := ["automaton", "start", "finals", "rows", "classes", "turn", "signs", "order", "sign", "found", "table", "at", "state", "row", "target", "ends", "k"]) (sc := defScope s__law_smallest) (own := [("k", 16)]) (by decide +kernel)) (fun _ _ _ _ _ => pg_name (i := 16) nd rfl (by first | exact Or.inl rfl | exact Or.inr rfl)) (fun _ _ _ _ _ => pts_nil) (fun _ _ _ _ _ => (pe_tup (pa_cons (pe_ix (c_ix (K := K) rfl) (pv 4) (pv 16) (fun _ _ => rfl)) (pa_cons (pe_callTy (c_tuple (K := K) rfl) (by rfl) T.z_tuple (by decide +kernel) (pa_cons (pe_lc (own := [("target", 14)]) (by rfl) nd (pi_listK (K := K) rfl (pe_ix (c_ix (K := K) rfl) (pv 3) (pv 16) (fun _ _ => rfl))) (blkOk_by (N := ["automaton", "start", "finals", "rows", "classes", "turn", "signs", "order", "sign", "found", "table", "at", "state", "row", "target", "ends", "k"]) (sc := (relS ({ kind := PySem.ScopeKind.function, names := [ (PySem.Str.ofString ".0", PySem.NameKind.local), (PySem.Str.ofString "k", PySem.NameKind.local), (PySem.Str.ofString "tuple", PySem.NameKind.globalImplicit), (PySem.Str.ofString "classes", PySem.NameKind.free), (PySem.Str.ofString "rows", PySem.NameKind.free)], isGenerator := false, isCoroutine := false, more := [] : PySem.Scope }) (defScope s__law_smallest))) (own := [("target", 14)]) (by decide +kernel)) (fun _ _ _ _ _ => pg_name (i := 14) nd rfl (by first | exact Or.inl rfl | exact Or.inr rfl)) (fun _ _ _ _ _ => pts_nil) (fun _ _ _ _ _ => (pe_ix (c_ix (K := K) rfl) (pv 4) (pv 14) (fun _ _ => rfl)))) pa_nil)) pa_nil)))))
     (pss_cons (ps_set (i := 7) nd rfl (Or.inr rfl) (pe_lst pa_nil))
     (pss_cons (ps_for PassesOwn.never rfl (pi_listK (K := K) rfl (pv 6)) (pg_name (i := 8) nd rfl (by first | exact Or.inl rfl | exact Or.inr rfl))
      (pss_one (ps_if (pt_cmpR (c_notInD (K := K) rfl (units65 hr)) (pv 8) (pv 7) (by rfl)) (pss_one (ps_expr (pe_bm PySem.F.plainAttrs_list PySem.F.slot_list_append PySem.F.type_list_append mt_append (pv 7) (pa_cons (pv 8) pa_nil)))) pss_nil)))
     (pss_one (ps_set (i := 4) nd rfl (Or.inr rfl) (pe_lc (own := [("sign", 8)]) (by rfl) nd (pi_listK (K := K) rfl (pv 6)) (blkOk_by (N := ["automaton", "start", "finals", "rows", "classes", "turn", "signs", "order", "sign", "found", "table", "at", "state", "row", "target", "ends", "k"]) (sc := defScope s__law_smallest) (own := [("sign", 8)]) (by decide +kernel)) (fun _ _ _ _ _ => pg_name (i := 8) nd rfl (by first | exact Or.inl rfl | exact Or.inr rfl)) (fun _ _ _ _ _ => pts_nil) (fun _ _ _ _ _ => (c_bm (K := K) rfl PySem.F.plainAttrs_list PySem.F.slot_list_index PySem.F.type_list_index (c_indexD (K := K) rfl (units65 hr)) (pv 7) (pa_cons (pv 8) pa_nil))))))))))
    (pss_cons (ps_set (i := 9) nd rfl (Or.inr rfl) (pe_lst (pa_cons (pe_ix (c_ix (K := K) rfl) (pv 4) (pv 1) (fun _ _ => rfl)) pa_nil)))
    (pss_cons (ps_set (i := 10) nd rfl (Or.inl rfl) (pe_lst pa_nil))
    (pss_cons (ps_for PassesOwn.never rfl (pi_range1 (by rfl) T.z_range (pa_cons (pe_callB (c_len (K := K) rfl) (by rfl) T.z_len PySem.boot_len (pa_cons (pv 3) pa_nil)) pa_nil)) (pg_name (i := 11) nd rfl (by first | exact Or.inl rfl | exact Or.inr rfl))
     (pss_one (ps_if (pt_cmpR op_lt (pv 11) (pe_callB (c_len (K := K) rfl) (by rfl) T.z_len PySem.boot_len (pa_cons (pv 9) pa_nil)) (nomark _)) (pss_cons (ps_set (i := 12) nd rfl (Or.inl rfl) (c_bm (K := K) rfl PySem.F.plainAttrs_list PySem.F.slot_list_index PySem.F.type_list_index (c_lindex (K := K) rfl) (pv 4) (pa_cons (pe_ix (c_ix (K := K) rfl) (pv 9) (pv 11) (fun _ _ => rfl)) pa_nil)))
      (pss_cons (ps_set (i := 13) nd rfl (Or.inl rfl) (pe_lst pa_nil))
      (pss_cons (ps_for PassesOwn.never rfl (pi_listK (K := K) rfl (pe_ix (c_ix (K := K) rfl) (pv 3) (pv 12) (fun _ _ => rfl))) (pg_name (i := 14) nd rfl (by first | exact Or.inl rfl | exact Or.inr rfl))
       (Evl.pss_cut (ps_if (pt_cmpR (c_notIn (K := K) rfl) (pe_ix (c_ix (K := K) rfl) (pv 4) (pv 14) (fun _ _ => rfl)) (pv 9) (by rfl)) (pss_one (ps_expr (pe_bm PySem.F.plainAttrs_list PySem.F.slot_list_append PySem.F.type_list_append mt_append (pv 9) (pa_cons (pe_ix (c_ix (K := K) rfl) (pv 4) (pv 14) (fun _ _ => rfl)) pa_nil)))) pss_nil)
       (pss_one (ps_expr (pe_bm PySem.F.plainAttrs_list PySem.F.slot_list_append PySem.F.type_list_append mt_append (pv 13) (pa_cons (c_bm (K := K) rfl PySem.F.plainAttrs_list PySem.F.slot_list_index PySem.F.type_list_index (c_lindex (K := K) rfl) (pv 9) (pa_cons (pe_ix (c_ix (K := K) rfl) (pv 4) (pv 14) (fun _ _ => rfl)) pa_nil)) pa_nil))))))
      (pss_one (ps_expr (pe_bm PySem.F.plainAttrs_list PySem.F.slot_list_append PySem.F.type_list_append mt_append (pv 10) (pa_cons (pe_callTy (c_tuple (K := K) rfl) (by rfl) T.z_tuple (by decide +kernel) (pa_cons (pv 13) pa_nil)) pa_nil))))))) pss_nil)))
    (pss_cons (ps_setLc (i := 15) (own := [("k", 16)]) (by rfl) nd rfl rfl (sw_true rfl rfl rfl (by decide +kernel)) (pi_range1 (by rfl) T.z_range (pa_cons (pe_callB (c_len (K := K) rfl) (by rfl) T.z_len PySem.boot_len (pa_cons (pv 9) pa_nil)) pa_nil)) (blkOk_by (N := ["automaton", "start", "finals", "rows", "classes", "turn", "signs", "order", "sign", "found", "table", "at", "state", "row", "target", "ends", "k"]) (sc := defScope s__law_smallest) (own := [("k", 16)]) (by decide +kernel)) (fun _ _ _ _ _ => pg_name (i := 16) nd rfl (by first | exact Or.inl rfl | exact Or.inr rfl)) (fun _ _ _ _ _ => (pts_one (pt_cmpR (c_in (K := K) rfl) (c_bm (K := K) rfl PySem.F.plainAttrs_list PySem.F.slot_list_index PySem.F.type_list_index (c_lindex (K := K) rfl) (pv 4) (pa_cons (pe_ix (c_ix (K := K) rfl) (pv 9) (pv 16) (fun _ _ => rfl)) pa_nil)) (pv 2) (by rfl)))) (fun _ _ _ _ _ => (pv 16)))
    (pss_one (ps_ret (pe_tup (pa_cons pe_int (pa_cons (pe_callTy (c_tuple (K := K) rfl) (by rfl) T.z_tuple (by decide +kernel) (pa_cons (pv 15) pa_nil)) (pa_cons (pe_callTy (c_tuple (K := K) rfl) (by rfl) T.z_tuple (by decide +kernel) (pa_cons (pv 10) pa_nil)) pa_nil))))))))))))), ?_⟩
  refine go_start w ps (Γ := [some (D K (dAu A)), none, none, none, none, none, none, none, none, none, none, none, none, none, none, none, none]) rfl ?_
  have C := allS_clo O
  obtain ⟨S, hSd⟩ : ∃ S, S = allS A := ⟨_, rfl⟩
  have hs : A.s ∈ S := by rw [hSd]; exact allS_mem O.s
  have sm : ∀ {β : Type} (f : Int → β), S.map f = (List.range A.R.length).map fun k : Nat => f (k : Int) := fun f => by rw [hSd, allS, List.map_map]; rfl
  have hne : S ≠ [] := fun z => by rw [z] at hs; cases hs
  have Sl : S.length = A.R.length := by rw [hSd]; unfold allS; rw [List.length_map, List.length_range]
  refine (q_unp3 (φ := fun _ : Unit => True) (R1 := fun _ => D K (.int A.s)) (R2 := fun _ => D K (dL A.F)) (R3 := fun _ => D K (dLL A.R)) (((ev_var (i := 0) rfl).weak D_PTu).weak (in_ex (R := fun _ : Unit => PTu K [D K (.int A.s), D K (dL A.F), D K (dLL A.R)]) (φ := fun _ => True) () trivial)) fun _ _ => ?_)
  dsimp only [List.set]
  have elr : ∀ {Γ : Gm} {M : Ms}, Γ[3]? = some (some (D K (dLL A.R))) → Ev (tCB (rLn K) (tCons (tVar 3) tNil)) Γ M (D K (.int (A.R.length : Int))) M := fun e => ev_lenM (f := dL) (ev_var e)
  have lc := evn_lcR (K := K) (z := (A.R.length : Int)) (i := 16) (G := fun k : Nat => D K (.int (fin01 A (k : Int)))) (M := []) (M1 := []) (Γ := [some (D K (dAu A)), some (D K (.int A.s)), some (D K (dL A.F)), some (D K (dLL A.R)), none, none, none, none, none, none, none, none, none, none, none, none, none]) (t := tYes) (fun _ => true) (ea_cons (elr rfl) ea_nil) (by omega) (fun _ _ => et_yes)
    (fun k hk _ => (ev_cb (ea_cons (ev_op (ev_var (i := 16) rfl) (ev_var (i := 2) rfl) (rv_inL (ns := A.F) (neg := false))) ea_nil) rc_intB).is (by unfold fin01; by_cases h : (k : Int) ∈ A.F <;> simp [h]))
  rw [filter_true, Int.toNat_natCast] at lc
  refine (q_asg (P := D K (dL ((List.range A.R.length).map fun k : Nat => lcl A S 0 (k : Int)))) ((ev_newL (K := K) (lc.is (O2 := MInts K ((List.range A.R.length).map fun k : Nat => lcl A S 0 (k : Int))) (by rw [MInts, List.map_map]; rfl))).weak dL_le) ?_)
  clear lc
  dsimp only [List.set]
  have cix : ∀ {c : Int → Int} {q : Int}, A.In q → (((List.range A.R.length).map fun k : Nat => c (k : Int)).map PyData.int)[q.toNat]? = some (.int (c q)) := fun {c q} h => by
    obtain ⟨h1, h2⟩ := h
    rw [List.getElem?_map, List.getElem?_map, List.getElem?_eq_getElem (by rw [List.length_range]; omega), List.getElem_range]
    show some (PyData.int (c ((q.toNat : Nat) : Int))) = _
    rw [Int.toNat_of_nonneg h1]
  refine (q_forR (z := (A.R.length : Int)) (ea_cons (elr rfl) ea_nil) (by omega) (by omega) (fun tn Γ M => ∃ g5 g6 g7 g8 : Option MP, Γ = [some (D K (dAu A)), some (D K (.int A.s)), some (D K (dL A.F)), some (D K (dLL A.R)), some (D K (dL ((List.range A.R.length).map fun k : Nat => lcl A S tn (k : Int)))), g5, g6, g7, g8, none, none, none, none, none, none, none, none] ∧ M = []) ⟨none, none, none, none, rfl, rfl⟩ ?_ ?_)
  · rintro tn htn _ _ ⟨g5, g6, g7, g8, rfl, rfl⟩
    obtain ⟨c, hc⟩ : ∃ c, c = lcl A S tn := ⟨_, rfl⟩
    rw [← hc]
    dsimp only [List.set]
    have lc := evn_lcR (K := K) (z := (A.R.length : Int)) (i := 16) (G := fun k : Nat => D K (sgD (kd A c (k : Int)))) (M := []) (M1 := []) (Γ := [some (D K (dAu A)), some (D K (.int A.s)), some (D K (dL A.F)), some (D K (dLL A.R)), some (D K (dL ((List.range A.R.length).map fun k : Nat => c (k : Int)))), some (D K (.int (tn : Int))), g6, g7, g8, none, none, none, none, none, none, none, none]) (t := tYes) (fun _ => true) (ea_cons (elr rfl) ea_nil) (by omega) (fun _ _ => et_yes)
      (fun k hk _ => by
        have kin : A.In (k : Int) := ⟨by omega, hk⟩
        have rl := (O.R _ (Au.row_mem kin))
        have l2 := evn_lcL (K := K) (xs := A.row (k : Int)) (R := fun x => D K (.int x)) (G := fun x => D K (.int (c x))) (i := 14) (M := []) (M1 := []) (Γ := [some (D K (dAu A)), some (D K (.int A.s)), some (D K (dL A.F)), some (D K (dLL A.R)), some (D K (dL ((List.range A.R.length).map fun k : Nat => c (k : Int)))), some (D K (.int (tn : Int))), g6, g7, g8, none, none, none, none, none, none, none, some (D K (.int (k : Int)))]) (fun _ => true) ((ev_op (ev_var (i := 3) rfl) (ev_var (i := 16) rfl) (rv_ixDL kin.1 (row_ixL kin))).weak le_dL) (by rw [rl.1]; omega) (fun _ _ => et_yes) (fun x hx _ => ev_op (ev_var (i := 4) rfl) (ev_var (i := 14) rfl) (rv_ixDL (rl.2 x hx).1 (cix (rl.2 x hx))))
        rw [filter_true] at l2
        exact (ev_tup (ps := [D K (.int (c (k : Int))), D K (dT ((A.row (k : Int)).map c))]) (ea_cons (ev_op (ev_var (i := 4) rfl) (ev_var (i := 16) rfl) (rv_ixDL kin.1 (cix kin))) (ea_cons ((ev_cb (ea_cons (ev_newL (K := K) (l2.is (O2 := MInts K ((A.row (k : Int)).map c)) (by rw [MInts, List.map_map]; rfl))) ea_nil) rc_tupleL).weak dT_le) ea_nil)) (by simp)).weak (PTu_D (ds := [.int (c (k : Int)), dT ((A.row (k : Int)).map c)])))
    rw [filter_true, Int.toNat_natCast] at lc
    have sge : (S.map (kd A c)).map (fun k => D K (sgD k)) = (List.range A.R.length).map fun k : Nat => D K (sgD (kd A c (k : Int))) := by
      rw [hSd]; unfold allS; rw [List.map_map, List.map_map]; rfl
    refine (q_asg (P := D K (.list ((S.map (kd A c)).map sgD))) ((ev_newL (K := K) (lc.is (O2 := ML ((S.map (kd A c)).map fun k => D K (sgD k))) (by rw [sge]))).weak (Lm_le (f := sgD))) ?_)
    clear lc
    dsimp only [List.set]
    refine (q_asgN (evn_lst ea_nil (by decide)) fun q7 hq7 => ?_)
    dsimp only [List.set]
    refine (q_forL ((ev_var (i := 6) rfl).weak (le_Lm (f := sgD))) (fun i Γ M => ∃ g8 : Option MP, Γ = [some (D K (dAu A)), some (D K (.int A.s)), some (D K (dL A.F)), some (D K (dLL A.R)), some (D K (dL ((List.range A.R.length).map fun k : Nat => c (k : Int)))), some (D K (.int (tn : Int))), some (D K (.list ((S.map (kd A c)).map sgD))), some (Own q7), g8, none, none, none, none, none, none, none, none] ∧ M = [(q7, ML ((ded ((S.map (kd A c)).take i)).map fun k => D K (sgD k)))]) ⟨g8, rfl, by rw [List.take_zero]; rfl⟩ ?_ ?_)
    · rintro E' hE i Pm hPm _ _ ⟨g8, rfl, rfl⟩
      rw [List.getElem?_map] at hPm
      obtain ⟨x, hx, rfl⟩ := Option.map_eq_some_iff.mp hPm
      have tk : (S.map (kd A c)).take (i + 1) = (S.map (kd A c)).take i ++ [x] := by rw [List.take_add_one, hx]; rfl
      have dl : (ded ((S.map (kd A c)).take i)).length ≤ A.R.length := by
        have := ded_le (l := (S.map (kd A c)).take i)
        rw [List.length_take, List.length_map] at this
        omega
      dsimp only [List.set]
      refine go_if (et_test (ev_op (ev_var (i := 8) rfl) (ev_var (i := 7) rfl) (rv_notInDO (j := 0) enc_sg (by decide) rfl))) (fun hz => ?_) fun hz => go_next (JA.of ⟨_, rfl, ?_⟩)
      · have hz : x ∉ ded ((S.map (kd A c)).take i) := fun z => by simp [z] at hz
        refine go_app (j := 0) (ev_var (i := 7) rfl) (ev_var (i := 8) rfl) rfl rfl (by rw [List.length_map]; omega) (JA.of ⟨_, rfl, ?_⟩)
        show [(q7, ML ((ded ((S.map (kd A c)).take i)).map (fun k => D K (sgD k)) ++ [D K (sgD x)]))] = _
        rw [tk, ded_snoc, if_neg hz, List.map_append]; rfl
      · have hz : x ∈ ded ((S.map (kd A c)).take i) := Classical.byContradiction fun z => by simp [z] at hz
        rw [tk, ded_snoc, if_pos hz]
    rintro _ _ ⟨g8, rfl, rfl⟩
    rw [List.length_map, List.take_length]
    refine nx_freeze (K := K) (i := 7) 0 rfl hq7 rfl ?_
    dsimp only [List.set, List.eraseIdx]
    have l3 := evn_lcL (K := K) (xs := S.map (kd A c)) (R := fun k => D K (sgD k)) (G := fun k => D K (.int ((ix (ded (S.map (kd A c))) k : Nat) : Int))) (i := 8) (M := []) (M1 := []) (Γ := [some (D K (dAu A)), some (D K (.int A.s)), some (D K (dL A.F)), some (D K (dLL A.R)), some (D K (dL ((List.range A.R.length).map fun k : Nat => c (k : Int)))), some (D K (.int (tn : Int))), some (D K (.list ((S.map (kd A c)).map sgD))), some (PLi K ((ded (S.map (kd A c))).map fun k => D K (sgD k))), g8, none, none, none, none, none, none, none, none]) (fun _ => true) ((ev_var (i := 6) rfl).weak (le_Lm (f := sgD))) (by rw [List.length_map]; omega) (fun _ _ => et_yes)
      (fun k hk _ => (ev_indexD enc_sg (by decide) (l := ded (S.map (kd A c))) (x := k) ((ev_var (i := 7) rfl).weak (Lm_le (f := sgD))) (ev_var (i := 8) rfl) (ded_mem.mpr hk)).is (by rw [idxOf_ix]))
    rw [filter_true] at l3
    refine go_asg (P := D K (dL ((List.range A.R.length).map fun k : Nat => lcl A S (tn + 1) (k : Int)))) ((ev_newL (K := K) (l3.is (O2 := MInts K ((List.range A.R.length).map fun k : Nat => lcl A S (tn + 1) (k : Int))) ?_)).weak dL_le) (JA.of ⟨_, _, _, _, rfl, rfl⟩)
    show ML (List.map _ (List.map (kd A c) S)) = ML (List.map _ (List.map _ (List.range A.R.length)))
    rw [List.map_map, List.map_map]
    refine congrArg ML ((sm _).trans (List.map_congr_left fun k _ => ?_))
    show D K (.int ((ix (ded (S.map (kd A c))) (kd A c (k : Int)) : Nat) : Int)) = D K (.int (lcl A S (tn + 1) (k : Int)))
    rw [hc]; rfl
  rintro _ _ ⟨g5, g6, g7, g8, rfl, rfl⟩
  rw [Int.toNat_natCast]
  have lab : LabI A S (lcl A S A.R.length) := lcl_end O (hSd ▸ C) hne (by omega)
  obtain ⟨c, hc⟩ : ∃ c, c = lcl A S A.R.length := ⟨_, rfl⟩
  rw [← hc] at lab ⊢
  have C' : Clo A S := hSd ▸ C
  have chs := cC_chs C' hs
  have clen := cC_len C' hs
  have inS : ∀ {q : Int}, A.In q → q ∈ S := fun h => by rw [hSd]; exact allS_mem h
  refine (q_asgN (evn_lst (ps := [D K (.int (c A.s))]) (ea_cons (ev_op (ev_var (i := 4) rfl) (ev_var (i := 1) rfl) (rv_ixDL O.s.1 (cix O.s))) ea_nil) (by simp)) fun q9 hq9 => ?_)
  dsimp only [List.set]
  refine (q_asgN (evn_lst ea_nil (by decide)) fun q10 hq10 => ?_)
  dsimp only [List.set]
  -- the first state of a class
  have first : ∀ cc ∈ S, ∃ st : Nat, st < A.R.length ∧ eqI A (st : Int) cc ∧ ((List.range A.R.length).map fun k : Nat => c (k : Int))[st]? = some (c cc) ∧ ∀ m, m < st → ((List.range A.R.length).map fun k : Nat => c (k : Int))[m]? ≠ some (c cc) := fun cc hcc => by
    have ccin := (C' cc hcc).1
    have hm : c cc ∈ (List.range A.R.length).map fun k : Nat => c (k : Int) := List.mem_map.mpr ⟨cc.toNat, List.mem_range.mpr (by obtain ⟨h1, h2⟩ := ccin; omega), by rw [Int.toNat_of_nonneg ccin.1]⟩
    have h1 := ix_get hm
    have h2 := ix_lt hm
    rw [List.length_map, List.length_range] at h2
    refine ⟨_, h2, ?_, h1, fun m hm2 => ix_min hm2⟩
    have h3 : c ((ix ((List.range A.R.length).map fun k : Nat => c (k : Int)) (c cc) : Nat) : Int) = c cc := by
      rw [List.getElem?_map, List.getElem?_eq_getElem (by rw [List.length_range]; exact h2), List.getElem_range] at h1
      exact Option.some.inj h1
    exact (lab _ (inS ⟨by omega, by omega⟩) cc hcc).mp h3
  refine (q_forR (z := (A.R.length : Int)) (ea_cons (elr rfl) ea_nil) (by omega) (by omega) (fun i Γ M => ∃ g11 g12 g13 g14 : Option MP, Γ = [some (D K (dAu A)), some (D K (.int A.s)), some (D K (dL A.F)), some (D K (dLL A.R)), some (D K (dL ((List.range A.R.length).map fun k : Nat => c (k : Int)))), g5, g6, g7, g8, some (Own q9), some (Own q10), g11, g12, g13, g14, none, none] ∧ M = [(q10, ML (((cC A i).take i).map fun cc => D K (dT (mrow A cc)))), (q9, MInts K ((cC A i).map c))]) ⟨none, none, none, none, rfl, rfl⟩ ?_ ?_)
  · rintro i hi _ _ ⟨g11, g12, g13, g14, rfl, rfl⟩
    have il := clen i
    dsimp only [List.set]
    refine go_if (et_test (ev_op (ev_var (i := 11) rfl) (ev_lenI (j := 1) (ev_var (i := 9) rfl) rfl) (rv_b0 (g := fun i j => decide (i < j))))) (fun hz => ?_) fun hz => go_next (JA.of ⟨_, _, _, _, rfl, ?_⟩)
    case refine_2 =>
      have hz : (cC A i).length ≤ i := by rw [List.length_map] at hz; simp at hz; omega
      rw [cC_same hz, List.take_of_length_le hz, List.take_of_length_le (by omega)]
    have hz : i < (cC A i).length := by rw [List.length_map] at hz; simp at hz; omega
    obtain ⟨cc, hcc⟩ : ∃ cc, (cC A i)[i]? = some cc := ⟨_, List.getElem?_eq_getElem hz⟩
    have ccS := (chs i).sub cc (List.mem_of_getElem? hcc)
    obtain ⟨cin, crow⟩ := C' cc ccS
    have nxt := cC_next hcc
    obtain ⟨Mp, pre⟩ := cC_pre (A := A) (i + 1) (A.R.length - (i + 1))
    rw [show i + 1 + (A.R.length - (i + 1)) = A.R.length by omega] at pre
    have pre : CC A = cC A (i + 1) ++ Mp := pre
    obtain ⟨st, sa, sb, sc, sd⟩ := first cc ccS
    have stin : A.In (st : Int) := ⟨by omega, by omega⟩
    have rlc := (O.R _ (Au.row_mem cin)).1
    have rls := O.R _ (Au.row_mem stin)
    refine (q_asg (ev_indexIL (ns := (List.range A.R.length).map fun k : Nat => c (k : Int)) (k := st) (ev_var (i := 4) rfl) (ev_op (ev_var (i := 9) rfl) (ev_var (i := 11) rfl) (rv_ixO (j := 1) (P := D K (.int (c cc))) rfl (by omega) (by rw [Int.toNat_natCast, List.getElem?_map, List.getElem?_map, hcc]; rfl))) sc sd) ?_)
    dsimp only [List.set]
    refine (q_asgN (evn_lst ea_nil (by decide)) fun q13 hq13 => ?_)
    dsimp only [List.set]
    refine (q_forL ((ev_op (ev_var (i := 3) rfl) (ev_var (i := 12) rfl) (rv_ixDL (by omega) (row_ixL stin))).weak le_dL) (fun j Γ M => ∃ g14 : Option MP, Γ = [some (D K (dAu A)), some (D K (.int A.s)), some (D K (dL A.F)), some (D K (dLL A.R)), some (D K (dL ((List.range A.R.length).map fun k : Nat => c (k : Int)))), g5, g6, g7, g8, some (Own q9), some (Own q10), some (D K (.int (i : Int))), some (D K (.int (st : Int))), some (Own q13), g14, none, none] ∧ M = [(q13, MInts K (((A.row cc).take j).map fun t => (idc A (CC A) t : Int))), (q10, ML (((cC A i).take i).map fun cc => D K (dT (mrow A cc)))), (q9, MInts K ((((A.row cc).take j).foldl (st1 A) (cC A i)).map c))]) ⟨g14, rfl, by rw [List.take_zero]; rfl⟩ ?_ ?_)
    · rintro E' hE j Pm hPm _ _ ⟨g14, rfl, rfl⟩
      rw [List.getElem?_map] at hPm
      obtain ⟨t, ht, rfl⟩ := Option.map_eq_some_iff.mp hPm
      have tin := rls.2 t (List.mem_of_getElem? ht)
      have jl : j < A.L := by have := (List.getElem?_eq_some_iff.mp ht).1; rw [rls.1] at this; exact this
      obtain ⟨t2, ht2⟩ : ∃ t2, (A.row cc)[j]? = some t2 := ⟨_, List.getElem?_eq_getElem (by omega)⟩
      have t2S := crow t2 (List.mem_of_getElem? ht2)
      have et : eqI A t t2 := by
        have := sb.next jl
        unfold nxA at this
        rw [List.getD_eq_getElem?_getD, List.getD_eq_getElem?_getD, ht, ht2] at this
        exact this
      have ct : c t = c t2 := (lab t (inS tin) t2 t2S).mpr et
      have tk : (A.row cc).take (j + 1) = (A.row cc).take j ++ [t2] := by rw [List.take_add_one, ht2]; rfl
      have cj : Chs A S (((A.row cc).take j).foldl (st1 A) (cC A i)) := (chs i).fold fun x hx => crow x (List.mem_of_mem_take hx)
      have cl1 : ∀ d ∈ (((A.row cc).take j).foldl (st1 A) (cC A i)), c d = c t2 ↔ eqI A d t2 := fun d hd => lab d (cj.sub d hd) t2 t2S
      have cj1 : Chs A S (st1 A (((A.row cc).take j).foldl (st1 A) (cC A i)) t2) := cj.step t2S
      have cl2 : ∀ d ∈ (st1 A (((A.row cc).take j).foldl (st1 A) (cC A i)) t2), c d = c t2 ↔ eqI A d t2 := fun d hd => lab d (cj1.sub d hd) t2 t2S
      have fs1 : ((A.row cc).take (j + 1)).foldl (st1 A) (cC A i) = (st1 A (((A.row cc).take j).foldl (st1 A) (cC A i)) t2) := by rw [tk, List.foldl_append]; rfl
      have cl : (((A.row cc).take j).foldl (st1 A) (cC A i)).length ≤ A.R.length := by
        obtain ⟨M2, e2⟩ := fold_pre (A := A) (ts := (A.row cc).drop j) (C := (((A.row cc).take j).foldl (st1 A) (cC A i)))
        rw [← List.foldl_append, List.take_append_drop, ← nxt] at e2
        have := clen (i + 1)
        rw [e2, List.length_append] at this
        omega
      have ecl : ∀ {Γ : Gm} {M : Ms}, Γ[4]? = some (some (D K (dL ((List.range A.R.length).map fun k : Nat => c (k : Int))))) → Γ[14]? = some (some (D K (.int t))) → Ev (tOp (rIx K) (tVar 4) (tVar 14)) Γ M (D K (.int (c t2))) M := fun h1 h2 => (ev_op (ev_var h1) (ev_var h2) (rv_ixDL tin.1 (cix tin))).is (by rw [ct])
      dsimp only [List.set]
      refine go_cut (fun Γ M => Γ = [some (D K (dAu A)), some (D K (.int A.s)), some (D K (dL A.F)), some (D K (dLL A.R)), some (D K (dL ((List.range A.R.length).map fun k : Nat => c (k : Int)))), g5, g6, g7, g8, some (Own q9), some (Own q10), some (D K (.int (i : Int))), some (D K (.int (st : Int))), some (Own q13), some (D K (.int t)), none, none] ∧ M = [(q13, MInts K (((A.row cc).take j).map fun t => (idc A (CC A) t : Int))), (q10, ML (((cC A i).take i).map fun cc => D K (dT (mrow A cc)))), (q9, MInts K ((st1 A (((A.row cc).take j).foldl (st1 A) (cC A i)) t2).map c))]) ?_ ?_
      · refine go_if (et_test (ev_op (ecl rfl rfl) (ev_var (i := 9) rfl) (rv_inO (j := 2) (neg := true) rfl))) (fun hz => ?_) fun hz => go_next (JA.of ⟨rfl, ?_⟩)
        · have hz : ¬ ∃ d ∈ (((A.row cc).take j).foldl (st1 A) (cC A i)), eqI A d t2 := fun z => by rw [if_pos rfl, decide_eq_true ((mem_cl cl1).mpr z)] at hz; cases hz
          have e1 : (st1 A (((A.row cc).take j).foldl (st1 A) (cC A i)) t2) = (((A.row cc).take j).foldl (st1 A) (cC A i)) ++ [t2] := st1_new hz
          refine go_app (j := 2) (ev_var (i := 9) rfl) (ecl rfl rfl) rfl rfl (by rw [List.length_map, List.length_map]; omega) (JA.of ⟨rfl, ?_⟩)
          show [_, _, (q9, ML (((((A.row cc).take j).foldl (st1 A) (cC A i)).map c).map (fun n => D K (.int n)) ++ [D K (.int (c t2))]))] = _
          rw [e1, show MInts K (((((A.row cc).take j).foldl (st1 A) (cC A i)) ++ [t2]).map c) = ML (((((A.row cc).take j).foldl (st1 A) (cC A i)).map c).map (fun n => D K (.int n)) ++ [D K (.int (c t2))]) by rw [MInts, List.map_append, List.map_append]; rfl]
        · have hz : ∃ d ∈ (((A.row cc).take j).foldl (st1 A) (cC A i)), eqI A d t2 := Classical.byContradiction fun z => by rw [if_pos rfl, decide_eq_false (fun y => z ((mem_cl cl1).mp y))] at hz; cases hz
          have e1 : (st1 A (((A.row cc).take j).foldl (st1 A) (cC A i)) t2) = (((A.row cc).take j).foldl (st1 A) (cC A i)) := st1_old hz
          rw [e1]
      rintro _ _ ⟨rfl, rfl⟩
      have has : ∃ d ∈ (st1 A (((A.row cc).take j).foldl (st1 A) (cC A i)) t2), eqI A d t2 := st1_has
      have mem := (mem_cl cl2).mpr has
      have val : ix ((st1 A (((A.row cc).take j).foldl (st1 A) (cC A i)) t2).map c) (c t2) = idc A (CC A) t2 := by
        rw [ix_idc cl2]
        obtain ⟨M2, e2⟩ := fold_pre (A := A) (ts := (A.row cc).drop (j + 1)) (C := (st1 A (((A.row cc).take j).foldl (st1 A) (cC A i)) t2))
        rw [← fs1, ← List.foldl_append, List.take_append_drop, ← nxt] at e2
        rw [pre, e2, fs1, List.append_assoc, idc_app has]
      refine go_app (j := 0) (P := D K (.int (idc A (CC A) t2 : Int))) (ev_var (i := 13) rfl) ((ev_indexIO (j := 2) (ns := (st1 A (((A.row cc).take j).foldl (st1 A) (cC A i)) t2).map c) (k := ix ((st1 A (((A.row cc).take j).foldl (st1 A) (cC A i)) t2).map c) (c t2)) (ev_var (i := 9) rfl) (ecl rfl rfl) rfl (ix_get mem) (fun m hm => ix_min hm)).is (by rw [val])) rfl rfl (by
        rw [List.length_map, List.length_map, List.length_take]; omega) (JA.of ⟨_, rfl, ?_⟩)
      rw [fs1]
      show [(q13, ML ((((A.row cc).take j).map fun t => (idc A (CC A) t : Int)).map (fun n => D K (.int n)) ++ [D K (.int (idc A (CC A) t2 : Int))])), _, _] = _
      have er : MInts K (((A.row cc).take (j + 1)).map fun t => (idc A (CC A) t : Int)) = ML ((((A.row cc).take j).map fun t => (idc A (CC A) t : Int)).map (fun n => D K (.int n)) ++ [D K (.int (idc A (CC A) t2 : Int))]) := by rw [tk, MInts, List.map_append, List.map_append]; rfl
      rw [er]
    · rintro _ _ ⟨g14, rfl, rfl⟩
      rw [List.length_map, rls.1, ← rlc, List.take_length, ← nxt]
      refine go_app (j := 1) (P := D K (dT (mrow A cc))) (ev_var (i := 10) rfl) ((ev_cb (ea_cons (ev_var (i := 13) rfl) ea_nil) (rc_tupleO (j := 0) rfl)).weak (dT_le (l := mrow A cc))) rfl rfl (by rw [List.length_map, List.length_take]; omega) ?_
      refine nx_drop (List.sublist_cons_self _ _) (JA.of ⟨_, _, _, _, rfl, ?_⟩)
      obtain ⟨M1, p1⟩ := cC_pre (A := A) i 1
      have e : (cC A (i + 1)).take (i + 1) = (cC A i).take i ++ [cc] := by
        rw [p1, List.take_append_of_le_length (by omega), List.take_add_one, hcc]; rfl
      rw [e, List.map_append]; rfl
  rintro _ _ ⟨g11, g12, g13, g14, rfl, rfl⟩
  rw [Int.toNat_natCast]
  have ccl : (CC A).length ≤ A.R.length := clen A.R.length
  have ecc : cC A A.R.length = CC A := rfl
  rw [ecc, List.take_of_length_le ccl]
  have l4 := evn_lcR (K := K) (z := (((CC A).map c).length : Int)) (i := 16) (G := fun k : Nat => D K (.int (k : Int))) (M := [(q10, ML ((CC A).map fun cc => D K (dT (mrow A cc)))), (q9, MInts K ((CC A).map c))]) (M1 := [(q10, ML ((CC A).map fun cc => D K (dT (mrow A cc)))), (q9, MInts K ((CC A).map c))]) (Γ := [some (D K (dAu A)), some (D K (.int A.s)), some (D K (dL A.F)), some (D K (dLL A.R)), some (D K (dL ((List.range A.R.length).map fun k : Nat => c (k : Int)))), g5, g6, g7, g8, some (Own q9), some (Own q10), g11, g12, g13, g14, none, none]) (fun k => decide ((CC A).getD k 0 ∈ A.F)) (ea_cons (ev_lenI (j := 1) (ev_var (i := 9) rfl) rfl) ea_nil) (by rw [List.length_map]; omega)
    (fun k hk => by
      rw [List.length_map] at hk
      have hk : k < (CC A).length := by omega
      obtain ⟨cc, hcc⟩ : ∃ cc, (CC A)[k]? = some cc := ⟨_, List.getElem?_eq_getElem hk⟩
      have ccS := (chs A.R.length).sub cc (List.mem_of_getElem? hcc)
      obtain ⟨st, s1, s2, s3, s4⟩ := first cc ccS
      refine (et_test (ev_op (ev_indexIL (ns := (List.range A.R.length).map fun k : Nat => c (k : Int)) (k := st) (ev_var (i := 4) rfl) (ev_op (ev_var (i := 9) rfl) (ev_var (i := 16) rfl) (rv_ixO (j := 1) (P := D K (.int (c cc))) rfl (by omega) (by rw [Int.toNat_natCast, List.getElem?_map, List.getElem?_map, hcc]; rfl))) s3 s4) (ev_var (i := 2) rfl) (rv_inL (ns := A.F) (neg := false)))).is ?_
      rw [List.getD_eq_getElem?_getD, hcc]
      show decide ((st : Int) ∈ A.F) = decide (cc ∈ A.F)
      rw [decide_eq_decide]
      exact s2.fin) (fun k _ _ => ev_var (i := 16) rfl)
  rw [Int.toNat_natCast, List.length_map] at l4
  refine (q_asg (P := D K (dL (minA A).F)) ((ev_newL (K := K) (l4.is (O2 := MInts K (minA A).F) (by rw [MInts]; show _ = ML (List.map _ (List.map _ (List.filter _ (List.range (CC A).length)))); rw [List.map_map]; rfl))).weak dL_le) ?_)
  clear l4
  dsimp only [List.set]
  refine nx_freeze (K := K) (i := 10) 0 rfl hq10 rfl ?_
  dsimp only [List.set, List.eraseIdx]
  refine nx_drop (List.nil_sublist _) ?_
  have eR : dTT (minA A).R = .tuple ((CC A).map fun cc => dT (mrow A cc)) := by
    show PyData.tuple (((CC A).map (mrow A)).map dT) = _
    rw [List.map_map]; rfl
  rw [eR] at k
  exact go_ret Le.refl ((ev_tup (ps := [D K (.int 0), D K (dT (minA A).F), D K (.tuple ((CC A).map fun cc => dT (mrow A cc)))]) (ea_cons (ev_int) (ea_cons ((ev_cb (ea_cons ((ev_var (i := 15) rfl).weak le_dL) ea_nil) rc_tupleL).weak dT_le) (ea_cons ((ev_cb (ea_cons (ev_var (i := 10) rfl) ea_nil) rc_tupleL).weak (Tm_le (f := fun cc => dT (mrow A cc)))) ea_nil))) (by simp)).weak (PTu_D (ds := [.int 0, dT (minA A).F, .tuple ((CC A).map fun cc => dT (mrow A cc))]))) k
theorem use__law_smallest {T : Txt K mg} {tr : TA} {Γ : Gm} {M M1 : Ms} {A : Au} {X : XK} (h : EvA tr Γ M [D K (dAu A)] M1) (hn : A.Ok ∧ A.R.length ≤ 100 ∧ A.L ≤ 100) : Ev (tCall (sp__law_smallest T) [] X tr) Γ M (D K (.tuple [.int 0, dT (minA A).F, dTT (minA A).R])) M1 :=
  call0 h fun vs H Q z => ⟨A, hn, z⟩
/-! ### _longer -/
theorem sc__longer : FnScope ["automaton", "states", "letter", "state"] ["automaton", "states", "letter"] (defScope s__longer) := ⟨rfl, rfl, rfl, by decide +kernel, rfl, by decide +kernel, by decide +kernel⟩
def sp__longer (T : Txt K mg) : Sp := fun vs H Q _ => ∃ (A : Au) (st : List Int) (a : Nat), (A.Ok ∧ (∀ q ∈ st, A.In q) ∧ a < A.L ∧ st.length ≤ 1000) ∧ Prom [PAu T A, D K (dT st), D K (.int (a : Int))] [] (NT (lonA A st a)) [] vs H Q
theorem sp__longer_len {T : Txt K mg} {vs H Q E} (h : sp__longer T vs H Q E) : vs.length = 3 := by obtain ⟨_, _, _, _, h⟩ := h; exact h.len
set_option maxHeartbeats 4000000 in
theorem ok__longer (T : Txt K mg) : FnOk P wo K mg base CX0 1 T.f__longer T.d__longer ["automaton", "states", "letter"] (sp__longer T) := by
  have nd := (sc__longer).nd
  refine T.F__longer.ok sc__longer (fun vs H Q E h => (sp__longer_len h)) (fun cdv A outer s H vs Q E hr h => ?_)
  obtain ⟨A, st, a, ⟨O, hst, ha, hl⟩, F, w, ps, k⟩ := h
  refine ⟨_, (pss_one (ps_ret (pe_callTy (c_tuple (K := K) rfl) (by rfl) T.z_tuple (by decide +kernel) (pa_cons (pe_lc (own := [("state", 3)]) (by rfl) nd (pi_tupK (K := K) rfl (pv 1)) (blkOk_by (N := ["automaton", "states", "letter", "state"]) (sc := defScope s__longer) (own := [("state", 3)]) (by decide +kernel)) (fun _ _ _ _ _ => pg_name (i := 3) nd rfl (by first | exact Or.inl rfl | exact Or.inr rfl)) (fun _ _ _ _ _ => pts_nil) (fun _ _ _ _ _ => (pe_ix (c_ix (K := K) rfl) (pe_ix (c_ix (K := K) rfl) (c_fld (K := K) rfl (pv 0) rfl) (pv 3) (fun _ _ => rfl)) (pv 2) (fun _ _ => rfl)))) pa_nil)))), ?_⟩
  refine go_start w ps (Γ := [some (PAu T A), some (D K (dT st)), some (D K (.int (a : Int))), none]) rfl ?_
  exact go_ret Le.refl (ev_tupNg (evn_lcTg (g := fun q => nxA A q a) (ev_var (i := 1) rfl) (by omega) fun q hq => (ev_op (ev_row (ev_var (i := 0) rfl) (ev_var (i := 3) rfl) (hst q hq)) (ev_var (i := 2) rfl) (rv_ixDTd (by omega) (by rw [(O.R _ (Au.row_mem (hst q hq))).1]; exact ha))))) k
theorem use__longer {T : Txt K mg} {tr : TA} {Γ : Gm} {M M1 : Ms} {A : Au} {st : List Int} {a : Nat} {X : XK} (h : EvA tr Γ M [PAu T A, D K (dT st), D K (.int (a : Int))] M1) (hn : A.Ok ∧ (∀ q ∈ st, A.In q) ∧ a < A.L ∧ st.length ≤ 1000) : Ev (tCall (sp__longer T) [] X tr) Γ M (NT (lonA A st a)) M1 :=
  call0 h fun vs H Q z => ⟨A, st, a, hn, z⟩
/-! ### action -/
theorem sc_action : FnScope ["automaton", "word", "states", "letter"] ["automaton", "word"] (defScope s_action) := ⟨rfl, rfl, rfl, by decide +kernel, rfl, by decide +kernel, by decide +kernel⟩
def runS (A : Au) (st : List Int) (w : List Int) : List Int := w.foldl (fun st a => lonA A st a.toNat) st
theorem runS_snoc {A : Au} {st : List Int} {a : Int} {w : List Int} : runS A st (w ++ [a]) = lonA A (runS A st w) a.toNat := by
  unfold runS
  rw [List.foldl_append]; rfl
theorem lonA_in {A : Au} (O : A.Ok) {st : List Int} (h : ∀ q ∈ st, A.In q) {a : Nat} (ha : a < A.L) : ∀ q ∈ lonA A st a, A.In q := fun q hq => by
  obtain ⟨p, hp, rfl⟩ := List.mem_map.mp hq
  exact nxA_in O (h p hp) ha
theorem runS_in {A : Au} (O : A.Ok) : ∀ {w st : List Int}, (∀ q ∈ st, A.In q) → LetOk A w → ∀ q ∈ runS A st w, A.In q
  | [], _, h, _ => h
  | a :: w, st, h, hw => by
    have := hw a List.mem_cons_self
    show ∀ q ∈ runS A (lonA A st a.toNat) w, A.In q
    exact runS_in O (lonA_in O h (by omega)) fun b hb => hw b (List.mem_cons_of_mem _ hb)
theorem runS_len {A : Au} : ∀ {w st : List Int}, (runS A st w).length = st.length
  | [], _ => rfl
  | a :: w, st => by
    show (runS A (lonA A st a.toNat) w).length = _
    rw [runS_len]; exact List.length_map _
def sp_action (T : Txt K mg) : Sp := fun vs H Q _ => ∃ (A : Au) (b : Bool) (w : List Int), (A.Ok ∧ LetOk A w ∧ A.R.length ≤ 1000 ∧ w.length ≤ 1000) ∧ Prom [PAu T A, D K (dW b w)] [] (NT (runS A (idS A) w)) [] vs H Q
theorem sp_action_len {T : Txt K mg} {vs H Q E} (h : sp_action T vs H Q E) : vs.length = 2 := by obtain ⟨_, _, _, _, h⟩ := h; exact h.len
set_option maxHeartbeats 4000000 in
theorem ok_action (T : Txt K mg) : FnOk P wo K mg base CX0 2 T.f_action T.d_action ["automaton", "word"] (sp_action T) := by
  have nd := (sc_action).nd
  refine T.F_action.ok sc_action (fun vs H Q E h => (sp_action_len h)) (fun cdv A outer s H vs Q E hr h => ?_)
  obtain ⟨A, b, wd, ⟨O, hw, hN, hl⟩, F, w, ps, k⟩ := h
  refine ⟨_, (pss_cons (ps_set (i := 2) nd rfl (Or.inl rfl) (pe_tupRg rfl (by rfl) T.z_tuple (prg_1 (by rfl) T.z_range (pe_callB (c_len (K := K) rfl) (by rfl) T.z_len PySem.boot_len (pa_cons (c_fld (K := K) rfl (pv 0) rfl) pa_nil)))))
    (pss_cons (ps_for PassesOwn.never rfl (pi_or (pi_tupK (K := K) rfl (pv 1)) (pi_listK (K := K) rfl (pv 1))) (pg_name (i := 3) nd rfl (by first | exact Or.inl rfl | exact Or.inr rfl))
     (pss_one (ps_set (i := 2) nd rfl (Or.inl rfl) (pe_call (ok__longer T) (hr.mono (by decide)) rfl T.m__longer T.F__longer.kp T.b__longer .nil pass0 (pa_cons (pv 0) (pa_cons (pv 2) (pa_cons (pv 3) pa_nil)))))))
    (pss_one (ps_ret (pv 2))))), ?_⟩
  refine go_start w ps (Γ := [some (PAu T A), some (D K (dW b wd)), none, none]) rfl ?_
  refine (q_asg (ev_tupRg (ev_lenMT (f := dT) (ev_fld (P := D K (dTT A.R)) (fps := auF K A) (ev_var (i := 0) rfl) (by simp) T.cl_Automaton T.na_Automaton_rows)) (by omega)) ?_)
  dsimp only [List.set]
  refine (q_forW (v := 1) rfl (fun j Γ M => ∃ (g3 : Option MP), Γ = [some (PAu T A), some (D K (dW b wd)), some (NT (runS A (idS A) (wd.take j))), g3] ∧ M = []) ⟨none, rfl, rfl⟩ ?_ ?_)
  · rintro E2 hE2 j a ha _ _ ⟨g3, rfl, rfl⟩
    have ha2 := hw a (List.mem_of_getElem? ha)
    have hin := runS_in O (st := idS A) (w := wd.take j) (fun q hq => idS_in hq) fun b hb => hw b (List.mem_of_mem_take hb)
    dsimp only [List.set]
    refine go_asg (P := NT (runS A (idS A) (wd.take (j + 1)))) ((use__longer (A := A) (st := runS A (idS A) (wd.take j)) (a := a.toNat) (ea_cons (ev_var (i := 0) rfl) (ea_cons ((ev_var (i := 2) rfl).weak nt_D) (ea_cons ((ev_var (i := 3) rfl).is (by rw [Int.toNat_of_nonneg ha2.1])) ea_nil))) ⟨O, hin, by omega, by rw [runS_len]; unfold idS; rw [List.length_map, List.length_range]; exact hN⟩).is ?_) (JA.of ⟨_, rfl, rfl⟩)
    rw [List.take_add_one, ha, Option.toList_some, runS_snoc]
  · rintro _ _ ⟨g3, rfl, rfl⟩
    rw [List.take_length]
    exact go_ret Le.refl (ev_var (i := 2) rfl) k
theorem use_action {T : Txt K mg} {tr : TA} {Γ : Gm} {M M1 : Ms} {A : Au} {b : Bool} {w : List Int} {X : XK} (h : EvA tr Γ M [PAu T A, D K (dW b w)] M1) (hn : A.Ok ∧ LetOk A w ∧ A.R.length ≤ 1000 ∧ w.length ≤ 1000) : Ev (tCall (sp_action T) [] X tr) Γ M (NT (runS A (idS A) w)) M1 :=
  call0 h fun vs H Q z => ⟨A, b, w, hn, z⟩
/-! ### actions -/
theorem sc_actions : FnScope ["automaton", "small", "table", "seen", "at", "word", "states", "letter", "following"] ["automaton"] (defScope s_actions) := ⟨rfl, rfl, rfl, by decide +kernel, rfl, by decide +kernel, by decide +kernel⟩
abbrev dAE (e : AEnt) : PyData := .tuple [dT e.1, dT e.2]
abbrev PAE (K : PySem.W.Frag) (e : AEnt) : MP := PTu K [D K (dT e.1), NT e.2]
abbrev dTab (T : List AEnt) : PyData := .list (T.map dAE)
theorem pae_le {e : AEnt} : (PAE K e).le (D K (dAE e)) := MP.le_trans (PTu2_le (fun _ _ h => h) nt_D) (PTu_D (ds := [dT e.1, dT e.2]))
theorem tab_le {T : List AEnt} : (PLi K (T.map (PAE K))).le (D K (dTab T)) := MP.le_trans (PLi_mono fun e _ => pae_le) (Lm_le (f := dAE))
def sp_actions (T : Txt K mg) : Sp := fun vs H Q _ => ∃ (A : Au), (A.Ok ∧ A.R.length ≤ 4 ∧ A.L ≤ 1000) ∧ Prom [PAu T A] [] (D K (dTab (TT (minA A)))) [] vs H Q
theorem sp_actions_len {T : Txt K mg} {vs H Q E} (h : sp_actions T vs H Q E) : vs.length = 1 := by obtain ⟨_, _, h⟩ := h; exact h.len
set_option maxHeartbeats 4000000 in
theorem ok_actions (T : Txt K mg) : FnOk P wo K mg base (L2.CX P wo) 5 T.f_actions T.d_actions ["automaton"] (sp_actions T) := by
  have nd := (sc_actions).nd
  refine T.F_actions.okX sc_actions (fun vs H Q E h => (sp_actions_len h)) (fun cdv A outer s H vs Q E hr h => ?_)
  obtain ⟨A, ⟨O, hN, hL⟩, F, w, ps, k⟩ := h
  refine ⟨_, (pss_cons (ps_set (i := 1) nd rfl (Or.inl rfl) (pe_call (ok_least T) (hr.mono (by decide)) rfl T.m_least T.F_least.kp T.b_least .nil pass0 (pa_cons (pv 0) pa_nil)))
    (pss_cons (ps_set (i := 2) nd rfl (Or.inl rfl) (pe_lst (pa_cons (pe_tup (pa_cons (pe_tup pa_nil) (pa_cons (pe_call (ok_action T) (hr.mono (by decide)) rfl T.m_action T.F_action.kp T.b_action .nil pass0 (pa_cons (pv 1) (pa_cons (pe_tup pa_nil) pa_nil))) pa_nil))) pa_nil)))
    (pss_cons (ps_set (i := 3) nd rfl (Or.inl rfl) (pe_disp1T hr.units (pe_ix (c_ix (K := K) rfl) (pe_ix (c_ix (K := K) rfl) (pv 2) pe_int (fun _ _ => rfl)) pe_int (fun _ _ => rfl)) pe_bl))
    (pss_cons (ps_set (i := 4) nd rfl (Or.inl rfl) pe_int)
    (pss_cons (ps_while (passes_of rfl) (pt_cmpR op_lt (pv 4) (pe_callB (c_len (K := K) rfl) (by rfl) T.z_len PySem.boot_len (pa_cons (pv 2) pa_nil)) (nomark _)) (pss_cons (ps_asg (pe_ix (c_ix (K := K) rfl) (pv 2) (pv 4) (fun _ _ => rfl)) (pg_tupK (K := K) (n := 2) rfl (by rfl) (pgs_cons (pg_name (i := 5) nd rfl (by first | exact Or.inl rfl | exact Or.inr rfl)) (pgs_cons (pg_name (i := 6) nd rfl (by first | exact Or.inl rfl | exact Or.inr rfl)) pgs_nil))))
     (pss_cons (ps_for (passes_of rfl) rfl (pi_range1 (by rfl) T.z_range (pa_cons (c_fld (K := K) rfl (pv 1) rfl) pa_nil)) (pg_name (i := 7) nd rfl (by first | exact Or.inl rfl | exact Or.inr rfl))
      (pss_cons (ps_set (i := 8) nd rfl (Or.inl rfl) (pe_call (ok__longer T) (hr.mono (by decide)) rfl T.m__longer T.F__longer.kp T.b__longer .nil pass0 (pa_cons (pv 1) (pa_cons (pv 6) (pa_cons (pv 7) pa_nil)))))
      (pss_one (ps_if (pt_cmp (pc_dnotin (units1 hr) (pv 8) (pv 3))) (pss_cons (ps_if (pt_cmpR op_eq (pe_callB (c_len (K := K) rfl) (by rfl) T.z_len PySem.boot_len (pa_cons (pv 2) pa_nil)) (pe_glob (v := .int 400) rfl T.v_MOST_ACTIONS ⟨_, rfl⟩) (nomark _)) (pss_one (ps_raise rfl (takes_of rfl rfl rfl rfl) (pmk_own PySem.F.excBase_ValueError T.x_TooLarge T.mc_TooLarge T.k_TooLarge (raises_own T.b_TooLarge T.t_TooLarge) (by exact rfl)))) pss_nil)
       (pss_cons (ps_dput (units1 hr) (pv 3) (pv 8) pe_bl rfl)
       (pss_one (ps_expr (pe_bm PySem.F.plainAttrs_list PySem.F.slot_list_append PySem.F.type_list_append mt_append (pv 2) (pa_cons (pe_tup (pa_cons (pe_tup (StX.pa_star (pv 5) (pa_cons (pv 7) pa_nil))) (pa_cons (pv 8) pa_nil))) pa_nil)))))) pss_nil))))
     (pss_one (ps_aug (i := 4) nd rfl (Or.inl rfl) pe_int ip_add)))))
    (pss_one (ps_ret (pv 2)))))))), ?_⟩
  refine go_start w ps (Γ := [some (PAu T A), none, none, none, none, none, none, none, none]) rfl ?_
  have MO := mok O
  have BL : (minA A).L = A.L := rfl
  have BR : (minA A).R.length ≤ 4 := Nat.le_trans (minR_le O) hN
  refine (q_asg (use_least (ea_cons (ev_var (i := 0) rfl) ea_nil) ⟨O, by omega, hL⟩) ?_)
  dsimp only [List.set]
  generalize minA A = B at *
  refine (q_asgN (evn_lst (ps := [PAE K ([], idS B)]) (ea_cons (ev_tup (ps := [D K (dT []), NT (idS B)]) (ea_cons ((ev_tup (ps := []) ea_nil (by simp)).weak (dT_le (l := []))) (ea_cons (use_action (b := true) (w := []) (ea_cons (ev_var (i := 1) rfl) (ea_cons ((ev_tup (ps := []) ea_nil (by simp)).weak (dT_le (l := []))) ea_nil)) ⟨MO, fun a ha => (by cases ha), by omega, by simp⟩) ea_nil)) (by simp)) ea_nil) (by simp)) fun qt hqt => ?_)
  dsimp only [List.set]
  refine (q_asgN (evn_dispT2 (l := idS B) (P := D K (.bool true)) (fun r => ev_op (ev_op (ev_var (i := 2) rfl) (ev_int (K := K) (i := 0)) (rv_ixO (j := 1) (P := PAE K ([], idS B)) rfl (by omega) rfl)) (ev_int (K := K) (i := 1)) (rv_ixT (by omega) rfl)) (fun M => (ev_bl (K := K)))) fun qs hqs => ?_)
  dsimp only [List.set]
  refine (q_asg (ev_int (K := K) (i := 0)) ?_)
  dsimp only [List.set]
  refine (q_while (fun m Γ M => ∃ (n : Nat) (g5 g6 g7 g8 : Option MP), Γ = [some (PAu T A), some (PAu T B), some (Own qt), some (Own qs), some (D K (.int (n : Int))), g5, g6, g7, g8] ∧ M = [(qs, MDct ((tbT B n).map Prod.snd)), (qt, ML ((tbT B n).map (PAE K)))] ∧ n ≤ (tbT B n).length ∧ m = 257 - n) 257 ⟨0, none, none, none, none, rfl, rfl, Nat.zero_le _, rfl⟩ ?_)
  rintro m _ _ ⟨n, g5, g6, g7, g8, rfl, rfl, hn, rfl⟩
  have t256 := tbT_len MO BR n
  refine ⟨_, _, et_test (ev_op (ev_var (i := 4) rfl) (ev_cb (ea_cons (ev_var (i := 2) rfl) ea_nil) (rc_lenO (j := 1) rfl)) (rv_b0 (g := fun i j => decide (i < j)))), fun hz => ?_, fun hz => ?_⟩
  · have hz : n < (tbT B n).length := by rw [List.length_map] at hz; simp at hz; omega
    obtain ⟨e, he⟩ : ∃ e, (tbT B n)[n]? = some e := ⟨_, List.getElem?_eq_getElem hz⟩
    have tok := tbT_ok MO n
    have em := List.mem_of_getElem? he
    refine (q_unp2 (α := Unit) (φ := fun _ => True) (R1 := fun _ => D K (dT e.1)) (R2 := fun _ => NT e.2) ((ev_op (ev_var (i := 2) rfl) (ev_var (i := 4) rfl) (rv_ixO (j := 1) (P := PAE K e) rfl (by omega) (by rw [Int.toNat_natCast, List.getElem?_map, he]; rfl))).weak (fun F v h => ⟨(), trivial, h⟩)) fun _ _ => ?_)
    dsimp only [List.set]
    refine (q_forR (z := (B.L : Int)) (ea_cons (ev_fld (P := D K (.int (B.L : Int))) (fps := auF K B) (ev_var (i := 1) rfl) (by simp) T.cl_Automaton T.na_Automaton_letters) ea_nil) (by omega) (by omega) (fun j Γ M => ∃ (g7 g8 : Option MP), Γ = [some (PAu T A), some (PAu T B), some (Own qt), some (Own qs), some (D K (.int (n : Int))), some (D K (dT e.1)), some (NT e.2), g7, g8] ∧ M = [(qs, MDct ((grT B e j (tbT B n)).map Prod.snd)), (qt, ML ((grT B e j (tbT B n)).map (PAE K)))]) ⟨_, _, rfl, rfl⟩ ?_ ?_)
    · rintro j hj _ _ ⟨g7, g8, rfl, rfl⟩
      have hj : j < B.L := by omega
      have gok := tok.grow MO em (j := j) (by omega)
      have g256 : (grT B e j (tbT B n)).length ≤ 256 := Nat.le_trans gok.many (pow_small BR)
      dsimp only [List.set]
      refine (q_asg (use__longer (A := B) (st := e.2) (a := j) (ea_cons (ev_var (i := 1) rfl) (ea_cons ((ev_var (i := 6) rfl).weak nt_D) (ea_cons (ev_var (i := 7) rfl) ea_nil))) ⟨MO, tok.ins e em, hj, by rw [tok.len e em]; omega⟩) ?_)
      dsimp only [List.set]
      refine go_if (et_val (ev_dnotin (K := K) (j := 0) (ev_var (i := 8) rfl) (ev_var (i := 3) rfl) rfl)) (fun hz2 => ?_) fun hz2 => go_next (JA.of ⟨_, _, rfl, ?_⟩)
      · have hz2 : lonA B e.2 j ∉ (grT B e j (tbT B n)).map Prod.snd := fun z => by rw [decide_eq_true z] at hz2; cases hz2
        have e1 : grT B e (j + 1) (tbT B n) = grT B e j (tbT B n) ++ [(e.1 ++ [(j : Int)], lonA B e.2 j)] := by rw [grT_succ]; unfold stpT; rw [if_neg hz2]
        refine (q_if (et_test (ev_op (ev_cb (ea_cons (ev_var (i := 2) rfl) ea_nil) (rc_lenO (j := 1) rfl)) (ev_int (K := K) (i := 400)) rv_eqI)) (fun hz3 => ?_) fun hz3 => go_next ?_)
        · rw [List.length_map] at hz3
          exfalso
          simp at hz3
          omega
        refine (q_dput (j := 0) (ev_bl (K := K)) (ev_var (i := 3) rfl) (ev_var (i := 8) rfl) rfl hz2 (by rw [List.length_map]; omega) ?_)
        refine go_app (j := 1) (P := PAE K (e.1 ++ [(j : Int)], lonA B e.2 j)) (ev_var (i := 2) rfl) (ev_tup (ps := [D K (dT (e.1 ++ [(j : Int)])), NT (lonA B e.2 j)]) (ea_cons ((ev_tup (ps := (e.1 ++ [(j : Int)]).map fun n => D K (.int n)) (by rw [List.map_append]; exact ea_starW (b := true) (ev_var (i := 5) rfl) (ea_cons (ev_var (i := 7) rfl) ea_nil)) (by have := tok.wl e em; simp; omega)).weak dT_le) (ea_cons (ev_var (i := 8) rfl) ea_nil)) (by simp)) rfl rfl (by rw [List.length_map]; omega) (JA.of ⟨_, _, rfl, ?_⟩)
        rw [e1]
        show [(qs, MDct ((grT B e j (tbT B n)).map Prod.snd ++ [lonA B e.2 j])), (qt, ML ((grT B e j (tbT B n)).map (PAE K) ++ [PAE K (e.1 ++ [(j : Int)], lonA B e.2 j)]))] = _
        rw [List.map_append, List.map_append]; rfl
      · have hz2 : lonA B e.2 j ∈ (grT B e j (tbT B n)).map Prod.snd := Classical.byContradiction fun z => by rw [decide_eq_false z] at hz2; cases hz2
        have e1 : grT B e (j + 1) (tbT B n) = grT B e j (tbT B n) := by rw [grT_succ]; unfold stpT; rw [if_pos hz2]
        rw [e1]
    · rintro _ _ ⟨g7, g8, rfl, rfl⟩
      rw [Int.toNat_natCast]
      have e1 : grT B e B.L (tbT B n) = tbT B (n + 1) := by show _ = nxT B n (tbT B n); unfold nxT; rw [he]
      rw [e1]
      obtain ⟨M2, e2⟩ := grT_pre (A := B) (e := e) (T := tbT B n) (j := B.L)
      refine go_aug (x := (n : Int)) (y := 1) rfl (ev_int (K := K)) (JA.of ⟨_, by omega, n + 1, _, _, g7, g8, rfl, rfl, ?_, rfl⟩)
      rw [← e1, e2, List.length_append]; omega
  · have hz : (tbT B n).length ≤ n := by rw [List.length_map] at hz; simp at hz; omega
    rw [tbT_end hz (by omega)]
    refine nx_drop (List.sublist_cons_self _ _) ?_
    refine nx_freeze (K := K) (i := 2) 0 rfl hqt rfl ?_
    dsimp only [List.set, List.eraseIdx]
    exact go_ret Le.refl ((ev_var (i := 2) rfl).weak tab_le) k
theorem use_actions {T : Txt K mg} {tr : TA} {Γ : Gm} {M M1 : Ms} {A : Au} {X : XK} (h : EvA tr Γ M [PAu T A] M1) (hn : A.Ok ∧ A.R.length ≤ 4 ∧ A.L ≤ 1000) : Ev (tCall (sp_actions T) [] X tr) Γ M (D K (dTab (TT (minA A)))) M1 :=
  call0 h fun vs H Q z => ⟨A, hn, z⟩
/-! ### _settles -/
theorem sc__settles : FnScope ["states", "power", "exponent", "state"] ["states"] (defScope s__settles) := ⟨rfl, rfl, rfl, by decide +kernel, rfl, by decide +kernel, by decide +kernel⟩
def sp__settles (T : Txt K mg) : Sp := fun vs H Q _ => ∃ (f : List Int), (FOk f ∧ f.length ≤ 1000) ∧ Prom [D K (dT f)] [] (D K (.bool (StlF f))) [] vs H Q
theorem sp__settles_len {T : Txt K mg} {vs H Q E} (h : sp__settles T vs H Q E) : vs.length = 1 := by obtain ⟨_, _, h⟩ := h; exact h.len
set_option maxHeartbeats 4000000 in
theorem ok__settles (T : Txt K mg) : FnOk P wo K mg base CX0 1 T.f__settles T.d__settles ["states"] (sp__settles T) := by
  have nd := (sc__settles).nd
  refine T.F__settles.ok sc__settles (fun vs H Q E h => (sp__settles_len h)) (fun cdv A outer s H vs Q E hr h => ?_)
  obtain ⟨f, ⟨hf, hl⟩, F, w, ps, k⟩ := h
  refine ⟨_, (pss_cons (ps_set (i := 1) nd rfl (Or.inr rfl) (pv 0))
    (pss_cons (ps_set (i := 2) nd rfl (Or.inl rfl) pe_int)
    (pss_cons (ps_while PassesOwn.never (pt_cmpR op_lt (pv 2) (pe_callB (c_len (K := K) rfl) (by rfl) T.z_len PySem.boot_len (pa_cons (pv 0) pa_nil)) (nomark _)) (pss_cons (ps_set (i := 1) nd rfl (Or.inr rfl) (pe_callTy (c_tuple (K := K) rfl) (by rfl) T.z_tuple (by decide +kernel) (pa_cons (pe_lc (own := [("state", 3)]) (by rfl) nd (pi_tupK (K := K) rfl (pv 1)) (blkOk_by (N := ["states", "power", "exponent", "state"]) (sc := defScope s__settles) (own := [("state", 3)]) (by decide +kernel)) (fun _ _ _ _ _ => pg_name (i := 3) nd rfl (by first | exact Or.inl rfl | exact Or.inr rfl)) (fun _ _ _ _ _ => pts_nil) (fun _ _ _ _ _ => (pe_ix (c_ix (K := K) rfl) (pv 1) (pv 3) (fun _ _ => rfl)))) pa_nil)))
     (pss_one (ps_set (i := 2) nd rfl (Or.inl rfl) (pe_op op_mul pe_int (pv 2))))))
    (pss_one (ps_ret (pe_cmpR (c_eq (K := K) rfl hr.units) (pe_callTy (c_tuple (K := K) rfl) (by rfl) T.z_tuple (by decide +kernel) (pa_cons (pe_lc (own := [("state", 3)]) (by rfl) nd (pi_tupK (K := K) rfl (pv 1)) (blkOk_by (N := ["states", "power", "exponent", "state"]) (sc := defScope s__settles) (own := [("state", 3)]) (by decide +kernel)) (fun _ _ _ _ _ => pg_name (i := 3) nd rfl (by first | exact Or.inl rfl | exact Or.inr rfl)) (fun _ _ _ _ _ => pts_nil) (fun _ _ _ _ _ => (pe_ix (c_ix (K := K) rfl) (pv 0) (pv 3) (fun _ _ => rfl)))) pa_nil)) (pv 1) (nomark _))))))), ?_⟩
  refine go_start w ps (Γ := [some (D K (dT f)), none, none, none]) rfl ?_
  refine (q_asg (ev_var (i := 0) rfl) ?_)
  dsimp only [List.set]
  refine (q_asg (ev_int (K := K) (i := 1)) ?_)
  dsimp only [List.set]
  have pos := hf.pos
  refine (q_while (fun m Γ M => ∃ e : Nat, Γ = [some (D K (dT f)), some (D K (dT (pwF f e))), some (D K (.int (e : Int))), none] ∧ M = [] ∧ 1 ≤ e ∧ m = f.length - e) (f.length - 1) ⟨1, by rw [pwF_one]; rfl, rfl, Nat.le_refl _, rfl⟩ ?_)
  rintro m _ _ ⟨e, rfl, rfl, he, rfl⟩
  refine ⟨_, _, et_test (ev_op (ev_var (i := 2) rfl) (ev_lenMT (f := PyData.int) (ev_var (i := 0) rfl)) (rv_b0 (g := fun i j => decide (i < j)))), fun hz => ?_, fun hz => ?_⟩
  · have hz : e < f.length := by simp at hz; omega
    refine (q_asg (P := D K (dT (pwF f (e + e)))) ((ev_tupDg (evn_lcTg (g := fun q => (pwF f e).getD q.toNat 0) (ev_var (i := 1) rfl) (by rw [pwF_len]; omega) fun q hq => (ev_op (ev_var (i := 1) rfl) (ev_var (i := 3) rfl) (rv_ixDTd (pwF_in hf q hq).1 (by have := pwF_in hf q hq; rw [pwF_len]; omega))))).is (by rw [pwF_mul hf])) ?_)
    dsimp only [List.set]
    refine go_asg (P := D K (.int ((e + e : Nat) : Int))) ((ev_op (ev_int (K := K) (i := 2)) (ev_var (i := 2) rfl) (rv_ic (g := fun i j => i * j) (Or.inl ⟨by omega, by omega⟩))).is (by rw [show (2 : Int) * (e : Int) = ((e + e : Nat) : Int) by omega])) (JA.of ⟨_, by omega, e + e, rfl, rfl, by omega, rfl⟩)
  · have hz : f.length ≤ e := by simp at hz; omega
    exact go_ret Le.refl ((ev_op (P1 := D K (dT (pwF f (1 + e)))) (P2 := D K (dT (pwF f e))) ((ev_tupDg (evn_lcTg (g := fun q => (pwF f 1).getD q.toNat 0) (ev_var (i := 1) rfl) (by rw [pwF_len]; omega) fun q hq => (ev_op (ev_var (i := 0) rfl) (ev_var (i := 3) rfl) (rv_ixDTd (l := f) (pwF_in hf q hq).1 (by have := pwF_in hf q hq; omega))).is (by rw [pwF_one]))).is (by rw [pwF_mul hf])) (ev_var (i := 1) rfl) (rv_eqE enc_dT (by decide))).is (by rw [stl_at hf hz])) k
theorem use__settles {T : Txt K mg} {tr : TA} {Γ : Gm} {M M1 : Ms} {f : List Int} {X : XK} (h : EvA tr Γ M [D K (dT f)] M1) (hn : FOk f ∧ f.length ≤ 1000) : Ev (tCall (sp__settles T) [] X tr) Γ M (D K (.bool (StlF f))) M1 :=
  call0 h fun vs H Q z => ⟨f, hn, z⟩
/-! ### unsettled_word -/
theorem sc_unsettled_word : FnScope ["automaton", "word", "states"] ["automaton"] (defScope s_unsettled_word) := ⟨rfl, rfl, rfl, by decide +kernel, rfl, by decide +kernel, by decide +kernel⟩
abbrev dHd (l : List (List Int)) : PyData := match l with | [] => .none | w :: _ => dT w
def sp_unsettled_word (T : Txt K mg) : Sp := fun vs H Q _ => ∃ (A : Au), (A.Ok ∧ A.R.length ≤ 4 ∧ A.L ≤ 1000) ∧ Prom [PAu T A] [] (D K (dHd (looseT (TT (minA A))))) [] vs H Q
theorem sp_unsettled_word_len {T : Txt K mg} {vs H Q E} (h : sp_unsettled_word T vs H Q E) : vs.length = 1 := by obtain ⟨_, _, h⟩ := h; exact h.len
set_option maxHeartbeats 4000000 in
theorem ok_unsettled_word (T : Txt K mg) : FnOk P wo K mg base CX0 6 T.f_unsettled_word T.d_unsettled_word ["automaton"] (sp_unsettled_word T) := by
  have nd := (sc_unsettled_word).nd
  refine T.F_unsettled_word.ok sc_unsettled_word (fun vs H Q E h => (sp_unsettled_word_len h)) (fun cdv A outer s H vs Q E hr h => ?_)
  obtain ⟨A, ⟨O, hN, hL⟩, F, w, ps, k⟩ := h
  refine ⟨_, (pss_cons (ps_for PassesOwn.never rfl (pi_listK (K := K) rfl (pe_call (ok_actions T) (hr.mono (by decide)) rfl T.m_actions T.F_actions.kp T.b_actions .nil passL (pa_cons (pv 0) pa_nil))) (pg_tupK (K := K) (n := 2) rfl (by rfl) (pgs_cons (pg_name (i := 1) nd rfl (by first | exact Or.inl rfl | exact Or.inr rfl)) (pgs_cons (pg_name (i := 2) nd rfl (by first | exact Or.inl rfl | exact Or.inr rfl)) pgs_nil)))
     (pss_one (ps_if (pt_not (pt_val (pe_call (ok__settles T) (hr.mono (by decide)) rfl T.m__settles T.F__settles.kp T.b__settles .nil pass0 (pa_cons (pv 2) pa_nil)))) (pss_one (ps_ret (pv 1))) pss_nil)))
    (pss_one (ps_ret pe_non))), ?_⟩
  refine go_start w ps (Γ := [some (PAu T A), none, none]) rfl ?_
  have MO := mok O
  refine (q_forLP (zs := TT (minA A)) (RA := fun e => D K (dT e.1)) (RB := fun e => D K (dT e.2)) ((use_actions (ea_cons (ev_var (i := 0) rfl) ea_nil) ⟨O, hN, hL⟩).weak (le_pair (a := fun e : AEnt => dT e.1) (b := fun e : AEnt => dT e.2))) (fun j Γ M => ∃ (g1 g2 : Option MP), Γ = [some (PAu T A), g1, g2] ∧ M = [] ∧ ∀ e ∈ (TT (minA A)).take j, StlF e.2 = true) ⟨none, none, rfl, rfl, fun e he => by simp at he⟩ ?_ ?_)
  · rintro E2 hE2 j e he _ _ ⟨g1, g2, rfl, rfl, hj⟩
    have fk := tt_fok O (List.mem_of_getElem? he)
    dsimp only [List.set]
    refine go_if (et_not (et_val (use__settles (ea_cons (ev_var (i := 2) rfl) ea_nil) ⟨fk, by have := tt_len O (List.mem_of_getElem? he); have := minR_le (A := A) O; omega⟩))) (fun hz => ?_) fun hz => go_next (JA.of ⟨_, _, rfl, rfl, fun e' h' => ?_⟩)
    · have hz : StlF e.2 = false := by simpa using hz.symm
      obtain ⟨ls, el⟩ := loose_hd he hj hz
      rw [el] at k
      exact go_ret hE2 (ev_var (i := 1) rfl) k
    · have hz : StlF e.2 = true := by simpa using hz.symm
      rw [List.take_add_one, he] at h'
      rcases List.mem_append.mp h' with h' | h'
      · exact hj e' h'
      · rw [show e' = e by simpa using h']; exact hz
  · rintro _ _ ⟨g1, g2, rfl, rfl, hj⟩
    rw [List.take_length] at hj
    rw [show looseT (TT (minA A)) = [] from List.map_eq_nil_iff.mpr (List.filter_eq_nil_iff.mpr fun e he => by rw [hj e he]; simp)] at k
    exact go_ret Le.refl (ev_non (K := K)) k
theorem use_unsettled_word {T : Txt K mg} {tr : TA} {Γ : Gm} {M M1 : Ms} {A : Au} {X : XK} (h : EvA tr Γ M [PAu T A] M1) (hn : A.Ok ∧ A.R.length ≤ 4 ∧ A.L ≤ 1000) : Ev (tCall (sp_unsettled_word T) [] X tr) Γ M (D K (dHd (looseT (TT (minA A))))) M1 :=
  call0 h fun vs H Q z => ⟨A, hn, z⟩
/-! ### _law_made -/
theorem sc__law_made : FnScope ["letters", "automaton", "row"] ["letters", "automaton"] (defScope s__law_made) := ⟨rfl, rfl, rfl, by decide +kernel, rfl, by decide +kernel, by decide +kernel⟩
def sp__law_made (T : Txt K mg) : Sp := fun vs H Q _ => ∃ (A : Au) (ls : List (List Int)), (A.Ok ∧ A.R.length ≤ 1000 ∧ A.L ≤ 1000 ∧ A.F.length ≤ 1000 ∧ ls.length = A.L) ∧ Prom [D K (dLT ls), D K (dAu A)] [] (PAu T A) [] vs H Q
theorem sp__law_made_len {T : Txt K mg} {vs H Q E} (h : sp__law_made T vs H Q E) : vs.length = 2 := by obtain ⟨_, _, _, h⟩ := h; exact h.len
set_option maxHeartbeats 4000000 in
theorem ok__law_made (T : Txt K mg) : FnOk P wo K mg base CX0 4 T.f__law_made T.d__law_made ["letters", "automaton"] (sp__law_made T) := by
  have nd := (sc__law_made).nd
  refine T.F__law_made.ok sc__law_made (fun vs H Q E h => (sp__law_made_len h)) (fun cdv A outer s H vs Q E hr h => ?_)
  obtain ⟨A, ls, ⟨O, hN, hL, hF, hd⟩, F, w, ps, k⟩ := h
  refine ⟨_, (pss_one (ps_ret (pe_make ⟨T.mk_Automaton, T.in_Automaton, T.if_Automaton, T.kc_Automaton⟩ (ok_Automaton_init T) (hr.mono (by decide)) rfl T.mc_Automaton T.b_Automaton_init .nil passL (pa_cons (pe_callB (c_len (K := K) rfl) (by rfl) T.z_len PySem.boot_len (pa_cons (pv 0) pa_nil)) (pa_cons (pe_ix (c_ix (K := K) rfl) (pv 1) pe_int (fun _ _ => rfl)) (pa_cons (pe_callTy (c_list (K := K) rfl) (by rfl) T.z_list (by decide +kernel) (pa_cons (pe_ix (c_ix (K := K) rfl) (pv 1) pe_int (fun _ _ => rfl)) pa_nil)) (pa_cons (pe_lc (own := [("row", 2)]) (by rfl) nd (pi_listK (K := K) rfl (pe_ix (c_ix (K := K) rfl) (pv 1) pe_int (fun _ _ => rfl))) (blkOk_by (N := ["letters", "automaton", "row"]) (sc := defScope s__law_made) (own := [("row", 2)]) (by decide +kernel)) (fun _ _ _ _ _ => pg_name (i := 2) nd rfl (by first | exact Or.inl rfl | exact Or.inr rfl)) (fun _ _ _ _ _ => pts_nil) (fun _ _ _ _ _ => (pe_callTy (c_list (K := K) rfl) (by rfl) T.z_list (by decide +kernel) (pa_cons (pv 2) pa_nil)))) pa_nil))))))), ?_⟩
  refine go_start w ps (Γ := [some (D K (dLT ls)), some (D K (dAu A)), none]) rfl ?_
  have eA : auOf (A.L : Int) A.s A.F A.R = A := by show Au.mk ((A.L : Int)).toNat A.s A.F A.R = A; rw [Int.toNat_natCast]
  have lc := evn_lcL (K := K) (xs := A.R) (R := fun l => D K (dL l)) (G := fun l => D K (dL l)) (i := 2) (M := []) (M1 := []) (Γ := [some (D K (dLT ls)), some (D K (dAu A)), none]) (t := tYes) (te := tCB (rList K) (tCons (tVar 2) tNil)) (fun _ => true) ((ev_op (ev_var (i := 1) rfl) (ev_int (K := K) (i := 2)) (rv_ixDT (d := dLL A.R) (by omega) rfl)).weak (le_Lm (f := dL))) (by omega) (fun _ _ => et_yes) (fun l _ _ => (ev_newL (K := K) (evn_cb (ea_cons ((ev_var (i := 2) rfl).weak le_dL) ea_nil) rcn_listL)).weak dL_le)
  rw [filter_true] at lc
  exact go_ret Le.refl ((ev_fr (make0 (K := K) (C := T.c_Automaton) (sp := sp_Automaton_init T) (O := MIns T.c_Automaton 4 (auF K A)) (ps := [D K (.int (A.L : Int)), D K (.int A.s), D K (dL A.F), D K (dLL A.R)]) (ea_cons ((ev_lenM (f := dT) (ev_var (i := 0) rfl)).is (by rw [hd])) (ea_cons (ev_op (ev_var (i := 1) rfl) (ev_int (K := K) (i := 0)) (rv_ixDT (d := .int A.s) (by omega) rfl)) (ea_cons ((ev_newL (K := K) (evn_cb (ea_cons ((ev_op (ev_var (i := 1) rfl) (ev_int (K := K) (i := 1)) (rv_ixDT (d := dL A.F) (by omega) rfl)).weak le_dL) ea_nil) rcn_listL)).weak dL_le) (ea_cons ((ev_newL (K := K) lc).weak (Lm_le (f := dL))) ea_nil)))) fun x vs H Q ⟨F, w, p, r⟩ => ⟨x, (A.L : Int), A.s, A.F, A.R, ⟨hF, hN, fun r hr => by rw [(O.R r hr).1]; exact hL⟩, F, w, p, fun _ => by rw [eA]; exact r, fun c => absurd (by rw [eA]; exact O) c⟩)).weak fr_Ins) k
theorem use__law_made {T : Txt K mg} {tr : TA} {Γ : Gm} {M M1 : Ms} {A : Au} {ls : List (List Int)} {X : XK} (h : EvA tr Γ M [D K (dLT ls), D K (dAu A)] M1) (hn : A.Ok ∧ A.R.length ≤ 1000 ∧ A.L ≤ 1000 ∧ A.F.length ≤ 1000 ∧ ls.length = A.L) : Ev (tCall (sp__law_made T) [] X tr) Γ M (PAu T A) M1 :=
  call0 h fun vs H Q z => ⟨A, ls, hn, z⟩
/-! ### _law_outcome -/
theorem sc__law_outcome : FnScope ["automaton"] ["automaton"] (defScope s__law_outcome) := ⟨rfl, rfl, rfl, by decide +kernel, rfl, by decide +kernel, by decide +kernel⟩
def sp__law_outcome (T : Txt K mg) : Sp := fun vs H Q _ => ∃ (A : Au), (A.Ok ∧ A.R.length ≤ 4 ∧ A.L ≤ 1000) ∧ Prom [PAu T A] [] (D K (dTab (TT (minA A)))) [] vs H Q
theorem sp__law_outcome_len {T : Txt K mg} {vs H Q E} (h : sp__law_outcome T vs H Q E) : vs.length = 1 := by obtain ⟨_, _, h⟩ := h; exact h.len
set_option maxHeartbeats 4000000 in
theorem ok__law_outcome (T : Txt K mg) : FnOk P wo K mg base CX0 6 T.f__law_outcome T.d__law_outcome ["automaton"] (sp__law_outcome T) := by
  have nd := (sc__law_outcome).nd
  refine T.F__law_outcome.ok sc__law_outcome (fun vs H Q E h => (sp__law_outcome_len h)) (fun cdv A outer s H vs Q E hr h => ?_)
  obtain ⟨A, hA, F, w, ps, k⟩ := h
  refine ⟨_, (pss_one (ps_try_only rfl rfl ⟨rfl, by decide, Or.inl T.mc_TooLarge⟩ takes0 (fun W pn xe tk _ => (pss_one (ps_ret (pe_call (ok_actions T) (hr.mono (by decide)) rfl T.m_actions T.F_actions.kp T.b_actions .nil (passes_call (E := fun cls d H => ∀ σ, W cls d σ H) tk fun _ _ σ _ h => h σ) (pa_cons (pv 0) pa_nil))))) (fun a oe cls d pn _ _ => (pss_one (ps_ret pe_non))))), ?_⟩
  refine go_start w ps (Γ := [some (PAu T A)]) rfl ?_
  exact go_ret Le.refl (use_actions (ea_cons (ev_var (i := 0) rfl) ea_nil) hA) k
theorem use__law_outcome {T : Txt K mg} {tr : TA} {Γ : Gm} {M M1 : Ms} {A : Au} {X : XK} (h : EvA tr Γ M [PAu T A] M1) (hn : A.Ok ∧ A.R.length ≤ 4 ∧ A.L ≤ 1000) : Ev (tCall (sp__law_outcome T) [] X tr) Γ M (D K (dTab (TT (minA A)))) M1 :=
  call0 h fun vs H Q z => ⟨A, hn, z⟩
/-! ### _law_table -/
theorem sc__law_table : FnScope ["automaton", "start", "finals", "rows", "first", "found", "seen", "at", "letter", "after", "state"] ["automaton"] (defScope s__law_table) := ⟨rfl, rfl, rfl, by decide +kernel, rfl, by decide +kernel, by decide +kernel⟩
def sp__law_table (T : Txt K mg) : Sp := fun vs H Q _ => ∃ (A : Au), (A.Ok ∧ A.R.length ≤ 4 ∧ A.L ≤ 100) ∧ Prom [D K (dAu A)] [] (D K (dTab (TT (minA A)))) [] vs H Q
theorem sp__law_table_len {T : Txt K mg} {vs H Q E} (h : sp__law_table T vs H Q E) : vs.length = 1 := by obtain ⟨_, _, h⟩ := h; exact h.len
set_option maxHeartbeats 4000000 in
theorem ok__law_table (T : Txt K mg) : FnOk P wo K mg base CX0 2 T.f__law_table T.d__law_table ["automaton"] (sp__law_table T) := by
  have nd := (sc__law_table).nd
  refine T.F__law_table.ok sc__law_table (fun vs H Q E h => (sp__law_table_len h)) (fun cdv A outer s H vs Q E hr h => ?_)
  obtain ⟨A, ⟨O, hN, hL⟩, F, w, ps, k⟩ := h
  refine ⟨_, (pss_cons (ps_asg (pe_call (ok__law_smallest T) (hr.mono (by decide)) rfl T.m__law_smallest T.F__law_smallest.kp T.b__law_smallest .nil pass0 (pa_cons (pv 0) pa_nil)) (pg_tupK (K := K) (n := 3) rfl (by rfl) (pgs_cons (pg_name (i := 1) nd rfl (by first | exact Or.inl rfl | exact Or.inr rfl)) (pgs_cons (pg_name (i := 2) nd rfl (by first | exact Or.inl rfl | exact Or.inr rfl)) (pgs_cons (pg_name (i := 3) nd rfl (by first | exact Or.inl rfl | exact Or.inr rfl)) pgs_nil)))))
    (pss_cons (ps_set (i := 4) nd rfl (Or.inl rfl) (pe_tupRg rfl (by rfl) T.z_tuple (prg_1 (by rfl) T.z_range (pe_callB (c_len (K := K) rfl) (by rfl) T.z_len PySem.boot_len (pa_cons (pv 3) pa_nil)))))
    (pss_cons (ps_set (i := 5) nd rfl (Or.inl rfl) (pe_lst (pa_cons (pe_tup (pa_cons (pe_tup pa_nil) (pa_cons (pv 4) pa_nil))) pa_nil)))
    (pss_cons (ps_set (i := 6) nd rfl (Or.inl rfl) (pe_disp1T hr.units (pv 4) pe_bl))
    (pss_cons (ps_for PassesOwn.never rfl (pi_range1 (by rfl) T.z_range (pa_cons pe_int pa_nil)) (pg_name (i := 7) nd rfl (by first | exact Or.inl rfl | exact Or.inr rfl))
     (pss_one (ps_if (PW.pt (pw_and (pt_cmpR op_lt (pv 7) (pe_callB (c_len (K := K) rfl) (by rfl) T.z_len PySem.boot_len (pa_cons (pv 5) pa_nil)) (nomark _)) (pw_and1 (pt_cmpR op_le (pe_callB (c_len (K := K) rfl) (by rfl) T.z_len PySem.boot_len (pa_cons (pv 5) pa_nil)) pe_int (nomark _))))) (pss_one (ps_for PassesOwn.never rfl (pi_range1 (by rfl) T.z_range (pa_cons (pe_callB (c_len (K := K) rfl) (by rfl) T.z_len PySem.boot_len (pa_cons (pe_ix (c_ix (K := K) rfl) (pv 3) pe_int (fun _ _ => rfl)) pa_nil)) pa_nil)) (pg_name (i := 8) nd rfl (by first | exact Or.inl rfl | exact Or.inr rfl))
       (pss_cons (ps_set (i := 9) nd rfl (Or.inl rfl) (pe_callTy (c_tuple (K := K) rfl) (by rfl) T.z_tuple (by decide +kernel) (pa_cons (pe_lc (own := [("state", 10)]) (by rfl) nd (pi_tupK (K := K) rfl (pe_ix (c_ix (K := K) rfl) (pe_ix (c_ix (K := K) rfl) (pv 5) (pv 7) (fun _ _ => rfl)) pe_int (fun _ _ => rfl))) (blkOk_by (N := ["automaton", "start", "finals", "rows", "first", "found", "seen", "at", "letter", "after", "state"]) (sc := defScope s__law_table) (own := [("state", 10)]) (by decide +kernel)) (fun _ _ _ _ _ => pg_name (i := 10) nd rfl (by first | exact Or.inl rfl | exact Or.inr rfl)) (fun _ _ _ _ _ => pts_nil) (fun _ _ _ _ _ => (pe_ix (c_ix (K := K) rfl) (pe_ix (c_ix (K := K) rfl) (pv 3) (pv 10) (fun _ _ => rfl)) (pv 8) (fun _ _ => rfl)))) pa_nil)))
       (pss_one (ps_if (pt_cmp (pc_dnotin (units1 hr) (pv 9) (pv 6))) (pss_cons (ps_dput (units1 hr) (pv 6) (pv 9) pe_bl rfl)
        (pss_one (ps_expr (pe_bm PySem.F.plainAttrs_list PySem.F.slot_list_append PySem.F.type_list_append mt_append (pv 5) (pa_cons (pe_tup (pa_cons (pe_op (c_catA (K := K) rfl) (pe_ix (c_ix (K := K) rfl) (pe_ix (c_ix (K := K) rfl) (pv 5) (pv 7) (fun _ _ => rfl)) pe_int (fun _ _ => rfl)) (pe_tup (pa_cons (pv 8) pa_nil))) (pa_cons (pv 9) pa_nil))) pa_nil))))) pss_nil))))) pss_nil)))
    (pss_one (ps_ret (pv 5)))))))), ?_⟩
  refine go_start w ps (Γ := [some (D K (dAu A)), none, none, none, none, none, none, none, none, none, none]) rfl ?_
  have MO := mok O
  have BL : (minA A).L = A.L := rfl
  have BR : (minA A).R.length ≤ 4 := Nat.le_trans (minR_le O) hN
  have Bp : 0 < (minA A).R.length := by obtain ⟨h1, h2⟩ := MO.s; omega
  refine (q_unp3 (φ := fun _ : Unit => True) (R1 := fun _ => D K (.int 0)) (R2 := fun _ => D K (dT (minA A).F)) (R3 := fun _ => D K (dTT (minA A).R)) (((use__law_smallest (ea_cons (ev_var (i := 0) rfl) ea_nil) ⟨O, by omega, by omega⟩).weak (D_PTu (ds := [.int 0, dT (minA A).F, dTT (minA A).R]))).weak (in_ex (R := fun _ : Unit => PTu K [D K (.int 0), D K (dT (minA A).F), D K (dTT (minA A).R)]) (φ := fun _ => True) () trivial)) fun _ _ => ?_)
  dsimp only [List.set]
  generalize minA A = B at *
  refine (q_asg (ev_tupRg (ev_lenMT (f := dT) (ev_var (i := 3) rfl)) (by omega)) ?_)
  dsimp only [List.set]
  refine (q_asgN (evn_lst (ps := [PAE K ([], idS B)]) (ea_cons (ev_tup (ps := [D K (dT []), NT (idS B)]) (ea_cons ((ev_tup (ps := []) ea_nil (by simp)).weak (dT_le (l := []))) (ea_cons (ev_var (i := 4) rfl) ea_nil)) (by simp)) ea_nil) (by simp)) fun qt hqt => ?_)
  dsimp only [List.set]
  refine (q_asgN (evn_dispT2 (l := idS B) (P := D K (.bool true)) (fun r => ev_var (i := 4) rfl) (fun M => (ev_bl (K := K)))) fun qs hqs => ?_)
  dsimp only [List.set]
  refine (q_forR (z := 401) (ea_cons (ev_int (K := K) (i := 401)) ea_nil) (by omega) (by omega) (fun n Γ M => ∃ (g7 g8 g9 : Option MP), Γ = [some (D K (dAu A)), some (D K (.int 0)), some (D K (dT B.F)), some (D K (dTT B.R)), some (NT (idS B)), some (Own qt), some (Own qs), g7, g8, g9, none] ∧ M = [(qs, MDct ((tbT B n).map Prod.snd)), (qt, ML ((tbT B n).map (PAE K)))]) ⟨none, none, none, rfl, rfl⟩ ?_ ?_)
  · rintro n hn _ _ ⟨g7, g8, g9, rfl, rfl⟩
    have t256 := tbT_len MO BR n
    have tok := tbT_ok MO n
    dsimp only [List.set]
    have lenT : ∀ {g8 g9 : Option MP}, Ev (tCB (rLn K) (tCons (tVar 5) tNil)) [some (D K (dAu A)), some (D K (.int 0)), some (D K (dT B.F)), some (D K (dTT B.R)), some (NT (idS B)), some (Own qt), some (Own qs), some (D K (.int (n : Int))), g8, g9, none] [(qs, MDct ((tbT B n).map Prod.snd)), (qt, ML ((tbT B n).map (PAE K)))] (D K (.int ((tbT B n).length : Int))) [(qs, MDct ((tbT B n).map Prod.snd)), (qt, ML ((tbT B n).map (PAE K)))] := (ev_cb (ea_cons (ev_var (i := 5) rfl) ea_nil) (rc_lenO (j := 1) rfl)).is (by rw [List.length_map])
    refine go_if (et_and (a := decide (n < (tbT B n).length)) (b := decide ((tbT B n).length ≤ 400)) ((et_test (ev_op (ev_var (i := 7) rfl) lenT (rv_b0 (g := fun i j => decide (i < j))))).is (by simp)) fun _ => (et_test (ev_op lenT (ev_int (K := K) (i := 400)) (rv_b0 (g := fun i j => decide (i ≤ j))))).is (by simp; omega)) (fun hz => ?_) fun hz => go_next (JA.of ⟨_, _, _, rfl, ?_⟩)
    · have hz : n < (tbT B n).length := by simp at hz; omega
      obtain ⟨e, he⟩ : ∃ e, (tbT B n)[n]? = some e := ⟨_, List.getElem?_eq_getElem hz⟩
      have em := List.mem_of_getElem? he
      have e0 : (((tbT B n).map (PAE K)))[((n : Int)).toNat]? = some (PAE K e) := by rw [Int.toNat_natCast, List.getElem?_map, he]; rfl
      have r0 : (B.R.getD 0 []).length = B.L := by
        rw [List.getD_eq_getElem?_getD, List.getElem?_eq_getElem Bp]
        exact (MO.R _ (List.getElem_mem Bp)).1
      refine (go_forR (z := (B.L : Int)) (ea_cons ((ev_lenMT (f := PyData.int) (xs := B.R.getD 0 []) (ev_op (ev_var (i := 3) rfl) (ev_int (K := K) (i := 0)) (rv_ixDT (by omega) (by rw [List.getElem?_map, List.getD_eq_getElem?_getD]; show Option.map dT B.R[0]? = _; rw [List.getElem?_eq_getElem Bp]; rfl)))).is (by rw [r0])) ea_nil) (by omega) (by omega) (fun j Γ M => ∃ (g8 g9 : Option MP), Γ = [some (D K (dAu A)), some (D K (.int 0)), some (D K (dT B.F)), some (D K (dTT B.R)), some (NT (idS B)), some (Own qt), some (Own qs), some (D K (.int (n : Int))), g8, g9, none] ∧ M = [(qs, MDct ((grT B e j (tbT B n)).map Prod.snd)), (qt, ML ((grT B e j (tbT B n)).map (PAE K)))]) ⟨_, _, rfl, rfl⟩ ?_ ?_)
      · rintro j hj _ _ ⟨g8, g9, rfl, rfl⟩
        have hj : j < B.L := by omega
        have gok := tok.grow MO em (j := j) (by omega)
        have g256 : (grT B e j (tbT B n)).length ≤ 256 := Nat.le_trans gok.many (pow_small BR)
        obtain ⟨M2, e2⟩ := grT_pre (A := B) (e := e) (T := tbT B n) (j := j)
        have e3 : (((grT B e j (tbT B n)).map (PAE K)))[((n : Int)).toNat]? = some (PAE K e) := by
          rw [Int.toNat_natCast, e2, List.getElem?_map, List.getElem?_append_left hz, he]; rfl
        dsimp only [List.set]
        refine (q_asg (P := NT (lonA B e.2 j)) (ev_tupNg (evn_lcTg (g := fun q => nxA B q j) (xs := e.2) ((ev_op (ev_op (ev_var (i := 5) rfl) (ev_var (i := 7) rfl) (rv_ixO (j := 1) (P := PAE K e) rfl (by omega) e3)) (ev_int (K := K) (i := 1)) (rv_ixT (by omega) rfl)).weak nt_D) (by rw [tok.len e em]; omega) fun q hq => (ev_op (ev_op (ev_var (i := 3) rfl) (ev_var (i := 10) rfl) (rv_ixDT (tok.ins e em q hq).1 (row_ix (tok.ins e em q hq)))) (ev_var (i := 8) rfl) (rv_ixDTd (by omega) (by rw [(MO.R _ (Au.row_mem (tok.ins e em q hq))).1]; exact hj))))) ?_)
        dsimp only [List.set]
        refine go_if (et_val (ev_dnotin (K := K) (j := 0) (ev_var (i := 9) rfl) (ev_var (i := 6) rfl) rfl)) (fun hz2 => ?_) fun hz2 => go_next (JA.of ⟨_, _, rfl, ?_⟩)
        · have hz2 : lonA B e.2 j ∉ (grT B e j (tbT B n)).map Prod.snd := fun z => by rw [decide_eq_true z] at hz2; cases hz2
          have e1 : grT B e (j + 1) (tbT B n) = grT B e j (tbT B n) ++ [(e.1 ++ [(j : Int)], lonA B e.2 j)] := by rw [grT_succ]; unfold stpT; rw [if_neg hz2]
          refine (q_dput (j := 0) (ev_bl (K := K)) (ev_var (i := 6) rfl) (ev_var (i := 9) rfl) rfl hz2 (by rw [List.length_map]; omega) ?_)
          refine go_app (j := 1) (P := PAE K (e.1 ++ [(j : Int)], lonA B e.2 j)) (ev_var (i := 5) rfl) (ev_tup (ps := [D K (dT (e.1 ++ [(j : Int)])), NT (lonA B e.2 j)]) (ea_cons (ev_op (P1 := D K (dT e.1)) (P2 := D K (dT [(j : Int)])) (ev_op (ev_op (ev_var (i := 5) rfl) (ev_var (i := 7) rfl) (rv_ixO (j := 1) (P := PAE K e) rfl (by omega) e3)) (ev_int (K := K) (i := 0)) (rv_ixT (by omega) rfl)) ((ev_tup (ps := [D K (.int (j : Int))]) (ea_cons (ev_var (i := 8) rfl) ea_nil) (by simp)).weak (dT_le (l := [(j : Int)]))) (rv_catT (by have := tok.wl e em; simp; omega))) (ea_cons (ev_var (i := 9) rfl) ea_nil)) (by simp)) rfl rfl (by rw [List.length_map]; omega) (JA.of ⟨_, _, rfl, ?_⟩)
          rw [e1]
          show [(qs, MDct ((grT B e j (tbT B n)).map Prod.snd ++ [lonA B e.2 j])), (qt, ML ((grT B e j (tbT B n)).map (PAE K) ++ [PAE K (e.1 ++ [(j : Int)], lonA B e.2 j)]))] = _
          rw [List.map_append, List.map_append]; rfl
        · have hz2 : lonA B e.2 j ∈ (grT B e j (tbT B n)).map Prod.snd := Classical.byContradiction fun z => by rw [decide_eq_false z] at hz2; cases hz2
          have e1 : grT B e (j + 1) (tbT B n) = grT B e j (tbT B n) := by rw [grT_succ]; unfold stpT; rw [if_pos hz2]
          rw [e1]
      · rintro _ _ ⟨g8, g9, rfl, rfl⟩
        rw [Int.toNat_natCast]
        have e1 : grT B e B.L (tbT B n) = tbT B (n + 1) := by show _ = nxT B n (tbT B n); unfold nxT; rw [he]
        rw [e1]
        exact JA.of ⟨_, _, _, rfl, rfl⟩
    · have hz : (tbT B n).length ≤ n := by simp at hz; omega
      rw [tbT_same hz 1]
  rintro _ _ ⟨g7, g8, g9, rfl, rfl⟩
  refine nx_drop (List.sublist_cons_self _ _) ?_
  refine nx_freeze (K := K) (i := 5) 0 rfl hqt rfl ?_
  dsimp only [List.set, List.eraseIdx]
  exact go_ret Le.refl ((ev_var (i := 5) rfl).weak tab_le) k
theorem use__law_table {T : Txt K mg} {tr : TA} {Γ : Gm} {M M1 : Ms} {A : Au} {X : XK} (h : EvA tr Γ M [D K (dAu A)] M1) (hn : A.Ok ∧ A.R.length ≤ 4 ∧ A.L ≤ 100) : Ev (tCall (sp__law_table T) [] X tr) Γ M (D K (dTab (TT (minA A)))) M1 :=
  call0 h fun vs H Q z => ⟨A, hn, z⟩
/-! ### _law_rests -/
theorem sc__law_rests : FnScope ["one", "power", "k", "after", "state"] ["one"] (defScope s__law_rests) := ⟨rfl, rfl, rfl, by decide +kernel, rfl, by decide +kernel, by decide +kernel⟩
def sp__law_rests (T : Txt K mg) : Sp := fun vs H Q _ => ∃ (f : List Int), (FOk f ∧ f.length ≤ 1000) ∧ Prom [D K (dT f)] [] (D K (.bool (StlF f))) [] vs H Q
theorem sp__law_rests_len {T : Txt K mg} {vs H Q E} (h : sp__law_rests T vs H Q E) : vs.length = 1 := by obtain ⟨_, _, h⟩ := h; exact h.len
set_option maxHeartbeats 4000000 in
theorem ok__law_rests (T : Txt K mg) : FnOk P wo K mg base CX0 1 T.f__law_rests T.d__law_rests ["one"] (sp__law_rests T) := by
  have nd := (sc__law_rests).nd
  refine T.F__law_rests.ok sc__law_rests (fun vs H Q E h => (sp__law_rests_len h)) (fun cdv A outer s H vs Q E hr h => ?_)
  obtain ⟨f, ⟨hf, hl⟩, F, w, ps, k⟩ := h
  refine ⟨_, (pss_cons (ps_set (i := 1) nd rfl (Or.inl rfl) (pv 0))
    (pss_cons (ps_for PassesOwn.never rfl (pi_range1 (by rfl) T.z_range (pa_cons (pe_op op_add (pe_callB (c_len (K := K) rfl) (by rfl) T.z_len PySem.boot_len (pa_cons (pv 0) pa_nil)) pe_int) pa_nil)) (pg_name (i := 2) nd rfl (by first | exact Or.inl rfl | exact Or.inr rfl))
     (pss_cons (ps_set (i := 3) nd rfl (Or.inl rfl) (pe_callTy (c_tuple (K := K) rfl) (by rfl) T.z_tuple (by decide +kernel) (pa_cons (pe_lc (own := [("state", 4)]) (by rfl) nd (pi_tupK (K := K) rfl (pv 1)) (blkOk_by (N := ["one", "power", "k", "after", "state"]) (sc := defScope s__law_rests) (own := [("state", 4)]) (by decide +kernel)) (fun _ _ _ _ _ => pg_name (i := 4) nd rfl (by first | exact Or.inl rfl | exact Or.inr rfl)) (fun _ _ _ _ _ => pts_nil) (fun _ _ _ _ _ => (pe_ix (c_ix (K := K) rfl) (pv 0) (pv 4) (fun _ _ => rfl)))) pa_nil)))
     (pss_cons (ps_if (pt_cmpR (c_eq (K := K) rfl hr.units) (pv 3) (pv 1) (nomark _)) (pss_one (ps_ret pe_bl)) pss_nil)
     (pss_one (ps_set (i := 1) nd rfl (Or.inl rfl) (pv 3))))))
    (pss_one (ps_ret pe_bl)))), ?_⟩
  refine go_start w ps (Γ := [some (D K (dT f)), none, none, none, none]) rfl ?_
  refine (q_asg (ev_var (i := 0) rfl) ?_)
  dsimp only [List.set]
  have pos := hf.pos
  refine (q_forR (z := (f.length : Int) + 1) (ea_cons (ev_op (ev_lenMT (f := PyData.int) (ev_var (i := 0) rfl)) (ev_int (K := K) (i := 1)) (rv_i0 (g := fun i j => i + j))) ea_nil) (by omega) (by omega) (fun n Γ M => ∃ (g2 g3 : Option MP), Γ = [some (D K (dT f)), some (D K (dT (pwF f (n + 1)))), g2, g3, none] ∧ M = [] ∧ ∀ k, k < n → pwF f (1 + (k + 1)) ≠ pwF f (k + 1)) ⟨none, none, by rw [pwF_one], rfl, fun k hk => absurd hk (Nat.not_lt_zero _)⟩ ?_ ?_)
  · rintro n hn _ _ ⟨g2, g3, rfl, rfl, hno⟩
    dsimp only [List.set]
    refine (q_asg (P := D K (dT (pwF f (1 + (n + 1))))) ((ev_tupDg (evn_lcTg (g := fun q => (pwF f 1).getD q.toNat 0) (ev_var (i := 1) rfl) (by rw [pwF_len]; omega) fun q hq => (ev_op (ev_var (i := 0) rfl) (ev_var (i := 4) rfl) (rv_ixDTd (l := f) (pwF_in hf q hq).1 (by have := pwF_in hf q hq; omega))).is (by rw [pwF_one]))).is (by rw [pwF_mul hf])) ?_)
    dsimp only [List.set]
    refine (q_if (et_test (ev_op (P1 := D K (dT (pwF f (1 + (n + 1))))) (P2 := D K (dT (pwF f (n + 1)))) (ev_var (i := 3) rfl) (ev_var (i := 1) rfl) (rv_eqE enc_dT (by decide)))) (fun hz => ?_) fun hz => go_next ?_)
    · have hz : pwF f (1 + (n + 1)) = pwF f (n + 1) := by simpa using hz
      rw [stl_of hf hz] at k
      exact go_ret Le.refl (ev_bl (K := K)) k
    · have hz : pwF f (1 + (n + 1)) ≠ pwF f (n + 1) := by simpa using hz
      exact go_asg (ev_var (i := 3) rfl) (JA.of ⟨_, _, by rw [Nat.add_comm 1 (n + 1)]; rfl, rfl, fun j hj => by
        rcases Nat.lt_succ_iff_lt_or_eq.mp hj with h | rfl
        · exact hno j h
        · exact hz⟩)
  · rintro _ _ ⟨g2, g3, rfl, rfl, hno⟩
    rw [stl_rest hf fun j hj => hno j (by omega)] at k
    exact go_ret Le.refl (ev_bl (K := K)) k
theorem use__law_rests {T : Txt K mg} {tr : TA} {Γ : Gm} {M M1 : Ms} {f : List Int} {X : XK} (h : EvA tr Γ M [D K (dT f)] M1) (hn : FOk f ∧ f.length ≤ 1000) : Ev (tCall (sp__law_rests T) [] X tr) Γ M (D K (.bool (StlF f))) M1 :=
  call0 h fun vs H Q z => ⟨f, hn, z⟩
/-! ### law -/
theorem sc_law : FnScope ["script", "draws", "letters", "automaton", "made", "word", "due", "table", "found", "loose", "state", "row"] ["script"] (defScope s_law) := ⟨rfl, rfl, rfl, by decide +kernel, rfl, by decide +kernel, by decide +kernel⟩
theorem runS_map {A : Au} : ∀ {w st : List Int}, runS A st w = st.map fun q => runA A q w
  | [], st => by show st = st.map fun q => q; rw [List.map_id']
  | a :: w, st => by
    show runS A (lonA A st a.toNat) w = _
    rw [runS_map]
    show ((st.map _).map _) = _
    rw [List.map_map]; rfl
theorem due_eq {A : Au} {w : List Int} : ((List.range A.R.length).map fun k : Nat => runA A (k : Int) w) = runS A (idS A) w := by
  rw [runS_map]
  show _ = ((List.range A.R.length).map fun i : Nat => (i : Int)).map _
  rw [List.map_map]; rfl
theorem enc_tab : Enc dTab 4 := enc_list (enc_pair enc_dT enc_dT)
def spLaw (K : PySem.W.Frag) : Sp := fun vs H Q _ => ∃ (a : Addr) (ns : List Int), vs = [.ref a] ∧ SqL K H a (ns.map V.int) ∧ ns.length ≤ 63 ∧ ∀ H', Q (.bl true) H'
def sp_law (T : Txt K mg) : Sp := spLaw K
theorem sp_law_len {T : Txt K mg} {vs H Q E} (h : sp_law T vs H Q E) : vs.length = 1 := by obtain ⟨a, ns, rfl, _⟩ := h; rfl
set_option maxHeartbeats 4000000 in
theorem ok_law (T : Txt K mg) : FnOk P wo K mg base CX0 7 T.f_law T.d_law ["script"] (sp_law T) := by
  have nd := (sc_law).nd
  refine T.F_law.ok sc_law (fun vs H Q E h => (sp_law_len h)) (fun cdv A outer s H vs Q E hr h => ?_)
  obtain ⟨a0, ns, rfl, hS, hns, k0⟩ := h
  have w : Wd H [] H := ⟨Evl.Ex.refl _, List.nodup_nil, fun r hr => by cases hr⟩
  have ps : Ps H [.ref a0] [PLi K (ns.map fun n => D K (.int n))] := .cons ⟨a0, _, rfl, hS, map_ints ns⟩ .nil
  have k : ∀ M, Rt ⟨H, H, keys []⟩ M (D K (.bool true)) Q := fun M v F H' _ hv => by cases dp_bl hv; exact k0 H'
  refine ⟨_, (pss_cons (ps_set (i := 1) nd rfl (Or.inl rfl) (pe_call (ok__law_draws T) (hr.mono (by decide)) rfl T.m__law_draws T.F__law_draws.kp T.b__law_draws .nil pass0 (pa_cons (pv 0) (pa_cons pe_int pa_nil))))
    (pss_cons (ps_set (i := 2) nd rfl (Or.inl rfl) (pe_op op_add pe_int (pe_call (ok__law_take T) (hr.mono (by decide)) rfl T.m__law_take T.F__law_take.kp T.b__law_take .nil pass0 (pa_cons (pv 1) (pa_cons pe_int pa_nil)))))
    (pss_cons (ps_set (i := 3) nd rfl (Or.inr rfl) (pe_call (ok__law_any_automaton T) (hr.mono (by decide)) rfl T.m__law_any_automaton T.F__law_any_automaton.kp T.b__law_any_automaton .nil pass0 (pa_cons (pv 1) (pa_cons (pv 2) (pa_cons pe_int pa_nil)))))
    (pss_cons (ps_set (i := 4) nd rfl (Or.inl rfl) (pe_call (ok__law_made T) (hr.mono (by decide)) rfl T.m__law_made T.F__law_made.kp T.b__law_made .nil pass0 (pa_cons (pe_op op_rep (pe_lst (pa_cons (pe_tup (pa_cons pe_int pa_nil)) pa_nil)) (pv 2)) (pa_cons (pv 3) pa_nil))))
    (pss_cons (ps_set (i := 5) nd rfl (Or.inr rfl) (pe_call (ok__law_word T) (hr.mono (by decide)) rfl T.m__law_word T.F__law_word.kp T.b__law_word .nil pass0 (pa_cons (pv 1) (pa_cons (pv 2) (pa_cons pe_int pa_nil)))))
    (pss_cons (ps_set (i := 6) nd rfl (Or.inl rfl) (pe_callTy (c_tuple (K := K) rfl) (by rfl) T.z_tuple (by decide +kernel) (pa_cons (pe_lc (own := [("state", 10)]) (by rfl) nd (pi_range1 (by rfl) T.z_range (pa_cons (pe_callB (c_len (K := K) rfl) (by rfl) T.z_len PySem.boot_len (pa_cons (pe_ix (c_ix (K := K) rfl) (pv 3) pe_int (fun _ _ => rfl)) pa_nil)) pa_nil)) (blkOk_by (N := ["script", "draws", "letters", "automaton", "made", "word", "due", "table", "found", "loose", "state", "row"]) (sc := defScope s_law) (own := [("state", 10)]) (by decide +kernel)) (fun _ _ _ _ _ => pg_name (i := 10) nd rfl (by first | exact Or.inl rfl | exact Or.inr rfl)) (fun _ _ _ _ _ => pts_nil) (fun _ _ _ _ _ => (pe_call (ok__law_run T) (hr.mono (by decide)) rfl T.m__law_run T.F__law_run.kp T.b__law_run .nil pass0 (pa_cons (pe_tup (pa_cons (pv 10) (pa_cons (pe_lst pa_nil) (pa_cons (pe_ix (c_ix (K := K) rfl) (pv 3) pe_int (fun _ _ => rfl)) pa_nil)))) (pa_cons (pv 5) pa_nil))))) pa_nil)))
    (pss_cons (ps_if (pt_cmpR (c_ne (K := K) rfl hr.units) (pe_call (ok_action T) (hr.mono (by decide)) rfl T.m_action T.F_action.kp T.b_action .nil pass0 (pa_cons (pv 4) (pa_cons (pe_callTy (c_list (K := K) rfl) (by rfl) T.z_list (by decide +kernel) (pa_cons (pv 5) pa_nil)) pa_nil))) (pv 6) (nomark _)) (pss_one (ps_ret pe_bl)) pss_nil)
    (pss_cons (ps_set (i := 7) nd rfl (Or.inl rfl) (pe_call (ok__law_table T) (hr.mono (by decide)) rfl T.m__law_table T.F__law_table.kp T.b__law_table .nil pass0 (pa_cons (pv 3) pa_nil)))
    (pss_cons (ps_set (i := 8) nd rfl (Or.inl rfl) (pe_call (ok__law_outcome T) (hr.mono (by decide)) rfl T.m__law_outcome T.F__law_outcome.kp T.b__law_outcome .nil pass0 (pa_cons (pv 4) pa_nil)))
    (pss_cons (ps_if (pt_cmpR op_gt (pe_callB (c_len (K := K) rfl) (by rfl) T.z_len PySem.boot_len (pa_cons (pv 7) pa_nil)) pe_int (nomark _)) (pss_one (ps_ret (pe_cmpR op_isN (pv 8) pe_non (nomark _)))) pss_nil)
    (pss_cons (ps_if (PW.pt (pw_or (pt_not (pt_val (pe_callB (c_isi (K := K) rfl) (by rfl) T.z_isinstance (by decide +kernel) (pa_cons (pv 8) (pa_cons (pe_bltn (v := .ty "list") (by rfl) T.z_list (by decide +kernel) rfl) pa_nil))))) (pw_or1 (pt_cmpR (c_ne (K := K) rfl hr.units) (pv 8) (pv 7) (nomark _))))) (pss_one (ps_ret pe_bl)) pss_nil)
    (pss_cons (ps_setLc (i := 9) (own := [("row", 11)]) (by rfl) nd rfl rfl (sw_true rfl rfl rfl (by decide +kernel)) (pi_listK (K := K) rfl (pv 7)) (blkOk_by (N := ["script", "draws", "letters", "automaton", "made", "word", "due", "table", "found", "loose", "state", "row"]) (sc := defScope s_law) (own := [("row", 11)]) (by decide +kernel)) (fun _ _ _ _ _ => pg_name (i := 11) nd rfl (by first | exact Or.inl rfl | exact Or.inr rfl)) (fun _ _ _ _ _ => (pts_one (pt_not (pt_val (pe_call (ok__law_rests T) (hr.mono (by decide)) rfl T.m__law_rests T.F__law_rests.kp T.b__law_rests .nil pass0 (pa_cons (pe_ix (c_ix (K := K) rfl) (pv 11) pe_int (fun _ _ => rfl)) pa_nil)))))) (fun _ _ _ _ _ => (pe_ix (c_ix (K := K) rfl) (pv 11) pe_int (fun _ _ => rfl))))
    (pss_cons (ps_if (pt_cmpR op_eq (pe_callB (c_len (K := K) rfl) (by rfl) T.z_len PySem.boot_len (pa_cons (pv 9) pa_nil)) pe_int (nomark _)) (pss_one (ps_ret (pe_cmpR op_isN (pe_call (ok_unsettled_word T) (hr.mono (by decide)) rfl T.m_unsettled_word T.F_unsettled_word.kp T.b_unsettled_word .nil pass0 (pa_cons (pv 4) pa_nil)) pe_non (nomark _)))) pss_nil)
    (pss_one (ps_ret (pe_cmpR (c_eq (K := K) rfl hr.units) (pe_call (ok_unsettled_word T) (hr.mono (by decide)) rfl T.m_unsettled_word T.F_unsettled_word.kp T.b_unsettled_word .nil pass0 (pa_cons (pv 4) pa_nil)) (pe_ix (c_ix (K := K) rfl) (pv 9) pe_int (fun _ _ => rfl)) (nomark _))))))))))))))))), ?_⟩
  refine go_start w ps (Γ := [some (PLi K (ns.map fun n => D K (.int n))), none, none, none, none, none, none, none, none, none, none, none]) rfl ?_
  refine (q_asgN (use__law_draws (ea_cons (ev_var rfl) (ea_cons (ev_int (K := K)) ea_nil)) (by decide) (by decide) (by omega)) fun d hd => ?_)
  generalize PLi K (ns.map fun n => D K (.int n)) = S at *
  refine (q_asg (ev_op (ev_int (K := K)) (use__law_take (ea_cons (ev_var rfl) (ea_cons (ev_int (K := K)) ea_nil)) (by decide) (j := 0) rfl) rv_addIn) (nx_ex (i := 2) rfl fun n => nx_an (i := 2) rfl fun hn => ?_))
  dsimp only [List.set]
  refine (q_asg ((use__law_any_automaton (ea_cons (ev_var (i := 1) rfl) (ea_cons (ev_var (i := 2) rfl) (ea_cons (ev_int (K := K) (i := 4)) ea_nil))) (by omega) (j := 0) rfl).weak (PEx.le fun A => PAn.le fun _ => PTu_D (ds := [.int A.s, dL A.F, dLL A.R]))) (nx_ex (i := 3) rfl fun A => nx_an (i := 3) rfl fun hA => ?_))
  obtain ⟨O, hL, hN⟩ := hA
  subst hL
  dsimp only [List.set]
  have N4 : A.R.length ≤ 4 := by omega
  have L3 : A.L ≤ 3 := by omega
  have Fl : A.F.length ≤ 4 := by
    have nd : A.F.Nodup := O.up.imp fun h => Int.ne_of_lt h
    have := nodup_le nd (m := allS A) fun x hx => allS_mem (O.F x hx)
    unfold allS at this
    rw [List.length_map, List.length_range] at this
    omega
  have rp := evn_rep (K := K) (P := D K (dT [0])) (z := (A.L : Int)) (M := [(d, MDr K)]) (M1 := [(d, MDr K)]) (Γ := [some S, some (Own d), some (D K (.int (A.L : Int))), some (D K (dAu A)), none, none, none, none, none, none, none, none]) (evn_lst (ps := [D K (dT [0])]) (ea_cons ((ev_tup (ps := [D K (.int 0)]) (ea_cons (ev_int (K := K) (i := 0)) ea_nil) (by simp)).weak (dT_le (l := [0]))) ea_nil) (by simp)) (fun M => ev_var (i := 2) rfl) (by omega)
  rw [Int.toNat_natCast] at rp
  have rp2 := (ev_newL (K := K) (rp.is (O2 := ML ((List.replicate A.L [0]).map fun l => D K (dT l))) (by rw [List.map_replicate]))).weak (Lm_le (f := dT))
  refine (q_asg (use__law_made (A := A) (ls := List.replicate A.L [0]) (ea_cons rp2 (ea_cons (ev_var (i := 3) rfl) ea_nil)) ⟨O, by omega, by omega, by omega, List.length_replicate⟩) ?_)
  clear rp rp2
  dsimp only [List.set]
  refine (q_asg (use__law_word (m := 6) (ea_cons (ev_var (i := 1) rfl) (ea_cons (ev_var (i := 2) rfl) (ea_cons (ev_int (K := K) (i := 6)) ea_nil))) (by omega) (j := 0) rfl) (nx_ex (i := 5) rfl fun wd => nx_an (i := 5) rfl fun hwd => ?_))
  dsimp only [List.set]
  have lok : LetOk A wd := hwd.2
  have wl : wd.length ≤ 6 := by omega
  have lc := evn_lcR (K := K) (z := (A.R.length : Int)) (i := 10) (G := fun k : Nat => D K (.int (runA A (k : Int) wd))) (M := [(d, MDr K)]) (M1 := [(d, MDr K)]) (Γ := [some S, some (Own d), some (D K (.int (A.L : Int))), some (D K (dAu A)), some (PAu T A), some (D K (dT wd)), none, none, none, none, none, none]) (fun _ => true) (ea_cons (ev_lenM (f := dL) (ev_op (ev_var (i := 3) rfl) (ev_int (K := K) (i := 2)) (rv_ixDT (d := dLL A.R) (by omega) rfl))) ea_nil) (by omega) (fun _ _ => et_yes) (fun k hk _ => use__law_run (T := T) (A := ⟨A.L, (k : Int), [], A.R⟩) (w := wd) (X := E0) (ea_cons ((ev_tup (ps := [D K (.int (k : Int)), D K (dL []), D K (dLL A.R)]) (ea_cons (ev_var (i := 10) rfl) (ea_cons ((ev_newL (K := K) (evn_lst (ps := []) ea_nil (by decide))).weak (Lm_le (f := PyData.int) (l := []))) (ea_cons (ev_op (ev_var (i := 3) rfl) (ev_int (K := K) (i := 2)) (rv_ixDT (d := dLL A.R) (by omega) rfl)) ea_nil))) (by simp)).weak (PTu_D (ds := [.int (k : Int), dL [], dLL A.R]))) (ea_cons (ev_var (i := 5) rfl) ea_nil)) ⟨⟨O.L1, ⟨Int.natCast_nonneg k, hk⟩, fun x hx => (by cases hx), List.Pairwise.nil, O.R⟩, lok, by omega⟩)
  rw [filter_true, Int.toNat_natCast] at lc
  refine (q_asg (P := D K (dT (runS A (idS A) wd))) (ev_tupDg (lc.is (by rw [MInts, ← due_eq, List.map_map]; rfl))) ?_)
  clear lc
  dsimp only [List.set]
  refine (q_if (et_test (ev_op (P1 := D K (dT (runS A (idS A) wd))) (P2 := D K (dT (runS A (idS A) wd))) ((use_action (b := false) (w := wd) (ea_cons (ev_var (i := 4) rfl) (ea_cons ((ev_newL (K := K) (evn_cb (ea_cons ((ev_var (i := 5) rfl).weak le_dT) ea_nil) rcn_listT)).weak dL_le) ea_nil)) ⟨O, lok, by omega, by omega⟩).weak nt_D) (ev_var (i := 6) rfl) (rv_neE enc_dT (by decide)))) (fun hz => absurd hz (by simp)) fun _ => go_next ?_)
  dsimp only
  refine (q_asg (use__law_table (ea_cons (ev_var (i := 3) rfl) ea_nil) ⟨O, N4, by omega⟩) ?_)
  dsimp only [List.set]
  refine (q_asg (use__law_outcome (ea_cons (ev_var (i := 4) rfl) ea_nil) ⟨O, N4, by omega⟩) ?_)
  dsimp only [List.set]
  have t256 : (TT (minA A)).length ≤ 256 := tbT_len (mok O) (Nat.le_trans (minR_le O) N4) 401
  have uw : ∀ {Γ : Gm} {M : Ms}, Γ[4]? = some (some (PAu T A)) → Ev (tCall (sp_unsettled_word T) [] E0 (tCons (tVar 4) tNil)) Γ M (D K (dHd (looseT (TT (minA A))))) M := fun h => use_unsettled_word (ea_cons (ev_var h) ea_nil) ⟨O, N4, by omega⟩
  have fk : ∀ e ∈ TT (minA A), FOk e.2 ∧ e.2.length ≤ 1000 := fun e he => ⟨tt_fok O he, by have := tt_len O he; have := minR_le (A := A) O; omega⟩
  generalize TT (minA A) = TB at *
  refine (q_if (et_test (ev_op (ev_lenM (f := dAE) (ev_var (i := 7) rfl)) (ev_int (K := K) (i := 400)) (rv_b0 (g := fun i j => decide (j < i))))) (fun hz => ?_) fun hz => go_next ?_)
  · exfalso
    simp at hz
    omega
  dsimp only
  refine (q_if (et_or (a := false) (b := false) ((et_not (et_val (ev_cb (ea_cons (ev_var (i := 8) rfl) (ea_cons ev_pv ea_nil)) (rc_isi (d := dTab TB) (b := true) (by show kitB "list" "list" = some true; decide +kernel))))).is (by simp)) fun _ => ((et_test (ev_op (P1 := D K (dTab TB)) (P2 := D K (dTab TB)) (ev_var (i := 8) rfl) (ev_var (i := 7) rfl) (rv_neE enc_tab (by decide)))).is (by simp))) (fun hz => absurd hz (by simp)) fun _ => go_next ?_)
  dsimp only
  have l4 := evn_lcL (K := K) (xs := TB) (R := fun e => D K (dAE e)) (G := fun e => D K (dT e.1)) (i := 11) (M := [(d, MDr K)]) (M1 := [(d, MDr K)]) (Γ := [some S, some (Own d), some (D K (.int (A.L : Int))), some (D K (dAu A)), some (PAu T A), some (D K (dT wd)), some (D K (dT (runS A (idS A) wd))), some (D K (dTab TB)), some (D K (dTab TB)), none, none, none]) (te := tOp (rIx K) (tVar 11) (tC (V.int 0))) (fun e => !StlF e.2) ((ev_var (i := 7) rfl).weak (le_Lm (f := dAE))) (by omega) (fun e he => et_not (et_val (use__law_rests (T := T) (X := E0) (ea_cons (ev_op (ev_var (i := 11) rfl) (ev_int (K := K) (i := 1)) (rv_ixDT (d := dT e.2) (by omega) rfl)) ea_nil) (fk e he)))) (fun e he _ => ev_op (ev_var (i := 11) rfl) (ev_int (K := K) (i := 0)) (rv_ixDT (d := dT e.1) (by omega) rfl))
  refine (q_asg (P := D K (dLT (looseT TB))) ((ev_newL (K := K) (l4.is (O2 := ML ((looseT TB).map fun l => D K (dT l))) (by unfold looseT; rw [List.map_map]; rfl))).weak (Lm_le (f := dT))) ?_)
  clear l4
  dsimp only [List.set]
  generalize looseT TB = LT at *
  refine (q_if (et_test (ev_op (ev_lenM (f := dT) (ev_var (i := 9) rfl)) (ev_int (K := K) (i := 0)) rv_eqI)) (fun hz => ?_) fun hz => go_next ?_)
  · have hz : LT = [] := List.length_eq_zero_iff.mp (by simpa using hz)
    subst hz
    exact go_ret Le.refl ((ev_op (uw rfl) (ev_non (K := K)) rv_isN1).is (by simp)) (k _)
  · obtain ⟨x, l, rfl⟩ : ∃ x l, LT = x :: l := by
      cases LT with
      | nil => simp at hz
      | cons x l => exact ⟨x, l, rfl⟩
    exact go_ret Le.refl ((ev_op (P1 := D K (dT x)) (P2 := D K (dT x)) (uw rfl) (ev_op (ev_var (i := 9) rfl) (ev_int (K := K) (i := 0)) (rv_ixDL (d := dT x) (by omega) rfl)) (rv_eqE enc_dT (by decide))).is (by simp)) (k _)
end
end My
namespace My
open PySem L2 Hq
theorem all_mk {l : PySem.W.OpenLaw} {wo : World} {K : PySem.W.Frag} {h : Heap} {mg : Str → Option Value} {fa c_Automaton c_InvalidAutomaton c_TooLarge f__law_take f__law_draws f__law_word f__check_states f_Automaton_init f_final_marks f__reached_states f_state_classes f_least f__law_run f__law_any_automaton f__law_smallest f__longer f_action f_actions f__settles f_unsettled_word f__law_made f__law_outcome f__law_table f__law_rests f_law : Addr} (X : K.In h) (G : h.Ns mainGlobals mg) (hfa : mg "law" = some (.ref fa))
    {od0 od1 od2 od3 od4 od5 od6 od7 od8 od9 od10 od11 od12 od13 od14 od15 od16 od17 od18 od19 od20 od21 an0 an1 an2 an3 an4 an5 an6 an7 an8 an9 an10 an11 an12 an13 an14 an15 an16 an17 an18 an19 an20 an21 : Option Addr} {sl0 sl1 sl2 sl3 sl4 sl5 sl6 sl7 sl8 sl9 sl10 sl11 sl12 sl13 sl14 sl15 sl16 sl17 sl18 sl19 sl20 sl21 : Array (Option Value)} {oc0 oc1 oc2 oc3 oc4 oc5 oc6 oc7 oc8 oc9 oc10 oc11 oc12 oc13 oc14 oc15 oc16 oc17 oc18 oc19 oc20 oc21 kV0 kV1 kV2 kV3 kV4 kV5 kV6 kV7 kV8 kV9 kV10 kV11 kV12 kV13 kV14 kV15 kV16 kV17 kV18 kV19 kV20 kV21 dc0 dc1 dc2 dc3 dc4 dc5 dc6 dc7 dc8 dc9 dc10 dc11 dc12 dc13 dc14 dc15 dc16 dc17 dc18 dc19 dc20 dc21 pm0 pm1 pm2 pm3 pm4 pm5 pm6 pm7 pm8 pm9 pm10 pm11 pm12 pm13 pm14 pm15 pm16 pm17 pm18 pm19 pm20 pm21 cd0 cd1 cd2 cd3 cd4 cd5 cd6 cd7 cd8 cd9 cd10 cd11 cd12 cd13 cd14 cd15 cd16 cd17 cd18 cd19 cd20 cd21 ct0 ct1 ct2 ct3 ct4 ct5 ct6 ct7 ct8 ct9 ct10 ct11 ct12 ct13 ct14 ct15 ct16 ct17 ct18 ct19 ct20 ct21 : Value}
    {t_MOST_ACTIONS : Tok}
    (aC_Automaton : PySem.W.nsIn K mainGlobals "Automaton" = some (some (.ref c_Automaton)))
    (a0 : PySem.W.nsIn K mainGlobals "_law_take" = some (some (.ref f__law_take)))
    (l0 : K.lookup f__law_take = some ⟨oc0, od0, .func (PySem.W.fnOf "_law_take" "_law_take" (defArgs s__law_take) (defBody s__law_take) (defScope s__law_take) .none kV0 dc0 pm0 an0 cd0 ct0), sl0⟩)
    (c0 : PySem.W.codeIn K cd0 "_law_take" = true)
    (k0 : PySem.W.keepIn K (.ref f__law_take) = true)
    (a1 : PySem.W.nsIn K mainGlobals "_law_draws" = some (some (.ref f__law_draws)))
    (l1 : K.lookup f__law_draws = some ⟨oc1, od1, .func (PySem.W.fnOf "_law_draws" "_law_draws" (defArgs s__law_draws) (defBody s__law_draws) (defScope s__law_draws) .none kV1 dc1 pm1 an1 cd1 ct1), sl1⟩)
    (c1 : PySem.W.codeIn K cd1 "_law_draws" = true)
    (k1 : PySem.W.keepIn K (.ref f__law_draws) = true)
    (a2 : PySem.W.nsIn K mainGlobals "_law_word" = some (some (.ref f__law_word)))
    (l2 : K.lookup f__law_word = some ⟨oc2, od2, .func (PySem.W.fnOf "_law_word" "_law_word" (defArgs s__law_word) (defBody s__law_word) (defScope s__law_word) .none kV2 dc2 pm2 an2 cd2 ct2), sl2⟩)
    (c2 : PySem.W.codeIn K cd2 "_law_word" = true)
    (k2 : PySem.W.keepIn K (.ref f__law_word) = true)
    (a3 : PySem.W.nsIn K mainGlobals "_check_states" = some (some (.ref f__check_states)))
    (l3 : K.lookup f__check_states = some ⟨oc3, od3, .func (PySem.W.fnOf "_check_states" "_check_states" (defArgs s__check_states) (defBody s__check_states) (defScope s__check_states) .none kV3 dc3 pm3 an3 cd3 ct3), sl3⟩)
    (c3 : PySem.W.codeIn K cd3 "_check_states" = true)
    (k3 : PySem.W.keepIn K (.ref f__check_states) = true)
    (a4 : PySem.W.findIn K (.ref c_Automaton) "__init__" = some (some (.ref f_Automaton_init)))
    (i4 : PySem.W.isFn K (.ref f_Automaton_init) = true)
    (l4 : K.lookup f_Automaton_init = some ⟨oc4, od4, .func (PySem.W.fnOf "__init__" "Automaton.__init__" (defArgs s_Automaton_init) (defBody s_Automaton_init) (defScope s_Automaton_init) .none kV4 dc4 pm4 an4 cd4 ct4), sl4⟩)
    (c4 : PySem.W.codeIn K cd4 "Automaton.__init__" = true)
    (k4 : PySem.W.keepIn K (.ref f_Automaton_init) = true)
    (a5 : PySem.W.nsIn K mainGlobals "final_marks" = some (some (.ref f_final_marks)))
    (l5 : K.lookup f_final_marks = some ⟨oc5, od5, .func (PySem.W.fnOf "final_marks" "final_marks" (defArgs s_final_marks) (defBody s_final_marks) (defScope s_final_marks) .none kV5 dc5 pm5 an5 cd5 ct5), sl5⟩)
    (c5 : PySem.W.codeIn K cd5 "final_marks" = true)
    (k5 : PySem.W.keepIn K (.ref f_final_marks) = true)
    (a6 : PySem.W.nsIn K mainGlobals "_reached_states" = some (some (.ref f__reached_states)))
    (l6 : K.lookup f__reached_states = some ⟨oc6, od6, .func (PySem.W.fnOf "_reached_states" "_reached_states" (defArgs s__reached_states) (defBody s__reached_states) (defScope s__reached_states) .none kV6 dc6 pm6 an6 cd6 ct6), sl6⟩)
    (c6 : PySem.W.codeIn K cd6 "_reached_states" = true)
    (k6 : PySem.W.keepIn K (.ref f__reached_states) = true)
    (a7 : PySem.W.nsIn K mainGlobals "state_classes" = some (some (.ref f_state_classes)))
    (l7 : K.lookup f_state_classes = some ⟨oc7, od7, .func (PySem.W.fnOf "state_classes" "state_classes" (defArgs s_state_classes) (defBody s_state_classes) (defScope s_state_classes) .none kV7 dc7 pm7 an7 cd7 ct7), sl7⟩)
    (c7 : PySem.W.codeIn K cd7 "state_classes" = true)
    (k7 : PySem.W.keepIn K (.ref f_state_classes) = true)
    (a8 : PySem.W.nsIn K mainGlobals "least" = some (some (.ref f_least)))
    (l8 : K.lookup f_least = some ⟨oc8, od8, .func (PySem.W.fnOf "least" "least" (defArgs s_least) (defBody s_least) (defScope s_least) .none kV8 dc8 pm8 an8 cd8 ct8), sl8⟩)
    (c8 : PySem.W.codeIn K cd8 "least" = true)
    (k8 : PySem.W.keepIn K (.ref f_least) = true)
    (a9 : PySem.W.nsIn K mainGlobals "_law_run" = some (some (.ref f__law_run)))
    (l9 : K.lookup f__law_run = some ⟨oc9, od9, .func (PySem.W.fnOf "_law_run" "_law_run" (defArgs s__law_run) (defBody s__law_run) (defScope s__law_run) .none kV9 dc9 pm9 an9 cd9 ct9), sl9⟩)
    (c9 : PySem.W.codeIn K cd9 "_law_run" = true)
    (k9 : PySem.W.keepIn K (.ref f__law_run) = true)
    (a10 : PySem.W.nsIn K mainGlobals "_law_any_automaton" = some (some (.ref f__law_any_automaton)))
    (l10 : K.lookup f__law_any_automaton = some ⟨oc10, od10, .func (PySem.W.fnOf "_law_any_automaton" "_law_any_automaton" (defArgs s__law_any_automaton) (defBody s__law_any_automaton) (defScope s__law_any_automaton) .none kV10 dc10 pm10 an10 cd10 ct10), sl10⟩)
    (c10 : PySem.W.codeIn K cd10 "_law_any_automaton" = true)
    (k10 : PySem.W.keepIn K (.ref f__law_any_automaton) = true)
    (a11 : PySem.W.nsIn K mainGlobals "_law_smallest" = some (some (.ref f__law_smallest)))
    (l11 : K.lookup f__law_smallest = some ⟨oc11, od11, .func (PySem.W.fnOf "_law_smallest" "_law_smallest" (defArgs s__law_smallest) (defBody s__law_smallest) (defScope s__law_smallest) .none kV11 dc11 pm11 an11 cd11 ct11), sl11⟩)
    (c11 : PySem.W.codeIn K cd11 "_law_smallest" = true)
    (k11 : PySem.W.keepIn K (.ref f__law_smallest) = true)
    (a12 : PySem.W.nsIn K mainGlobals "_longer" = some (some (.ref f__longer)))
    (l12 : K.lookup f__longer = some ⟨oc12, od12, .func (PySem.W.fnOf "_longer" "_longer" (defArgs s__longer) (defBody s__longer) (defScope s__longer) .none kV12 dc12 pm12 an12 cd12 ct12), sl12⟩)
    (c12 : PySem.W.codeIn K cd12 "_longer" = true)
    (k12 : PySem.W.keepIn K (.ref f__longer) = true)
    (a13 : PySem.W.nsIn K mainGlobals "action" = some (some (.ref f_action)))
    (l13 : K.lookup f_action = some ⟨oc13, od13, .func (PySem.W.fnOf "action" "action" (defArgs s_action) (defBody s_action) (defScope s_action) .none kV13 dc13 pm13 an13 cd13 ct13), sl13⟩)
    (c13 : PySem.W.codeIn K cd13 "action" = true)
    (k13 : PySem.W.keepIn K (.ref f_action) = true)
    (a14 : PySem.W.nsIn K mainGlobals "actions" = some (some (.ref f_actions)))
    (l14 : K.lookup f_actions = some ⟨oc14, od14, .func (PySem.W.fnOf "actions" "actions" (defArgs s_actions) (defBody s_actions) (defScope s_actions) .none kV14 dc14 pm14 an14 cd14 ct14), sl14⟩)
    (c14 : PySem.W.codeIn K cd14 "actions" = true)
    (k14 : PySem.W.keepIn K (.ref f_actions) = true)
    (a15 : PySem.W.nsIn K mainGlobals "_settles" = some (some (.ref f__settles)))
    (l15 : K.lookup f__settles = some ⟨oc15, od15, .func (PySem.W.fnOf "_settles" "_settles" (defArgs s__settles) (defBody s__settles) (defScope s__settles) .none kV15 dc15 pm15 an15 cd15 ct15), sl15⟩)
    (c15 : PySem.W.codeIn K cd15 "_settles" = true)
    (k15 : PySem.W.keepIn K (.ref f__settles) = true)
    (a16 : PySem.W.nsIn K mainGlobals "unsettled_word" = some (some (.ref f_unsettled_word)))
    (l16 : K.lookup f_unsettled_word = some ⟨oc16, od16, .func (PySem.W.fnOf "unsettled_word" "unsettled_word" (defArgs s_unsettled_word) (defBody s_unsettled_word) (defScope s_unsettled_word) .none kV16 dc16 pm16 an16 cd16 ct16), sl16⟩)
    (c16 : PySem.W.codeIn K cd16 "unsettled_word" = true)
    (k16 : PySem.W.keepIn K (.ref f_unsettled_word) = true)
    (a17 : PySem.W.nsIn K mainGlobals "_law_made" = some (some (.ref f__law_made)))
    (l17 : K.lookup f__law_made = some ⟨oc17, od17, .func (PySem.W.fnOf "_law_made" "_law_made" (defArgs s__law_made) (defBody s__law_made) (defScope s__law_made) .none kV17 dc17 pm17 an17 cd17 ct17), sl17⟩)
    (c17 : PySem.W.codeIn K cd17 "_law_made" = true)
    (k17 : PySem.W.keepIn K (.ref f__law_made) = true)
    (a18 : PySem.W.nsIn K mainGlobals "_law_outcome" = some (some (.ref f__law_outcome)))
    (l18 : K.lookup f__law_outcome = some ⟨oc18, od18, .func (PySem.W.fnOf "_law_outcome" "_law_outcome" (defArgs s__law_outcome) (defBody s__law_outcome) (defScope s__law_outcome) .none kV18 dc18 pm18 an18 cd18 ct18), sl18⟩)
    (c18 : PySem.W.codeIn K cd18 "_law_outcome" = true)
    (k18 : PySem.W.keepIn K (.ref f__law_outcome) = true)
    (a19 : PySem.W.nsIn K mainGlobals "_law_table" = some (some (.ref f__law_table)))
    (l19 : K.lookup f__law_table = some ⟨oc19, od19, .func (PySem.W.fnOf "_law_table" "_law_table" (defArgs s__law_table) (defBody s__law_table) (defScope s__law_table) .none kV19 dc19 pm19 an19 cd19 ct19), sl19⟩)
    (c19 : PySem.W.codeIn K cd19 "_law_table" = true)
    (k19 : PySem.W.keepIn K (.ref f__law_table) = true)
    (a20 : PySem.W.nsIn K mainGlobals "_law_rests" = some (some (.ref f__law_rests)))
    (l20 : K.lookup f__law_rests = some ⟨oc20, od20, .func (PySem.W.fnOf "_law_rests" "_law_rests" (defArgs s__law_rests) (defBody s__law_rests) (defScope s__law_rests) .none kV20 dc20 pm20 an20 cd20 ct20), sl20⟩)
    (c20 : PySem.W.codeIn K cd20 "_law_rests" = true)
    (k20 : PySem.W.keepIn K (.ref f__law_rests) = true)
    (a21 : PySem.W.nsIn K mainGlobals "law" = some (some (.ref f_law)))
    (l21 : K.lookup f_law = some ⟨oc21, od21, .func (PySem.W.fnOf "law" "law" (defArgs s_law) (defBody s_law) (defScope s_law) .none kV21 dc21 pm21 an21 cd21 ct21), sl21⟩)
    (c21 : PySem.W.codeIn K cd21 "law" = true)
    (k21 : PySem.W.keepIn K (.ref f_law) = true)
    (pg_Automaton : PySem.W.plainGet K c_Automaton Str.empty = true)
    (hd_Automaton : PySem.W.hasDictIn K c_Automaton = true)
    (po_Automaton : PySem.W.plainOver K c_Automaton = true)
    (sa_Automaton : PySem.W.findIn K (.ref c_Automaton) "__setattr__" = some (some (.builtin "object.__setattr__")))
    (mk_Automaton : PySem.W.makesIn K c_Automaton = true)
    (kc_Automaton : PySem.W.keepIn K (.ref c_Automaton) = true)
    (na_Automaton_letters : PySem.W.findIn K (.ref c_Automaton) "letters" = some none)
    (na_Automaton_start : PySem.W.findIn K (.ref c_Automaton) "start" = some none)
    (na_Automaton_finals : PySem.W.findIn K (.ref c_Automaton) "finals" = some none)
    (na_Automaton_rows : PySem.W.findIn K (.ref c_Automaton) "rows" = some none)
    (aC_InvalidAutomaton : PySem.W.nsIn K mainGlobals "InvalidAutomaton" = some (some (.ref c_InvalidAutomaton)))
    (x_InvalidAutomaton : PySem.W.excIn K c_InvalidAutomaton [.type "ValueError", .type "Exception", .type "BaseException", .type "object"] "ValueError.__new__" = true)
    (k_InvalidAutomaton : PySem.W.keepIn K (.ref c_InvalidAutomaton) = true)
    (b_InvalidAutomaton : PySem.W.subIn K (.ref c_InvalidAutomaton) (.type "BaseException") = some true)
    (t_InvalidAutomaton : PySem.W.typeIn K (.ref c_InvalidAutomaton) = some (.type "type"))
    (i_InvalidAutomaton : PySem.W.isClsIn K c_InvalidAutomaton = true)
    (s_InvalidAutomaton : PySem.W.subIn K (.ref c_InvalidAutomaton) (.ref c_InvalidAutomaton) = some true)
    (aC_TooLarge : PySem.W.nsIn K mainGlobals "TooLarge" = some (some (.ref c_TooLarge)))
    (x_TooLarge : PySem.W.excIn K c_TooLarge [.type "ValueError", .type "Exception", .type "BaseException", .type "object"] "ValueError.__new__" = true)
    (k_TooLarge : PySem.W.keepIn K (.ref c_TooLarge) = true)
    (b_TooLarge : PySem.W.subIn K (.ref c_TooLarge) (.type "BaseException") = some true)
    (t_TooLarge : PySem.W.typeIn K (.ref c_TooLarge) = some (.type "type"))
    (i_TooLarge : PySem.W.isClsIn K c_TooLarge = true)
    (s_TooLarge : PySem.W.subIn K (.ref c_TooLarge) (.ref c_TooLarge) = some true)
    (icha_Automaton : PySem.W.findIn K (.ref c_Automaton) "__class__" = some (some (.builtin "object.__class__")))
    (ichn_Automaton : PySem.W.specialIn K (.builtin "object.__class__") "__get__" = some (some (.builtin "getset_descriptor.__get__")))
    (icht_Automaton : PySem.W.takesIn K (.builtin "object.__class__") = some true)
    (ichm_Automaton : PySem.W.mroIn K c_Automaton (.type "object") = some true)
    (ichc_Automaton : PySem.W.isClsIn K c_Automaton = true)
    (ichy_Automaton : PySem.W.typeIn K (.ref c_Automaton) = some (.type "type"))
    (ichs_Automaton : PySem.W.subIn K (.ref c_Automaton) (.ref c_Automaton) = some true)
    (z_enumerate : PySem.W.nsIn K mainGlobals "enumerate" = some none)
    (z_int : PySem.W.nsIn K mainGlobals "int" = some none)
    (z_isinstance : PySem.W.nsIn K mainGlobals "isinstance" = some none)
    (z_len : PySem.W.nsIn K mainGlobals "len" = some none)
    (z_list : PySem.W.nsIn K mainGlobals "list" = some none)
    (z_range : PySem.W.nsIn K mainGlobals "range" = some none)
    (z_tuple : PySem.W.nsIn K mainGlobals "tuple" = some none)
    (v_MOST_ACTIONS : PySem.W.nsIn K mainGlobals "MOST_ACTIONS" = some (some (.int 400 t_MOST_ACTIONS)))
    : ∃ fd : FuncData, (∀ (s : Shared) (v : Value), BindsTo s fd ⟨[v], []⟩ [("script", v)]) ∧ ∀ base : Heap, K.In base → base.Ns mainGlobals mg → FnOk l.prog wo K mg base CX0 7 fa fd ["script"] (spLaw K) := by
  have e := hfa.symm.trans (PySem.W.mg_of X G a21)
  cases e
  let T : Txt K mg := {
    f__law_take := f__law_take, d__law_take := PySem.W.fnOf "_law_take" "_law_take" (defArgs s__law_take) (defBody s__law_take) (defScope s__law_take) .none kV0 dc0 pm0 an0 cd0 ct0,
    F__law_take := fun_mk l0 c0 k0,
    m__law_take := PySem.W.mg_of X G a0,
    b__law_take := (fun_mk (st := s__law_take) l0 c0 k0).binds (ps := ["draws", "limit"]) fun _ _ _ _ _ _ us hl => match us, hl with | [_, _], _ => rfl,
    f__law_draws := f__law_draws, d__law_draws := PySem.W.fnOf "_law_draws" "_law_draws" (defArgs s__law_draws) (defBody s__law_draws) (defScope s__law_draws) .none kV1 dc1 pm1 an1 cd1 ct1,
    F__law_draws := fun_mk l1 c1 k1,
    m__law_draws := PySem.W.mg_of X G a1,
    b__law_draws := (fun_mk (st := s__law_draws) l1 c1 k1).binds (ps := ["script", "count"]) fun _ _ _ _ _ _ us hl => match us, hl with | [_, _], _ => rfl,
    f__law_word := f__law_word, d__law_word := PySem.W.fnOf "_law_word" "_law_word" (defArgs s__law_word) (defBody s__law_word) (defScope s__law_word) .none kV2 dc2 pm2 an2 cd2 ct2,
    F__law_word := fun_mk l2 c2 k2,
    m__law_word := PySem.W.mg_of X G a2,
    b__law_word := (fun_mk (st := s__law_word) l2 c2 k2).binds (ps := ["draws", "letters", "most"]) fun _ _ _ _ _ _ us hl => match us, hl with | [_, _, _], _ => rfl,
    f__check_states := f__check_states, d__check_states := PySem.W.fnOf "_check_states" "_check_states" (defArgs s__check_states) (defBody s__check_states) (defScope s__check_states) .none kV3 dc3 pm3 an3 cd3 ct3,
    F__check_states := fun_mk l3 c3 k3,
    m__check_states := PySem.W.mg_of X G a3,
    b__check_states := (fun_mk (st := s__check_states) l3 c3 k3).binds (ps := ["many", "states"]) fun _ _ _ _ _ _ us hl => match us, hl with | [_, _], _ => rfl,
    f_Automaton_init := f_Automaton_init, d_Automaton_init := PySem.W.fnOf "__init__" "Automaton.__init__" (defArgs s_Automaton_init) (defBody s_Automaton_init) (defScope s_Automaton_init) .none kV4 dc4 pm4 an4 cd4 ct4,
    F_Automaton_init := fun_mk l4 c4 k4,
    b_Automaton_init := (fun_mk (st := s_Automaton_init) l4 c4 k4).binds (ps := ["self", "letters", "start", "finals", "rows"]) fun _ _ _ _ _ _ us hl => match us, hl with | [_, _, _, _, _], _ => rfl,
    f_final_marks := f_final_marks, d_final_marks := PySem.W.fnOf "final_marks" "final_marks" (defArgs s_final_marks) (defBody s_final_marks) (defScope s_final_marks) .none kV5 dc5 pm5 an5 cd5 ct5,
    F_final_marks := fun_mk l5 c5 k5,
    m_final_marks := PySem.W.mg_of X G a5,
    b_final_marks := (fun_mk (st := s_final_marks) l5 c5 k5).binds (ps := ["automaton"]) fun _ _ _ _ _ _ us hl => match us, hl with | [_], _ => rfl,
    f__reached_states := f__reached_states, d__reached_states := PySem.W.fnOf "_reached_states" "_reached_states" (defArgs s__reached_states) (defBody s__reached_states) (defScope s__reached_states) .none kV6 dc6 pm6 an6 cd6 ct6,
    F__reached_states := fun_mk l6 c6 k6,
    m__reached_states := PySem.W.mg_of X G a6,
    b__reached_states := (fun_mk (st := s__reached_states) l6 c6 k6).binds (ps := ["automaton"]) fun _ _ _ _ _ _ us hl => match us, hl with | [_], _ => rfl,
    f_state_classes := f_state_classes, d_state_classes := PySem.W.fnOf "state_classes" "state_classes" (defArgs s_state_classes) (defBody s_state_classes) (defScope s_state_classes) .none kV7 dc7 pm7 an7 cd7 ct7,
    F_state_classes := fun_mk l7 c7 k7,
    m_state_classes := PySem.W.mg_of X G a7,
    b_state_classes := (fun_mk (st := s_state_classes) l7 c7 k7).binds (ps := ["automaton", "states", "letters"]) fun _ _ _ _ _ _ us hl => match us, hl with | [_, _, _], _ => rfl,
    f_least := f_least, d_least := PySem.W.fnOf "least" "least" (defArgs s_least) (defBody s_least) (defScope s_least) .none kV8 dc8 pm8 an8 cd8 ct8,
    F_least := fun_mk l8 c8 k8,
    m_least := PySem.W.mg_of X G a8,
    b_least := (fun_mk (st := s_least) l8 c8 k8).binds (ps := ["automaton"]) fun _ _ _ _ _ _ us hl => match us, hl with | [_], _ => rfl,
    f__law_run := f__law_run, d__law_run := PySem.W.fnOf "_law_run" "_law_run" (defArgs s__law_run) (defBody s__law_run) (defScope s__law_run) .none kV9 dc9 pm9 an9 cd9 ct9,
    F__law_run := fun_mk l9 c9 k9,
    m__law_run := PySem.W.mg_of X G a9,
    b__law_run := (fun_mk (st := s__law_run) l9 c9 k9).binds (ps := ["automaton", "word"]) fun _ _ _ _ _ _ us hl => match us, hl with | [_, _], _ => rfl,
    f__law_any_automaton := f__law_any_automaton, d__law_any_automaton := PySem.W.fnOf "_law_any_automaton" "_law_any_automaton" (defArgs s__law_any_automaton) (defBody s__law_any_automaton) (defScope s__law_any_automaton) .none kV10 dc10 pm10 an10 cd10 ct10,
    F__law_any_automaton := fun_mk l10 c10 k10,
    m__law_any_automaton := PySem.W.mg_of X G a10,
    b__law_any_automaton := (fun_mk (st := s__law_any_automaton) l10 c10 k10).binds (ps := ["draws", "letters", "most"]) fun _ _ _ _ _ _ us hl => match us, hl with | [_, _, _], _ => rfl,
    f__law_smallest := f__law_smallest, d__law_smallest := PySem.W.fnOf "_law_smallest" "_law_smallest" (defArgs s__law_smallest) (defBody s__law_smallest) (defScope s__law_smallest) .none kV11 dc11 pm11 an11 cd11 ct11,
    F__law_smallest := fun_mk l11 c11 k11,
    m__law_smallest := PySem.W.mg_of X G a11,
    b__law_smallest := (fun_mk (st := s__law_smallest) l11 c11 k11).binds (ps := ["automaton"]) fun _ _ _ _ _ _ us hl => match us, hl with | [_], _ => rfl,
    f__longer := f__longer, d__longer := PySem.W.fnOf "_longer" "_longer" (defArgs s__longer) (defBody s__longer) (defScope s__longer) .none kV12 dc12 pm12 an12 cd12 ct12,
    F__longer := fun_mk l12 c12 k12,
    m__longer := PySem.W.mg_of X G a12,
    b__longer := (fun_mk (st := s__longer) l12 c12 k12).binds (ps := ["automaton", "states", "letter"]) fun _ _ _ _ _ _ us hl => match us, hl with | [_, _, _], _ => rfl,
    f_action := f_action, d_action := PySem.W.fnOf "action" "action" (defArgs s_action) (defBody s_action) (defScope s_action) .none kV13 dc13 pm13 an13 cd13 ct13,
    F_action := fun_mk l13 c13 k13,
    m_action := PySem.W.mg_of X G a13,
    b_action := (fun_mk (st := s_action) l13 c13 k13).binds (ps := ["automaton", "word"]) fun _ _ _ _ _ _ us hl => match us, hl with | [_, _], _ => rfl,
    f_actions := f_actions, d_actions := PySem.W.fnOf "actions" "actions" (defArgs s_actions) (defBody s_actions) (defScope s_actions) .none kV14 dc14 pm14 an14 cd14 ct14,
    F_actions := fun_mk l14 c14 k14,
    m_actions := PySem.W.mg_of X G a14,
    b_actions := (fun_mk (st := s_actions) l14 c14 k14).binds (ps := ["automaton"]) fun _ _ _ _ _ _ us hl => match us, hl with | [_], _ => rfl,
    f__settles := f__settles, d__settles := PySem.W.fnOf "_settles" "_settles" (defArgs s__settles) (defBody s__settles) (defScope s__settles) .none kV15 dc15 pm15 an15 cd15 ct15,
    F__settles := fun_mk l15 c15 k15,
    m__settles := PySem.W.mg_of X G a15,
    b__settles := (fun_mk (st := s__settles) l15 c15 k15).binds (ps := ["states"]) fun _ _ _ _ _ _ us hl => match us, hl with | [_], _ => rfl,
    f_unsettled_word := f_unsettled_word, d_unsettled_word := PySem.W.fnOf "unsettled_word" "unsettled_word" (defArgs s_unsettled_word) (defBody s_unsettled_word) (defScope s_unsettled_word) .none kV16 dc16 pm16 an16 cd16 ct16,
    F_unsettled_word := fun_mk l16 c16 k16,
    m_unsettled_word := PySem.W.mg_of X G a16,
    b_unsettled_word := (fun_mk (st := s_unsettled_word) l16 c16 k16).binds (ps := ["automaton"]) fun _ _ _ _ _ _ us hl => match us, hl with | [_], _ => rfl,
    f__law_made := f__law_made, d__law_made := PySem.W.fnOf "_law_made" "_law_made" (defArgs s__law_made) (defBody s__law_made) (defScope s__law_made) .none kV17 dc17 pm17 an17 cd17 ct17,
    F__law_made := fun_mk l17 c17 k17,
    m__law_made := PySem.W.mg_of X G a17,
    b__law_made := (fun_mk (st := s__law_made) l17 c17 k17).binds (ps := ["letters", "automaton"]) fun _ _ _ _ _ _ us hl => match us, hl with | [_, _], _ => rfl,
    f__law_outcome := f__law_outcome, d__law_outcome := PySem.W.fnOf "_law_outcome" "_law_outcome" (defArgs s__law_outcome) (defBody s__law_outcome) (defScope s__law_outcome) .none kV18 dc18 pm18 an18 cd18 ct18,
    F__law_outcome := fun_mk l18 c18 k18,
    m__law_outcome := PySem.W.mg_of X G a18,
    b__law_outcome := (fun_mk (st := s__law_outcome) l18 c18 k18).binds (ps := ["automaton"]) fun _ _ _ _ _ _ us hl => match us, hl with | [_], _ => rfl,
    f__law_table := f__law_table, d__law_table := PySem.W.fnOf "_law_table" "_law_table" (defArgs s__law_table) (defBody s__law_table) (defScope s__law_table) .none kV19 dc19 pm19 an19 cd19 ct19,
    F__law_table := fun_mk l19 c19 k19,
    m__law_table := PySem.W.mg_of X G a19,
    b__law_table := (fun_mk (st := s__law_table) l19 c19 k19).binds (ps := ["automaton"]) fun _ _ _ _ _ _ us hl => match us, hl with | [_], _ => rfl,
    f__law_rests := f__law_rests, d__law_rests := PySem.W.fnOf "_law_rests" "_law_rests" (defArgs s__law_rests) (defBody s__law_rests) (defScope s__law_rests) .none kV20 dc20 pm20 an20 cd20 ct20,
    F__law_rests := fun_mk l20 c20 k20,
    m__law_rests := PySem.W.mg_of X G a20,
    b__law_rests := (fun_mk (st := s__law_rests) l20 c20 k20).binds (ps := ["one"]) fun _ _ _ _ _ _ us hl => match us, hl with | [_], _ => rfl,
    f_law := fa, d_law := PySem.W.fnOf "law" "law" (defArgs s_law) (defBody s_law) (defScope s_law) .none kV21 dc21 pm21 an21 cd21 ct21,
    F_law := fun_mk l21 c21 k21,
    m_law := PySem.W.mg_of X G a21,
    b_law := (fun_mk (st := s_law) l21 c21 k21).binds (ps := ["script"]) fun _ _ _ _ _ _ us hl => match us, hl with | [_], _ => rfl,
    c_Automaton := c_Automaton, mc_Automaton := PySem.W.mg_of X G aC_Automaton, mk_Automaton := mk_Automaton, in_Automaton := a4, if_Automaton := i4, kc_Automaton := kc_Automaton, cl_Automaton := ⟨pg_Automaton, hd_Automaton, po_Automaton, sa_Automaton⟩,
    na_Automaton_letters := na_Automaton_letters,
    na_Automaton_start := na_Automaton_start,
    na_Automaton_finals := na_Automaton_finals,
    na_Automaton_rows := na_Automaton_rows,
    ii_Automaton := ⟨⟨pg_Automaton, hd_Automaton, po_Automaton, sa_Automaton⟩, icha_Automaton, ichn_Automaton, icht_Automaton, ichm_Automaton, kit_ref ichc_Automaton ichy_Automaton ichs_Automaton⟩,
    c_InvalidAutomaton := c_InvalidAutomaton, mc_InvalidAutomaton := PySem.W.mg_of X G aC_InvalidAutomaton, x_InvalidAutomaton := x_InvalidAutomaton, k_InvalidAutomaton := k_InvalidAutomaton, b_InvalidAutomaton := b_InvalidAutomaton, t_InvalidAutomaton := t_InvalidAutomaton, e_InvalidAutomaton := exm_self b_InvalidAutomaton i_InvalidAutomaton t_InvalidAutomaton s_InvalidAutomaton,
    c_TooLarge := c_TooLarge, mc_TooLarge := PySem.W.mg_of X G aC_TooLarge, x_TooLarge := x_TooLarge, k_TooLarge := k_TooLarge, b_TooLarge := b_TooLarge, t_TooLarge := t_TooLarge, e_TooLarge := exm_self b_TooLarge i_TooLarge t_TooLarge s_TooLarge,
    z_enumerate := PySem.W.mg_none_of X G z_enumerate,
    z_int := PySem.W.mg_none_of X G z_int,
    z_isinstance := PySem.W.mg_none_of X G z_isinstance,
    z_len := PySem.W.mg_none_of X G z_len,
    z_list := PySem.W.mg_none_of X G z_list,
    z_range := PySem.W.mg_none_of X G z_range,
    z_tuple := PySem.W.mg_none_of X G z_tuple,
    t_MOST_ACTIONS := t_MOST_ACTIONS, v_MOST_ACTIONS := PySem.W.mg_of X G v_MOST_ACTIONS }
  exact ⟨_, fun s v => .of_eq rfl, fun base _ _ => ok_law T⟩
theorem walk {l : PySem.W.OpenLaw} {q : Program} {loose : List Str} {XP : (Str → Option Value) → Heap → Prop} {YP : World → Heap → Prop} {d : DefRec} {K : Params → PySem.W.Frag} (hn : l.most = some 63) (hdf : d.params.defaults = [])
    (hY : ∀ (w : World) (h : Heap), YP w h → (K w.params).In h)
    (F : ∀ (w : World) (mg : Str → Option Value) (fa : Addr) (h : Heap), (K w.params).In h → h.Ns mainGlobals mg → mg d.name = some (.ref fa) →
      ∃ fd : FuncData, (∀ (s : Shared) (u : Value), BindsTo s fd ⟨[u], []⟩ [("script", u)]) ∧ ∀ base : Heap, (K w.params).In base → base.Ns mainGlobals mg → FnOk l.prog w (K w.params) mg base CX0 7 fa fd ["script"] (spLaw (K w.params))) :
    PySem.W.WalkO q loose XP YP l.row.toRowW d [] (fun f vs => PySem.call f vs) :=
  L2.walk_of (n := 63) (k := 7) (x := "script") (CX := fun _ => CX0) (sp := fun w => spLaw (K w.params)) hn (by decide) hdf ⟨rfl, by decide, by decide⟩ hY F (fun _ _ a ns hl _ hS => ⟨a, ns, rfl, hS, hl, fun _ => rfl⟩) fun _ _ _ _ _ z => z
end My
open PySem PySem.W PyProof.Rows in
set_option maxRecDepth 100000 in
set_option maxHeartbeats 0 in
theorem PySem.Challenge.cw_placewords_k30_actions_holds : PySem.Challenge.rw_placewords_k30_actions.Holds := by
  w_on; o_law; k_head; (case hw => w_witness2)
  k_fill
  refine My.walk (l := PySem.Challenge.rw_placewords_k30_actions) rfl rfl (fun w h Y => PySem.W.kIn_of Y) ?F
  case F =>
    intro w mg fa h KX G hmg
    refine' My.all_mk KX G hmg ?aC_Automaton ?a0 ?l0 ?c0 ?k0 ?a1 ?l1 ?c1 ?k1 ?a2 ?l2 ?c2 ?k2 ?a3 ?l3 ?c3 ?k3 ?a4 ?i4 ?l4 ?c4 ?k4 ?a5 ?l5 ?c5 ?k5 ?a6 ?l6 ?c6 ?k6 ?a7 ?l7 ?c7 ?k7 ?a8 ?l8 ?c8 ?k8 ?a9 ?l9 ?c9 ?k9 ?a10 ?l10 ?c10 ?k10 ?a11 ?l11 ?c11 ?k11 ?a12 ?l12 ?c12 ?k12 ?a13 ?l13 ?c13 ?k13 ?a14 ?l14 ?c14 ?k14 ?a15 ?l15 ?c15 ?k15 ?a16 ?l16 ?c16 ?k16 ?a17 ?l17 ?c17 ?k17 ?a18 ?l18 ?c18 ?k18 ?a19 ?l19 ?c19 ?k19 ?a20 ?l20 ?c20 ?k20 ?a21 ?l21 ?c21 ?k21 ?pg_Automaton ?hd_Automaton ?po_Automaton ?sa_Automaton ?mk_Automaton ?kc_Automaton ?na_Automaton_letters ?na_Automaton_start ?na_Automaton_finals ?na_Automaton_rows ?aC_InvalidAutomaton ?x_InvalidAutomaton ?k_InvalidAutomaton ?b_InvalidAutomaton ?t_InvalidAutomaton ?i_InvalidAutomaton ?s_InvalidAutomaton ?aC_TooLarge ?x_TooLarge ?k_TooLarge ?b_TooLarge ?t_TooLarge ?i_TooLarge ?s_TooLarge ?icha_Automaton ?ichn_Automaton ?icht_Automaton ?ichm_Automaton ?ichc_Automaton ?ichy_Automaton ?ichs_Automaton ?z_enumerate ?z_int ?z_isinstance ?z_len ?z_list ?z_range ?z_tuple ?v_MOST_ACTIONS
    (case aC_Automaton => k_is)
    (case a0 => k_is)
    (case l0 => k_is)
    (case c0 => k_is)
    (case k0 => k_is)
    (case a1 => k_is)
    (case l1 => k_is)
    (case c1 => k_is)
    (case k1 => k_is)
    (case a2 => k_is)
    (case l2 => k_is)
    (case c2 => k_is)
    (case k2 => k_is)
    (case a3 => k_is)
    (case l3 => k_is)
    (case c3 => k_is)
    (case k3 => k_is)
    (case a4 => k_is)
    (case i4 => k_is)
    (case l4 => k_is)
    (case c4 => k_is)
    (case k4 => k_is)
    (case a5 => k_is)
    (case l5 => k_is)
    (case c5 => k_is)
    (case k5 => k_is)
    (case a6 => k_is)
    (case l6 => k_is)
    (case c6 => k_is)
    (case k6 => k_is)
    (case a7 => k_is)
    (case l7 => k_is)
    (case c7 => k_is)
    (case k7 => k_is)
    (case a8 => k_is)
    (case l8 => k_is)
    (case c8 => k_is)
    (case k8 => k_is)
    (case a9 => k_is)
    (case l9 => k_is)
    (case c9 => k_is)
    (case k9 => k_is)
    (case a10 => k_is)
    (case l10 => k_is)
    (case c10 => k_is)
    (case k10 => k_is)
    (case a11 => k_is)
    (case l11 => k_is)
    (case c11 => k_is)
    (case k11 => k_is)
    (case a12 => k_is)
    (case l12 => k_is)
    (case c12 => k_is)
    (case k12 => k_is)
    (case a13 => k_is)
    (case l13 => k_is)
    (case c13 => k_is)
    (case k13 => k_is)
    (case a14 => k_is)
    (case l14 => k_is)
    (case c14 => k_is)
    (case k14 => k_is)
    (case a15 => k_is)
    (case l15 => k_is)
    (case c15 => k_is)
    (case k15 => k_is)
    (case a16 => k_is)
    (case l16 => k_is)
    (case c16 => k_is)
    (case k16 => k_is)
    (case a17 => k_is)
    (case l17 => k_is)
    (case c17 => k_is)
    (case k17 => k_is)
    (case a18 => k_is)
    (case l18 => k_is)
    (case c18 => k_is)
    (case k18 => k_is)
    (case a19 => k_is)
    (case l19 => k_is)
    (case c19 => k_is)
    (case k19 => k_is)
    (case a20 => k_is)
    (case l20 => k_is)
    (case c20 => k_is)
    (case k20 => k_is)
    (case a21 => k_is)
    (case l21 => k_is)
    (case c21 => k_is)
    (case k21 => k_is)
    (case pg_Automaton => k_is)
    (case hd_Automaton => k_is)
    (case po_Automaton => k_is)
    (case sa_Automaton => k_is)
    (case mk_Automaton => k_is)
    (case kc_Automaton => k_is)
    (case na_Automaton_letters => k_is)
    (case na_Automaton_start => k_is)
    (case na_Automaton_finals => k_is)
    (case na_Automaton_rows => k_is)
    (case aC_InvalidAutomaton => k_is)
    (case x_InvalidAutomaton => k_exc)
    (case k_InvalidAutomaton => k_is)
    (case b_InvalidAutomaton => k_is)
    (case t_InvalidAutomaton => k_is)
    (case i_InvalidAutomaton => k_is)
    (case s_InvalidAutomaton => first | rfl | k_is)
    (case aC_TooLarge => k_is)
    (case x_TooLarge => k_exc)
    (case k_TooLarge => k_is)
    (case b_TooLarge => k_is)
    (case t_TooLarge => k_is)
    (case i_TooLarge => k_is)
    (case s_TooLarge => first | rfl | k_is)
    (case icha_Automaton => k_is)
    (case ichn_Automaton => k_is)
    (case icht_Automaton => k_is)
    (case ichm_Automaton => k_is)
    (case ichc_Automaton => k_is)
    (case ichy_Automaton => k_is)
    (case ichs_Automaton => k_is)
    (case z_enumerate => k_is)
    (case z_int => k_is)
    (case z_isinstance => k_is)
    (case z_len => k_is)
    (case z_list => k_is)
    (case z_range => k_is)
    (case z_tuple => k_is)
    (case v_MOST_ACTIONS => k_is)

