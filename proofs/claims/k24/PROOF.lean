import PyProof.Rows.All
import Wide.All
import OpenK.AllK
import Wide.FinOn
import HandS.ForMost
import HandS.ForExc
import HandS.Evl
import HandS.Zip
import HandS.TupAny
import HandS.SetFor
import HandS.Conv
import HandS.IsInst
import HandS.SortInts
import HandS.Strs
import HandS.RevRange
import PyProof.SeqIndex
import HandS.Deep
import KE.KDictDisplayH
import KE.SortData
import HandS.Style
import KE.GoesEnum
import HandS.Walk
import HandS.Star
import KE.DataMinMax
import HandS.DictComp
import HandS.TupMul
import KE.KUnpack
import HandS.TryOnly
import HandS.Gcd
import HandS.SortKw
import HandS.Rev
import HandS.DictTup
import KE.KDictList
import KE.KDictWalk
import KE.GoesZip
import KE.GoesMore
import KE.KDictZip
import HandS.ExcIs
import HandS.More
import KE.KDictKeyed
import KE.KeyNested
import HandS.WordsDict
import HandS.Nested
import HandS.EndTab
import KE.KNestM
import HandS.Iter
import HandS.Flow
import HandS.Comp
import PySem.Challenge.RW_placewords_k24_players
set_option Elab.async false
set_option linter.all false
set_option maxRecDepth 100000
namespace Hq
open PySem L2
abbrev Ex := Evl.Ex
structure MP where
  p : Hp → V → Prop
  mono : ∀ {F F' : Hp} {v : V}, Ex F F' → p F v → p F' v
structure MO where
  p : Hp → HO → Prop
  mono : ∀ {F F' : Hp} {o : HO}, Ex F F' → p F o → p F' o
  nt : ∀ {F : Hp} {o : HO}, p F o → ∀ xs, o ≠ .tup xs
abbrev Ms := List (Addr × MO)
abbrev Gm := List (Option MP)
def keys (M : Ms) : List Addr := M.map (·.1)
structure Wd (F : Hp) (M : Ms) (H : Hp) : Prop where
  ex : Ex F H
  nd : (keys M).Nodup
  own : ∀ q ∈ M, F q.1 = none ∧ ∃ o, H q.1 = some o ∧ q.2.p F o
structure Gr (ks : List Addr) (F H F' H' : Hp) : Prop where
  ex : Ex F F'
  keep : ∀ a o, a ∉ ks → H a = some o → H' a = some o
  off : ∀ a, F a = none → H a ≠ none → (∀ xs, H a ≠ some (.tup xs)) → F' a = none
  stay : ∀ a, H a ≠ none → H' a ≠ none
  nott : ∀ a, H a ≠ none → (∀ xs, H a ≠ some (.tup xs)) → ∀ xs, H' a ≠ some (.tup xs)
structure Ent where
  F : Hp
  H : Hp
  ks : List Addr
structure Pt (E : Ent) (F : Hp) (M : Ms) (H : Hp) : Prop where
  gr : Gr E.ks E.F E.H F H
  wd : Wd F M H
  fr : ∀ q ∈ M, q.1 ∈ E.ks ∨ E.H q.1 = none
theorem Gr.refl {ks F H} : Gr ks F H F H := ⟨Evl.Ex.refl _, fun _ _ _ h => h, fun _ h _ _ => h, fun _ h => h, fun _ _ h => h⟩
theorem Pt.start {F M H} (w : Wd F M H) : Pt ⟨F, H, keys M⟩ F M H := ⟨Gr.refl, w, fun q hq => .inl (List.mem_map_of_mem hq)⟩
theorem Pt.enter {E F M H} (h : Pt E F M H) : Pt ⟨F, H, keys M⟩ F M H := Pt.start h.wd
theorem Pt.back {E F M H F' M' H'} (h : Pt E F M H) (g : Pt ⟨F, H, keys M⟩ F' M' H') : Pt E F' M' H' := by
  have notin : ∀ a o, a ∉ E.ks → E.H a = some o → a ∉ keys M := by
    intro a o h1 h2 h3
    obtain ⟨q, hq, rfl⟩ := List.mem_map.mp h3
    rcases h.fr q hq with h4 | h4
    · exact h1 h4
    · rw [h4] at h2; cases h2
  refine ⟨⟨h.gr.ex.trans g.gr.ex, fun a o h1 h2 => ?_, fun a h1 h2 h3 => ?_, fun a h1 => ?_, fun a h1 h2 => ?_⟩, g.wd, fun q hq => ?_⟩
  · exact g.gr.keep a o (notin a o h1 h2) (h.gr.keep a o h1 h2)
  · exact g.gr.off a (h.gr.off a h1 h2 h3) (h.gr.stay a h2) (h.gr.nott a h2 h3)
  · exact g.gr.stay a (h.gr.stay a h1)
  · exact g.gr.nott a (h.gr.stay a h1) (h.gr.nott a h1 h2)
  · rcases g.fr q hq with h1 | h1
    · obtain ⟨r, hr, e⟩ := List.mem_map.mp h1
      rw [← e]
      exact h.fr r hr
    · right
      refine Classical.byContradiction fun h2 => ?_
      exact h.gr.stay _ h2 h1
structure Le (E' E : Ent) : Prop where
  to : ∀ F M H, Pt E' F M H → Pt E F M H
  new : ∀ a, E'.H a = none → E.H a = none
theorem Pt.le {E F M H} (h : Pt E F M H) : Le ⟨F, H, keys M⟩ E := ⟨fun _ _ _ g => h.back g, fun a e => Classical.byContradiction fun n => h.gr.stay a n e⟩
theorem Le.refl {E : Ent} : Le E E := ⟨fun _ _ _ h => h, fun _ h => h⟩
theorem Le.trans {E1 E2 E3 : Ent} (a : Le E1 E2) (b : Le E2 E3) : Le E1 E3 := ⟨fun _ _ _ h => b.to _ _ _ (a.to _ _ _ h), fun x h => b.new x (a.new x h)⟩
def EnvOk (F : Hp) (σ : St) (Γ : Gm) : Prop := Paired (fun (s : Option V) (g : Option MP) => ∀ P, g = some P → ∃ v, s = some v ∧ P.p F v) σ Γ
theorem EnvOk.mono {F F' σ Γ} (e : Ex F F') (h : EnvOk F σ Γ) : EnvOk F' σ Γ :=
  Paired.mapP h fun _ _ k P hP => let ⟨v, a, b⟩ := k P hP; ⟨v, a, P.mono e b⟩
theorem paired_get {α β : Type} {R : α → β → Prop} : ∀ {xs : List α} {ys : List β} {i : Nat} {y : β}, Paired R xs ys → ys[i]? = some y → ∃ x, xs[i]? = some x ∧ R x y
  | _, _, _, _, .nil, h => by simp at h
  | _, _, 0, _, .cons a _, h => by
    have e := Option.some.inj h
    subst e
    exact ⟨_, rfl, a⟩
  | _, _, i + 1, y, .cons _ t, h => paired_get (i := i) t h
theorem paired_get' {α β : Type} {R : α → β → Prop} : ∀ {xs : List α} {ys : List β} {i : Nat} {x : α}, Paired R xs ys → xs[i]? = some x → ∃ y, ys[i]? = some y ∧ R x y
  | _, _, _, _, .nil, h => by simp at h
  | _, _, 0, _, .cons a _, h => by
    have e := Option.some.inj h
    subst e
    exact ⟨_, rfl, a⟩
  | _, _, i + 1, y, .cons _ t, h => paired_get' (i := i) t h
theorem paired_set {α β : Type} {R : α → β → Prop} {x : α} {y : β} (r : R x y) : ∀ {xs : List α} {ys : List β} (i : Nat), Paired R xs ys → Paired R (xs.set i x) (ys.set i y)
  | _, _, _, .nil => .nil
  | _, _, 0, .cons _ t => .cons r t
  | _, _, i + 1, .cons a t => .cons a (paired_set r i t)
theorem paired_len {α β : Type} {R : α → β → Prop} : ∀ {xs : List α} {ys : List β}, Paired R xs ys → xs.length = ys.length
  | _, _, .nil => rfl
  | _, _, .cons _ t => by rw [List.length_cons, List.length_cons, paired_len t]
theorem paired_app {α β : Type} {R : α → β → Prop} : ∀ {xs xs' : List α} {ys ys' : List β}, Paired R xs ys → Paired R xs' ys' → Paired R (xs ++ xs') (ys ++ ys')
  | _, _, _, _, .nil, h => h
  | _, _, _, _, .cons a t, h => .cons a (paired_app t h)
theorem EnvOk.set {F σ} {Γ : Gm} {P : MP} {v : V} (i : Nat) (h : EnvOk F σ Γ) (hv : P.p F v) : EnvOk F (σ.set i (some v)) (Γ.set i (some P)) :=
  paired_set (fun Q hQ => by cases hQ; exact ⟨v, rfl, hv⟩) i h
theorem EnvOk.forget {F σ} {Γ : Gm} (i : Nat) (h : EnvOk F σ Γ) : EnvOk F (σ.set i none) (Γ.set i none) := paired_set (fun Q hQ => by cases hQ) i h
theorem EnvOk.get {F σ} {Γ : Gm} {i : Nat} {P : MP} (h : EnvOk F σ Γ) (e : Γ[i]? = some (some P)) : ∃ v, σ[i]? = some (some v) ∧ P.p F v := by
  obtain ⟨s, hs, k⟩ := paired_get h e
  obtain ⟨v, rfl, hv⟩ := k P rfl
  exact ⟨v, hs, hv⟩
def At (E : Ent) (Γ : Gm) (M : Ms) (σ : St) (H : Hp) : Prop := ∃ F, Pt E F M H ∧ EnvOk F σ Γ
def Nx (E : Ent) (Γ : Gm) (M : Ms) (f : St → Hp → Prop) : Prop := ∀ σ H, At E Γ M σ H → f σ H
def Rt (E : Ent) (M : Ms) (P : MP) (f : VK) : Prop := ∀ v F H, Pt E F M H → P.p F v → f v H
theorem At.le {E E' Γ M σ H} (l : Le E' E) (h : At E' Γ M σ H) : At E Γ M σ H := let ⟨F, a, b⟩ := h; ⟨F, l.to _ _ _ a, b⟩
theorem Nx.le {E E' Γ M f} (l : Le E' E) (h : Nx E Γ M f) : Nx E' Γ M f := fun σ H a => h σ H (a.le l)
theorem Rt.le {E E' M P f} (l : Le E' E) (h : Rt E M P f) : Rt E' M P f := fun v F H a b => h v F H (l.to _ _ _ a) b
def Ev (te : TE) (Γ : Gm) (M : Ms) (P : MP) (M' : Ms) : Prop := ∀ E F σ H, Pt E F M H → EnvOk F σ Γ → ∀ Q : VK, (∀ v F' H', Ex F F' → Pt E F' M' H' → P.p F' v → Q v H') → te σ H Q
def EvT (t : TT) (Γ : Gm) (M : Ms) (B : Bool → Prop) (M' : Ms) : Prop := ∀ E F σ H, Pt E F M H → EnvOk F σ Γ → ∀ Q : Bool → Hp → Prop, (∀ b F' H', Ex F F' → Pt E F' M' H' → B b → Q b H') → t σ H Q
/-- arguments: their predicates -/
def Ps (F : Hp) (vs : List V) (ps : List MP) : Prop := Paired (fun (v : V) (P : MP) => P.p F v) vs ps
theorem Ps.mono {F F' vs ps} (e : Ex F F') (h : Ps F vs ps) : Ps F' vs ps := Paired.mapP h fun _ P k => P.mono e k
def EvA (ta : TA) (Γ : Gm) (M : Ms) (ps : List MP) (M' : Ms) : Prop := ∀ E F σ H, Pt E F M H → EnvOk F σ Γ → ∀ Q : List V → Hp → Prop, (∀ vs F' H', Ex F F' → Pt E F' M' H' → Ps F' vs ps → Q vs H') → ta σ H Q
def MP.le (P P' : MP) : Prop := ∀ F v, P.p F v → P'.p F v
theorem Ev.weak {te Γ M P P' M'} (h : Ev te Γ M P M') (l : P.le P') : Ev te Γ M P' M' := fun E F σ H a b Q k => h E F σ H a b Q fun v F' H' e p q => k v F' H' e p (l _ _ q)
theorem EvT.is {t Γ M M'} {b b' : Bool} (h : EvT t Γ M (· = b) M') (e : b = b') : EvT t Γ M (· = b') M' := by rw [← e]; exact h
/-! ### data -/
mutual
theorem Dp.mono {K : PySem.W.Frag} {F F' : Hp} (e : Ex F F') : ∀ {v d}, Dp K F v d → Dp K F' v d
  | _, _, .non => .non
  | _, _, .bl b => .bl b
  | _, _, .int i => .int i
  | _, _, .str x => .str x
  | _, _, .lst h a => .lst (Evl.ex_l e h) (DpAll.mono e a)
  | _, _, .tup h a => .tup (Evl.ex_t e h) (DpAll.mono e a)
theorem DpAll.mono {K : PySem.W.Frag} {F F' : Hp} (e : Ex F F') : ∀ {vs ds}, DpAll K F vs ds → DpAll K F' vs ds
  | _, _, .nil => .nil
  | _, _, .cons a t => .cons (Dp.mono e a) (DpAll.mono e t)
end
def D (K : PySem.W.Frag) (d : PyData) : MP := ⟨fun F v => Dp K F v d, fun e h => Dp.mono e h⟩
theorem dp_int {K F v i} (h : Dp K F v (.int i)) : v = .int i := by cases h; rfl
theorem dp_bl {K F v b} (h : Dp K F v (.bool b)) : v = .bl b := by cases h; rfl
theorem dp_non {K F v} (h : Dp K F v .none) : v = .non := by cases h; rfl
theorem dp_lst {K F v ds} (h : Dp K F v (.list ds)) : ∃ a xs, v = .ref a ∧ SqL K F a xs ∧ DpAll K F xs ds := by cases h with | lst a b => exact ⟨_, _, rfl, a, b⟩
theorem dp_tup {K F v ds} (h : Dp K F v (.tuple ds)) : ∃ a xs, v = .ref a ∧ SqT K F a xs ∧ DpAll K F xs ds := by cases h with | tup a b => exact ⟨_, _, rfl, a, b⟩
theorem all_ps {K F} : ∀ {vs ds}, DpAll K F vs ds → Ps F vs (ds.map (D K))
  | _, _, .nil => .nil
  | _, _, .cons a t => .cons a (all_ps t)
theorem ps_all {K F} : ∀ {ds : List PyData} {vs}, Ps F vs (ds.map (D K)) → DpAll K F vs ds
  | [], _, h => by cases h; exact .nil
  | d :: ds, _, h => by cases h with | cons a t => exact .cons a (ps_all t)
/-- a list, a tuple that stands, of predicates -/
def PLi (K : PySem.W.Frag) (ps : List MP) : MP := ⟨fun F v => ∃ a vs, v = .ref a ∧ SqL K F a vs ∧ Ps F vs ps, fun e ⟨a, vs, h, s, q⟩ => ⟨a, vs, h, Evl.ex_l e s, q.mono e⟩⟩
def PTu (K : PySem.W.Frag) (ps : List MP) : MP := ⟨fun F v => ∃ a vs, v = .ref a ∧ SqT K F a vs ∧ Ps F vs ps, fun e ⟨a, vs, h, s, q⟩ => ⟨a, vs, h, Evl.ex_t e s, q.mono e⟩⟩
theorem D_PLi {K ds} : MP.le (D K (.list ds)) (PLi K (ds.map (D K))) := fun F v h => let ⟨a, xs, e, s, q⟩ := dp_lst h; ⟨a, xs, e, s, all_ps q⟩
theorem D_PTu {K ds} : MP.le (D K (.tuple ds)) (PTu K (ds.map (D K))) := fun F v h => let ⟨a, xs, e, s, q⟩ := dp_tup h; ⟨a, xs, e, s, all_ps q⟩
theorem PLi_D {K ds} : MP.le (PLi K (ds.map (D K))) (D K (.list ds)) := fun F v ⟨a, xs, e, s, q⟩ => by subst e; exact .lst s (ps_all q)
theorem PTu_D {K ds} : MP.le (PTu K (ds.map (D K))) (D K (.tuple ds)) := fun F v ⟨a, xs, e, s, q⟩ => by subst e; exact .tup s (ps_all q)
/-- some -/
def PEx {α : Type} (P : α → MP) : MP := ⟨fun F v => ∃ x, (P x).p F v, fun e ⟨x, h⟩ => ⟨x, (P x).mono e h⟩⟩
/-- with a fact -/
def PAn (φ : Prop) (P : MP) : MP := ⟨fun F v => φ ∧ P.p F v, fun e h => ⟨h.1, P.mono e h.2⟩⟩
def Own (q : Addr) : MP := ⟨fun _ v => v = .ref q, fun _ h => h⟩
/-- an own list of items -/
def ML (ps : List MP) : MO := ⟨fun F o => ∃ vs, o = .lst vs ∧ Ps F vs ps, fun e ⟨vs, h, q⟩ => ⟨vs, h, q.mono e⟩, fun ⟨vs, h, _⟩ xs z => by rw [h] at z; cases z⟩
def MX {α : Type} (P : α → MO) : MO := ⟨fun F v => ∃ x, (P x).p F v, fun e ⟨x, h⟩ => ⟨x, (P x).mono e h⟩, fun ⟨x, h⟩ => (P x).nt h⟩
def MA (φ : Prop) (P : MO) : MO := ⟨fun F v => φ ∧ P.p F v, fun e h => ⟨h.1, P.mono e h.2⟩, fun h => P.nt h.2⟩
end Hq
namespace Hq
open PySem L2
/-! ### steps of a point -/
theorem keys_set {M : Ms} {j : Nat} {q : Addr} {O O' : MO} : M[j]? = some (q, O) → keys (M.set j (q, O')) = keys M := by
  induction M generalizing j with
  | nil => intro h; simp at h
  | cons m M ih =>
    intro h
    cases j with
    | zero =>
      have e : m = (q, O) := Option.some.inj h
      subst e
      rfl
    | succ j =>
      have h' : M[j]? = some (q, O) := h
      show m.1 :: keys (M.set j (q, O')) = m.1 :: keys M
      rw [ih h']
theorem mem_set_ne {M : Ms} {j : Nat} {q : Addr} {O O' : MO} (nd : (keys M).Nodup) : M[j]? = some (q, O) → ∀ r ∈ M.set j (q, O'), r = (q, O') ∨ (r ∈ M ∧ r.1 ≠ q) := by
  induction M generalizing j with
  | nil => intro h; simp at h
  | cons m M ih =>
    intro h r hr
    have nd' := List.nodup_cons.mp (show (m.1 :: keys M).Nodup from nd)
    cases j with
    | zero =>
      have e : m = (q, O) := Option.some.inj h
      subst e
      have hr' : r ∈ (q, O') :: M := hr
      rcases List.mem_cons.mp hr' with e | hm
      · exact .inl e
      · exact .inr ⟨List.mem_cons_of_mem _ hm, fun e => nd'.1 (by rw [← e]; exact List.mem_map_of_mem (f := (·.1)) hm)⟩
    | succ j =>
      have h' : M[j]? = some (q, O) := h
      have hr' : r ∈ m :: M.set j (q, O') := hr
      have hq : q ∈ keys M := List.mem_map_of_mem (f := (·.1)) (List.mem_of_getElem? h')
      rcases List.mem_cons.mp hr' with e | hm
      · subst e
        exact .inr ⟨List.mem_cons_self, fun e => nd'.1 (by rw [e]; exact hq)⟩
      · rcases ih nd'.2 h' r hm with e | ⟨e, e2⟩
        · exact .inl e
        · exact .inr ⟨List.mem_cons_of_mem _ e, e2⟩
section
variable {K : PySem.W.Frag} {E E' : Ent} {F F' H H' : Hp} {M M' M1 M2 M3 : Ms} {Γ Γ' : Gm} {P P' P1 P2 : MP} {O O' : MO} {q : Addr} {σ : St} {o o' : HO} {j : Nat}
theorem Pt.at (h : Pt E F M H) (e : M[j]? = some (q, O)) : F q = none ∧ ∃ o, H q = some o ∧ O.p F o := h.wd.own _ (List.mem_of_getElem? e)
theorem Pt.ex (h : Pt E F M H) : Ex F H := h.wd.ex
theorem Pt.fresh (h : Pt E F M H) (hp : H q = none) : E.H q = none := Classical.byContradiction fun n => h.gr.stay _ n hp
theorem Pt.new (h : Pt E F M H) (hp : H q = none) (ho : O.p F o) : Pt E F ((q, O) :: M) (upd H q o) := by
  have ne : ∀ {a u}, H a = some u → a ≠ q := fun e => ne_of_none e hp
  refine ⟨⟨h.gr.ex, fun a u h1 h2 => ?_, h.gr.off, fun a h1 => ?_, fun a h1 h2 => ?_⟩, ⟨h.wd.ex.trans (Evl.Ex.new hp), ?_, fun r hr => ?_⟩, fun r hr => ?_⟩
  · have := h.gr.keep a u h1 h2
    rw [upd_ne (ne this)]; exact this
  · by_cases e : a = q
    · subst e; rw [upd_same]; exact fun z => by cases z
    · rw [upd_ne e]; exact h.gr.stay a h1
  · rw [upd_ne (fun e => h.gr.stay a h1 (by rw [e]; exact hp))]; exact h.gr.nott a h1 h2
  · refine List.nodup_cons.mpr ⟨fun hm => ?_, h.wd.nd⟩
    obtain ⟨r, hr, e⟩ := List.mem_map.mp hm
    obtain ⟨_, u, hu, _⟩ := h.wd.own r hr
    exact ne hu e
  · rcases List.mem_cons.mp hr with e | hm
    · subst e; exact ⟨Evl.fresh_back h.wd.ex hp, o, upd_same, ho⟩
    · obtain ⟨a, u, hu, b⟩ := h.wd.own r hm
      exact ⟨a, u, by rw [upd_ne (ne hu)]; exact hu, b⟩
  · rcases List.mem_cons.mp hr with e | hm
    · subst e; exact .inr (h.fresh hp)
    · exact h.fr r hm
theorem Pt.laid (h : Pt E F M H) (hp : H q = none) : Pt E (upd F q o) M (upd H q o) := by
  have ne : ∀ {a u}, H a = some u → a ≠ q := fun e => ne_of_none e hp
  have fq : F q = none := Evl.fresh_back h.wd.ex hp
  refine ⟨⟨h.gr.ex.trans (Evl.Ex.new fq), fun a u h1 h2 => ?_, fun a h1 h2 h3 => ?_, fun a h1 => ?_, fun a h1 h2 => ?_⟩, ⟨fun a u e => ?_, h.wd.nd, fun r hr => ?_⟩, h.fr⟩
  · have := h.gr.keep a u h1 h2
    rw [upd_ne (ne this)]; exact this
  · have n : a ≠ q := fun e => h2 (by rw [e]; exact h.fresh hp)
    rw [upd_ne n]; exact h.gr.off a h1 h2 h3
  · by_cases e : a = q
    · subst e; rw [upd_same]; exact fun z => by cases z
    · rw [upd_ne e]; exact h.gr.stay a h1
  · rw [upd_ne (fun e => h.gr.stay a h1 (by rw [e]; exact hp))]; exact h.gr.nott a h1 h2
  · by_cases e2 : a = q
    · subst e2; rw [upd_same] at e ⊢; exact e
    · rw [upd_ne e2] at e ⊢; exact h.wd.ex a u e
  · obtain ⟨a, u, hu, b⟩ := h.wd.own r hr
    have n : r.1 ≠ q := ne hu
    exact ⟨by rw [upd_ne n]; exact a, u, by rw [upd_ne n]; exact hu, r.2.mono (Evl.Ex.new fq) b⟩
theorem Pt.freeze (h : Pt E F M H) (e : M[j]? = some (q, O)) (hq : E.H q = none) (ho : H q = some o) : Pt E (upd F q o) (M.eraseIdx j) H := by
  obtain ⟨fq, _⟩ := h.at e
  have nd : ∀ r ∈ M.eraseIdx j, r.1 ≠ q := by
    have key : ∀ {M : Ms} {j : Nat}, (keys M).Nodup → M[j]? = some (q, O) → ∀ r ∈ M.eraseIdx j, r.1 ≠ q := by
      intro M
      induction M with
      | nil => intro j _ h; simp at h
      | cons m M ih =>
        intro j nd e r hr
        have nd' := List.nodup_cons.mp (show (m.1 :: keys M).Nodup from nd)
        cases j with
        | zero =>
          have e1 : m = (q, O) := Option.some.inj e
          subst e1
          have hr : r ∈ M := hr
          exact fun z => nd'.1 (by rw [← z]; exact List.mem_map_of_mem (f := (·.1)) hr)
        | succ j =>
          have e1 : M[j]? = some (q, O) := e
          have hr : r ∈ m :: M.eraseIdx j := hr
          have hq : q ∈ keys M := List.mem_map_of_mem (f := (·.1)) (List.mem_of_getElem? e1)
          rcases List.mem_cons.mp hr with z | z
          · subst z; exact fun z => nd'.1 (by rw [z]; exact hq)
          · exact ih nd'.2 e1 r z
    exact key h.wd.nd e
  refine ⟨⟨h.gr.ex.trans (Evl.Ex.new fq), h.gr.keep, fun a h1 h2 h3 => ?_, h.gr.stay, h.gr.nott⟩, ⟨fun a u z => ?_, ?_, fun r hr => ?_⟩, fun r hr => h.fr r (List.mem_of_mem_eraseIdx hr)⟩
  · have n : a ≠ q := fun z => h2 (by rw [z]; exact hq)
    rw [upd_ne n]; exact h.gr.off a h1 h2 h3
  · by_cases e2 : a = q
    · subst e2; rw [upd_same] at z; rw [ho]; exact z
    · rw [upd_ne e2] at z; exact h.wd.ex a u z
  · exact h.wd.nd.sublist ((List.eraseIdx_sublist _ _).map _)
  · obtain ⟨a, u, hu, b⟩ := h.wd.own r (List.mem_of_mem_eraseIdx hr)
    exact ⟨by rw [upd_ne (nd r hr)]; exact a, u, hu, r.2.mono (Evl.Ex.new fq) b⟩
theorem Pt.mut (h : Pt E F M H) (e : M[j]? = some (q, O)) (ho : O'.p F o') : Pt E F (M.set j (q, O')) (upd H q o') := by
  have hm := List.mem_of_getElem? e
  obtain ⟨fq, u0, hu0, _⟩ := h.at e
  refine ⟨⟨h.gr.ex, fun a u h1 h2 => ?_, h.gr.off, fun a h1 => ?_, fun a h1 h2 => ?_⟩, ⟨fun a u z => ?_, by rw [keys_set e]; exact h.wd.nd, fun r hr => ?_⟩, fun r hr => ?_⟩
  · have n : a ≠ q := fun z => by
      subst z
      rcases h.fr _ hm with f | f
      · exact h1 f
      · rw [show E.H a = none from f] at h2; cases h2
    rw [upd_ne n]; exact h.gr.keep a u h1 h2
  · by_cases z : a = q
    · subst z; rw [upd_same]; exact fun z => by cases z
    · rw [upd_ne z]; exact h.gr.stay a h1
  · by_cases z : a = q
    · subst z; rw [upd_same]; exact fun xs e => O'.nt ho xs (Option.some.inj e)
    · rw [upd_ne z]; exact h.gr.nott a h1 h2
  · rw [upd_ne (ne_of_none z fq)]; exact h.wd.ex a u z
  · rcases mem_set_ne h.wd.nd e r hr with z | ⟨z, n⟩
    · subst z; exact ⟨fq, o', upd_same, ho⟩
    · obtain ⟨a, u, hu, b⟩ := h.wd.own r z
      exact ⟨a, u, by rw [upd_ne n]; exact hu, b⟩
  · rcases mem_set_ne h.wd.nd e r hr with z | ⟨z, n⟩
    · subst z; exact (show q ∈ E.ks ∨ E.H q = none from h.fr (q, O) hm)
    · exact h.fr r z
theorem Pt.drop (h : Pt E F M H) (s : List.Sublist M' M) : Pt E F M' H :=
  ⟨h.gr, ⟨h.wd.ex, h.wd.nd.sublist (s.map _), fun r hr => h.wd.own r (s.subset hr)⟩, fun r hr => h.fr r (s.subset hr)⟩
theorem Pt.to (h : Pt E F M H) (l : ∀ F o, O.p F o → O'.p F o) (e : M[j]? = some (q, O)) : Pt E F (M.set j (q, O')) H := by
  obtain ⟨fq, u0, hu0, hO⟩ := h.at e
  have := h.mut (o' := u0) (O' := O') e (l _ _ hO)
  have e2 : upd H q u0 = H := by
    funext a
    by_cases z : a = q
    · subst z; rw [upd_same, hu0]
    · rw [upd_ne z]
  rw [e2] at this
  exact this
/-! ### changes of what is known -/
theorem Nx.imp {f} (h : Nx E Γ' M' f) (i : ∀ σ H, At E Γ M σ H → At E Γ' M' σ H) : Nx E Γ M f := fun σ H a => h σ H (i σ H a)
theorem EnvOk.upd {i : Nat} (h : EnvOk F σ Γ) (e : Γ[i]? = some (some P)) (l : ∀ v, P.p F v → P'.p F v) : EnvOk F σ (Γ.set i (some P')) := by
  have key : ∀ {σ : St} {Γ : Gm} {i : Nat}, EnvOk F σ Γ → Γ[i]? = some (some P) → EnvOk F σ (Γ.set i (some P')) := by
    intro σ Γ
    induction Γ generalizing σ with
    | nil => intro i _ h; simp at h
    | cons g Γ ih =>
      intro i h e
      cases h with
      | cons a t =>
        cases i with
        | zero =>
          have e : g = some P := Option.some.inj e
          refine .cons (fun Q hQ => ?_) t
          cases hQ
          obtain ⟨v, hv, k⟩ := a P e
          exact ⟨v, hv, l v k⟩
        | succ i => exact .cons a (ih t e)
  exact key h e
theorem nx_le {f} {i : Nat} (e : Γ[i]? = some (some P)) (l : P.le P') (h : Nx E (Γ.set i (some P')) M f) : Nx E Γ M f :=
  h.imp fun _ _ ⟨F, a, b⟩ => ⟨F, a, b.upd e (l F)⟩
theorem nx_ex {α : Type} {f} {i : Nat} {R : α → MP} (e : Γ[i]? = some (some (PEx R))) (h : ∀ x, Nx E (Γ.set i (some (R x))) M f) : Nx E Γ M f := by
  rintro σ H ⟨F, a, b⟩
  obtain ⟨v, hv, x, k⟩ := b.get e
  refine h x σ H ⟨F, a, ?_⟩
  have : EnvOk F (σ.set i (some v)) (Γ.set i (some (R x))) := b.set i k
  have e2 : σ.set i (some v) = σ := by
    have hi := (List.getElem?_eq_some_iff.mp hv)
    obtain ⟨hi, hv⟩ := hi
    rw [← hv, List.set_getElem_self]
  rw [e2] at this
  exact this
theorem nx_an {φ : Prop} {f} {i : Nat} {R : MP} (e : Γ[i]? = some (some (PAn φ R))) (h : φ → Nx E (Γ.set i (some R)) M f) : Nx E Γ M f := by
  rintro σ H ⟨F, a, b⟩
  obtain ⟨v, hv, k1, k2⟩ := b.get e
  refine h k1 σ H ⟨F, a, b.upd e fun v q => q.2⟩
/-- an own list is given away: it stands from now on -/
theorem nx_freeze {f} {i : Nat} {ps : List MP} (j : Nat) (e : M[j]? = some (q, ML ps)) (hq : E.H q = none) (hg : Γ[i]? = some (some (Own q))) (h : Nx E (Γ.set i (some (PLi K ps))) (M.eraseIdx j) f) : Nx E Γ M f := by
  rintro σ H ⟨F, a, b⟩
  obtain ⟨fq, o, ho, vs, rfl, hp⟩ := a.at e
  have ex : Ex F (upd F q (.lst vs)) := Evl.Ex.new fq
  refine h σ H ⟨_, a.freeze e hq ho, (b.mono ex).upd hg fun v hv => ⟨q, vs, hv, .inl (.inl upd_same), hp.mono ex⟩⟩
theorem nx_drop {f} (s : List.Sublist M' M) (h : Nx E Γ M' f) : Nx E Γ M f := h.imp fun σ H ⟨F, a, b⟩ => ⟨F, a.drop s, b⟩
/-! ### expressions -/
variable {te ta tb tc tl : TE} {t u : TT} {r : R2}
theorem ev_var {i : Nat} (e : Γ[i]? = some (some P)) : Ev (tVar i) Γ M P M := fun E F σ H a b Q k => by
  obtain ⟨v, hv, hp⟩ := b.get e
  exact ⟨v, hv, k v F H (Evl.Ex.refl _) a hp⟩
theorem ev_cv {v : V} (h : ∀ F, P.p F v) : Ev (tC v) Γ M P M := fun E F σ H a b Q k => k v F H (Evl.Ex.refl _) a (h F)
theorem ev_int {i : Int} : Ev (tC (.int i)) Γ M (D K (.int i)) M := ev_cv fun _ => .int i
theorem ev_bl {b : Bool} : Ev (tC (.bl b)) Γ M (D K (.bool b)) M := ev_cv fun _ => .bl b
def Cont (E : Ent) (F : Hp) (M : Ms) (P : MP) (Q : VK) : Prop := ∀ v F' H', Ex F F' → Pt E F' M H' → P.p F' v → Q v H'
def RV (r : R2) (P1 P2 : MP) (M : Ms) (P : MP) (M' : Ms) : Prop := ∀ E F H x y, Pt E F M H → P1.p F x → P2.p F y → ∀ Q : VK, Cont E F M' P Q → r x y H Q
theorem ev_op (ha : Ev ta Γ M P1 M1) (hb : Ev tb Γ M1 P2 M2) (hr : RV r P1 P2 M2 P M3) : Ev (tOp r ta tb) Γ M P M3 := fun E F σ H a b Q k =>
  ha E F σ H a b _ fun x F1 H1 e1 a1 p1 => hb E F1 σ H1 a1 (b.mono e1) _ fun y F2 H2 e2 a2 p2 =>
    hr E F2 H2 x y a2 (P1.mono e2 p1) p2 Q fun v F3 H3 e3 a3 p3 => k v F3 H3 ((e1.trans e2).trans e3) a3 p3
theorem RV.ex1 {α : Type} {R : α → MP} (h : ∀ x, RV r (R x) P2 M P M') : RV r (PEx R) P2 M P M' := fun E F H x y a ⟨z, p1⟩ p2 Q k => h z E F H x y a p1 p2 Q k
theorem RV.ex2 {α : Type} {R : α → MP} (h : ∀ x, RV r P1 (R x) M P M') : RV r P1 (PEx R) M P M' := fun E F H x y a p1 ⟨z, p2⟩ Q k => h z E F H x y a p1 p2 Q k
theorem RV.an1 {φ : Prop} {R : MP} (h : φ → RV r R P2 M P M') : RV r (PAn φ R) P2 M P M' := fun E F H x y a p1 p2 Q k => h p1.1 E F H x y a p1.2 p2 Q k
theorem RV.an2 {φ : Prop} {R : MP} (h : φ → RV r P1 R M P M') : RV r P1 (PAn φ R) M P M' := fun E F H x y a p1 p2 Q k => h p2.1 E F H x y a p1 p2.2 Q k
theorem RV.weak (h : RV r P1 P2 M P M') (l : P.le P') : RV r P1 P2 M P' M' := fun E F H x y a p1 p2 Q k => h E F H x y a p1 p2 Q fun v F' H' e g p => k v F' H' e g (l _ _ p)
theorem PEx.in {α : Type} {R : α → MP} (x : α) : (R x).le (PEx R) := fun _ _ h => ⟨x, h⟩
theorem PAn.in {φ : Prop} {R : MP} (h : φ) : R.le (PAn φ R) := fun _ _ k => ⟨h, k⟩
theorem MP.le_trans {A B C : MP} (h : A.le B) (k : B.le C) : A.le C := fun F v q => k F v (h F v q)
theorem rv_val {z : V} (hz : ∀ F, P.p F z) (h : ∀ F H x y, P1.p F x → P2.p F y → Ex F H → ∀ Q : VK, Q z H → r x y H Q) : RV r P1 P2 M P M := fun E F H x y a p1 p2 Q k =>
  h F H x y p1 p2 a.ex Q (k z F H (Evl.Ex.refl _) a (hz F))
theorem rv_i0 {g : Int → Int → Int} {i j : Int} : RV (rI0 fun i j => .int (g i j)) (D K (.int i)) (D K (.int j)) M (D K (.int (g i j))) M := rv_val (z := .int (g i j)) (fun _ => .int _) fun F H x y p1 p2 _ Q q => by
  cases dp_int p1; cases dp_int p2
  exact ⟨i, j, rfl, rfl, q⟩
theorem rv_b0 {g : Int → Int → Bool} {i j : Int} : RV (rI0 fun i j => .bl (g i j)) (D K (.int i)) (D K (.int j)) M (D K (.bool (g i j))) M := rv_val (z := .bl (g i j)) (fun _ => .bl _) fun F H x y p1 p2 _ Q q => by
  cases dp_int p1; cases dp_int p2
  exact ⟨i, j, rfl, rfl, q⟩
theorem rv_ic {C : Int → Int → Prop} {g : Int → Int → Int} {i j : Int} (hc : C i j) : RV (rI C fun i j => .int (g i j)) (D K (.int i)) (D K (.int j)) M (D K (.int (g i j))) M := rv_val (z := .int (g i j)) (fun _ => .int _) fun F H x y p1 p2 _ Q q => by
  cases dp_int p1; cases dp_int p2
  exact ⟨i, j, rfl, rfl, hc, q⟩
theorem rv_eqD {d e : PyData} (hd : SeqAt.shaped d = true) (he : SeqAt.shaped e = true) : RV (rEqD K) (D K d) (D K e) M (D K (.bool (PyData.eqv d e))) M := rv_val (z := .bl _) (fun _ => .bl _) fun F H x y p1 p2 ex Q q =>
  ⟨d, e, Dp.mono ex p1, Dp.mono ex p2, hd, he, q⟩
theorem rv_neD {d e : PyData} (hd : SeqAt.shaped d = true) (he : SeqAt.shaped e = true) : RV (rNeD K) (D K d) (D K e) M (D K (.bool (!PyData.eqv d e))) M := rv_val (z := .bl _) (fun _ => .bl _) fun F H x y p1 p2 ex Q q =>
  ⟨d, e, Dp.mono ex p1, Dp.mono ex p2, hd, he, q⟩
theorem atI_of {xs : List V} {i : Int} {v : V} (h0 : 0 ≤ i) (h : xs[i.toNat]? = some v) : atI xs i = some v := by
  have hl := (List.getElem?_eq_some_iff.mp h).1
  obtain ⟨n, rfl⟩ := Int.eq_ofNat_of_zero_le h0
  unfold atI
  rw [Evl.ixN_nat (by simpa using hl)]
  simpa using h
theorem rv_ixL {ps : List MP} {i : Int} (h0 : 0 ≤ i) (h : ps[i.toNat]? = some P) : RV (rIx K) (PLi K ps) (D K (.int i)) M P M := fun E F H x y a p1 p2 Q k => by
  cases dp_int p2
  obtain ⟨b, vs, rfl, s, q⟩ := p1
  obtain ⟨v, hv, hp⟩ := paired_get q h
  exact .inl ⟨b, vs, i, v, rfl, rfl, Evl.ex_l a.ex s, atI_of h0 hv, k v F H (Evl.Ex.refl _) a hp⟩
theorem rv_ixT {ps : List MP} {i : Int} (h0 : 0 ≤ i) (h : ps[i.toNat]? = some P) : RV (rIx K) (PTu K ps) (D K (.int i)) M P M := fun E F H x y a p1 p2 Q k => by
  cases dp_int p2
  obtain ⟨b, vs, rfl, s, q⟩ := p1
  obtain ⟨v, hv, hp⟩ := paired_get q h
  exact .inr (.inl ⟨b, vs, i, v, rfl, rfl, Evl.ex_t a.ex s, atI_of h0 hv, k v F H (Evl.Ex.refl _) a hp⟩)
theorem rv_ixDL {ds : List PyData} {i : Int} {d : PyData} (h0 : 0 ≤ i) (h : ds[i.toNat]? = some d) : RV (rIx K) (D K (.list ds)) (D K (.int i)) M (D K d) M := fun E F H x y a p1 p2 Q k =>
  rv_ixL (K := K) (ps := ds.map (D K)) h0 (by rw [List.getElem?_map, h]; rfl) E F H x y a (D_PLi _ _ p1) p2 Q k
theorem rv_ixDT {ds : List PyData} {i : Int} {d : PyData} (h0 : 0 ≤ i) (h : ds[i.toNat]? = some d) : RV (rIx K) (D K (.tuple ds)) (D K (.int i)) M (D K d) M := fun E F H x y a p1 p2 Q k =>
  rv_ixT (K := K) (ps := ds.map (D K)) h0 (by rw [List.getElem?_map, h]; rfl) E F H x y a (D_PTu _ _ p1) p2 Q k
theorem rv_ixO {ps : List MP} {i : Int} {j : Nat} (e : M[j]? = some (q, ML ps)) (h0 : 0 ≤ i) (h : ps[i.toNat]? = some P) : RV (rIx K) (Own q) (D K (.int i)) M P M := fun E F H x y a p1 p2 Q k => by
  cases dp_int p2
  have p1 : x = .ref q := p1
  subst p1
  obtain ⟨fq, o, ho, vs, rfl, s⟩ := a.at e
  obtain ⟨v, hv, hp⟩ := paired_get s h
  exact .inl ⟨q, vs, i, v, rfl, rfl, SqL.of ho, atI_of h0 hv, k v F H (Evl.Ex.refl _) a hp⟩
theorem flat_ints : ∀ {F : Hp} {xs : List V} {ns : List Int}, DpAll K F xs (ns.map PyData.int) → xs = ns.map V.int
  | _, _, [], h => by cases h; rfl
  | _, _, n :: ns, h => by cases h with | cons a t => rw [List.map_cons, ← flat_ints t, dp_int a]
theorem flat_all (ns : List Int) : (ns.map V.int).all flatV = true := by
  rw [List.all_eq_true]
  intro x hx
  obtain ⟨n, _, rfl⟩ := List.mem_map.mp hx
  rfl
theorem inV_ints (i : Int) (ns : List Int) : inV (.int i) (ns.map V.int) = decide (i ∈ ns) := by
  induction ns with
  | nil => rfl
  | cons n ns ih =>
    show (eqV (.int n) (.int i) || inV (.int i) (ns.map V.int)) = _
    rw [ih]
    show (decide (n = i) || decide (i ∈ ns)) = _
    by_cases h : i = n
    · subst h; simp
    · have h2 : ¬ n = i := fun e => h e.symm
      simp [h, h2]
theorem rv_inT {i : Int} {ns : List Int} {neg : Bool} : RV (rIn K neg) (D K (.int i)) (D K (.tuple (ns.map .int))) M (D K (.bool (if neg then !decide (i ∈ ns) else decide (i ∈ ns)))) M := rv_val (z := .bl _) (fun _ => .bl _) fun F H x y p1 p2 ex Q k => by
  cases dp_int p1
  obtain ⟨b, vs, rfl, s, q⟩ := dp_tup p2
  cases flat_ints q
  refine ⟨b, _, rfl, .inr (Evl.ex_t ex s), rfl, flat_all ns, ?_⟩
  rw [inV_ints]
  exact k
theorem rv_inL {i : Int} {ns : List Int} {neg : Bool} : RV (rIn K neg) (D K (.int i)) (D K (.list (ns.map .int))) M (D K (.bool (if neg then !decide (i ∈ ns) else decide (i ∈ ns)))) M := rv_val (z := .bl _) (fun _ => .bl _) fun F H x y p1 p2 ex Q k => by
  cases dp_int p1
  obtain ⟨b, vs, rfl, s, q⟩ := dp_lst p2
  cases flat_ints q
  refine ⟨b, _, rfl, .inl (Evl.ex_l ex s), rfl, flat_all ns, ?_⟩
  rw [inV_ints]
  exact k
/-! ### arguments, calls -/
theorem ea_nil : EvA tNil Γ M [] M := fun E F σ H a b Q k => k [] F H (Evl.Ex.refl _) a .nil
theorem ea_cons {tr : TA} {ps : List MP} (h : Ev te Γ M P M1) (hr : EvA tr Γ M1 ps M2) : EvA (tCons te tr) Γ M (P :: ps) M2 := fun E F σ H a b Q k =>
  h E F σ H a b _ fun x F1 H1 e1 a1 p1 => hr E F1 σ H1 a1 (b.mono e1) _ fun vs F2 H2 e2 a2 p2 => k (x :: vs) F2 H2 (e1.trans e2) a2 (.cons (P.mono e2 p1) p2)
def RC (rc : List V → Hp → VK → Prop) (ps : List MP) (M : Ms) (P : MP) (M' : Ms) : Prop := ∀ E F H vs, Pt E F M H → Ps F vs ps → ∀ Q : VK, Cont E F M' P Q → rc vs H Q
theorem ev_cb {rc : List V → Hp → VK → Prop} {tr : TA} {ps : List MP} (h : EvA tr Γ M ps M1) (hr : RC rc ps M1 P M2) : Ev (tCB rc tr) Γ M P M2 := fun E F σ H a b Q k =>
  h E F σ H a b _ fun vs F1 H1 e1 a1 p1 => hr E F1 H1 vs a1 p1 Q fun v F2 H2 e2 a2 p2 => k v F2 H2 (e1.trans e2) a2 p2
theorem ev_call {sp : Sp} {dvs : List V} {X : XK} {tr : TA} {ps : List MP} (h : EvA tr Γ M ps M1) (hr : RC (fun vs H Q => sp (vs ++ dvs) H Q X) ps M1 P M2) : Ev (tCall sp dvs X tr) Γ M P M2 := fun E F σ H a b Q k =>
  h E F σ H a b _ fun vs F1 H1 e1 a1 p1 => hr E F1 H1 vs a1 p1 Q fun v F2 H2 e2 a2 p2 => k v F2 H2 (e1.trans e2) a2 p2
theorem RC.weak {rc : List V → Hp → VK → Prop} {ps : List MP} (h : RC rc ps M P M') (l : P.le P') : RC rc ps M P' M' := fun E F H vs a p Q k => h E F H vs a p Q fun v F' H' e g p => k v F' H' e g (l _ _ p)
theorem rc_len {ps : List MP} : RC (fun xs H Q => ∃ p ys, xs = [.ref p] ∧ (SqL K H p ys ∨ SqT K H p ys) ∧ Q (.int ys.length) H) [PLi K ps] M (D K (.int ps.length)) M := fun E F H vs a p Q k => by
  cases p with
  | cons p t =>
    cases t
    obtain ⟨b, ys, rfl, s, q⟩ := p
    refine ⟨b, ys, rfl, .inl (Evl.ex_l a.ex s), k _ F H (Evl.Ex.refl _) a ?_⟩
    rw [← paired_len q]
    exact .int _
theorem rc_lenT {ps : List MP} : RC (fun xs H Q => ∃ p ys, xs = [.ref p] ∧ (SqL K H p ys ∨ SqT K H p ys) ∧ Q (.int ys.length) H) [PTu K ps] M (D K (.int ps.length)) M := fun E F H vs a p Q k => by
  cases p with
  | cons p t =>
    cases t
    obtain ⟨b, ys, rfl, s, q⟩ := p
    refine ⟨b, ys, rfl, .inr (Evl.ex_t a.ex s), k _ F H (Evl.Ex.refl _) a ?_⟩
    rw [← paired_len q]
    exact .int _
theorem rc_lenO {ps : List MP} {j : Nat} (e : M[j]? = some (q, ML ps)) : RC (fun xs H Q => ∃ p ys, xs = [.ref p] ∧ (SqL K H p ys ∨ SqT K H p ys) ∧ Q (.int ys.length) H) [Own q] M (D K (.int ps.length)) M := fun E F H vs a p Q k => by
  cases p with
  | cons p t =>
    cases t
    have p : _ = V.ref q := p
    subst p
    obtain ⟨fq, o, ho, vs, rfl, s⟩ := a.at e
    refine ⟨q, vs, rfl, .inl (SqL.of ho), k _ F H (Evl.Ex.refl _) a ?_⟩
    rw [← paired_len s]
    exact .int _
theorem rc_lenD {ds : List PyData} : RC (fun xs H Q => ∃ p ys, xs = [.ref p] ∧ (SqL K H p ys ∨ SqT K H p ys) ∧ Q (.int ys.length) H) [D K (.list ds)] M (D K (.int ds.length)) M := fun E F H vs a p Q k => by
  cases p with
  | cons p t =>
    cases t
    have := rc_len (K := K) (ps := ds.map (D K)) E F H [_] a (.cons (D_PLi _ _ p) .nil) Q (M := M)
    rw [List.length_map] at this
    exact this k
theorem rc_lenDT {ds : List PyData} : RC (fun xs H Q => ∃ p ys, xs = [.ref p] ∧ (SqL K H p ys ∨ SqT K H p ys) ∧ Q (.int ys.length) H) [D K (.tuple ds)] M (D K (.int ds.length)) M := fun E F H vs a p Q k => by
  cases p with
  | cons p t =>
    cases t
    have := rc_lenT (K := K) (ps := ds.map (D K)) E F H [_] a (.cons (D_PTu _ _ p) .nil) Q (M := M)
    rw [List.length_map] at this
    exact this k
end
end Hq
namespace Hq
open PySem L2
section
variable {K : PySem.W.Frag} {E E' : Ent} {F F' H H' : Hp} {M M' M1 M2 M3 : Ms} {Γ Γ' : Gm} {P P' P1 P2 : MP} {O O' : MO} {q : Addr} {σ : St} {o o' : HO} {j : Nat}
variable {te ta tb tc tl : TE} {t u : TT} {r : R2} {D1 : Ends} {tu tw : TS}
/-! ### new objects -/
def ContN (E : Ent) (F : Hp) (O : MO) (M : Ms) (Q : VK) : Prop := ∀ q F' H', E.H q = none → Ex F F' → Pt E F' ((q, O) :: M) H' → Q (.ref q) H'
def EvN (te : TE) (Γ : Gm) (M : Ms) (O : MO) (M' : Ms) : Prop := ∀ E F σ H, Pt E F M H → EnvOk F σ Γ → ∀ Q : VK, ContN E F O M' Q → te σ H Q
def RCN (rc : List V → Hp → VK → Prop) (ps : List MP) (M : Ms) (O : MO) (M' : Ms) : Prop := ∀ E F H vs, Pt E F M H → Ps F vs ps → ∀ Q : VK, ContN E F O M' Q → rc vs H Q
/-- an object that stands -/
def Fr (O : MO) : MP := ⟨fun F v => ∃ q o, v = .ref q ∧ F q = some o ∧ O.p F o, fun e ⟨q, o, a, b, c⟩ => ⟨q, o, a, e _ _ b, O.mono e c⟩⟩
theorem fr_L {ps : List MP} : (Fr (ML ps)).le (PLi K ps) := fun F v ⟨q, o, a, b, vs, e, h⟩ => by subst e; exact ⟨q, vs, a, SqL.of b, h⟩
theorem fr_X {α : Type} {R : α → MO} : (Fr (MX R)).le (PEx fun x => Fr (R x)) := fun F v ⟨q, o, a, b, x, h⟩ => ⟨x, q, o, a, b, h⟩
theorem fr_A {φ : Prop} {R : MO} : (Fr (MA φ R)).le (PAn φ (Fr R)) := fun F v ⟨q, o, a, b, x, h⟩ => ⟨x, q, o, a, b, h⟩
theorem PEx.le {α : Type} {R R' : α → MP} (h : ∀ x, (R x).le (R' x)) : (PEx R).le (PEx R') := fun F v ⟨x, k⟩ => ⟨x, h x F v k⟩
theorem PAn.le {φ : Prop} {R R' : MP} (h : φ → R.le R') : (PAn φ R).le (PAn φ R') := fun F v k => ⟨k.1, h k.1 F v k.2⟩
theorem ev_fr (h : EvN te Γ M O M') : Ev te Γ M (Fr O) M' := fun E F σ H a b Q k => h E F σ H a b Q fun q F' H' f e g => by
  obtain ⟨fq, o, ho, hO⟩ := g.at (j := 0) rfl
  have ex : Ex F' (upd F' q o) := Evl.Ex.new fq
  exact k _ _ _ (e.trans ex) (g.freeze (j := 0) rfl f ho) ⟨q, o, rfl, upd_same, O.mono ex hO⟩
theorem ev_newL {ps : List MP} (h : EvN te Γ M (ML ps) M') : Ev te Γ M (PLi K ps) M' := (ev_fr h).weak fr_L
theorem EvN.weak (h : EvN te Γ M O M') (l : ∀ F o, O.p F o → O'.p F o) : EvN te Γ M O' M' := fun E F σ H a b Q k => h E F σ H a b Q fun q F' H' f e g => k q F' H' f e (by
  have := g.to (j := 0) (O' := O') l rfl
  exact this)
theorem EvN.is {O2 : MO} (h : EvN te Γ M O M') (e : O = O2) : EvN te Γ M O2 M' := e ▸ h
theorem Ev.is (h : Ev te Γ M P M') (e : P = P') : Ev te Γ M P' M' := e ▸ h
theorem sz_of {n : Nat} (h : n ≤ 100000) : n ≤ sizeLine := Nat.le_trans h (by decide)
theorem sz_lt {n : Nat} (h : n < 100000) : n < sizeLine := Nat.lt_of_lt_of_le h (by decide)
theorem evn_lst {tr : TA} {ps : List MP} (h : EvA tr Γ M ps M1) (hl : ps.length ≤ 100000) : EvN (tLst tr) Γ M (ML ps) M1 := fun E F σ H a b Q k =>
  h E F σ H a b _ fun vs F1 H1 e1 a1 p1 => ⟨sz_of (by rw [paired_len p1]; exact hl), fun p hp => k p F1 _ (a1.fresh hp) e1 (a1.new hp ⟨vs, rfl, p1⟩)⟩
theorem ev_tup {tr : TA} {ps : List MP} (h : EvA tr Γ M ps M1) (hl : ps.length ≤ 100000) : Ev (tTup tr) Γ M (PTu K ps) M1 := fun E F σ H a b Q k =>
  h E F σ H a b _ fun vs F1 H1 e1 a1 p1 => ⟨sz_of (by rw [paired_len p1]; exact hl), fun p hp => k _ _ _ (e1.trans (Evl.Ex.new (Evl.fresh_back a1.ex hp))) (a1.laid hp)
    ⟨p, vs, rfl, SqT.of upd_same, p1.mono (Evl.Ex.new (Evl.fresh_back a1.ex hp))⟩⟩
theorem evn_cb {rc : List V → Hp → VK → Prop} {tr : TA} {ps : List MP} (h : EvA tr Γ M ps M1) (hr : RCN rc ps M1 O M2) : EvN (tCB rc tr) Γ M O M2 := fun E F σ H a b Q k =>
  h E F σ H a b _ fun vs F1 H1 e1 a1 p1 => hr E F1 H1 vs a1 p1 Q fun q F2 H2 f e2 a2 => k q F2 H2 f (e1.trans e2) a2
theorem ps1 {F : Hp} {vs : List V} {P : MP} (h : Ps F vs [P]) : ∃ v, vs = [v] ∧ P.p F v := by cases h with | cons a t => cases t; exact ⟨_, rfl, a⟩
theorem ps2 {F : Hp} {vs : List V} {P P' : MP} (h : Ps F vs [P, P']) : ∃ v w, vs = [v, w] ∧ P.p F v ∧ P'.p F w := by cases h with | cons a t => obtain ⟨w, rfl, b⟩ := ps1 t; exact ⟨_, w, rfl, a, b⟩
/-- list(x) -/
abbrev rList (K : PySem.W.Frag) : List V → Hp → VK → Prop := fun xs H Q => ∃ p ys, xs = [.ref p] ∧ (SqL K H p ys ∨ SqT K H p ys) ∧ ∀ l, H l = none → Q (.ref l) (upd H l (.lst ys))
theorem rcn_listL {ps : List MP} : RCN (rList K) [PLi K ps] M (ML ps) M := fun E F H vs a h Q k => by
  obtain ⟨v, rfl, b, ws, rfl, s, p⟩ := ps1 h
  exact ⟨b, ws, rfl, .inl (Evl.ex_l a.ex s), fun l hl => k l F _ (a.fresh hl) (Evl.Ex.refl _) (a.new hl ⟨ws, rfl, p⟩)⟩
theorem rcn_listT {ps : List MP} : RCN (rList K) [PTu K ps] M (ML ps) M := fun E F H vs a h Q k => by
  obtain ⟨v, rfl, b, ws, rfl, s, p⟩ := ps1 h
  exact ⟨b, ws, rfl, .inr (Evl.ex_t a.ex s), fun l hl => k l F _ (a.fresh hl) (Evl.Ex.refl _) (a.new hl ⟨ws, rfl, p⟩)⟩
/-- tuple(x) -/
abbrev rTuple (K : PySem.W.Frag) : List V → Hp → VK → Prop := fun xs H Q => ∃ p ys, xs = [.ref p] ∧ ((SqL K H p ys ∧ ∀ l, H l = none → Q (.ref l) (upd H l (.tup ys))) ∨ (SqT K H p ys ∧ Q (.ref p) H))
theorem rc_tupleL {ps : List MP} : RC (rTuple K) [PLi K ps] M (PTu K ps) M := fun E F H vs a h Q k => by
  obtain ⟨v, rfl, b, ws, rfl, s, p⟩ := ps1 h
  refine ⟨b, ws, rfl, .inl ⟨Evl.ex_l a.ex s, fun l hl => ?_⟩⟩
  have ex : Ex F (upd F l (.tup ws)) := Evl.Ex.new (Evl.fresh_back a.ex hl)
  exact k _ _ _ ex (a.laid hl) ⟨l, ws, rfl, SqT.of upd_same, p.mono ex⟩
theorem rc_tupleT {ps : List MP} : RC (rTuple K) [PTu K ps] M (PTu K ps) M := fun E F H vs a h Q k => by
  obtain ⟨v, rfl, b, ws, rfl, s, p⟩ := ps1 h
  exact ⟨b, ws, rfl, .inr ⟨Evl.ex_t a.ex s, k _ F H (Evl.Ex.refl _) a ⟨b, ws, rfl, s, p⟩⟩⟩
abbrev rInt : List V → Hp → VK → Prop := fun xs H Q => (∃ i, xs = [.int i] ∧ Q (.int i) H) ∨ ∃ k, xs = [.bl k] ∧ Q (.int (if k then 1 else 0)) H
theorem rc_int {i : Int} : RC rInt [D K (.int i)] M (D K (.int i)) M := fun E F H vs a h Q k => by
  obtain ⟨v, rfl, hv⟩ := ps1 h
  cases dp_int hv
  exact .inl ⟨i, rfl, k _ F H (Evl.Ex.refl _) a (.int i)⟩
theorem RC.ex1 {α : Type} {rc : List V → Hp → VK → Prop} {R : α → MP} {ps : List MP} (h : ∀ x, RC rc (R x :: ps) M P M') : RC rc (PEx R :: ps) M P M' := fun E F H vs a p Q k => by
  cases p with
  | cons b t => obtain ⟨x, b⟩ := b; exact h x E F H _ a (.cons b t) Q k
theorem RC.an1 {φ : Prop} {rc : List V → Hp → VK → Prop} {R : MP} {ps : List MP} (h : φ → RC rc (R :: ps) M P M') : RC rc (PAn φ R :: ps) M P M' := fun E F H vs a p Q k => by
  cases p with
  | cons b t => exact h b.1 E F H _ a (.cons b.2 t) Q k
theorem RC.in1 {rc : List V → Hp → VK → Prop} {R R' : MP} {ps : List MP} (l : R.le R') (h : RC rc (R' :: ps) M P M') : RC rc (R :: ps) M P M' := fun E F H vs a p Q k => by
  cases p with
  | cons b t => exact h E F H _ a (.cons (l _ _ b) t) Q k
theorem RCN.in1 {rc : List V → Hp → VK → Prop} {R R' : MP} {ps : List MP} (l : R.le R') (h : RCN rc (R' :: ps) M O M') : RCN rc (R :: ps) M O M' := fun E F H vs a p Q k => by
  cases p with
  | cons b t => exact h E F H _ a (.cons (l _ _ b) t) Q k
theorem RCN.weak {rc : List V → Hp → VK → Prop} {ps : List MP} (h : RCN rc ps M O M') (l : ∀ F o, O.p F o → O'.p F o) : RCN rc ps M O' M' := fun E F H vs a p Q k => h E F H vs a p Q fun q F' H' f e g => k q F' H' f e (g.to (j := 0) (O' := O') l rfl)
theorem MX.in {α : Type} {R : α → MO} (x : α) : ∀ F o, (R x).p F o → (MX R).p F o := fun _ _ h => ⟨x, h⟩
/-! ### tests -/
theorem et_val {b : Bool} (h : Ev te Γ M (D K (.bool b)) M') : EvT (tB te) Γ M (· = b) M' := fun E F σ H a c Q k => h E F σ H a c _ fun v F' H' e g p => by
  cases dp_bl p; exact ⟨b, rfl, k b F' H' e g rfl⟩
theorem et_test {b : Bool} (h : Ev te Γ M (D K (.bool b)) M') : EvT (tTest te) Γ M (· = b) M' := fun E F σ H a c Q k => h E F σ H a c _ fun v F' H' e g p => by
  cases dp_bl p; exact ⟨b, rfl, k b F' H' e g rfl⟩
theorem et_testX {φ : Bool → Prop} (h : Ev te Γ M (PEx fun b => PAn (φ b) (D K (.bool b))) M') : EvT (tTest te) Γ M φ M' := fun E F σ H a c Q k => h E F σ H a c _ fun v F' H' e g ⟨b, hb, p⟩ => by
  cases dp_bl p; exact ⟨b, rfl, k b F' H' e g hb⟩
theorem et_and {a b : Bool} (h1 : EvT t Γ M (· = a) M1) (h2 : a = true → EvT u Γ M1 (· = b) M1) : EvT (tAnd t u) Γ M (· = (a && b)) M1 := fun E F σ H x c Q k => h1 E F σ H x c _ fun z F1 H1 e1 g1 hz => by
  subst hz
  cases z with
  | true => exact h2 rfl E F1 σ H1 g1 (c.mono e1) _ fun z F2 H2 e2 g2 hz => k z F2 H2 (e1.trans e2) g2 hz
  | false => exact k false F1 H1 e1 g1 rfl
theorem et_or {a b : Bool} (h1 : EvT t Γ M (· = a) M1) (h2 : a = false → EvT u Γ M1 (· = b) M1) : EvT (tOr t u) Γ M (· = (a || b)) M1 := fun E F σ H x c Q k => h1 E F σ H x c _ fun z F1 H1 e1 g1 hz => by
  subst hz
  cases z with
  | true => exact k true F1 H1 e1 g1 rfl
  | false => exact h2 rfl E F1 σ H1 g1 (c.mono e1) _ fun z F2 H2 e2 g2 hz => k z F2 H2 (e1.trans e2) g2 hz
theorem et_not {a : Bool} (h : EvT t Γ M (· = a) M') : EvT (tNot t) Γ M (· = !a) M' := fun E F σ H x c Q k => h E F σ H x c _ fun z F1 H1 e1 g1 hz => k _ F1 H1 e1 g1 (by rw [hz])
theorem ev_andV {a b : Bool} (h1 : Ev ta Γ M (D K (.bool a)) M1) (h2 : a = true → Ev tb Γ M1 (D K (.bool b)) M1) : Ev (tAndV ta tb) Γ M (D K (.bool (a && b))) M1 := fun E F σ H x c Q k => h1 E F σ H x c _ fun z F1 H1 e1 g1 hz => by
  cases dp_bl hz
  refine ⟨a, rfl, ?_⟩
  cases a with
  | true => exact h2 rfl E F1 σ H1 g1 (c.mono e1) _ fun z F2 H2 e2 g2 hz => k z F2 H2 (e1.trans e2) g2 hz
  | false => exact k _ F1 H1 e1 g1 (.bl false)
theorem ev_notV {a : Bool} (h1 : Ev ta Γ M (D K (.bool a)) M1) : Ev (tNotV ta) Γ M (D K (.bool !a)) M1 := fun E F σ H x c Q k => h1 E F σ H x c _ fun z F1 H1 e1 g1 hz => by
  cases dp_bl hz
  exact ⟨a, rfl, k _ F1 H1 e1 g1 (.bl _)⟩
theorem ev_chain {r' : R2} {a b : Bool} {P3 : MP} (ha : Ev ta Γ M P1 M) (hb : Ev tb Γ M P2 M) (hr : RV r P1 P2 M (D K (.bool a)) M) (hc : a = true → Ev tc Γ M P3 M) (hr' : RV r' P2 P3 M (D K (.bool b)) M) : Ev (tChain r r' ta tb tc) Γ M (D K (.bool (a && b))) M := fun E F σ H x c Q k =>
  ha E F σ H x c _ fun v F1 H1 e1 g1 p1 => hb E F1 σ H1 g1 (c.mono e1) _ fun w F2 H2 e2 g2 p2 => hr E F2 H2 v w g2 (P1.mono e2 p1) p2 _ fun z F3 H3 e3 g3 p3 => by
    cases dp_bl p3
    refine ⟨a, rfl, ?_⟩
    cases a with
    | true => exact hc rfl E F3 σ H3 g3 (c.mono ((e1.trans e2).trans e3)) _ fun y F4 H4 e4 g4 p4 => hr' E F4 H4 w y g4 (P2.mono (e3.trans e4) p2) p4 Q fun y F5 H5 e5 g5 p5 => k y F5 H5 ((((e1.trans e2).trans e3).trans e4).trans e5) g5 p5
    | false => exact k _ F3 H3 ((e1.trans e2).trans e3) g3 (.bl false)
theorem ev_if {b : Bool} (h : EvT t Γ M (· = b) M1) (h1 : b = true → Ev ta Γ M1 P M2) (h2 : b = false → Ev tb Γ M1 P M2) : Ev (tIf t ta tb) Γ M P M2 := fun E F σ H x c Q k => h E F σ H x c _ fun z F1 H1 e1 g1 hz => by
  subst hz
  cases z with
  | true => exact h1 rfl E F1 σ H1 g1 (c.mono e1) _ fun v F2 H2 e2 g2 p => k v F2 H2 (e1.trans e2) g2 p
  | false => exact h2 rfl E F1 σ H1 g1 (c.mono e1) _ fun v F2 H2 e2 g2 p => k v F2 H2 (e1.trans e2) g2 p
/-! ### statements -/
theorem go_asg {i : Nat} (h : Ev te Γ M P M1) (k : Nx E (Γ.set i (some P)) M1 D1.nx) : Nx E Γ M (tAsg te (gName i) D1) := fun σ H ⟨F, a, b⟩ =>
  h E F σ H a b _ fun v F' H' e g p => k _ _ ⟨F', g, (b.mono e).set i p⟩
theorem go_asgN {i : Nat} (h : EvN te Γ M O M1) (k : ∀ q, E.H q = none → Nx E (Γ.set i (some (Own q))) ((q, O) :: M1) D1.nx) : Nx E Γ M (tAsg te (gName i) D1) := fun σ H ⟨F, a, b⟩ =>
  h E F σ H a b _ fun q F' H' f e g => k q f _ _ ⟨F', g, (b.mono e).set i (P := Own q) rfl⟩
theorem go_drop (h : Ev te Γ M P M1) (k : Nx E Γ M1 D1.nx) : Nx E Γ M (tDrop te D1) := fun σ H ⟨F, a, b⟩ => h E F σ H a b _ fun v F' H' e g p => k _ _ ⟨F', g, b.mono e⟩
theorem go_if {B : Bool → Prop} (h : EvT t Γ M B M1) (h1 : B true → Nx E Γ M1 (tu D1)) (h2 : B false → Nx E Γ M1 (tw D1)) : Nx E Γ M (tIfS t tu tw D1) := fun σ H ⟨F, a, b⟩ => h E F σ H a b _ fun z F' H' e g hz => by
  cases z with
  | true => exact h1 hz σ H' ⟨F', g, b.mono e⟩
  | false => exact h2 hz σ H' ⟨F', g, b.mono e⟩
theorem go_ret {E0 : Ent} (l : Le E E0) (h : Ev te Γ M P M1) (k : Rt E0 M1 P D1.rt) : Nx E Γ M (tRet te D1) := fun σ H ⟨F, a, b⟩ => h E F σ H a b _ fun v F' H' e g p => k v F' H' (l.to _ _ _ g) p
theorem go_next (k : Nx E Γ M D1.nx) : Nx E Γ M (tNext D1) := k
theorem Rt.drop {f : VK} (s : List.Sublist M M') (h : Rt E M P f) : Rt E M' P f := fun v F H a p => h v F H (a.drop s) p
theorem Rt.weak {f : VK} (l : P.le P') (h : Rt E M P' f) : Rt E M P f := fun v F H a p => h v F H a (l _ _ p)
/-- xs.append(e) -/
theorem go_app {ps : List MP} (ho : Ev ta Γ M (Own q) M) (h : Ev te Γ M P M1) (e0 : M[j]? = some (q, ML ps)) (e : M1[j]? = some (q, ML ps)) (hz : ps.length < 100000) (k : Nx E Γ (M1.set j (q, ML (ps ++ [P]))) D1.nx) :
    Nx E Γ M (tDrop (tBM K "list" rAppend ta (tCons te tNil)) D1) := fun σ H ⟨F, a, b⟩ => ho E F σ H a b _ fun v F1 H1 e1 g1 p1 => by
  have p1 : v = .ref q := p1
  subst p1
  obtain ⟨_, o, ho1, ws0, rfl, _⟩ := g1.at e0
  refine ⟨.inl ⟨rfl, ws0, SqL.of ho1⟩, ?_⟩
  refine h E F1 σ H1 g1 (b.mono e1) _ fun w F2 H2 e2 g2 p2 => ?_
  obtain ⟨_, o, ho2, ws, rfl, s⟩ := g2.at e
  refine ⟨q, ws, w, rfl, rfl, ho2, sz_lt (by rw [paired_len s]; exact hz), ?_⟩
  exact k _ _ ⟨F2, g2.mut e ⟨_, rfl, paired_app s (.cons p2 .nil)⟩, b.mono (e1.trans e2)⟩
/-- xs[i] = e -/
theorem go_setL {ps : List MP} {i : Int} (h : Ev te Γ M P M1) (ho : Ev ta Γ M1 (Own q) M1) (hi : Ev tb Γ M1 (D K (.int i)) M2) (e : M2[j]? = some (q, ML ps)) (h0 : 0 ≤ i) (h1 : i.toNat < ps.length) (k : Nx E Γ (M2.set j (q, ML (ps.set i.toNat P))) D1.nx) :
    Nx E Γ M (tAsg te (gSub ta tb rSetL) D1) := fun σ H ⟨F, a, b⟩ => h E F σ H a b _ fun w F0 H0 e0 g0 p0 => ho E F0 σ H0 g0 (b.mono e0) _ fun v F1 H1 e1 g1 p1 => by
  have p1 : v = .ref q := p1
  subst p1
  refine hi E F1 σ H1 g1 (b.mono (e0.trans e1)) _ fun x F2 H2 e2 g2 p2 => ?_
  cases dp_int p2
  obtain ⟨_, o, ho2, ws, rfl, s⟩ := g2.at e
  obtain ⟨n, rfl⟩ := Int.eq_ofNat_of_zero_le h0
  have hn : n < ws.length := by rw [paired_len s]; exact h1
  refine ⟨q, ws, n, n, rfl, rfl, ho2, Evl.ixN_nat hn, ?_⟩
  exact k _ _ ⟨F2, g2.mut e ⟨_, rfl, paired_set (R := fun (v : V) (P : MP) => P.p F2 v) (P.mono (e1.trans e2) p0) n s⟩, b.mono ((e0.trans e1).trans e2)⟩
/-- xs.reverse() -/
theorem go_rev {ps : List MP} (ho : Ev ta Γ M (Own q) M) (e : M[j]? = some (q, ML ps)) (k : Nx E Γ (M.set j (q, ML ps.reverse)) D1.nx) : Nx E Γ M (tDrop (tBM0 K "list" rReverse ta) D1) := fun σ H ⟨F, a, b⟩ => ho E F σ H a b _ fun v F1 H1 e1 g1 p1 => by
  have p1 : v = .ref q := p1
  subst p1
  obtain ⟨_, o, ho1, ws, rfl, s⟩ := g1.at e
  refine ⟨.inl ⟨rfl, ws, SqL.of ho1⟩, q, ws, rfl, rfl, ho1, ?_⟩
  have srev : ∀ {ws : List V} {ps : List MP}, Ps F1 ws ps → Ps F1 ws.reverse ps.reverse := by
    intro ws ps s
    induction s with
    | nil => exact .nil
    | cons a t ih => rw [List.reverse_cons, List.reverse_cons]; exact paired_app ih (.cons a .nil)
  exact k _ _ ⟨F1, g1.mut e ⟨_, rfl, srev s⟩, b.mono e1⟩
/-- name += e -/
theorem go_aug {i : Nat} {f : Int → Int → Int} {x y : Int} (hx : Γ[i]? = some (some (D K (.int x)))) (h : Ev te Γ M (D K (.int y)) M1) (k : Nx E (Γ.set i (some (D K (.int (f x y))))) M1 D1.nx) : Nx E Γ M (tAug i te (ipI f) D1) := fun σ H ⟨F, a, b⟩ => by
  obtain ⟨v, hv, p⟩ := b.get hx
  cases dp_int p
  refine ⟨_, hv, h E F σ H a b _ fun w F1 H1 e1 g1 p1 => ?_⟩
  cases dp_int p1
  exact ⟨x, y, rfl, rfl, k _ _ ⟨F1, g1, (b.mono e1).set i (P := D K (.int (f x y))) (.int _)⟩⟩
/-! ### loops -/
def JA (E : Ent) (J : Gm → Ms → Prop) (σ : St) (H : Hp) : Prop := ∃ Γ M, J Γ M ∧ At E Γ M σ H
theorem JA.of {J : Gm → Ms → Prop} (h : J Γ M) : Nx E Γ M (JA E J) := fun σ H a => ⟨Γ, M, h, a⟩
theorem go_forL {ps : List MP} {i : Nat} (h : Ev tl Γ M (PLi K ps) M1) (J : Nat → Gm → Ms → Prop) (h0 : J 0 Γ M1)
    (hs : ∀ E', Le E' E → ∀ n P, ps[n]? = some P → ∀ Γ' M', J n Γ' M' → Nx E' (Γ'.set i (some P)) M' (tu { D1 with nx := JA E' (J (n + 1)), ct := JA E' (J (n + 1)), bk := D1.nx }))
    (hd : ∀ Γ' M', J ps.length Γ' M' → Nx E Γ' M' D1.nx) : Nx E Γ M (tFor (iList K tl) (gName i) tu D1) := fun σ H ⟨F, a, b⟩ => h E F σ H a b _ fun v F1 H1 e1 g1 ⟨p, vs, hp, s, q⟩ => by
  refine ⟨p, hp, ⟨vs, Evl.ex_l g1.ex s⟩, for_list (xs := vs) (fun n σ H => JA ⟨F1, H1, keys M1⟩ (J n) σ H) ⟨Γ, M1, h0, F1, g1.enter, b.mono e1⟩ (fun n σ2 H2 _ ⟨Γ', M', _, F2, g2, _⟩ => Evl.ex_l (g2.gr.ex.trans g2.ex) s)
    (fun n x σ2 H2 hx ⟨Γ', M', hJ, F2, g2, b2⟩ => ?_) (fun σ2 H2 hJ => ?_)⟩
  · obtain ⟨P, hP, hx2⟩ := paired_get' q hx
    exact hs ⟨F1, H1, keys M1⟩ g1.le n P hP Γ' M' hJ _ _ ⟨F2, g2, b2.set i (P.mono g2.gr.ex hx2)⟩
  · rw [paired_len q] at hJ
    obtain ⟨Γ', M', hJ, at2⟩ := hJ
    exact hd Γ' M' hJ _ _ (at2.le g1.le)
theorem go_forT {ps : List MP} {i : Nat} (h : Ev tl Γ M (PTu K ps) M1) (J : Nat → Gm → Ms → Prop) (h0 : J 0 Γ M1)
    (hs : ∀ E', Le E' E → ∀ n P, ps[n]? = some P → ∀ Γ' M', J n Γ' M' → Nx E' (Γ'.set i (some P)) M' (tu { D1 with nx := JA E' (J (n + 1)), ct := JA E' (J (n + 1)), bk := D1.nx }))
    (hd : ∀ Γ' M', J ps.length Γ' M' → Nx E Γ' M' D1.nx) : Nx E Γ M (tFor (iTup K tl) (gName i) tu D1) := fun σ H ⟨F, a, b⟩ => h E F σ H a b _ fun v F1 H1 e1 g1 ⟨p, vs, hp, s, q⟩ => by
  refine ⟨p, hp, ⟨vs, Evl.ex_t g1.ex s⟩, for_tup (xs := vs) (fun n σ H => JA ⟨F1, H1, keys M1⟩ (J n) σ H) ⟨Γ, M1, h0, F1, g1.enter, b.mono e1⟩ (fun n σ2 H2 _ ⟨Γ', M', _, F2, g2, _⟩ => Evl.ex_t (g2.gr.ex.trans g2.ex) s)
    (fun n x σ2 H2 hx ⟨Γ', M', hJ, F2, g2, b2⟩ => ?_) (fun σ2 H2 hJ => ?_)⟩
  · obtain ⟨P, hP, hx2⟩ := paired_get' q hx
    exact hs ⟨F1, H1, keys M1⟩ g1.le n P hP Γ' M' hJ _ _ ⟨F2, g2, b2.set i (P.mono g2.gr.ex hx2)⟩
  · rw [paired_len q] at hJ
    obtain ⟨Γ', M', hJ, at2⟩ := hJ
    exact hd Γ' M' hJ _ _ (at2.le g1.le)
theorem go_forR {tr : TA} {z : Int} {i : Nat} (h : EvA tr Γ M [D K (.int z)] M1) (hz : z ≤ 1000000) (hz2 : -1000000 ≤ z) (J : Nat → Gm → Ms → Prop) (h0 : J 0 Γ M1)
    (hs : ∀ n : Nat, (n : Int) < z → ∀ Γ' M', J n Γ' M' → Nx E (Γ'.set i (some (D K (.int n)))) M' (tu { D1 with nx := JA E (J (n + 1)), ct := JA E (J (n + 1)), bk := D1.nx }))
    (hd : ∀ Γ' M', J z.toNat Γ' M' → Nx E Γ' M' D1.nx) : Nx E Γ M (tFor (iRng1 tr) (gName i) tu D1) := fun σ H ⟨F, a, b⟩ => h E F σ H a b _ fun vs F1 H1 e1 g1 p => by
  obtain ⟨v, rfl, hv⟩ := ps1 p
  cases dp_int hv
  refine ⟨z, rfl, by omega, by omega, for_range (lo := 0) (n := z.toNat) (fun n σ H => JA E (J n) σ H) ⟨Γ, M1, h0, F1, g1, b.mono e1⟩ (fun n σ2 H2 hn ⟨Γ', M', hJ, F2, g2, b2⟩ => ?_) (fun σ2 H2 ⟨Γ', M', hJ, at2⟩ => hd Γ' M' hJ _ _ at2)⟩
  refine hs n (by omega) Γ' M' hJ _ _ ⟨F2, g2, b2.set i ?_⟩
  have e0 : (0 : Int) + (n : Int) = (n : Int) := Int.zero_add _
  rw [e0]
  exact .int _
theorem go_forR2 {tr : TA} {lo z : Int} {i : Nat} (h : EvA tr Γ M [D K (.int lo), D K (.int z)] M1) (hz : z ≤ 1000000 ∧ -1000000 ≤ z ∧ lo ≤ 1000000 ∧ -1000000 ≤ lo) (J : Nat → Gm → Ms → Prop) (h0 : J 0 Γ M1)
    (hs : ∀ n : Nat, lo + (n : Int) < z → ∀ Γ' M', J n Γ' M' → Nx E (Γ'.set i (some (D K (.int (lo + n))))) M' (tu { D1 with nx := JA E (J (n + 1)), ct := JA E (J (n + 1)), bk := D1.nx }))
    (hd : ∀ Γ' M', J (z - lo).toNat Γ' M' → Nx E Γ' M' D1.nx) : Nx E Γ M (tFor (iRng2 tr) (gName i) tu D1) := fun σ H ⟨F, a, b⟩ => h E F σ H a b _ fun vs F1 H1 e1 g1 p => by
  obtain ⟨v, w, rfl, hv, hw⟩ := ps2 p
  cases dp_int hv; cases dp_int hw
  refine ⟨lo, z, rfl, ⟨by omega, by omega, by omega, by omega⟩, for_range (lo := lo) (n := (z - lo).toNat) (fun n σ H => JA E (J n) σ H) ⟨Γ, M1, h0, F1, g1, b.mono e1⟩ (fun n σ2 H2 hn ⟨Γ', M', hJ, F2, g2, b2⟩ => ?_) (fun σ2 H2 ⟨Γ', M', hJ, at2⟩ => hd Γ' M' hJ _ _ at2)⟩
  exact hs n (by omega) Γ' M' hJ _ _ ⟨F2, g2, b2.set i (P := D K (.int (lo + n))) (.int _)⟩
theorem go_while (J : Nat → Gm → Ms → Prop) (m0 : Nat) (h0 : J m0 Γ M)
    (hs : ∀ m Γ' M', J m Γ' M' → ∃ B M1, EvT t Γ' M' B M1 ∧ (B true → Nx E Γ' M1 (tu { D1 with nx := JA E (fun Γ M => ∃ m', m' < m ∧ J m' Γ M), ct := JA E (fun Γ M => ∃ m', m' < m ∧ J m' Γ M), bk := D1.nx })) ∧ (B false → Nx E Γ' M1 D1.nx)) : Nx E Γ M (tWhile t tu D1) := fun σ H a =>
  ⟨fun m σ H => JA E (J m) σ H, ⟨m0, Γ, M, h0, a⟩, fun m σ2 H2 ⟨Γ', M', hJ, F2, g2, b2⟩ => by
    obtain ⟨B, M1, hb, h1, h2⟩ := hs m Γ' M' hJ
    refine hb E F2 σ2 H2 g2 b2 _ fun z F3 H3 e3 g3 hz => ?_
    cases z with
    | true => exact ⟨JA E (fun Γ M => ∃ m', m' < m ∧ J m' Γ M), fun σ4 H4 ⟨Γ4, M4, ⟨m', hm, hJ4⟩, a4⟩ => ⟨m', hm, Γ4, M4, hJ4, a4⟩, h1 hz σ2 H3 ⟨F3, g3, b2.mono e3⟩⟩
    | false => exact h2 hz σ2 H3 ⟨F3, g3, b2.mono e3⟩⟩
/-! ### comprehensions -/
theorem wipe_one {σ : St} {i : Nat} {x : V} : wipe ((wipe σ [i]).set i (some x)) [i] = wipe σ [i] := by
  show ((σ.set i none).set i (some x)).set i none = σ.set i none
  rw [List.set_set, List.set_set]
theorem env_wipe {i : Nat} (h : EnvOk F σ Γ) : EnvOk F (wipe σ [i]) (Γ.set i none) := h.forget i
/-- one turn of a comprehension -/
theorem lc_turn {Γ2 : Gm} {σ2 : St} {D2 : Addr} {ps : List MP} {b : Bool} {F1 H1 : Hp} (g1 : Pt E F1 ((D2, ML ps) :: M) H1) (bo : EnvOk F1 σ2 Γ2) (ht : EvT t Γ2 M (· = b) M) (he : b = true → Ev te Γ2 M P M) (hz : ps.length < 100000) (Nxt : Hp → Prop)
    (hN : ∀ F2 H2, Ex F1 F2 → Pt E F2 ((D2, ML (if b = true then ps ++ [P] else ps)) :: M) H2 → Nxt H2) : t σ2 H1 fun c H3 => if c = true then te σ2 H3 fun y H4 => ∃ acc, H4 D2 = some (.lst acc) ∧ acc.length < sizeLine ∧ Nxt (upd H4 D2 (.lst (acc ++ [y]))) else Nxt H3 := by
  have gM : Pt ⟨F1, H1, keys M⟩ F1 M H1 := Pt.start (g1.drop (List.sublist_cons_self _ _)).wd
  have nk : D2 ∉ keys M := (List.nodup_cons.mp (show (D2 :: keys M).Nodup from g1.wd.nd)).1
  obtain ⟨fD, o, hD, ws, rfl, s⟩ := g1.at (j := 0) rfl
  -- a point of M alone, the list beside it
  have up : ∀ {F' H'}, Pt ⟨F1, H1, keys M⟩ F' M H' → Pt E F' ((D2, ML ps) :: M) H' := fun {F' H'} g => by
    have hh : F' D2 = none := g.gr.off D2 fD (show H1 D2 ≠ none by rw [hD]; exact fun z => by cases z) (fun xs z => by have z : H1 D2 = some (HO.tup xs) := z; rw [hD] at z; cases z)
    have hd : H' D2 = some (.lst ws) := g.gr.keep D2 _ nk hD
    have big : Pt ⟨F1, H1, keys ((D2, ML ps) :: M)⟩ F' ((D2, ML ps) :: M) H' := by
      refine ⟨⟨g.gr.ex, fun a u h1 h2 => g.gr.keep a u (fun z => h1 (List.mem_cons_of_mem _ z)) h2, g.gr.off, g.gr.stay, g.gr.nott⟩, ⟨g.wd.ex, List.nodup_cons.mpr ⟨nk, g.wd.nd⟩, fun r hr => ?_⟩, fun r hr => ?_⟩
      · rcases List.mem_cons.mp hr with e | hm
        · subst e; exact ⟨hh, _, hd, ws, rfl, s.mono g.gr.ex⟩
        · exact g.wd.own r hm
      · rcases List.mem_cons.mp hr with e | hm
        · subst e; exact .inl List.mem_cons_self
        · rcases g.fr r hm with z | z
          · exact .inl (List.mem_cons_of_mem _ z)
          · exact .inr z
    exact g1.back big
  refine ht _ F1 σ2 H1 gM bo _ fun c F3 H3 e3 g3 hc => ?_
  subst hc
  cases c with
  | true =>
    refine he rfl _ F3 σ2 H3 g3 (bo.mono e3) _ fun y F4 H4 e4 g4 p4 => ?_
    have g5 := up g4
    obtain ⟨_, o5, h5, ws5, rfl, s5⟩ := g5.at (j := 0) rfl
    refine ⟨ws5, h5, sz_lt (by rw [paired_len s5]; exact hz), ?_⟩
    exact hN F4 _ (e3.trans e4) (g5.mut (j := 0) (O' := ML (ps ++ [P])) rfl ⟨_, rfl, paired_app s5 (.cons p4 .nil)⟩)
  | false => exact hN F3 _ e3 (up g3)
theorem take_filter {α : Type} (xs : List α) (f : α → Bool) (n : Nat) (x : α) (h : xs[n]? = some x) : (xs.take (n + 1)).filter f = (xs.take n).filter f ++ (if f x = true then [x] else []) := by
  rw [List.take_add_one, h, List.filter_append]
  congr 1
  cases hf : f x <;> simp [hf]
theorem evn_lcL {α : Type} {xs : List α} {R G : α → MP} {i : Nat} (f : α → Bool) (h : Ev tl Γ M (PLi K (xs.map R)) M1) (hz : xs.length ≤ 50000)
    (ht : ∀ x ∈ xs, EvT t ((Γ.set i none).set i (some (R x))) M1 (· = f x) M1) (he : ∀ x ∈ xs, f x = true → Ev te ((Γ.set i none).set i (some (R x))) M1 (G x) M1) :
    EvN (tLc (iList K tl) (gName i) t te [i]) Γ M (ML ((xs.filter f).map G)) M1 := fun E F σ H a b Q k => h E F σ H a b _ fun v F1 H1 e1 g1 ⟨p, vs, hp, s, q⟩ => by
  refine ⟨p, hp, ⟨vs, Evl.ex_l g1.ex s⟩, fun D2 hD => ?_⟩
  have gn : Pt ⟨F1, H1, keys M1⟩ F1 ((D2, ML []) :: M1) (upd H1 D2 (.lst [])) := g1.enter.new hD ⟨[], rfl, .nil⟩
  refine lc_list (xs := vs) (fun n H' => ∃ F', Pt ⟨F1, H1, keys M1⟩ F' ((D2, ML (((xs.take n).filter f).map G)) :: M1) H') ⟨F1, gn⟩ (fun n H2 _ ⟨F2, g2⟩ => Evl.ex_l (g2.gr.ex.trans g2.ex) s) (fun n x H2 hx ⟨F2, g2⟩ => ⟨wipe_one, ?_⟩) (fun H2 ⟨F2, g2⟩ => ?_)
  · obtain ⟨P, hP, hx2⟩ := paired_get' q hx
    rw [List.getElem?_map] at hP
    cases hy : xs[n]? with
    | none => rw [hy] at hP; cases hP
    | some y =>
      rw [hy] at hP
      have hP : R y = P := Option.some.inj hP
      subst hP
      have hm := List.mem_of_getElem? hy
      refine lc_turn g2 ((env_wipe (b.mono (e1.trans g2.gr.ex))).set i ((R y).mono g2.gr.ex hx2)) (ht y hm) (he y hm) ?_ _ fun F3 H3 e3 g3 => ⟨F3, ?_⟩
      · rw [List.length_map]
        exact Nat.lt_of_le_of_lt (Nat.le_trans (List.length_filter_le _ _) (by rw [List.length_take]; omega)) (by omega : xs.length < 100000)
      · rw [take_filter xs f n y hy, List.map_append]
        cases hf : f y
        · rw [hf] at g3; simpa using g3
        · rw [hf] at g3; simpa using g3
  · rw [paired_len q, List.length_map, List.take_length] at g2
    exact k D2 F2 H2 (g1.fresh hD) (e1.trans g2.gr.ex) (g1.back g2)
theorem evn_lcT {α : Type} {xs : List α} {R G : α → MP} {i : Nat} (f : α → Bool) (h : Ev tl Γ M (PTu K (xs.map R)) M1) (hz : xs.length ≤ 50000)
    (ht : ∀ x ∈ xs, EvT t ((Γ.set i none).set i (some (R x))) M1 (· = f x) M1) (he : ∀ x ∈ xs, f x = true → Ev te ((Γ.set i none).set i (some (R x))) M1 (G x) M1) :
    EvN (tLc (iTup K tl) (gName i) t te [i]) Γ M (ML ((xs.filter f).map G)) M1 := fun E F σ H a b Q k => h E F σ H a b _ fun v F1 H1 e1 g1 ⟨p, vs, hp, s, q⟩ => by
  refine ⟨p, hp, ⟨vs, Evl.ex_t g1.ex s⟩, fun D2 hD => ?_⟩
  have gn : Pt ⟨F1, H1, keys M1⟩ F1 ((D2, ML []) :: M1) (upd H1 D2 (.lst [])) := g1.enter.new hD ⟨[], rfl, .nil⟩
  refine lc_tup (xs := vs) (fun n H' => ∃ F', Pt ⟨F1, H1, keys M1⟩ F' ((D2, ML (((xs.take n).filter f).map G)) :: M1) H') ⟨F1, gn⟩ (fun n H2 _ ⟨F2, g2⟩ => Evl.ex_t (g2.gr.ex.trans g2.ex) s) (fun n x H2 hx ⟨F2, g2⟩ => ⟨wipe_one, ?_⟩) (fun H2 ⟨F2, g2⟩ => ?_)
  · obtain ⟨P, hP, hx2⟩ := paired_get' q hx
    rw [List.getElem?_map] at hP
    cases hy : xs[n]? with
    | none => rw [hy] at hP; cases hP
    | some y =>
      rw [hy] at hP
      have hP : R y = P := Option.some.inj hP
      subst hP
      have hm := List.mem_of_getElem? hy
      refine lc_turn g2 ((env_wipe (b.mono (e1.trans g2.gr.ex))).set i ((R y).mono g2.gr.ex hx2)) (ht y hm) (he y hm) ?_ _ fun F3 H3 e3 g3 => ⟨F3, ?_⟩
      · rw [List.length_map]
        exact Nat.lt_of_le_of_lt (Nat.le_trans (List.length_filter_le _ _) (by rw [List.length_take]; omega)) (by omega : xs.length < 100000)
      · rw [take_filter xs f n y hy, List.map_append]
        cases hf : f y
        · rw [hf] at g3; simpa using g3
        · rw [hf] at g3; simpa using g3
  · rw [paired_len q, List.length_map, List.take_length] at g2
    exact k D2 F2 H2 (g1.fresh hD) (e1.trans g2.gr.ex) (g1.back g2)
theorem evn_lcR {tr : TA} {z : Int} {i : Nat} {G : Nat → MP} (f : Nat → Bool) (h : EvA tr Γ M [D K (.int z)] M1) (hz : z ≤ 50000 ∧ -50000 ≤ z)
    (ht : ∀ x : Nat, (x : Int) < z → EvT t ((Γ.set i none).set i (some (D K (.int x)))) M1 (· = f x) M1) (he : ∀ x : Nat, (x : Int) < z → f x = true → Ev te ((Γ.set i none).set i (some (D K (.int x)))) M1 (G x) M1) :
    EvN (tLc (iRng1 tr) (gName i) t te [i]) Γ M (ML (((List.range z.toNat).filter f).map G)) M1 := fun E F σ H a b Q k => h E F σ H a b _ fun vs F1 H1 e1 g1 p => by
  obtain ⟨v, rfl, hv⟩ := ps1 p
  cases dp_int hv
  refine ⟨z, rfl, by omega, by omega, fun D2 hD => ?_⟩
  have gn : Pt ⟨F1, H1, keys M1⟩ F1 ((D2, ML []) :: M1) (upd H1 D2 (.lst [])) := g1.enter.new hD ⟨[], rfl, .nil⟩
  refine lc_range (lo := 0) (n := z.toNat) (fun n H' => ∃ F', Pt ⟨F1, H1, keys M1⟩ F' ((D2, ML (((List.range n).filter f).map G)) :: M1) H') ⟨F1, gn⟩ (fun n H2 hn ⟨F2, g2⟩ => ⟨wipe_one, ?_⟩) (fun H2 ⟨F2, g2⟩ => ?_)
  · have e0 : (0 : Int) + (n : Int) = (n : Int) := Int.zero_add _
    rw [e0]
    have hn2 : (n : Int) < z := by omega
    refine lc_turn g2 ((env_wipe (b.mono (e1.trans g2.gr.ex))).set i (P := D K (.int n)) (.int _)) (ht n hn2) (he n hn2) ?_ _ fun F3 H3 e3 g3 => ⟨F3, ?_⟩
    · rw [List.length_map]
      exact Nat.lt_of_le_of_lt (List.length_filter_le _ _) (by rw [List.length_range]; omega)
    · rw [List.range_succ, List.filter_append, List.map_append]
      cases hf : f n
      · rw [hf] at g3; simpa [hf] using g3
      · rw [hf] at g3; simpa [hf] using g3
  · exact k D2 F2 H2 (g1.fresh hD) (e1.trans g2.gr.ex) (g1.back g2)
theorem et_yes : EvT tYes Γ M (· = true) M := fun E F σ H a b Q k => k true F H (Evl.Ex.refl _) a rfl
end
end Hq
/-! set(x) of a list of ints, told with the order of its table -/
namespace Hq
open PySem PySem.Spec PyProof.Rows L2
/-- the set as it is made -/
abbrev bareSet (w : World) : Obj := { cls := .type "set", dict := none, data := .set #[] 0 (.fresh 0 0 (!w.params.followText "set-order")) }
section
variable {P : Program} {w : World} {A : Around} {E : Value → Shared → Prop} {s : Shared}
set_option maxHeartbeats 3200000 in
theorem setL_call {l : Addr} {its : Array Value} (ns : List Int) {Q : Value → Shared → Prop} (calm : A.handled = none) (hl : s.heap.IsList l its) (hn : IntsAre its.toList ns) (few : ns.length + 1 < scanBound)
    (fin : ∀ (g : Heap) (tk c : Nat), SetR w g s.heap.objs.size (fun j => decide (j ∈ ns)) c → c ≤ ns.length → (∀ b o, s.heap.get? b = some o → g.get? b = some o) → Q (.ref s.heap.objs.size) { s with heap := g, toks := tk }) :
    wpAny (model P w) A (call (.type "set") [.ref l]) Q E s := by
  have same : its.size = ns.length := by simpa using IntsAre.length hn
  obtain ⟨c0, r0, walk0⟩ := F.called_set.mro
  have fact1 := F.called_set.made; have fact2 := F.called_set.sub
  apply wpAny_call; apply codeAny_of_tree
  show wpAny _ _ (callAny (.type "set") ⟨_, _⟩) _ _ _
  apply wpAny_pure; refine ⟨Code.quiet_builtin _ (by decide +kernel), ?_⟩; apply codeAny_builtin F.entry_type_call
  rw [show _ = _ from Around.under_plain (weight_type_call_type "set" [Value.ref l] []) rfl]
  have fact3 := F.called_set.notType; have fact4 := F.called_set.canCreate
  have fact5 := F.typeCall_set_1 (Value.ref l)
  repeat any_goals (first | assumption | wp_step)
  apply codeAny_mono (code_set_led1 (P := P) (w := w) (s := s) (.ref l) (E := E) (Q₁ := fun v z => v = .ref s.heap.objs.size ∧ z = { s with heap := s.heap.push (bareSet w) }) ⟨rfl, rfl⟩)
  intro res z hz
  match res, hz with
  | .error _, hz => exact hz
  | .ok fl, hz => ?_
  cases fl with
  | ret v =>
    obtain ⟨rfl, rfl⟩ := hz
    have at0 : (s.heap.push (bareSet w)).get? s.heap.objs.size = some (bareSet w) := Heap.get?_push_size _ rfl
    have ty0 : Shared.TypeIs { s with heap := s.heap.push (bareSet w) } (.ref s.heap.objs.size) "set" := ⟨bareSet w, at0, rfl⟩
    have fact6 := F.called_set.init.lookup
    have fact7 := F.called_set.init.bind (Value.ref s.heap.objs.size)
    repeat any_goals (first | assumption | wp_step)
    apply codeAny_mono (codeAny_call_builtin (R := wants (fun v z => v = Value.none ∧ ∃ g tk c, z = { s with heap := g, toks := tk } ∧ SetR w g s.heap.objs.size (fun j => decide (j ∈ ns)) c ∧ c ≤ ns.length ∧
      ∀ b o, s.heap.get? b = some o → g.get? b = some o) E) F.called_set.init.plain F.entry_set_init (check_set_init_1 ty0 ?first))
    case first =>
      obtain ⟨ob, hob, hcls, cnt, hdat⟩ := hl
      obtain ⟨k1, k2, k3, k4⟩ := ob
      dsimp only at hcls hdat; subst hcls hdat
      have at1 : (s.heap.push (bareSet w)).get? l = some ⟨.type "list", k2, .seq its cnt, k4⟩ := Heap.get?_push_of_some _ hob
      have n1 := F.sub_list_set; have n2 := F.sub_list_frozenset
      have n3 : (Value.type "list" == Value.type "dict") = false := by decide
      have l1 : (s.heap.push (bareSet w)).IsList l its := ⟨_, at1, rfl, cnt, rfl⟩
      unfold Builtin.«set.__init__» Builtin.Frozenset.updateFrom noKeywords
      generalize iter_is : pyIter = walkers
      wp_walk
      subst iter_is
      apply wpAny_pyIter_list l1
      apply wpAny_bind; apply wpAny_runValue
      have lt0 : l < s.heap.objs.size := Heap.lt_size hob
      have sz1 : (s.heap.push (bareSet w)).objs.size = s.heap.objs.size + 1 := Heap.size_push ..
      have off1 : l ≠ (s.heap.push (bareSet w)).objs.size := by rw [sz1]; exact Nat.ne_of_lt (Nat.lt_succ_of_lt lt0)
      have off2 : s.heap.objs.size ∉ [(s.heap.push (bareSet w)).objs.size, l] := by
        rw [sz1]; intro m
        rcases List.mem_cons.mp m with e | m
        · exact Nat.ne_of_lt (Nat.lt_succ_self _) e
        · exact Nat.ne_of_gt lt0 (List.mem_singleton.mp m)
      have vals : ∀ (i : Nat) (v : Value), its[i]? = some v → ∃ k t, ns[i]? = some k ∧ v = .int k t := by
        intro i v hv
        obtain ⟨h1, h2⟩ := Array.getElem?_eq_some_iff.mp hv
        have h3 : i < ns.length := same ▸ h1
        obtain ⟨t, e⟩ := IntsAre.int_at hn i v (by simpa using hv)
        refine ⟨ns[i], t, List.getElem?_eq_getElem h3, e.trans ?_⟩
        rw [List.getD_eq_getElem?_getD, List.getElem?_eq_getElem h3]; rfl
      apply set_update_ints ((Walks.list (show A.in1.in1.in1.handled = none by simp [calm]) _ l off1 its).toS) s.heap.objs.size off2 ns same few vals (its.size - 0) 0 _ (by omega) (Nat.zero_le _)
        ⟨⟨_, Heap.get?_push_size _ rfl, rfl, rfl⟩, l1.push _⟩
      · exact ⟨0, Nat.le_refl 0, setR_new_at (Heap.get?_push_of_some _ at0)⟩
      · rintro ⟨g, g2, g3, g4, g5⟩ c moved hc hS
        obtain rfl : g2 = s.gens := moved.gens
        obtain rfl : g3 = s.drawn := moved.drawn
        obtain rfl : g5 = s.os := moved.os
        show wpAny _ _ (pure _) _ _ _
        apply wpAny_pure
        show wpAny _ _ (ret Value.none) _ _ _
        refine wpAny_pure ⟨rfl, g, g4, c, rfl, hS, same ▸ hc, fun b o e => ?_⟩
        have lt1 : b < s.heap.objs.size := Heap.lt_size e
        refine moved.heap b o (fun m => ?_) (Heap.get?_push_of_some _ (Heap.get?_push_of_some _ e))
        rcases List.mem_cons.mp m with e | m
        · exact Nat.ne_of_lt lt1 e
        · rw [sz1] at m; exact Nat.ne_of_lt (Nat.lt_succ_of_lt lt1) (List.mem_singleton.mp m)
    · intro res z hz
      match res, hz with
      | .error _, hz => exact hz
      | .ok fl, hz => ?_
      cases fl with
      | ret v =>
        obtain ⟨rfl, g, tk, c, rfl, hS, hc, stood⟩ := hz
        repeat any_goals (first | assumption | wp_step)
        exact fin g tk c hS hc stood
      | _ => exact hz.elim
  | _ => exact hz.elim
end
end Hq
namespace Hq
open PySem L2
/-! ### promises -/
def Prom (ps : List MP) (M : Ms) (P : MP) (M' : Ms) (vs : List V) (H : Hp) (Q : VK) : Prop := ∃ F, Wd F M H ∧ Ps F vs ps ∧ Rt ⟨F, H, keys M⟩ M' P Q
section
variable {K : PySem.W.Frag} {E E' : Ent} {F F' H H' : Hp} {M M' Mc Mc' M1 M2 M3 : Ms} {Γ Γ' : Gm} {P P' P1 P2 : MP} {O O' : MO} {q : Addr} {σ : St} {o o' : HO} {j : Nat}
variable {te ta tb tc tl : TE} {t u : TT} {r : R2} {D1 : Ends} {tu tw : TS} {ps : List MP} {sp : Sp} {X : XK} {tr : TA} {C : Addr} {fps : List (Str × MP)}
theorem Pt.frame {ks : List Addr} (h : Pt E F M H) (g : Pt ⟨F, H, ks⟩ F' Mc H') (hk : ∀ a ∈ ks, a ∈ keys M) (hM : keys M' = keys M) (hr : ∀ r ∈ M', (r.1 ∉ ks ∧ r ∈ M) ∨ r ∈ Mc) : Pt E F' M' H' := by
  refine h.back ⟨⟨g.gr.ex, fun a u h1 h2 => g.gr.keep a u (fun z => h1 (hk a z)) h2, g.gr.off, g.gr.stay, g.gr.nott⟩, ⟨g.wd.ex, by rw [hM]; exact h.wd.nd, fun r hm => ?_⟩, fun r hm => .inl ?_⟩
  · rcases hr r hm with ⟨n, hm2⟩ | hm2
    · obtain ⟨a, u, hu, b⟩ := h.wd.own r hm2
      exact ⟨g.gr.off _ a (show H r.1 ≠ none by rw [hu]; exact fun z => by cases z) (fun xs z => r.2.nt b xs (by have z : H r.1 = some (HO.tup xs) := z; rw [hu] at z; exact Option.some.inj z)), u, g.gr.keep _ _ n hu, r.2.mono g.gr.ex b⟩
    · exact g.wd.own r hm2
  · show r.1 ∈ keys M
    rw [← hM]
    exact List.mem_map_of_mem (f := (·.1)) hm
theorem set_same {α : Type} {l : List α} {j : Nat} {x : α} (e : l[j]? = some x) : l.set j x = l := by
  obtain ⟨h, e⟩ := List.getElem?_eq_some_iff.mp e
  rw [← e, List.set_getElem_self]
theorem rc_prom0 {dvs : List V} (hs : ∀ vs H Q, Prom ps [] P [] vs H Q → sp (vs ++ dvs) H Q X) : RC (fun vs H Q => sp (vs ++ dvs) H Q X) ps M P M := fun E F H vs a p Q k =>
  hs vs H Q ⟨F, ⟨a.ex, List.nodup_nil, fun r hr => by cases hr⟩, p, fun v F' H' g hp => k v F' H' g.gr.ex (a.frame g (fun _ z => by cases z) rfl fun r hr => .inl ⟨by simp [keys], hr⟩) hp⟩
theorem rc_prom1 {dvs : List V} (e : M[j]? = some (q, O)) (hs : ∀ vs H Q, Prom ps [(q, O)] P [(q, O')] vs H Q → sp (vs ++ dvs) H Q X) : RC (fun vs H Q => sp (vs ++ dvs) H Q X) ps M P (M.set j (q, O')) := fun E F H vs a p Q k => by
  have hm := List.mem_of_getElem? e
  refine hs vs H Q ⟨F, ⟨a.ex, by simp [keys], fun r hr => ?_⟩, p, fun v F' H' g hp => k v F' H' g.gr.ex (a.frame g (fun z hz => ?_) (keys_set e) fun r hr => ?_) hp⟩
  · rw [List.mem_singleton.mp hr]; exact a.wd.own _ hm
  · rw [List.mem_singleton.mp hz]; exact List.mem_map_of_mem (f := (·.1)) hm
  · rcases mem_set_ne a.wd.nd e r hr with z | ⟨z, n⟩
    · rw [z]; exact .inr List.mem_cons_self
    · exact .inl ⟨fun w => n (List.mem_singleton.mp w), z⟩
theorem rc_prom1s {dvs : List V} (e : M[j]? = some (q, O)) (hs : ∀ vs H Q, Prom ps [(q, O)] P [(q, O)] vs H Q → sp (vs ++ dvs) H Q X) : RC (fun vs H Q => sp (vs ++ dvs) H Q X) ps M P M := by
  have := rc_prom1 (O' := O) e hs
  rw [set_same e] at this
  exact this
/-- calls -/
theorem ev_call0 (h : EvA tr Γ M ps M1) (hs : ∀ vs H Q, Prom ps [] P [] vs H Q → sp (vs ++ []) H Q X) : Ev (tCall sp [] X tr) Γ M P M1 := ev_call h (rc_prom0 hs)
theorem ev_call1 (h : EvA tr Γ M ps M1) (e : M1[j]? = some (q, O)) (hs : ∀ vs H Q, Prom ps [(q, O)] P [(q, O)] vs H Q → sp (vs ++ []) H Q X) : Ev (tCall sp [] X tr) Γ M P M1 := ev_call h (rc_prom1s e hs)
/-- the beginning of a def -/
theorem go_start {N : List Str} {vs : List V} {f : St → Hp → Prop} (w : Wd F M H) (p : Ps F vs ps) (hΓ : Γ = ps.map some ++ List.replicate (N.length - ps.length) none) (h : Nx ⟨F, H, keys M⟩ Γ M f) : f (L2.start N vs) H := by
  refine h _ _ ⟨F, Pt.start w, ?_⟩
  subst hΓ
  unfold L2.start
  rw [paired_len p]
  have base : ∀ {vs : List V} {ps : List MP}, Ps F vs ps → EnvOk F (vs.map some) (ps.map some) := by
    intro vs ps p
    induction p with
    | nil => exact .nil
    | cons a t ih => exact .cons (fun Q hQ => by cases hQ; exact ⟨_, rfl, a⟩) ih
  refine paired_app (base p) ?_
  · generalize N.length - ps.length = n
    induction n with
    | zero => exact .nil
    | succ n ih => exact .cons (fun Q hQ => by cases hQ) ih
theorem nx_exM {α : Type} {R : α → MO} {f} (e : M[j]? = some (q, MX R)) (h : ∀ x, Nx E Γ (M.set j (q, R x)) f) : Nx E Γ M f := by
  rintro σ H ⟨F, a, b⟩
  obtain ⟨fq, u, hu, x, hx⟩ := a.at e
  refine h x σ H ⟨F, ?_, b⟩
  have g := a.mut (o' := u) (O' := R x) e hx
  have e2 : upd H q u = H := by
    funext z
    by_cases y : z = q
    · subst y; rw [upd_same, hu]
    · rw [upd_ne y]
  rw [e2] at g
  exact g
theorem nx_anM {φ : Prop} {R : MO} {f} (e : M[j]? = some (q, MA φ R)) (h : φ → Nx E Γ (M.set j (q, R)) f) : Nx E Γ M f := by
  rintro σ H ⟨F, a, b⟩
  obtain ⟨fq, u, hu, hx⟩ := a.at e
  exact h hx.1 σ H ⟨F, a.to (O := MA φ R) (O' := R) (fun _ _ z => z.2) e, b⟩
theorem Rt.to {f : VK} (h : Rt E M' P f) (e : M[j]? = some (q, O)) (l : ∀ F o, O.p F o → O'.p F o) (hM : M' = M.set j (q, O')) : Rt E M P f := fun v F H a p => h v F H (by rw [hM]; exact a.to l e) p
/-- xs.pop() -/
theorem ev_pop (ho : Ev ta Γ M (Own q) M) (e : M[j]? = some (q, ML ps)) (hp : ps[ps.length - 1]? = some P) : Ev (tBM0 K "list" rPop ta) Γ M P (M.set j (q, ML ps.dropLast)) := fun E F σ H a b Q k => ho E F σ H a b _ fun v F1 H1 e1 g1 p1 => by
  have p1 : v = .ref q := p1
  subst p1
  obtain ⟨_, o, ho1, ws, rfl, s⟩ := g1.at e
  obtain ⟨x, hx, px⟩ := paired_get s hp
  refine ⟨.inl ⟨rfl, ws, SqL.of ho1⟩, q, ws, x, rfl, rfl, ho1, by rw [paired_len s]; exact hx, ?_⟩
  have sd : ∀ {ws : List V} {ps : List MP}, Ps F1 ws ps → Ps F1 ws.dropLast ps.dropLast := by
    intro ws ps s
    induction s with
    | nil => exact .nil
    | cons a t ih =>
      cases t with
      | nil => exact .nil
      | cons a2 t2 => exact .cons a ih
  exact k x F1 _ e1 (g1.mut e ⟨_, rfl, sd s⟩) px
/-! ### instances -/
def PIns (C : Addr) (fps : List (Str × MP)) : MP := ⟨fun F v => ∃ a dx fs, v = .ref a ∧ F a = some (.ins C dx fs) ∧ ∀ f ∈ fps, ∃ x, fs.lookup f.1 = some x ∧ f.2.p F x,
  fun e ⟨a, dx, fs, h1, h2, h3⟩ => ⟨a, dx, fs, h1, e _ _ h2, fun f hf => let ⟨x, y, z⟩ := h3 f hf; ⟨x, y, f.2.mono e z⟩⟩⟩
def MIns (C : Addr) (n : Nat) (fps : List (Str × MP)) : MO := ⟨fun F o => ∃ dx fs, o = .ins C dx fs ∧ fs.length ≤ n ∧ ∀ f ∈ fps, ∃ x, fs.lookup f.1 = some x ∧ f.2.p F x,
  fun e ⟨dx, fs, h1, h2, h3⟩ => ⟨dx, fs, h1, h2, fun f hf => let ⟨x, y, z⟩ := h3 f hf; ⟨x, y, f.2.mono e z⟩⟩, fun ⟨dx, fs, h, _⟩ xs z => by rw [h] at z; cases z⟩
theorem fr_Ins {n : Nat} : (Fr (MIns C n fps)).le (PIns C fps) := fun F v ⟨q, o, a, b, dx, fs, e, h⟩ => by subst e; exact ⟨q, dx, fs, a, b, h.2⟩
theorem ev_fld {f : Str} (h : Ev ta Γ M (PIns C fps) M1) (hf : (f, P) ∈ fps) (hc : Cls K C) (hn : NoAttr K C f) : Ev (tFld K ta f) Γ M P M1 := fun E F σ H a b Q k => h E F σ H a b _ fun v F1 H1 e1 g1 ⟨p, dx, fs, h1, h2, h3⟩ => by
  obtain ⟨x, hx, px⟩ := h3 _ hf
  exact ⟨p, C, dx, fs, x, h1, g1.ex _ _ h2, hc, hn, hx, k x F1 H1 e1 g1 px⟩
theorem putF_le (f : Str) (v : V) : ∀ fs : List (Str × V), (putF f v fs).length ≤ fs.length + 1
  | [] => Nat.le_refl _
  | (g, x) :: r => by
    unfold putF
    split
    · exact Nat.le_succ _
    · exact Nat.succ_le_succ (putF_le f v r)
theorem go_fld {f : Str} {n : Nat} (hv : Ev tb Γ M P M1) (ho : Ev ta Γ M1 (Own q) M1) (e : M1[j]? = some (q, MIns C n fps)) (hz : n < 999) (hf : ∀ g ∈ fps, g.1 ≠ f) (hc : Cls K C) (hn : NoAttr K C f) (k : Nx E Γ (M1.set j (q, MIns C (n + 1) ((f, P) :: fps))) D1.nx) :
    Nx E Γ M (sFld K ta tb f D1) := fun σ H ⟨F, a, b⟩ => hv E F σ H a b _ fun y F1 H1 e1 g1 p1 => ho E F1 σ H1 g1 (b.mono e1) _ fun v F2 H2 e2 g2 p2 => by
  have p2 : v = .ref q := p2
  subst p2
  obtain ⟨_, o, ho1, dx, fs, rfl, hl, h3⟩ := g2.at e
  refine ⟨q, C, dx, fs, rfl, ho1, hc, hn, by omega, ?_⟩
  refine k _ _ ⟨F2, g2.mut e ⟨dx, _, rfl, Nat.le_trans (putF_le f y fs) (by omega), fun g hg => ?_⟩, b.mono (e1.trans e2)⟩
  rcases List.mem_cons.mp hg with z | z
  · subst z
    exact ⟨y, by rw [lookup_putF, if_pos rfl], P.mono e2 p1⟩
  · obtain ⟨x, hx, px⟩ := h3 g z
    exact ⟨x, by rw [lookup_putF, if_neg (hf g z)]; exact hx, px⟩
theorem Pt.junk (h : Pt E F M H) (hp : H q = none) : Pt E F M (upd H q o) := by
  have ne : ∀ {a u}, H a = some u → a ≠ q := fun e => ne_of_none e hp
  refine ⟨⟨h.gr.ex, fun a u h1 h2 => ?_, h.gr.off, fun a h1 => ?_, fun a h1 h2 => ?_⟩, ⟨h.wd.ex.trans (Evl.Ex.new hp), h.wd.nd, fun r hr => ?_⟩, h.fr⟩
  · have := h.gr.keep a u h1 h2
    rw [upd_ne (ne this)]; exact this
  · by_cases e : a = q
    · subst e; rw [upd_same]; exact fun z => by cases z
    · rw [upd_ne e]; exact h.gr.stay a h1
  · rw [upd_ne (fun e => h.gr.stay a h1 (by rw [e]; exact hp))]; exact h.gr.nott a h1 h2
  · obtain ⟨a, u, hu, b⟩ := h.wd.own r hr
    exact ⟨a, u, by rw [upd_ne (ne hu)]; exact hu, b⟩
theorem evn_make (h : EvA tr Γ M ps M1) (hs : ∀ x vs H Q, Prom (Own x :: ps) [(x, MIns C 0 [])] (D K .none) [(x, O)] vs H Q → sp (vs ++ []) H Q X) : EvN (tMake C sp [] X tr) Γ M O M1 := fun E F σ H a b Q k =>
  h E F σ H a b _ fun vs F1 H1 e1 g1 p1 => fun x dx hx hdx hne => by
    have hx2 : upd H1 dx (.own x) x = none := by rw [upd_ne hne.symm]; exact hx
    have g2 : Pt E F1 ((x, MIns C 0 []) :: M1) (upd (upd H1 dx (.own x)) x (.ins C dx [])) := (g1.junk hdx).new hx2 ⟨dx, [], rfl, Nat.le_refl _, fun f hf => by cases hf⟩
    refine hs x (.ref x :: vs) _ _ ⟨F1, ⟨g2.ex, by simp [keys], fun r hr => ?_⟩, .cons rfl p1, fun v F' H' g hv => ⟨dp_non hv, ?_⟩⟩
    · rw [List.mem_singleton.mp hr]; exact g2.wd.own _ List.mem_cons_self
    · refine k x F' H' (g1.fresh hx) (e1.trans g.gr.ex) (g2.frame g (fun z hz => ?_) rfl fun r hr => ?_)
      · rw [List.mem_singleton.mp hz]; exact List.mem_cons_self
      · rcases List.mem_cons.mp hr with z | z
        · rw [z]; exact .inr List.mem_cons_self
        · exact .inl ⟨fun w => (List.nodup_cons.mp (show (x :: keys M1).Nodup from g2.wd.nd)).1 (by rw [show x = r.1 from (List.mem_singleton.mp w).symm]; exact List.mem_map_of_mem (f := (·.1)) z), List.mem_cons_of_mem _ z⟩
/-! ### isinstance of data -/
/-! ### sorted -/
theorem ints_map {ns : List Int} {vs : List V} (h : Ps F vs (ns.map fun n => D K (.int n))) : vs = ns.map V.int := by
  have := ps_all (K := K) (ds := ns.map PyData.int) (by rw [List.map_map]; exact h)
  exact flat_ints this
theorem map_ints (ns : List Int) : Ps F (ns.map V.int) (ns.map fun n => D K (.int n)) := by
  induction ns with
  | nil => exact .nil
  | cons n ns ih => exact .cons (.int n) ih
abbrev MInts (K : PySem.W.Frag) (ns : List Int) : MO := ML (ns.map fun n => D K (.int n))
/-- set(x): a list or tuple of ints -/
def rSetI (K : PySem.W.Frag) (w : World) : List V → Hp → VK → Prop := fun xs H Q => ∃ (a : Addr) (ns : List Int), xs = [V.ref a] ∧ (SqL K H a (ns.map V.int) ∨ SqT K H a (ns.map V.int)) ∧ ns.length < 63 ∧
  ∀ p c, H p = none → c ≤ ns.length → Q (.ref p) (upd H p (SetO w p (fun j => decide (j ∈ ns)) c))
theorem vals_ints {ns : List Int} {us : List Value} (r : Vals (ns.map V.int) us) : PyProof.Rows.IntsAre us ns := by
  induction ns generalizing us with
  | nil => cases r; exact .nil
  | cons n ns ih =>
    cases r with
    | cons a t =>
      obtain ⟨tk, rfl⟩ := a
      exact .cons n tk (ih t)
theorem cr_setI {X : Cx} (hc : X.calm = true) : CallR X (.type "set") (rSetI X.K X.w) := by
  intro pins s σ H xs us Q I r h
  obtain ⟨a, ns, rfl, hs, few, q⟩ := h
  have few2 : ns.length + 1 < scanBound := Nat.lt_trans (by omega : ns.length + 1 < 64) (by decide)
  rw [Vals.ref1 r]
  have fin : ∀ (g : Heap) (tk c : Nat), SetR X.w g s.heap.objs.size (fun j => decide (j ∈ ns)) c → c ≤ ns.length → (∀ b o, s.heap.get? b = some o → g.get? b = some o) → EP X pins σ Q (.ref s.heap.objs.size) { s with heap := g, toks := tk } := by
    intro g tk c hS hc k
    exact ⟨.ref _, upd H s.heap.objs.size (SetO X.w s.heap.objs.size (fun j => decide (j ∈ ns)) c), I.laid (t' := tk) k (Nat.le_refl _) (setO_new hS), rfl, q _ c (I.hok.fresh (Nat.le_refl _)) hc⟩
  rcases hs with hs | hs
  · obtain ⟨its, rv, hl, _⟩ := I.list hs
    exact setL_call ns (I.ok.hd hc) hl.isList (by simpa using vals_ints rv) few2 fin
  · obtain ⟨its, rv, hl, _⟩ := I.tuple hs
    exact call_set_tupI ns (I.ok.hd hc) hl (by simpa using vals_ints rv) few2 fin
theorem evn_sortedSet {w : World} {ns : List Int} (h : Ev te Γ M P M1) (hP : ∀ E F H v, Pt E F M1 H → P.p F v → ∃ a, v = .ref a ∧ (SqL K H a (ns.map V.int) ∨ SqT K H a (ns.map V.int))) (hn : ns.length < 63) :
    EvN (tCB (rSortedSet w) (tCons (tCB (rSetI K w) (tCons te tNil)) tNil)) Γ M (MX fun ns' : List Int => MA (ns'.Pairwise (· < ·) ∧ ∀ k, k ∈ ns' ↔ k ∈ ns) (MInts K ns')) M1 := fun E F σ H a b Q k => h E F σ H a b _ fun v F1 H1 e1 g1 p1 => by
  obtain ⟨x, rfl, hs⟩ := hP _ _ _ _ g1 p1
  refine ⟨x, ns, rfl, hs, hn, fun p c hp hc => ⟨p, _, c, rfl, upd_same, by omega, fun ns' l h1 h2 h3 hl => ?_⟩⟩
  have g2 : Pt E F1 M1 (upd H1 p (SetO w p (fun j => decide (j ∈ ns)) c)) := g1.junk hp
  exact k l F1 _ (g2.fresh hl) e1 (g2.new hl ⟨ns', ⟨h1, fun k => by rw [h2]; exact decide_eq_true_iff⟩, _, rfl, map_ints ns'⟩)
theorem own_ints {ns : List Int} (h : M1[j]? = some (q, MInts K ns)) : ∀ E F H v, Pt E F M1 H → (Own q).p F v → ∃ a, v = .ref a ∧ (SqL K H a (ns.map V.int) ∨ SqT K H a (ns.map V.int)) := fun E F H v g p => by
  obtain ⟨_, o, ho, vs, rfl, s⟩ := g.at h
  cases ints_map s
  exact ⟨q, p, .inl (SqL.of ho)⟩
/-! ### the draws -/
def MDr (K : PySem.W.Frag) : MO := MX fun ns : List Int => MA (ns.length ≤ 1000) (MInts K ns)
abbrev PIn (K : PySem.W.Frag) (lo hi : Int) : MP := PEx fun x : Int => PAn (lo ≤ x ∧ x < hi) (D K (.int x))
end
end Hq
namespace Hq
open PySem L2
section
variable {K : PySem.W.Frag} {E E' : Ent} {F F' H H' : Hp} {M M' Mc Mc' M1 M2 M3 : Ms} {Γ Γ' : Gm} {P P' P1 P2 : MP} {O O' : MO} {q : Addr} {σ : St} {o o' : HO} {j : Nat}
variable {te ta tb tc tl : TE} {t u : TT} {r : R2} {D1 : Ends} {tu tw : TS} {ps : List MP} {sp : Sp} {X : XK} {tr : TA} {C : Addr} {fps : List (Str × MP)}
theorem Prom.len {vs : List V} {Q : VK} (h : Prom ps M P M' vs H Q) : vs.length = ps.length := by obtain ⟨F, _, p, _⟩ := h; exact paired_len p
theorem rv_eqI {i k : Int} : RV rEq (D K (.int i)) (D K (.int k)) M (D K (.bool (decide (i = k)))) M := rv_val (z := .bl _) (fun _ => .bl _) fun F H x y p1 p2 _ Q q => by
  cases dp_int p1; cases dp_int p2
  refine ⟨rfl, ?_⟩
  have e : decide (V.int i = V.int k) = decide (i = k) := by simp
  rw [e]; exact q
theorem rv_neI {i k : Int} : RV rNe (D K (.int i)) (D K (.int k)) M (D K (.bool (!decide (i = k)))) M := rv_val (z := .bl _) (fun _ => .bl _) fun F H x y p1 p2 _ Q q => by
  cases dp_int p1; cases dp_int p2
  refine ⟨rfl, ?_⟩
  have e : decide (V.int i = V.int k) = decide (i = k) := by simp
  rw [e]; exact q
theorem ev_neg {i : Int} (h : Ev ta Γ M (D K (.int i)) M1) : Ev (tUn (rU fun i => .int (-i)) ta) Γ M (D K (.int (-i))) M1 := fun E F σ H a b Q k => h E F σ H a b _ fun v F1 H1 e1 g1 p1 => by
  cases dp_int p1
  exact ⟨i, rfl, k _ F1 H1 e1 g1 (.int _)⟩
theorem call0 (h : EvA tr Γ M ps M1) (hs : ∀ vs H Q, Prom ps [] P [] vs H Q → sp vs H Q X) : Ev (tCall sp [] X tr) Γ M P M1 := ev_call0 h fun vs H Q z => by rw [List.append_nil]; exact hs vs H Q z
theorem call1 (h : EvA tr Γ M ps M1) (e : M1[j]? = some (q, O)) (hs : ∀ vs H Q, Prom ps [(q, O)] P [(q, O)] vs H Q → sp vs H Q X) : Ev (tCall sp [] X tr) Γ M P M1 := ev_call1 h e fun vs H Q z => by rw [List.append_nil]; exact hs vs H Q z
theorem make0 (h : EvA tr Γ M ps M1) (hs : ∀ x vs H Q, Prom (Own x :: ps) [(x, MIns C 0 [])] (D K .none) [(x, O)] vs H Q → sp vs H Q X) : EvN (tMake C sp [] X tr) Γ M O M1 := evn_make h fun x vs H Q z => by rw [List.append_nil]; exact hs x vs H Q z
theorem EvA.in1 {R R' : MP} (l : R.le R') (h : EvA tr Γ M (R :: ps) M1) : EvA tr Γ M (R' :: ps) M1 := fun E F σ H a b Q k => h E F σ H a b Q fun vs F' H' e g p => k vs F' H' e g (by
  cases p with
  | cons z t => exact .cons (l _ _ z) t)
theorem evn_lcRX {i : Nat} {φ : Int → Prop} (h : Ev te Γ M (PEx fun z : Int => PAn (φ z) (D K (.int z))) M1) (k : ∀ z, φ z → EvN (tLc (iRng1 (tCons (tC (.int z)) tNil)) (gName i) t tb [i]) Γ M1 O M1) : EvN (tLc (iRng1 (tCons te tNil)) (gName i) t tb [i]) Γ M O M1 := fun E F σ H a b Q kk => h E F σ H a b _ fun v F1 H1 e1 g1 ⟨z, hz, p1⟩ => by
  cases dp_int p1
  exact k z hz E F1 σ H1 g1 (b.mono e1) Q fun q F' H' f e g => kk q F' H' f (e1.trans e) g
/-- a list of items each of which is some x with φ x -/
theorem ps_name {α : Type} {φ : α → Prop} {R : α → MP} : ∀ {n : Nat} {vs : List V}, Ps F vs (List.replicate n (PEx fun x => PAn (φ x) (R x))) → ∃ xs : List α, xs.length = n ∧ (∀ x ∈ xs, φ x) ∧ Ps F vs (xs.map R)
  | 0, _, h => by cases h; exact ⟨[], rfl, fun _ h => (by cases h), .nil⟩
  | n + 1, _, h => by
    cases h with
    | cons a t =>
      obtain ⟨x, hx, p⟩ := a
      obtain ⟨xs, h1, h2, h3⟩ := ps_name t
      exact ⟨x :: xs, by rw [List.length_cons, h1], fun y hy => by
        rcases List.mem_cons.mp hy with e | e
        · rw [e]; exact hx
        · exact h2 y e, .cons p h3⟩
/-- the same as an own list -/
theorem ml_name {α : Type} {φ : α → Prop} {R : α → MP} {n : Nat} : ∀ F o, (ML (List.replicate n (PEx fun x => PAn (φ x) (R x)))).p F o → (MX fun xs : List α => MA (xs.length = n ∧ ∀ x ∈ xs, φ x) (ML (xs.map R))).p F o := fun F o ⟨vs, e, p⟩ => by
  obtain ⟨xs, h1, h2, h3⟩ := ps_name p
  exact ⟨xs, ⟨h1, h2⟩, vs, e, h3⟩
theorem map_const {α β : Type} (l : List α) (b : β) : l.map (fun _ => b) = List.replicate l.length b := by
  induction l with
  | nil => rfl
  | cons a l ih => rw [List.map_cons, ih]; rfl
theorem filter_true {α : Type} (l : List α) : l.filter (fun _ => true) = l := by simp
end
end Hq
namespace Hq
open PySem L2
section
variable {K : PySem.W.Frag} {E E' : Ent} {F F' H H' : Hp} {M M' Mc Mc' M1 M2 M3 : Ms} {Γ Γ' : Gm} {P P' P1 P2 : MP} {O O' : MO} {q : Addr} {σ : St} {o o' : HO} {j : Nat}
variable {te ta tb tc tl : TE} {t u : TT} {r : R2} {D1 : Ends} {tu tw : TS} {ps : List MP} {sp : Sp} {X : XK} {tr : TA} {C : Addr} {fps : List (Str × MP)}
variable {tz : TS}
theorem q_asg {i : Nat} (h : Ev te Γ M P M1) (k : Nx E (Γ.set i (some P)) M1 (tz D1)) : Nx E Γ M (tSeq (tAsg te (gName i)) tz D1) :=
  go_asg (D1 := { D1 with nx := tz D1 }) h k
theorem q_asgN {i : Nat} (h : EvN te Γ M O M1) (k : ∀ q, E.H q = none → Nx E (Γ.set i (some (Own q))) ((q, O) :: M1) (tz D1)) : Nx E Γ M (tSeq (tAsg te (gName i)) tz D1) :=
  go_asgN (D1 := { D1 with nx := tz D1 }) h k
theorem q_drop (h : Ev te Γ M P M1) (k : Nx E Γ M1 (tz D1)) : Nx E Γ M (tSeq (tDrop te) tz D1) :=
  go_drop (D1 := { D1 with nx := tz D1 }) h k
theorem q_if {B : Bool → Prop} (h : EvT t Γ M B M1) (h1 : B true → Nx E Γ M1 (tu { D1 with nx := tz D1 })) (h2 : B false → Nx E Γ M1 (tw { D1 with nx := tz D1 })) : Nx E Γ M (tSeq (tIfS t tu tw) tz D1) :=
  go_if (D1 := { D1 with nx := tz D1 }) h h1 h2
theorem q_app {ps : List MP} (ho : Ev ta Γ M (Own q) M) (h : Ev te Γ M P M1) (e0 : M[j]? = some (q, ML ps)) (e : M1[j]? = some (q, ML ps)) (hz : ps.length < 100000) (k : Nx E Γ (M1.set j (q, ML (ps ++ [P]))) (tz D1)) :
    Nx E Γ M (tSeq (tDrop (tBM K "list" rAppend ta (tCons te tNil))) tz D1) :=
  go_app (D1 := { D1 with nx := tz D1 }) ho h e0 e hz k
theorem q_rev {ps : List MP} (ho : Ev ta Γ M (Own q) M) (e : M[j]? = some (q, ML ps)) (k : Nx E Γ (M.set j (q, ML ps.reverse)) (tz D1)) : Nx E Γ M (tSeq (tDrop (tBM0 K "list" rReverse ta)) tz D1) :=
  go_rev (D1 := { D1 with nx := tz D1 }) ho e k
theorem q_forL {ps : List MP} {i : Nat} (h : Ev tl Γ M (PLi K ps) M1) (J : Nat → Gm → Ms → Prop) (h0 : J 0 Γ M1)
    (hs : ∀ E', Le E' E → ∀ n P, ps[n]? = some P → ∀ Γ' M', J n Γ' M' → Nx E' (Γ'.set i (some P)) M' (tu { D1 with nx := JA E' (J (n + 1)), ct := JA E' (J (n + 1)), bk := tz D1 }))
    (hd : ∀ Γ' M', J ps.length Γ' M' → Nx E Γ' M' (tz D1)) : Nx E Γ M (tSeq (tFor (iList K tl) (gName i) tu) tz D1) :=
  go_forL (D1 := { D1 with nx := tz D1 }) h J h0 hs hd
theorem q_forT {ps : List MP} {i : Nat} (h : Ev tl Γ M (PTu K ps) M1) (J : Nat → Gm → Ms → Prop) (h0 : J 0 Γ M1)
    (hs : ∀ E', Le E' E → ∀ n P, ps[n]? = some P → ∀ Γ' M', J n Γ' M' → Nx E' (Γ'.set i (some P)) M' (tu { D1 with nx := JA E' (J (n + 1)), ct := JA E' (J (n + 1)), bk := tz D1 }))
    (hd : ∀ Γ' M', J ps.length Γ' M' → Nx E Γ' M' (tz D1)) : Nx E Γ M (tSeq (tFor (iTup K tl) (gName i) tu) tz D1) :=
  go_forT (D1 := { D1 with nx := tz D1 }) h J h0 hs hd
theorem q_forR {tr : TA} {z : Int} {i : Nat} (h : EvA tr Γ M [D K (.int z)] M1) (hz : z ≤ 1000000) (hz2 : -1000000 ≤ z) (J : Nat → Gm → Ms → Prop) (h0 : J 0 Γ M1)
    (hs : ∀ n : Nat, (n : Int) < z → ∀ Γ' M', J n Γ' M' → Nx E (Γ'.set i (some (D K (.int n)))) M' (tu { D1 with nx := JA E (J (n + 1)), ct := JA E (J (n + 1)), bk := tz D1 }))
    (hd : ∀ Γ' M', J z.toNat Γ' M' → Nx E Γ' M' (tz D1)) : Nx E Γ M (tSeq (tFor (iRng1 tr) (gName i) tu) tz D1) :=
  go_forR (D1 := { D1 with nx := tz D1 }) h hz hz2 J h0 hs hd
theorem q_forR2 {tr : TA} {lo z : Int} {i : Nat} (h : EvA tr Γ M [D K (.int lo), D K (.int z)] M1) (hz : z ≤ 1000000 ∧ -1000000 ≤ z ∧ lo ≤ 1000000 ∧ -1000000 ≤ lo) (J : Nat → Gm → Ms → Prop) (h0 : J 0 Γ M1)
    (hs : ∀ n : Nat, lo + (n : Int) < z → ∀ Γ' M', J n Γ' M' → Nx E (Γ'.set i (some (D K (.int (lo + n))))) M' (tu { D1 with nx := JA E (J (n + 1)), ct := JA E (J (n + 1)), bk := tz D1 }))
    (hd : ∀ Γ' M', J (z - lo).toNat Γ' M' → Nx E Γ' M' (tz D1)) : Nx E Γ M (tSeq (tFor (iRng2 tr) (gName i) tu) tz D1) :=
  go_forR2 (D1 := { D1 with nx := tz D1 }) h hz J h0 hs hd
theorem q_while (J : Nat → Gm → Ms → Prop) (m0 : Nat) (h0 : J m0 Γ M)
    (hs : ∀ m Γ' M', J m Γ' M' → ∃ B M1, EvT t Γ' M' B M1 ∧ (B true → Nx E Γ' M1 (tu { D1 with nx := JA E (fun Γ M => ∃ m', m' < m ∧ J m' Γ M), ct := JA E (fun Γ M => ∃ m', m' < m ∧ J m' Γ M), bk := tz D1 })) ∧ (B false → Nx E Γ' M1 (tz D1))) : Nx E Γ M (tSeq (tWhile t tu) tz D1) :=
  go_while (D1 := { D1 with nx := tz D1 }) J m0 h0 hs
/-- hands back an object of the caller's own -/
def RtN (E : Ent) (M : Ms) (O : MO) (f : VK) : Prop := ∀ q F H, E.H q = none → Pt E F ((q, O) :: M) H → f (.ref q) H
def PromN (ps : List MP) (M : Ms) (O : MO) (M' : Ms) (vs : List V) (H : Hp) (Q : VK) : Prop := ∃ F, Wd F M H ∧ Ps F vs ps ∧ RtN ⟨F, H, keys M⟩ M' O Q
theorem PromN.len {vs : List V} {Q : VK} (h : PromN ps M O M' vs H Q) : vs.length = ps.length := by obtain ⟨F, _, p, _⟩ := h; exact paired_len p
theorem Pt.frameN {ks : List Addr} (h : Pt E F M H) (hq : H q = none) (g : Pt ⟨F, H, ks⟩ F' ((q, O) :: Mc) H') (hk : ∀ a ∈ ks, a ∈ keys M) (hM : keys M' = keys M) (hr : ∀ r ∈ M', (r.1 ∉ ks ∧ r ∈ M) ∨ r ∈ Mc) : Pt E F' ((q, O) :: M') H' := by
  have nq : q ∉ keys M := fun z => by
    obtain ⟨r, hr, e⟩ := List.mem_map.mp z
    obtain ⟨_, u, hu, _⟩ := h.wd.own r hr
    rw [e, hq] at hu; cases hu
  refine h.back ⟨⟨g.gr.ex, fun a u h1 h2 => g.gr.keep a u (fun z => h1 (hk a z)) h2, g.gr.off, g.gr.stay, g.gr.nott⟩, ⟨g.wd.ex, List.nodup_cons.mpr ⟨by rw [show List.map _ M' = keys M from hM]; exact nq, by rw [show List.map _ M' = keys M from hM]; exact h.wd.nd⟩, fun r hm => ?_⟩, fun r hm => ?_⟩
  · rcases List.mem_cons.mp hm with z | hm
    · rw [z]; exact g.wd.own _ List.mem_cons_self
    · rcases hr r hm with ⟨n, hm2⟩ | hm2
      · obtain ⟨a, u, hu, b⟩ := h.wd.own r hm2
        exact ⟨g.gr.off _ a (show H r.1 ≠ none by rw [hu]; exact fun z => by cases z) (fun xs z => r.2.nt b xs (by have z : H r.1 = some (HO.tup xs) := z; rw [hu] at z; exact Option.some.inj z)), u, g.gr.keep _ _ n hu, r.2.mono g.gr.ex b⟩
      · exact g.wd.own r (List.mem_cons_of_mem _ hm2)
  · rcases List.mem_cons.mp hm with z | hm
    · rw [z]; exact .inr hq
    · refine .inl ?_
      show r.1 ∈ keys M
      rw [← hM]
      exact List.mem_map_of_mem (f := (·.1)) hm
theorem calln0 (h : EvA tr Γ M ps M1) (hs : ∀ vs H Q, PromN ps [] O [] vs H Q → sp vs H Q X) : EvN (tCall sp [] X tr) Γ M O M1 := fun E F σ H a b Q k =>
  h E F σ H a b _ fun vs F1 H1 e1 a1 p1 => by
    show sp (vs ++ []) H1 Q X
    rw [List.append_nil]
    exact hs vs H1 Q ⟨F1, ⟨a1.ex, List.nodup_nil, fun r hr => by cases hr⟩, p1, fun q F' H' hq g => k q F' H' (a1.fresh hq) (e1.trans g.gr.ex) (a1.frameN hq g (fun _ z => by cases z) rfl fun r hr => .inl ⟨by simp [keys], hr⟩)⟩
theorem go_retO {E0 : Ent} (l : Le E E0) (h : Ev te Γ M (Own q) M1) (hq : E0.H q = none) (hM : M1 = (q, O) :: M2) (k : RtN E0 M2 O D1.rt) : Nx E Γ M (tRet te D1) := fun σ H ⟨F, a, b⟩ => h E F σ H a b _ fun v F' H' e g p => by
  have p : v = .ref q := p
  subst p
  subst hM
  exact k q F' H' hq (l.to _ _ _ g)
theorem RtN.to {f : VK} (h : RtN E M O' f) (l : ∀ F o, O.p F o → O'.p F o) : RtN E M O f := fun q F H hq a => h q F H hq (a.to (j := 0) (O' := O') l rfl)
theorem RtN.drop {f : VK} (h : RtN E M O f) (s : List.Sublist M M') : RtN E M' O f := fun q F H hq a => h q F H hq (a.drop (s.cons₂ _))
theorem go_cut (J : Gm → Ms → Prop) (h1 : Nx E Γ M (tu { D1 with nx := JA E J })) (h2 : ∀ Γ' M', J Γ' M' → Nx E Γ' M' (tw D1)) : Nx E Γ M (Evl.tCut tu tw D1) := fun σ H a =>
  ⟨JA E J, h1 σ H a, fun σ' H' ⟨Γ', M', hJ, a'⟩ => h2 Γ' M' hJ σ' H' a'⟩
end
end Hq
namespace Hq
open PySem L2
def dT (l : List Int) : PyData := .tuple (l.map .int)
def dL (l : List Int) : PyData := .list (l.map .int)
def dTT (ls : List (List Int)) : PyData := .tuple (ls.map dT)
def dLT (ls : List (List Int)) : PyData := .list (ls.map dT)
section
variable {K : PySem.W.Frag} {E E' : Ent} {F F' H H' : Hp} {M M' Mc Mc' M1 M2 M3 : Ms} {Γ Γ' : Gm} {P P' P1 P2 : MP} {O O' : MO} {q : Addr} {σ : St} {o o' : HO} {j : Nat}
variable {te ta tb tc tl : TE} {t u : TT} {r : R2} {D1 : Ends} {tu tw tz : TS} {ps : List MP} {sp : Sp} {X : XK} {tr : TA} {C : Addr} {fps : List (Str × MP)}
theorem le_dT {l : List Int} : (D K (dT l)).le (PTu K (l.map fun n => D K (.int n))) := fun F v h => by
  have := D_PTu (K := K) (ds := l.map PyData.int) F v h
  rw [List.map_map] at this
  exact this
theorem dT_le {l : List Int} : (PTu K (l.map fun n => D K (.int n))).le (D K (dT l)) := fun F v h => PTu_D (K := K) (ds := l.map PyData.int) F v (by rw [List.map_map]; exact h)
theorem le_dL {l : List Int} : (D K (dL l)).le (PLi K (l.map fun n => D K (.int n))) := fun F v h => by
  have := D_PLi (K := K) (ds := l.map PyData.int) F v h
  rw [List.map_map] at this
  exact this
theorem dL_le {l : List Int} : (PLi K (l.map fun n => D K (.int n))).le (D K (dL l)) := fun F v h => PLi_D (K := K) (ds := l.map PyData.int) F v (by rw [List.map_map]; exact h)
theorem le_Lm {α : Type} {f : α → PyData} {l : List α} : (D K (.list (l.map f))).le (PLi K (l.map fun n => D K (f n))) := fun F v h => by
  have := D_PLi (K := K) (ds := l.map f) F v h
  rw [List.map_map] at this
  exact this
theorem Lm_le {α : Type} {f : α → PyData} {l : List α} : (PLi K (l.map fun n => D K (f n))).le (D K (.list (l.map f))) := fun F v h => PLi_D (K := K) (ds := l.map f) F v (by rw [List.map_map]; exact h)
theorem le_Tm {α : Type} {f : α → PyData} {l : List α} : (D K (.tuple (l.map f))).le (PTu K (l.map fun n => D K (f n))) := fun F v h => by
  have := D_PTu (K := K) (ds := l.map f) F v h
  rw [List.map_map] at this
  exact this
theorem Tm_le {α : Type} {f : α → PyData} {l : List α} : (PTu K (l.map fun n => D K (f n))).le (D K (.tuple (l.map f))) := fun F v h => PTu_D (K := K) (ds := l.map f) F v (by rw [List.map_map]; exact h)
theorem rv_addIn {a lo hi : Int} : RV (rI0 fun i j => .int (i + j)) (D K (.int a)) (PIn K lo hi) M (PIn K (a + lo) (a + hi)) M :=
  RV.ex2 fun x => RV.an2 fun hx => rv_i0.weak (MP.le_trans (PAn.in (φ := a + lo ≤ a + x ∧ a + x < a + hi) (by omega)) (PEx.in (R := fun z : Int => PAn (a + lo ≤ z ∧ z < a + hi) (D K (.int z))) (a + x)))
theorem q_forRX {i : Nat} {φ : Int → Prop} (h : Ev te Γ M (PEx fun z : Int => PAn (φ z) (D K (.int z))) M1) (k : ∀ z, φ z → ∀ tr', EvA tr' Γ M1 [D K (.int z)] M1 → Nx E Γ M1 (tSeq (tFor (iRng1 tr') (gName i) tu) tz D1)) : Nx E Γ M (tSeq (tFor (iRng1 (tCons te tNil)) (gName i) tu) tz D1) := fun σ H ⟨F, a, b⟩ => h E F σ H a b _ fun v F1 H1 e1 g1 ⟨z, hz, p1⟩ => by
  cases dp_int p1
  exact k z hz (tCons (tC (.int z)) tNil) (ea_cons ev_int ea_nil) σ H1 ⟨F1, g1, b.mono e1⟩
theorem ev_tupOf {φ : List Int → Prop} (h : EvN te Γ M (MX fun ns : List Int => MA (φ ns) (MInts K ns)) M1) : Ev (tCB (rTuple K) (tCons te tNil)) Γ M (PEx fun ns : List Int => PAn (φ ns) (D K (dT ns))) M1 :=
  ev_cb (ea_cons ((ev_fr h).weak (MP.le_trans fr_X (PEx.le fun x => MP.le_trans fr_A (PAn.le fun _ => fr_L (K := K))))) ea_nil) (RC.ex1 fun ns => RC.an1 fun hφ => rc_tupleL.weak (MP.le_trans dT_le (MP.le_trans (PAn.in hφ) (PEx.in (R := fun ns : List Int => PAn (φ ns) (D K (dT ns))) ns))))
theorem nx_lastM {α : Type} {f} {φ : α → Prop} {R : α → MP} (e : M[j]? = some (q, ML (ps ++ [PEx fun x => PAn (φ x) (R x)]))) (h : ∀ x, φ x → Nx E Γ (M.set j (q, ML (ps ++ [R x]))) f) : Nx E Γ M f := by
  rintro σ H ⟨F, a, b⟩
  obtain ⟨fq, o, ho, vs, rfl, s⟩ := a.at e
  have key : ∀ {ps : List MP} {vs : List V}, Ps F vs (ps ++ [PEx fun x => PAn (φ x) (R x)]) → ∃ x, φ x ∧ Ps F vs (ps ++ [R x]) := by
    intro ps
    induction ps with
    | nil =>
      intro vs s
      obtain ⟨v, rfl, x, hx, hp⟩ := ps1 s
      exact ⟨x, hx, .cons hp .nil⟩
    | cons p ps ih =>
      intro vs s
      cases s with
      | cons a t =>
        obtain ⟨x, hx, t2⟩ := ih t
        exact ⟨x, hx, .cons a t2⟩
  obtain ⟨x, hx, s2⟩ := key s
  refine h x hx σ H ⟨F, ?_, b⟩
  have g := a.mut (o' := .lst vs) (O' := ML (ps ++ [R x])) e ⟨vs, rfl, s2⟩
  have e2 : upd H q (.lst vs) = H := by
    funext z
    by_cases y : z = q
    · subst y; rw [upd_same, ho]
    · rw [upd_ne y]
  rw [e2] at g
  exact g
theorem nx_perm {f} (p : M.Perm M') (h : Nx E Γ M' f) : Nx E Γ M f := h.imp fun σ H ⟨F, x, y⟩ => ⟨F, ⟨x.gr, ⟨x.wd.ex, (p.map _).nodup_iff.mp x.wd.nd, fun r hr => x.wd.own r (p.mem_iff.mpr hr)⟩, fun r hr => x.fr r (p.mem_iff.mpr hr)⟩, y⟩
/-- own lists within an own list -/
def inner (K : PySem.W.Frag) (as : List Addr) (ls : List (List Int)) : Ms := (as.zip ls).map fun p => (p.1, MInts K p.2)
theorem q_fld {f : Str} {n : Nat} (hv : Ev tb Γ M P M1) (ho : Ev ta Γ M1 (Own q) M1) (e : M1[j]? = some (q, MIns C n fps)) (hz : n < 999) (hf : ∀ g ∈ fps, g.1 ≠ f) (hc : Cls K C) (hn : NoAttr K C f) (k : Nx E Γ (M1.set j (q, MIns C (n + 1) ((f, P) :: fps))) (tz D1)) :
    Nx E Γ M (tSeq (sFld K ta tb f) tz D1) := go_fld (D1 := { D1 with nx := tz D1 }) hv ho e hz hf hc hn k
/-! rules with the written part named -/
variable {Y : Cx}
abbrev rLn (K : PySem.W.Frag) : List V → Hp → VK → Prop := fun xs H Q => ∃ p ys, xs = [.ref p] ∧ (SqL K H p ys ∨ SqT K H p ys) ∧ Q (.int ys.length) H
theorem c_len (e : Y.K = K) : CallR Y (.builtin "len") (rLn K) := e ▸ call_len_seq
theorem c_list (e : Y.K = K) : CallR Y (.type "list") (rList K) := e ▸ call_list_of
theorem c_tuple (e : Y.K = K) : CallR Y (.type "tuple") (rTuple K) := e ▸ call_tuple_of
theorem c_ix (e : Y.K = K) : IxR Y (rIx K) := e ▸ ix_seq
theorem c_in (e : Y.K = K) : OpR Y (compareOp .In) (rIn K false) := e ▸ op_in_seq
theorem c_notIn (e : Y.K = K) : OpR Y (compareOp .NotIn) (rIn K true) := e ▸ op_notIn_seq
theorem c_eq (e : Y.K = K) (hu : Y.A.units + 64 < cLine) : OpR Y (compareOp .Eq) (rEqD K) := e ▸ op_eqD hu
theorem c_ne (e : Y.K = K) (hu : Y.A.units + 64 < cLine) : OpR Y (compareOp .NotEq) (rNeD K) := e ▸ op_neD hu
theorem c_sortedSet {w : World} (e : Y.w = w) (hc : Y.calm = true) : CallR Y (.builtin "sorted") (rSortedSet w) := e ▸ cr_sortedSet hc
theorem c_set {w : World} (e : Y.K = K) (e2 : Y.w = w) (hc : Y.calm = true) : CallR Y (.type "set") (rSetI K w) := by subst e; subst e2; exact cr_setI hc
theorem c_catA (e : Y.K = K) : OpR Y (binaryOp .Add) (rCatA K) := e ▸ op_catA
theorem c_slT (e : Y.K = K) : SlR Y (rSlA K) := e ▸ sl_tupA
theorem c_slL (e : Y.K = K) : SlR Y (rSlL K) := e ▸ sl_list
end
end Hq
namespace Hq
open PySem L2
/-- a way to write values of a type as data, faithfully -/
structure Enc {α : Type} [DecidableEq α] (f : α → PyData) (n : Nat) : Prop where
  eq : ∀ x y, PyData.eqv (f x) (f y) = decide (x = y)
  lay : ∀ x, PyData.canLay0 (f x) = true
  deep : ∀ x, PyData.depth (f x) ≤ n
theorem Enc.shaped {α : Type} [DecidableEq α] {f : α → PyData} {n : Nat} (e : Enc f n) (h : n ≤ 64) (x : α) : SeqAt.shaped (f x) = true := by
  unfold SeqAt.shaped
  rw [e.lay x, Bool.true_and]
  exact decide_eq_true (Nat.le_trans (e.deep x) h)
theorem enc_int : Enc PyData.int 1 := ⟨fun x y => by
    show (x == y) = decide (x = y)
    rw [Bool.eq_iff_iff]; simp, fun _ => rfl, fun _ => by show PyData.depth (.int _) ≤ 1; simp [PyData.depth]⟩
section
variable {α : Type} [DecidableEq α] {f : α → PyData} {n : Nat}
theorem eqvAll_map (e : Enc f n) : ∀ (xs ys : List α), PyData.eqvAll (xs.map f) (ys.map f) = decide (xs = ys)
  | [], [] => rfl
  | x :: xs, y :: ys => by
    show (PyData.eqv (f x) (f y) && PyData.eqvAll (xs.map f) (ys.map f)) = _
    rw [e.eq, eqvAll_map e xs ys]
    by_cases h1 : x = y <;> by_cases h2 : xs = ys <;> simp [h1, h2]
  | [], _ :: _ => rfl
  | _ :: _, [] => rfl
theorem depthAll_map (e : Enc f n) : ∀ (xs : List α), PyData.depthAll (xs.map f) ≤ n
  | [] => Nat.zero_le _
  | x :: xs => by
    have h1 := e.deep x
    have h2 := depthAll_map e xs
    simp only [List.map_cons, PyData.depthAll]
    omega
theorem enc_list (e : Enc f n) : Enc (fun xs : List α => PyData.list (xs.map f)) (n + 1) := ⟨fun x y => eqvAll_map e x y, fun xs => by
    simp only [PyData.canLay0]
    first | (rw [List.all_eq_true]; intro d hd; obtain ⟨x, _, rfl⟩ := List.mem_map.mp hd; exact e.lay x) | (induction xs with | nil => rfl | cons x xs ih => simp_all [PyData.canLay0, PyData.canLayAll0, e.lay]), fun xs => by
    have := depthAll_map e xs
    simp only [PyData.depth]
    omega⟩
theorem enc_tuple (e : Enc f n) : Enc (fun xs : List α => PyData.tuple (xs.map f)) (n + 1) := ⟨fun x y => eqvAll_map e x y, fun xs => by
    simp only [PyData.canLay0]
    first | (rw [List.all_eq_true]; intro d hd; obtain ⟨x, _, rfl⟩ := List.mem_map.mp hd; exact e.lay x) | (induction xs with | nil => rfl | cons x xs ih => simp_all [PyData.canLay0, PyData.canLayAll0, e.lay]), fun xs => by
    have := depthAll_map e xs
    simp only [PyData.depth]
    omega⟩
end
theorem enc_bool : Enc PyData.bool 1 := ⟨fun x y => by
    show (x == y) = decide (x = y)
    rw [Bool.eq_iff_iff]; simp, fun _ => rfl, fun _ => by show PyData.depth (.bool _) ≤ 1; simp [PyData.depth]⟩
theorem enc_dT : Enc dT 2 := enc_tuple enc_int
theorem enc_dL : Enc dL 2 := enc_list enc_int
section
variable {K : PySem.W.Frag} {M : Ms} {α : Type} [DecidableEq α] {f : α → PyData} {n : Nat}
theorem rv_eqE (e : Enc f n) (h : n ≤ 64) {x y : α} : RV (rEqD K) (D K (f x)) (D K (f y)) M (D K (.bool (decide (x = y)))) M := by
  have := rv_eqD (K := K) (M := M) (e.shaped h x) (e.shaped h y)
  rw [e.eq] at this
  exact this
theorem rv_neE (e : Enc f n) (h : n ≤ 64) {x y : α} : RV (rNeD K) (D K (f x)) (D K (f y)) M (D K (.bool (!decide (x = y)))) M := by
  have := rv_neD (K := K) (M := M) (e.shaped h x) (e.shaped h y)
  rw [e.eq] at this
  exact this
end
/-! ### a list or a tuple -/
def iOr (wi wj : TI) : TI := fun σ H R => wi σ H R ∨ wj σ H R
theorem pi_or {X : Cx} {tg l : PySem.Expr} {wi wj : TI} (h : PI X tg l wi) (h' : PI X tg l wj) : PI X tg l (iOr wi wj) := ⟨fun pins s σ H R I q => q.elim (h.run pins s σ H R I) (h'.run pins s σ H R I)⟩
section
variable {K : PySem.W.Frag} {E : Ent} {M M1 : Ms} {Γ : Gm} {O : MO} {wi wj : TI} {g : TG} {tu tz : TS} {D1 : Ends} {t : TT} {te : TE} {vs : List Nat}
theorem for_or1 (h : Nx E Γ M (tFor wi g tu D1)) : Nx E Γ M (tFor (iOr wi wj) g tu D1) := fun σ H a => .inl (h σ H a)
theorem for_or2 (h : Nx E Γ M (tFor wj g tu D1)) : Nx E Γ M (tFor (iOr wi wj) g tu D1) := fun σ H a => .inr (h σ H a)
end
/-- the word as a tuple or as a list -/
def dW (b : Bool) (l : List Int) : PyData := if b then dT l else dL l
section
variable {K : PySem.W.Frag} {E : Ent} {M M1 : Ms} {Γ : Gm} {O : MO} {P : MP} {wi wj : TI} {g : TG} {tu tz : TS} {D1 : Ends} {t : TT} {te ta tb : TE} {vs : List Nat} {l : List Int} {b : Bool} {v i : Nat}
theorem go_forW (e : Γ[v]? = some (some (D K (dW b l)))) (J : Nat → Gm → Ms → Prop) (h0 : J 0 Γ M)
    (hs : ∀ E', Le E' E → ∀ n x, l[n]? = some x → ∀ Γ' M', J n Γ' M' → Nx E' (Γ'.set i (some (D K (.int x)))) M' (tu { D1 with nx := JA E' (J (n + 1)), ct := JA E' (J (n + 1)), bk := D1.nx }))
    (hd : ∀ Γ' M', J l.length Γ' M' → Nx E Γ' M' D1.nx) : Nx E Γ M (tFor (iOr (iTup K (tVar v)) (iList K (tVar v))) (gName i) tu D1) := by
  have hs2 : ∀ E', Le E' E → ∀ n P, (l.map fun x => D K (.int x))[n]? = some P → ∀ Γ' M', J n Γ' M' → Nx E' (Γ'.set i (some P)) M' (tu { D1 with nx := JA E' (J (n + 1)), ct := JA E' (J (n + 1)), bk := D1.nx }) := fun E' hE n P hP Γ' M' hJ => by
    rw [List.getElem?_map] at hP
    obtain ⟨x, hx, rfl⟩ := Option.map_eq_some_iff.mp hP
    exact hs E' hE n x hx Γ' M' hJ
  have hd2 : ∀ Γ' M', J (l.map fun x => D K (.int x)).length Γ' M' → Nx E Γ' M' D1.nx := by rw [List.length_map]; exact hd
  cases b with
  | true => exact for_or1 (go_forT ((ev_var (P := D K (dT l)) e).weak le_dT) J h0 hs2 hd2)
  | false => exact for_or2 (go_forL ((ev_var (P := D K (dL l)) e).weak le_dL) J h0 hs2 hd2)
theorem q_forW (e : Γ[v]? = some (some (D K (dW b l)))) (J : Nat → Gm → Ms → Prop) (h0 : J 0 Γ M)
    (hs : ∀ E', Le E' E → ∀ n x, l[n]? = some x → ∀ Γ' M', J n Γ' M' → Nx E' (Γ'.set i (some (D K (.int x)))) M' (tu { D1 with nx := JA E' (J (n + 1)), ct := JA E' (J (n + 1)), bk := tz D1 }))
    (hd : ∀ Γ' M', J l.length Γ' M' → Nx E Γ' M' (tz D1)) : Nx E Γ M (tSeq (tFor (iOr (iTup K (tVar v)) (iList K (tVar v))) (gName i) tu) tz D1) := go_forW (D1 := { D1 with nx := tz D1 }) e J h0 hs hd
/-- [x] * n -/
theorem evn_rep {z : Int} (h : EvN ta Γ M (ML [P]) M1) (hb : ∀ M, Ev tb Γ M (D K (.int z)) M) (hz : 0 ≤ z ∧ z ≤ 1000) : EvN (tOp rRep ta tb) Γ M (ML (List.replicate z.toNat P)) M1 := fun E F σ H a c Q k =>
  h E F σ H a c _ fun q F1 H1 f1 e1 g1 => hb _ E F1 σ H1 g1 (c.mono e1) _ fun y F2 H2 e2 g2 p2 => by
    cases dp_int p2
    obtain ⟨_, o, ho, ws, rfl, s⟩ := g2.at (j := 0) rfl
    obtain ⟨x, rfl, px⟩ := ps1 s
    refine ⟨q, z, [x], rfl, rfl, ho, by omega, by omega, sz_of (by simp; omega), fun p hp => ?_⟩
    have g3 := (g2.new (O := ML (List.replicate z.toNat P)) (o := .lst (List.replicate z.toNat [x]).flatten) hp ⟨_, rfl, ?_⟩).drop (List.Sublist.cons₂ _ (List.sublist_cons_self _ _))
    · exact k p F2 _ (g2.fresh hp) (e1.trans e2) g3
    · generalize z.toNat = m
      induction m with
      | zero => exact .nil
      | succ m ih => exact .cons px ih
end
/-! ### a, b = e -/
section
variable {K : PySem.W.Frag} {E : Ent} {M M1 : Ms} {Γ : Gm} {D1 : Ends} {tz : TS} {te : TE} {i j : Nat}
theorem q_unp2 {α : Type} {φ : α → Prop} {R1 R2 : α → MP} (h : Ev te Γ M (PEx fun x => PAn (φ x) (PTu K [R1 x, R2 x])) M1) (k : ∀ x, φ x → Nx E ((Γ.set i (some (R1 x))).set j (some (R2 x))) M1 (tz D1)) :
    Nx E Γ M (tSeq (tAsg te (gTup K 2 (gCons (gName i) (gCons (gName j) gNil)))) tz D1) := fun σ H ⟨F, a, b⟩ => h E F σ H a b _ fun v F1 H1 e1 g1 ⟨x, hx, p, vs, ev, s, q⟩ => by
  obtain ⟨y, z, rfl, hy, hz⟩ := ps2 q
  exact ⟨p, [y, z], ev, Evl.ex_t g1.ex s, rfl, y, [z], rfl, z, [], rfl, rfl, k x hx _ _ ⟨F1, g1, ((b.mono e1).set i hy).set j hz⟩⟩
theorem rv_catT {a b : List Int} (h : a.length + b.length ≤ 100000) : RV (rCatA K) (D K (dT a)) (D K (dT b)) M (D K (dT (a ++ b))) M := fun E F H x y g p1 p2 Q k => by
  obtain ⟨p, vs, rfl, s, q⟩ := le_dT _ _ p1
  obtain ⟨p', vs', rfl, s', q'⟩ := le_dT _ _ p2
  have e1 := ints_map q; have e2 := ints_map q'
  subst e1; subst e2
  refine ⟨p, p', _, _, rfl, rfl, Evl.ex_t g.ex s, Evl.ex_t g.ex s', sz_of (by simpa using h), fun e => ?_, fun _ e => ?_, fun _ _ r hr => ?_⟩
  · have : a = [] := by simpa using e
    subst this
    exact k _ F H (Evl.Ex.refl _) g (dT_le _ _ ⟨p', _, rfl, s', q'⟩)
  · have : b = [] := by simpa using e
    subst this
    rw [List.append_nil] at k
    exact k _ F H (Evl.Ex.refl _) g (dT_le _ _ ⟨p, _, rfl, s, q⟩)
  · refine k _ _ _ (Evl.Ex.new (Evl.fresh_back g.ex hr)) (g.laid hr) (dT_le _ _ ⟨r, _, rfl, SqT.of upd_same, ?_⟩)
    rw [← List.map_append]
    exact map_ints _
end
section
variable {K : PySem.W.Frag} {M M1 : Ms} {Γ : Gm} {te : TE} {α : Type} {f : α → PyData} {xs : List α}
theorem ev_lenM (h : Ev te Γ M (D K (.list (xs.map f))) M1) : Ev (tCB (rLn K) (tCons te tNil)) Γ M (D K (.int xs.length)) M1 := by
  have := ev_cb (ea_cons h ea_nil) (rc_lenD (K := K) (ds := xs.map f) (M := M1))
  rw [List.length_map] at this
  exact this
theorem ev_lenMT (h : Ev te Γ M (D K (.tuple (xs.map f))) M1) : Ev (tCB (rLn K) (tCons te tNil)) Γ M (D K (.int xs.length)) M1 := by
  have := ev_cb (ea_cons h ea_nil) (rc_lenDT (K := K) (ds := xs.map f) (M := M1))
  rw [List.length_map] at this
  exact this
end
end Hq
namespace Hq
open PySem L2
section
variable {K : PySem.W.Frag} {E : Ent} {M : Ms} {Γ : Gm} {O : Nat → MO} {D1 : Ends} {tz : TS} {te : TE} {tr : TA} {i j : Nat}
theorem Pt.perm {F H : Hp} {M M' : Ms} (h : Pt E F M H) (p : M.Perm M') : Pt E F M' H := ⟨h.gr, ⟨h.wd.ex, (p.map _).nodup_iff.mp h.wd.nd, fun r hr => h.wd.own r (p.mem_iff.mpr hr)⟩, fun r hr => h.fr r (p.mem_iff.mpr hr)⟩
end
section
variable {K : PySem.W.Frag} {M M1 : Ms} {Γ : Gm} {te : TE} {b : Bool} {l ns : List Int} {q : Addr} {j : Nat}
theorem rv_ixW {i x : Int} (h0 : 0 ≤ i) (h : (l.map PyData.int)[i.toNat]? = some (.int x)) : RV (rIx K) (D K (dW b l)) (D K (.int i)) M (D K (.int x)) M := by
  cases b with
  | true => exact rv_ixDT (ds := l.map PyData.int) h0 h
  | false => exact rv_ixDL (ds := l.map PyData.int) h0 h
theorem ev_lenW (h : Ev te Γ M (D K (dW b l)) M1) : Ev (tCB (rLn K) (tCons te tNil)) Γ M (D K (.int l.length)) M1 := by
  cases b with
  | true => exact ev_lenMT (f := PyData.int) h
  | false => exact ev_lenM (f := PyData.int) h
end
theorem pi_listK {Y : Cx} {K : PySem.W.Frag} {tg l : PySem.Expr} {tl : TE} (e : Y.K = K) (hl : PE Y l tl) : PI Y tg l (iList K tl) := e ▸ pi_list hl
theorem pi_tupK {Y : Cx} {K : PySem.W.Frag} {tg l : PySem.Expr} {tl : TE} (e : Y.K = K) (hl : PE Y l tl) : PI Y tg l (iTup K tl) := e ▸ pi_tup hl
end Hq
namespace Hq
open PySem L2
/-! ### xs.index(y, lo): an item of a list of ints from a place on -/
section
variable {K : PySem.W.Frag} {E : Ent} {M M1 M2 : Ms} {Γ : Gm} {P : MP} {O : MO} {q : Addr} {j : Nat} {te ta tb ta2 tb2 tl : TE} {tr : TA} {D1 : Ends} {tz : TS}
/-! ### xs[i] += e -/
theorem c_fld {Y : Cx} {e : PySem.Expr} {f : Str} {pos : Pos} (e2 : Y.K = K) (he : PE Y e ta) (hb : attributeBase e f Y.env (eval e Y.env) = eval e Y.env) : PE Y (.Attribute e f pos) (tFld K ta f) := e2 ▸ pe_fld he hb
/-! ### xs[i], xs[i2] = x, y -/
theorem call1m {ps : List MP} {O O' : MO} {sp : Sp} {X : XK} (h : EvA tr Γ M ps M1) (e : M1[j]? = some (q, O)) (hs : ∀ vs H Q, Prom ps [(q, O)] P [(q, O')] vs H Q → sp vs H Q X) : Ev (tCall sp [] X tr) Γ M P (M1.set j (q, O')) := ev_call h (rc_prom1 e fun vs H Q z => by rw [List.append_nil]; exact hs vs H Q z)
/-! ### t[lo:hi] -/
def EvP (to : TO) (Γ : Gm) (M : Ms) (o : Option Int) : Prop := ∀ E F σ H, Pt E F M H → EnvOk F σ Γ → ∀ Q : Option Int → Hp → Prop, (∀ F' H', Ex F F' → Pt E F' M H' → Q o H') → to σ H Q
theorem ep_none : EvP tNoPart Γ M none := fun E F σ H a b Q k => k F H (Evl.Ex.refl _) a
theorem ep_some {i : Int} (h : Ev te Γ M (D K (.int i)) M) : EvP (tPart te) Γ M (some i) := fun E F σ H a b Q k => h E F σ H a b _ fun v F1 H1 e1 g1 p1 => by
  cases dp_int p1
  exact ⟨i, rfl, k _ _ e1 g1⟩
def cutI (l : List Int) (lo hi : Option Int) : List Int := (l.drop (HT.sIx l.length 0 lo)).take (HT.sIx l.length l.length hi - HT.sIx l.length 0 lo)
theorem ev_slT {l : List Int} {lo hi : Option Int} {tl th : TO} (h : Ev te Γ M (D K (dT l)) M1) (h1 : EvP tl Γ M1 lo) (h2 : EvP th Γ M1 hi) : Ev (tSl (rSlA K) te tl th) Γ M (D K (dT (cutI l lo hi))) M1 := fun E F σ H a b Q k =>
  h E F σ H a b _ fun v F1 H1 e1 g1 p1 => h1 E F1 σ H1 g1 (b.mono e1) _ fun F2 H2 e2 g2 => h2 E F2 σ H2 g2 (b.mono (e1.trans e2)) _ fun F3 H3 e3 g3 => by
    have e23 := e2.trans e3
    obtain ⟨p, vs, rfl, s, qq⟩ := le_dT _ _ ((D K (dT l)).mono e23 p1)
    have es := ints_map qq
    subst es
    have hl : (l.map V.int).length = l.length := List.length_map _
    refine ⟨p, _, rfl, Evl.ex_t g3.ex s, fun hw => ?_, fun hw r hr => ?_⟩
    · rw [hl] at hw
      have : cutI l lo hi = l := by unfold cutI; rw [hw.1, hw.2]; simp
      rw [this] at k
      exact k _ _ _ (e1.trans e23) g3 (dT_le _ _ ⟨p, _, rfl, s, map_ints _⟩)
    · have ex := Evl.Ex.new (o := .tup (cutV (l.map V.int) lo hi)) (Evl.fresh_back g3.ex hr)
      refine k _ _ _ ((e1.trans e23).trans ex) (g3.laid hr) (dT_le _ _ ⟨r, (cutI l lo hi).map V.int, rfl, ?_, map_ints _⟩)
      have : cutV (l.map V.int) lo hi = (cutI l lo hi).map V.int := by
        unfold cutV cutI
        rw [hl, List.map_take, List.map_drop]
      rw [this]
      exact SqT.of upd_same
theorem cut_take {l : List Int} {a : Nat} : cutI l none (some (a : Int)) = l.take a := by
  unfold cutI
  rw [HT.sIx_none, HT.sIx_nat]
  simp
/-! ### x is None -/
end
end Hq
namespace Hq
open PySem L2
section
variable {K : PySem.W.Frag} {E : Ent} {M M1 M2 : Ms} {Γ : Gm} {P : MP} {O : MO} {q : Addr} {j : Nat} {te ta tb ta2 tb2 tl : TE} {tr : TA} {D1 : Ends} {tz : TS} {t u : TT}
theorem units65 {k : Nat} {A : Around} (r : Room k A) : A.units + 65 < cLine := by have := r.un; omega
/-! ### l.index(x), nested data -/
theorem c_indexD {Y : Cx} (e : Y.K = K) (hu : Y.A.units + 65 < cLine) : MtR Y "list.index" (rIndexD K) := e ▸ mt_indexD hu
theorem c_bm {Y : Cx} {o e : PySem.Expr} {es : List PySem.Expr} {to : TE} {t : TA} {name : Str} {apos cpos : Pos} {T id : String} {r : V → List V → Hp → VK → Prop} (eK : Y.K = K) (pa : PlainAttrs T) (slot : Slot T name id) (hty : typeOf (.builtin id) = pure (.type "method_descriptor")) (hm : MtR Y id r) (ho : PE Y o to) (ha : PA Y (e :: es) t)
    (hbase : attributeBase o name Y.env (eval o Y.env) = eval o Y.env := by rfl)
    (hf : ((backTo cpos (starEach (e :: es) Y.env)).all (fun x => !x.1) && (backToKw cpos (keywordEach [] Y.env)).all (fun x => x.1.isSome) && decide ((e :: es).length + ([] : List Keyword).length + (if ([] : List Keyword).isEmpty then 0 else 1) < 30)) = true := by rfl)
    (hline : (apos.endLine == cpos.line) = true := by rfl) (hs : starEach (e :: es) Y.env = (false, eval e Y.env) :: starEach es Y.env := by rfl) (hp : (backTo cpos (starEach es Y.env)).any (·.1) = false := by rfl) :
    PE Y (.Call (.Attribute o name apos) (e :: es) [] cpos) (tBM K T r to t) := by
  subst eK
  exact pe_bm pa slot hty hm ho ha hbase hf hline hs hp
theorem Enc.all_shaped {α : Type} [DecidableEq α] {f : α → PyData} {n : Nat} (e : Enc f n) (h : n + 1 ≤ 64) (l : List α) : SeqAt.shaped (.list (l.map f)) = true := (enc_list e).shaped h l
/-! ### max of two, int of a truth value -/
theorem et_andL {a : Bool} (h1 : EvT t Γ M (· = a) M1) (h2 : a = true → EvT u Γ M1 (fun _ => True) M1) : EvT (tAnd t u) Γ M (fun z => z = true → a = true) M1 := fun E F σ H x c Q k => h1 E F σ H x c _ fun z F1 H1 e1 g1 hz => by
  subst hz
  cases z with
  | true => exact h2 rfl E F1 σ H1 g1 (c.mono e1) _ fun z F2 H2 e2 g2 hz => k z F2 H2 (e1.trans e2) g2 fun _ => rfl
  | false => exact k false F1 H1 e1 g1 fun h => h
end
end Hq
namespace Hq
open PySem L2
theorem units1 {k : Nat} {A : Around} (r : Room k A) : A.units + 1 < cLine := by have := r.un; omega
/-! ### {t: e} with a tuple as key -/
/-! ### tuples made here; a dict with them as keys -/
/-- a tuple of ints that stands in the heap itself -/
def NT (l : List Int) : MP := ⟨fun F v => ∃ b, v = .ref b ∧ F b = some (.tup (l.map V.int)), fun e ⟨b, h1, h2⟩ => ⟨b, h1, e _ _ h2⟩⟩
section
variable {K : PySem.W.Frag} {E : Ent} {F H : Hp} {M M1 M2 : Ms} {Γ : Gm} {P : MP} {O : MO} {q : Addr} {j : Nat} {te ta tb tk tv td : TE} {tr : TA} {D1 : Ends} {tz : TS} {t u : TT} {l a b : List Int} {L : List (List Int)}
theorem nt_T : (NT l).le (PTu K (l.map fun n => D K (.int n))) := fun F v ⟨p, h1, h2⟩ => ⟨p, l.map V.int, h1, SqT.of h2, map_ints l⟩
theorem nt_D : (NT l).le (D K (dT l)) := MP.le_trans nt_T dT_le
/-! made here: tuple(t), (x, y), t[a:b], t + u -/
theorem rc_tupleNL {l : List Int} : RC (rTuple K) [PLi K (l.map fun n => D K (.int n))] M (NT l) M := fun E F H vs g h Q k => by
  obtain ⟨v, rfl, b, ws, rfl, s, p⟩ := ps1 h
  have es := ints_map p
  subst es
  refine ⟨b, _, rfl, .inl ⟨Evl.ex_l g.ex s, fun r hr => ?_⟩⟩
  exact k _ _ _ (Evl.Ex.new (Evl.fresh_back g.ex hr)) (g.laid hr) ⟨r, rfl, upd_same⟩
theorem ev_tupNOf {φ : List Int → Prop} (h : EvN te Γ M (MX fun ns : List Int => MA (φ ns) (MInts K ns)) M1) : Ev (tCB (rTuple K) (tCons te tNil)) Γ M (PEx fun ns : List Int => PAn (φ ns) (NT ns)) M1 :=
  ev_cb (ea_cons ((ev_fr h).weak (MP.le_trans fr_X (PEx.le fun x => MP.le_trans fr_A (PAn.le fun _ => fr_L (K := K))))) ea_nil) (RC.ex1 fun ns => RC.an1 fun hφ => rc_tupleNL.weak (MP.le_trans (PAn.in hφ) (PEx.in (R := fun ns : List Int => PAn (φ ns) (NT ns)) ns)))
end
end Hq
namespace Hq
open PySem L2
/-! ### sorted(xs) of tuples of ints, none of them empty -/
end Hq
namespace Hq
open PySem L2
end Hq
namespace Hq
open PySem L2
section
variable {K : PySem.W.Frag} {E : Ent} {F H : Hp} {M M1 M2 : Ms} {Γ : Gm} {P : MP} {O : MO} {q : Addr} {j : Nat} {te ta tb tk tv td : TE} {tr : TA} {D1 : Ends} {tz : TS} {t u : TT} {l a b : List Int} {L : List (List Int)} {ps : List MP}
theorem c_notInD {Y : Cx} (e : Y.K = K) (hu : Y.A.units + 65 < cLine) : OpR Y (compareOp .NotIn) (rNotInD K) := e ▸ op_notInD hu
theorem any_enc {α : Type} [DecidableEq α] {f : α → PyData} {n : Nat} (en : Enc f n) (x : α) : ∀ l : List α, ((l.map f).any fun z => PyData.eqv z (f x)) = decide (x ∈ l)
  | [] => rfl
  | y :: l => by
    rw [List.map_cons, List.any_cons, en.eq, any_enc en x l]
    by_cases h1 : y = x
    · subst h1; simp
    · have h2 : ¬ x = y := fun e => h1 e.symm
      by_cases h3 : x ∈ l <;> simp [h1, h2, h3]
theorem ev_lenI (h : Ev te Γ M (Own q) M1) (e : M1[j]? = some (q, MInts K l)) : Ev (tCB (rLn K) (tCons te tNil)) Γ M (D K (.int l.length)) M1 := by
  have := ev_cb (ea_cons h ea_nil) (rc_lenO (K := K) e)
  rw [List.length_map] at this
  exact this
theorem MP.of_eq {P P' : MP} (h : P = P') : P.le P' := fun _ _ p => h ▸ p
end
end Hq
namespace Hq
open PySem PySem.Spec PyProof.Rows L2
/-! ### enumerate(t), a tuple -/
set_option maxHeartbeats 1000000 in
theorem enumNew1 {v : Value} {o : Obj} {Hh : Heap → Prop} (B : Begins v o Hh) :
    Meets (Builtin.«enumerate.__new__» ⟨[.type "enumerate", v], []⟩) (fun _ R s => Hh s.heap ∧
      R (.ok (.ret (.ref (s.heap.push o).objs.size))) { s with heap := (s.heap.push o).push { cls := .type "enumerate", data := .fields #[.none, .bool false, .ref s.heap.objs.size, rawInt 0, .none, .none] } }) :=
  .of_wp fun prog w A R s hh => by
    obtain ⟨hp, g, d, tk, os⟩ := s
    obtain ⟨h1, hr⟩ := hh
    have sb := sub_enumerate
    have q1 : ∀ {A' : Around} {E : Value → Shared → Prop} {Q : Value → Shared → Prop}, Q (.ref hp.objs.size) ⟨hp.push o, g, d, tk, os⟩ → wpAny (model prog w) A' (pyIter v) Q E ⟨hp, g, d, tk, os⟩ :=
      fun q => B.iter prog w _ _ ⟨hp, g, d, tk, os⟩ _ h1 q
    wp_walk using q1
    refine wpAny_stack_any fun st => wpAny_pure ?_
    split
    · rename_i c _ _ _ _ _
      cases (c == Value.type "enumerate") <;> (wp_walk using q1; exact ⟨_, rfl, hr⟩)
    · wp_walk using q1
      exact ⟨_, rfl, hr⟩
section
variable {prog : Program} {w : World} {A : Around} {E : Value → Shared → Prop} {s : Shared}
theorem enumBegins1 {v : Value} {o : Obj} {Hh : Heap → Prop} {Q : Value → Shared → Prop} (B : Begins v o Hh) (h1 : Hh s.heap)
    (h : ∀ h', IsEnum h' (s.heap.objs.size + 1) s.heap.objs.size 0 .none → h'.get? s.heap.objs.size = some o → h'.objs.size = s.heap.objs.size + 2 →
      (∀ b o, s.heap.get? b = some o → h'.get? b = some o) → Q (.ref (s.heap.objs.size + 1)) { s with heap := h' }) :
    wpAny (model prog w) A (call (.type "enumerate") [v]) Q E s := by
  refine callType_new F.called_enumerate (by decide) (F.typeCall_enumerate_1 _) (F.newCall_enumerate_1 _) (fun obj => F.args_object_init_2 obj _) F.entry_enumerate_new (enumNew1 B) ⟨h1, ?_⟩
  have hz : (s.heap.push o).objs.size = s.heap.objs.size + 1 := Heap.size_push ..
  show _ ∧ _
  rw [hz]
  have he : IsEnum ((s.heap.push o).push { cls := .type "enumerate", data := .fields #[.none, .bool false, .ref s.heap.objs.size, rawInt 0, .none, .none] }) (s.heap.objs.size + 1) s.heap.objs.size 0 .none := by
    have z := Heap.get?_push_size (s.heap.push o) (o := { cls := .type "enumerate", data := .fields #[.none, .bool false, .ref s.heap.objs.size, rawInt 0, .none, .none] }) rfl
    rw [hz] at z; exact z
  exact ⟨⟨_, he, rfl⟩, h _ he (Heap.get?_push_of_some _ (Heap.get?_push_size _ B.free)) (by rw [Heap.size_push, hz]) fun b o x => Heap.get?_push_of_some _ (Heap.get?_push_of_some _ x)⟩
end
/-- the tuple at a as it stands at each turn, each item in a new pair -/
def IteT (K : PySem.W.Frag) (a : Addr) : It :=
  ⟨fun i H => ∃ (xs : List V) (x : V), SqT K H a xs ∧ xs[i]? = some x, fun i H v H' => ∃ T x, v = .ref T ∧ H T = none ∧ H' = upd H T (.tup [.int (i : Nat), x]) ∧ ∀ xs, SqT K H a xs → xs[i]? = some x, fun i H => ∃ xs : List V, SqT K H a xs ∧ xs.length ≤ i⟩
theorem turnEnumT {P : Program} {w : World} {K : PySem.W.Frag} {elts : List Expr} {kk : Nat} {tpos : Pos} (a e it : Addr) (hai : a ≠ it) (hae : a ≠ e) :
    Turn P w K (.Tuple elts kk tpos) (IteT K a) [e, it] e (fun i h => (∃ old, IsEnum h e it ((i : Nat) : Int) old) ∧ h.IsTupleIter it a i ∧ e ≠ it) where
  mem := by simp
  obj := fun i h st b hb => by
    obtain ⟨⟨old, he⟩, ⟨o, ho, hc, hd⟩, _⟩ := st
    have e' : b = e ∨ b = it := by simpa using hb
    rcases e' with z | z
    · rw [z]; exact ⟨_, he, fun v q => nomatch q⟩
    · rw [z]; exact ⟨o, ho, fun v q => by rw [hd] at q; cases q⟩
  keep := fun i h h' st k => by
    obtain ⟨⟨old, he⟩, hi, hne⟩ := st
    exact ⟨⟨old, k e (by simp) _ he⟩, hi.at fun o q => k it (by simp) o q, hne⟩
  item := by
    intro X hP hw hK hc i pins s σ H E I hf st hg
    subst hP hw hK
    obtain ⟨⟨old, he⟩, hit, hne⟩ := st
    obtain ⟨xs, x, hq, hx⟩ := hg
    obtain ⟨its, rv, p, hz⟩ := I.tuple hq
    obtain ⟨u, hu, ru⟩ := rv.get hx
    have p : s.heap.IsTuple a its.toArray := p
    have hel : e < s.heap.objs.size := Heap.lt_size he
    have hil : it < s.heap.objs.size := by obtain ⟨_, q, _⟩ := hit; exact Heap.lt_size q
    have hlt : i < its.toArray.size := by
      have := (List.getElem?_eq_some_iff.mp hu).1
      simpa using this
    have DD := Draws.tuple (prog := X.prog) (w := X.w) (A := X.A.in1) (I.ok.hd hc) it a hai its.toArray
    refine wpAny_pyNext_enum_itemD DD he (show s.heap.IsTupleIter it a i ∧ s.heap.IsTuple a its.toArray from ⟨hit, p⟩) hlt hne (by simp only [List.mem_cons, List.not_mem_nil, or_false, not_or]; exact ⟨hne, fun q => hae q.symm⟩) fun x2 h' tk hP ho hst' hT hsz hk => ?_
    have ex2 : u = x2 := by
      have hu2 : its.toArray[i]? = some u := by simpa using hu
      rw [hu2] at hP
      exact Option.some.inj hP
    subst ex2
    refine ⟨_, rfl, wpAny_letOwnedTupleGo_enum (s := { s with heap := h', toks := tk + 1 }) ho fun h'' he' sb => ?_⟩
    have hT2 : h''.get? s.heap.objs.size = some { cls := .type "tuple", data := .seq #[.int i tk, u] } := (sb.2 _ (Nat.ne_of_gt hel)).trans hT
    have new : ObjOk X.prog X.w (upd H s.heap.objs.size (.tup [.int (i : Nat), x])) h'' s.heap.objs.size (.tup [.int (i : Nat), x]) :=
      ⟨by show 2 ≤ sizeLine; decide, [.int i tk, u], .cons ⟨_, rfl⟩ (.cons ru .nil), ⟨_, hT2, rfl, _, rfl⟩⟩
    have I1 : Inv X pins σ (upd H s.heap.objs.size (.tup [.int (i : Nat), x])) { s with heap := h'', toks := tk + 1 } :=
      I.turnedNew (ch := [e, it]) (fun b ob hb q => (sb.2 b (fun z => hb (by simp [z]))).trans (hk b ob (fun z => hb (by simp [z])) (fun z => hb (by simp [z])) q)) hf (Nat.le_refl _) new
    refine ⟨.ref s.heap.objs.size, _, I1, rfl, ⟨_, x, rfl, I.hok.fresh (Nat.le_refl _), rfl, fun ys hy => by rw [I.tuple_inj hy hq]; exact hx⟩, ⟨⟨u, ?_⟩, hst'.1.at fun o q => (sb.2 it (Ne.symm hne)).trans q, hne⟩, fun b hb => ?_⟩
    · have e1 : ((i + 1 : Nat) : Int) = (i : Int) + 1 := by omega
      rw [e1]; exact he'
    · have hb' : b < s.heap.objs.size := by
        have e' : b = e ∨ b = it := by simpa using hb
        rcases e' with z | z
        · rw [z]; exact hel
        · rw [z]; exact hil
      rw [upd_ne (Nat.ne_of_lt hb')]
      exact (hf b hb).1
  done := by
    intro X hP hw hK hc i pins s σ H E I hf st hg
    subst hP hw hK
    obtain ⟨⟨old, he⟩, hit, hne⟩ := st
    obtain ⟨xs, hq, hx⟩ := hg
    obtain ⟨its, rv, p, hz⟩ := I.tuple hq
    obtain ⟨f0, f1, f2, f3, f4, f5⟩ := hf it (by simp)
    have hl := rv.length
    have p : s.heap.IsTuple a its.toArray := p
    have hT : s.TypeIs (.ref e) "enumerate" := ⟨_, he, rfl⟩
    unfold pyNext
    refine wpAny_bind (wpAny_attempt (wpAny_callSpecial?_slot (name := Str.ofString "__next__") hT F.slot_enumerate_next
      (wpAny_call_entry F.slot_enumerate_next hT F.entry_enumerate_next ?_ (F.args_enumerate_next_1 _))))
    show wpAny _ _ (field (.ref e) 2 >>= fun _ => _) _ _ s
    refine wpAny_bind (wpAny_field he rfl (x := .ref it) rfl ?_)
    refine wpAny_bind (wpAny_nextOf_tuple_end (A := X.A.in1) (I.ok.hd hc) hit p (by simp; omega) fun h' x he' hx' => ?_)
    obtain ⟨o, ho, hcl⟩ := hx'
    refine wpAny_bind (wpAny_isInstance (T := "StopIteration") (b := true) ⟨o, ho, hcl⟩ isSubtype_stop ?_)
    exact wpAny_pure ⟨rfl, I.turned (t' := s.toks) (fun b o hb q => he' b o hb q) f0 f1 f3 f4 f5⟩
  self := fun A i s Q E st h => let ⟨⟨_, he⟩, _⟩ := st; wpAny_pyIter_enum he h
def iEnumT (K : PySem.W.Frag) (ta : TA) : TI := fun σ H R => ta σ H fun vs H1 => ∃ a xs, vs = [.ref a] ∧ SqT K H1 a xs ∧ R (IteT K a) H1
theorem pi_enumT {X : Cx} {e : PySem.Expr} {ta : TA} {p pos tpos : Pos} {elts : List PySem.Expr} {kk : Nat} (hg : Gl X "enumerate") (hm : X.mg "enumerate" = none) (ha : PA X [e] ta) (hs : starEach [e] X.env = [(false, eval e X.env)] := by rfl) :
    PI X (.Tuple elts kk tpos) (.Call (.Name "enumerate" p) [e] [] pos) (iEnumT X.K ta) := by
  refine ⟨fun pins s σ H R I h => ?_⟩
  refine Call_ (ld_blt I hg hm boot_enumerate (PyProof.Rows.callWith_type1 (thn (ha.run pos pins s σ H _ I h) fun us s1 ⟨vs, H1, I1, r1, q1⟩ => ?_) hs rfl))
  obtain ⟨a, xs, ex, hq, q⟩ := q1
  subst ex
  cases r1 with
  | cons r rr =>
    cases rr
    cases r
    obtain ⟨its, rv, p', hz⟩ := I1.tuple hq
    have p' : s1.heap.IsTuple a its.toArray := p'
    have hal : a < s1.heap.objs.size := by obtain ⟨o, q, _⟩ := id p'; exact Heap.lt_size q
    refine enumBegins1 (begins_tuple a its.toArray) p' fun h' he hit hsz hk => wpAny_pyIter_enum he ?_
    have I2 : Inv X pins σ H1 { s1 with heap := h' } := I1.kept (t' := s1.toks) hk
    refine ⟨s1.heap.objs.size + 1, [s1.heap.objs.size + 1, s1.heap.objs.size], _, _, H1, rfl, I2, turnEnumT a (s1.heap.objs.size + 1) s1.heap.objs.size (Nat.ne_of_lt hal) (Nat.ne_of_lt (Nat.lt_succ_of_lt hal)), ⟨⟨.none, he⟩, ⟨_, hit, rfl, rfl⟩, Nat.succ_ne_self _⟩, fun b hb => ?_, q⟩
    have e' : b = s1.heap.objs.size + 1 ∨ b = s1.heap.objs.size := by simpa using hb
    have hle : s1.heap.objs.size ≤ b := by
      rcases e' with z | z
      · rw [z]; exact Nat.le_add_right _ _
      · rw [z]; exact Nat.le_refl _
    exact I1.fpOk hle (I1.hok.fresh hle)
theorem pi_enumK {X : Cx} {K : PySem.W.Frag} {e : PySem.Expr} {ta : TA} {p pos tpos : Pos} {elts : List PySem.Expr} {kk : Nat} (eK : X.K = K) (hg : Gl X "enumerate") (hm : X.mg "enumerate" = none) (ha : PA X [e] ta) (hs : starEach [e] X.env = [(false, eval e X.env)] := by rfl) :
    PI X (.Tuple elts kk tpos) (.Call (.Name "enumerate" p) [e] [] pos) (iEnum K ta) := eK ▸ pi_enum hg hm ha hs
theorem pi_enumTK {X : Cx} {K : PySem.W.Frag} {e : PySem.Expr} {ta : TA} {p pos tpos : Pos} {elts : List PySem.Expr} {kk : Nat} (eK : X.K = K) (hg : Gl X "enumerate") (hm : X.mg "enumerate" = none) (ha : PA X [e] ta) (hs : starEach [e] X.env = [(false, eval e X.env)] := by rfl) :
    PI X (.Tuple elts kk tpos) (.Call (.Name "enumerate" p) [e] [] pos) (iEnumT K ta) := eK ▸ pi_enumT hg hm ha hs
end Hq
namespace Hq
open PySem L2
section
variable {K : PySem.W.Frag} {E : Ent} {F H : Hp} {M M1 M2 : Ms} {Γ : Gm} {P : MP} {O : MO} {q : Addr} {te ta tb tl tk : TE} {tr : TA} {D1 : Ends} {tu tz : TS} {t u : TT} {ps : List MP} {i j : Nat}
abbrev gPair (K : PySem.W.Frag) (i j : Nat) : TG := gTup K 2 (gCons (gName i) (gCons (gName j) gNil))
theorem wipe_two {σ : St} {x y : V} (h : i ≠ j) : wipe (((wipe σ [i, j]).set i (some x)).set j (some y)) [i, j] = wipe σ [i, j] := by
  show ((((((σ.set j none).set i none).set i (some x)).set j (some y)).set j none).set i none) = (σ.set j none).set i none
  apply List.ext_getElem?
  intro k
  simp only [List.getElem?_set, List.length_set]
  by_cases h1 : j = k <;> by_cases h2 : i = k <;> simp [h1, h2]
theorem env_wipe2 {σ : St} (h : EnvOk F σ Γ) : EnvOk F (wipe σ [i, j]) ((Γ.set j none).set i none) := (h.forget j).forget i
section
variable {γ : Type} {zs : List γ} {RA RB G : γ → MP} {f : γ → Bool} {J : It} {Gd : Hp → Prop} {us vs : List V}
/-- a comprehension over pairs -/
theorem lc_pairs {F1 H1 : Hp} {σ : St} {Q : VK} (hij : i ≠ j) (w : Walk J zs.length Gd (YPair (fun i => us[i]?) (fun i => vs[i]?))) (hz : zs.length ≤ 50000)
    (g1 : Pt E F1 M1 H1) (b : EnvOk F1 σ Γ) (hu : Ps F1 us (zs.map RA)) (hv : Ps F1 vs (zs.map RB)) (hG : ∀ F' H', Ex F1 F' → Ex F' H' → Gd H')
    (ht : ∀ z ∈ zs, EvT t ((((Γ.set j none).set i none).set i (some (RA z))).set j (some (RB z))) M1 (· = f z) M1)
    (he : ∀ z ∈ zs, f z = true → Ev te ((((Γ.set j none).set i none).set i (some (RA z))).set j (some (RB z))) M1 (G z) M1)
    (k : ContN E F1 (ML ((zs.filter f).map G)) M1 Q) : ∀ D, H1 D = none → ∃ W : Nat → Nat → Hp → Prop, (∃ m, W 0 m (upd H1 D (.lst []))) ∧ ∀ n m H, W n m H →
      (J.stop n H ∧ Q (.ref D) H) ∨ (J.go n H ∧ ∃ Nx : Hp → Prop, (∀ H', Nx H' → ∃ m', m' < m ∧ W (n + 1) m' H') ∧ ∀ x H', J.yld n H x H' → gPair K i j x (wipe σ [i, j]) H' fun σ2 H2 => wipe σ2 [i, j] = wipe σ [i, j] ∧ t σ2 H2 fun b H3 =>
        if b = true then te σ2 H3 fun y H4 => ∃ acc, H4 D = some (.lst acc) ∧ acc.length < sizeLine ∧ Nx (upd H4 D (.lst (acc ++ [y]))) else Nx H3) := by
  intro D2 hD
  have gn : Pt ⟨F1, H1, keys M1⟩ F1 ((D2, ML []) :: M1) (upd H1 D2 (.lst [])) := g1.enter.new hD ⟨[], rfl, .nil⟩
  refine lc_it w (fun n H' => ∃ F', Pt ⟨F1, H1, keys M1⟩ F' ((D2, ML (((zs.take n).filter f).map G)) :: M1) H') ⟨F1, gn⟩ (fun n H2 _ ⟨F2, g2⟩ => hG F2 H2 g2.gr.ex g2.ex) (fun n x H2 H3 hn ⟨F2, g2⟩ y => ?_) (fun H2 ⟨F2, g2⟩ => ?_)
  · obtain ⟨T, x1, y1, rfl, hT, rfl, hx1, hy1⟩ := y
    obtain ⟨PA, hPA, hxA⟩ := paired_get' hu hx1
    obtain ⟨PB, hPB, hyB⟩ := paired_get' hv hy1
    have hzn : zs[n]? = some zs[n] := List.getElem?_eq_getElem hn
    rw [List.getElem?_map, hzn] at hPA hPB
    have hPA : RA zs[n] = PA := Option.some.inj hPA
    have hPB : RB zs[n] = PB := Option.some.inj hPB
    subst hPA; subst hPB
    generalize zs[n] = z at *
    have hm := List.mem_of_getElem? hzn
    have g3 : Pt ⟨F1, H1, keys M1⟩ F2 ((D2, ML (((zs.take n).filter f).map G)) :: M1) (upd H2 T (.tup [x1, y1])) := g2.junk hT
    refine ⟨T, [x1, y1], rfl, SqT.of upd_same, rfl, x1, [y1], rfl, y1, [], rfl, rfl, wipe_two hij, ?_⟩
    refine lc_turn g3 (((env_wipe2 (b.mono g2.gr.ex)).set i ((RA z).mono g2.gr.ex hxA)).set j ((RB z).mono g2.gr.ex hyB)) (ht z hm) (he z hm) ?_ _ fun F3 H3 e3 g4 => ⟨F3, ?_⟩
    · rw [List.length_map]
      exact Nat.lt_of_le_of_lt (Nat.le_trans (List.length_filter_le _ _) (by rw [List.length_take]; omega)) (by omega : zs.length < 100000)
    · rw [take_filter zs f n z hzn, List.map_append]
      cases hf : f z
      · rw [hf] at g4; simpa using g4
      · rw [hf] at g4; simpa using g4
  · rw [List.take_length] at g2
    exact k D2 F2 H2 (g1.fresh hD) g2.gr.ex (g1.back g2)
/-- a loop over pairs -/
theorem for_pairs {F1 H1 : Hp} {σ : St} {Q : Prop} (w : Walk J zs.length Gd (YPair (fun i => us[i]?) (fun i => vs[i]?)))
    (g1 : Pt E F1 M1 H1) (b : EnvOk F1 σ Γ) (hu : Ps F1 us (zs.map RA)) (hv : Ps F1 vs (zs.map RB)) (hG : ∀ F' H', Ex F1 F' → Ex F' H' → Gd H')
    (Jv : Nat → Gm → Ms → Prop) (h0 : Jv 0 Γ M1)
    (hs : ∀ E', Le E' E → ∀ n z, zs[n]? = some z → ∀ Γ' M', Jv n Γ' M' → Nx E' ((Γ'.set i (some (RA z))).set j (some (RB z))) M' (tu { D1 with nx := JA E' (Jv (n + 1)), ct := JA E' (Jv (n + 1)), bk := D1.nx }))
    (hd : ∀ Γ' M', Jv zs.length Γ' M' → Nx E Γ' M' D1.nx) :
    ∃ W : Nat → Nat → St → Hp → Prop, (∃ m, W 0 m σ H1) ∧ ∀ n m σ H, W n m σ H →
      (J.stop n H ∧ D1.nx σ H) ∨ (J.go n H ∧ ∃ N : St → Hp → Prop, (∀ σ' H', N σ' H' → ∃ m', m' < m ∧ W (n + 1) m' σ' H') ∧ ∀ x H', J.yld n H x H' → gPair K i j x σ H' fun σ2 H2 => tu { D1 with nx := N, ct := N, bk := D1.nx } σ2 H2) := by
  refine for_it w (fun n σ H => JA ⟨F1, H1, keys M1⟩ (Jv n) σ H) ⟨Γ, M1, h0, F1, g1.enter, b⟩ (fun n σ2 H2 _ ⟨Γ', M', _, F2, g2, _⟩ => hG F2 H2 g2.gr.ex g2.ex) (fun n x σ2 H2 H3 hn ⟨Γ', M', hJ, F2, g2, b2⟩ y => ?_) (fun σ2 H2 ⟨Γ', M', hJ, at2⟩ => hd Γ' M' hJ _ _ (at2.le g1.le))
  obtain ⟨T, x1, y1, rfl, hT, rfl, hx1, hy1⟩ := y
  obtain ⟨PA, hPA, hxA⟩ := paired_get' hu hx1
  obtain ⟨PB, hPB, hyB⟩ := paired_get' hv hy1
  have hzn : zs[n]? = some zs[n] := List.getElem?_eq_getElem hn
  rw [List.getElem?_map, hzn] at hPA hPB
  have hPA : RA zs[n] = PA := Option.some.inj hPA
  have hPB : RB zs[n] = PB := Option.some.inj hPB
  subst hPA; subst hPB
  exact ⟨T, [x1, y1], rfl, SqT.of upd_same, rfl, x1, [y1], rfl, y1, [], rfl, rfl, hs ⟨F1, H1, keys M1⟩ g1.le n _ hzn Γ' M' hJ _ _ ⟨F2, g2.junk hT, (b2.set i ((RA zs[n]).mono g2.gr.ex hxA)).set j ((RB zs[n]).mono g2.gr.ex hyB)⟩⟩
end
theorem pg_tupK {X : Cx} {es : List PySem.Expr} {k : Nat} {t : TGs} {n : Nat} {pos : Pos} (eK : X.K = K) (hc : X.calm = true) (h : PGs X es t)
    (hn : (assignEach es X.env).length = n := by rfl) (hst : (assignEach es X.env).findIdx? (·.1) = none := by rfl) : PG X (.Tuple es k pos) (gTup K n t) := eK ▸ pg_tup hc h hn hst
/-! the walks, told over what stands -/
theorem walk_enumP {a : Addr} {xs : List V} : Walk (Ite K a) xs.length (fun H => SqL K H a xs) (YPair (fun i => ((List.range xs.length).map fun n : Nat => V.int n)[i]?) (fun i => xs[i]?)) :=
  walk_enum.mono (fun _ h => h) fun n H x H' hn _ ⟨T, x1, y1, h1, h2, h3, h4, h5⟩ => ⟨T, x1, y1, h1, h2, h3, by show ((List.range xs.length).map fun n : Nat => V.int n)[n]? = some x1; rw [List.getElem?_map, List.getElem?_range hn]; exact h4, h5⟩
theorem walk_enumTP {a : Addr} {xs : List V} : Walk (IteT K a) xs.length (fun H => SqT K H a xs) (YPair (fun i => ((List.range xs.length).map fun n : Nat => V.int n)[i]?) (fun i => xs[i]?)) := by
  refine ⟨fun n _ hn q => ⟨xs, xs[n], q, by simp [hn]⟩, fun _ q => ⟨xs, q, Nat.le_refl _⟩, fun n H v H' hn q y => ?_⟩
  obtain ⟨T, x, h1, h2, h3, h4⟩ := y
  exact ⟨T, .int (n : Nat), x, h1, h2, h3, by show ((List.range xs.length).map fun n : Nat => V.int n)[n]? = _; rw [List.getElem?_map, List.getElem?_range hn]; rfl, h4 xs q⟩
theorem range_ints (n : Nat) : Ps F ((List.range n).map fun n : Nat => V.int n) ((List.range n).map fun n : Nat => D K (.int n)) := by
  generalize List.range n = l
  induction l with
  | nil => exact .nil
  | cons a l ih => exact .cons (.int _) ih
variable {α : Type} {xs : List α} {R : α → MP}
theorem zipIdx_fst {xs : List α} {R : α → MP} : (xs.zipIdx.map fun p => R p.1) = xs.map R := by
  rw [show (fun p : α × Nat => R p.1) = R ∘ Prod.fst from rfl, ← List.map_map, List.zipIdx_map_fst]
theorem zipIdx_snd {xs : List α} {K : PySem.W.Frag} : (xs.zipIdx.map fun p => D K (.int p.2)) = (List.range xs.length).map fun n : Nat => D K (.int n) := by
  rw [show (fun p : α × Nat => D K (.int p.2)) = (fun n : Nat => D K (.int n)) ∘ Prod.snd from rfl, ← List.map_map, List.zipIdx_map_snd, List.range_eq_range']
theorem evn_lcEnumT {G : α × Nat → MP} (f : α × Nat → Bool) (hij : i ≠ j) (h : Ev tl Γ M (PTu K (xs.map R)) M1) (hz : xs.length ≤ 50000)
    (ht : ∀ z ∈ xs.zipIdx, EvT t ((((Γ.set j none).set i none).set i (some (D K (.int z.2)))).set j (some (R z.1))) M1 (· = f z) M1)
    (he : ∀ z ∈ xs.zipIdx, f z = true → Ev te ((((Γ.set j none).set i none).set i (some (D K (.int z.2)))).set j (some (R z.1))) M1 (G z) M1) :
    EvN (tLc (iEnumT K (tCons tl tNil)) (gPair K i j) t te [i, j]) Γ M (ML ((xs.zipIdx.filter f).map G)) M1 := fun E F σ H a b Q k => h E F σ H a b _ fun v F1 H1 e1 g1 ⟨p, vs, hp, s, q⟩ => by
  have hl : xs.zipIdx.length = vs.length := by rw [List.length_zipIdx, paired_len q, List.length_map]
  refine ⟨p, vs, by rw [hp], Evl.ex_t g1.ex s, ?_⟩
  refine lc_pairs (K := K) (zs := xs.zipIdx) (RA := fun z => D K (.int z.2)) (RB := fun z => R z.1) (us := (List.range vs.length).map fun n : Nat => V.int n) (vs := vs) hij (by rw [hl]; exact walk_enumTP) (by rw [List.length_zipIdx]; exact hz) g1 (b.mono e1) (by rw [zipIdx_snd, ← List.length_zipIdx (l := xs), hl]; exact range_ints _) (by rw [zipIdx_fst]; exact q) (fun F' H' e e' => Evl.ex_t (e.trans e') s) ht he fun q F' H' f e g => k q F' H' f (e1.trans e) g
theorem evn_lcEnumL {G : α × Nat → MP} (f : α × Nat → Bool) (hij : i ≠ j) (h : Ev tl Γ M (PLi K (xs.map R)) M1) (hz : xs.length ≤ 50000)
    (ht : ∀ z ∈ xs.zipIdx, EvT t ((((Γ.set j none).set i none).set i (some (D K (.int z.2)))).set j (some (R z.1))) M1 (· = f z) M1)
    (he : ∀ z ∈ xs.zipIdx, f z = true → Ev te ((((Γ.set j none).set i none).set i (some (D K (.int z.2)))).set j (some (R z.1))) M1 (G z) M1) :
    EvN (tLc (iEnum K (tCons tl tNil)) (gPair K i j) t te [i, j]) Γ M (ML ((xs.zipIdx.filter f).map G)) M1 := fun E F σ H a b Q k => h E F σ H a b _ fun v F1 H1 e1 g1 ⟨p, vs, hp, s, q⟩ => by
  have hl : xs.zipIdx.length = vs.length := by rw [List.length_zipIdx, paired_len q, List.length_map]
  refine ⟨p, vs, by rw [hp], Evl.ex_l g1.ex s, ?_⟩
  refine lc_pairs (K := K) (zs := xs.zipIdx) (RA := fun z => D K (.int z.2)) (RB := fun z => R z.1) (us := (List.range vs.length).map fun n : Nat => V.int n) (vs := vs) hij (by rw [hl]; exact walk_enumP) (by rw [List.length_zipIdx]; exact hz) g1 (b.mono e1) (by rw [zipIdx_snd, ← List.length_zipIdx (l := xs), hl]; exact range_ints _) (by rw [zipIdx_fst]; exact q) (fun F' H' e e' => Evl.ex_l (e.trans e') s) ht he fun q F' H' f e g => k q F' H' f (e1.trans e) g
end
end Hq
namespace Hq
open PySem L2
section
variable {K : PySem.W.Frag} {E : Ent} {F H : Hp} {M M1 M2 : Ms} {Γ : Gm} {P P1 : MP} {O : MO} {q : Addr} {te ta tb tl tk : TE} {tr : TA} {D1 : Ends} {tu tz : TS} {t u : TT} {ps : List MP} {i j : Nat} {l : List Int}
/-- a slice of a list that stands -/
def cutG {α : Type} (l : List α) (lo hi : Option Int) : List α := (l.drop (HT.sIx l.length 0 lo)).take (HT.sIx l.length l.length hi - HT.sIx l.length 0 lo)
theorem cutG_take {α : Type} {l : List α} {a : Nat} : cutG l none (some (a : Int)) = l.take a := by
  unfold cutG
  rw [HT.sIx_none, HT.sIx_nat]
  simp
theorem cutG_drop {α : Type} {l : List α} {a : Nat} : cutG l (some (a : Int)) none = l.drop a := by
  unfold cutG
  rw [HT.sIx_none, HT.sIx_nat]
  by_cases h : a ≤ l.length
  · rw [Nat.min_eq_left h]
    apply List.take_of_length_le
    rw [List.length_drop]; omega
  · rw [List.drop_of_length_le (by omega : l.length ≤ min a l.length), List.drop_of_length_le (by omega : l.length ≤ a)]; simp
theorem paired_drop {α β : Type} {R : α → β → Prop} : ∀ {xs : List α} {ys : List β} (n : Nat), Paired R xs ys → Paired R (xs.drop n) (ys.drop n)
  | _, _, 0, h => h
  | _, _, n + 1, .nil => .nil
  | _, _, n + 1, .cons _ t => paired_drop n t
theorem paired_take {α β : Type} {R : α → β → Prop} : ∀ {xs : List α} {ys : List β} (n : Nat), Paired R xs ys → Paired R (xs.take n) (ys.take n)
  | _, _, 0, _ => .nil
  | _, _, n + 1, .nil => .nil
  | _, _, n + 1, .cons a t => .cons a (paired_take n t)
theorem evn_slM {α : Type} {R : α → MP} {xs : List α} {lo hi : Option Int} {tl th : TO} (h : Ev ta Γ M (PLi K (xs.map R)) M1) (h1 : EvP tl Γ M1 lo) (h2 : EvP th Γ M1 hi) : EvN (tSl (rSlL K) ta tl th) Γ M (ML ((cutG xs lo hi).map R)) M1 := fun E F σ H a b Q k =>
  h E F σ H a b _ fun v F1 H1 e1 g1 p1 => h1 E F1 σ H1 g1 (b.mono e1) _ fun F2 H2 e2 g2 => h2 E F2 σ H2 g2 (b.mono (e1.trans e2)) _ fun F3 H3 e3 g3 => by
    obtain ⟨p, vs, rfl, s, qq⟩ := (PLi K (xs.map R)).mono (e2.trans e3) p1
    refine ⟨p, vs, rfl, Evl.ex_l g3.ex s, fun r hr => ?_⟩
    refine k r F3 _ (g3.fresh hr) ((e1.trans e2).trans e3) (g3.new hr ⟨cutV vs lo hi, rfl, ?_⟩)
    have hl : vs.length = xs.length := by have := paired_len qq; rwa [List.length_map] at this
    unfold cutV cutG
    rw [hl, List.map_take, List.map_drop]
    exact paired_take _ (paired_drop _ qq)
/-- the last list is given away, named -/
theorem nx_own {f} {q : Addr} {l : List Int} (e : M[j]? = some (q, MInts K l)) (hq : E.H q = none) (hg : Γ[i]? = some (some (Own q))) (h : Nx E (Γ.set i (some (D K (dL l)))) (M.eraseIdx j) f) : Nx E Γ M f :=
  nx_freeze (K := K) (i := i) j e hq hg (nx_le (i := i) (P := PLi K (l.map fun n => D K (.int n))) (by
    have hi := (List.getElem?_eq_some_iff.mp hg).1
    rw [List.getElem?_set_self hi]) dL_le (by rw [List.set_set]; exact h))
end
end Hq
namespace Hq
open PySem L2
section
variable {K : PySem.W.Frag} {E : Ent} {F H : Hp} {M M1 M2 : Ms} {Γ : Gm} {P P1 : MP} {O : MO} {q : Addr} {te ta tb tl tk : TE} {tr : TA} {D1 : Ends} {tu tz : TS} {t u : TT} {ps qs : List MP} {i j v : Nat} {l : List Int} {b : Bool}
/-- *xs among arguments -/
theorem ea_starT (h : Ev te Γ M (PTu K qs) M1) (hr : EvA tr Γ M1 ps M2) : EvA (StX.tStar K te tr) Γ M (qs ++ ps) M2 := fun E F σ H a b Q k =>
  h E F σ H a b _ fun x F1 H1 e1 a1 ⟨p, vs, ex, s, q⟩ => ⟨p, vs, ex, .inl (Evl.ex_t a1.ex s), hr E F1 σ H1 a1 (b.mono e1) _ fun ws F2 H2 e2 a2 p2 => k _ F2 H2 (e1.trans e2) a2 (paired_app (q.mono e2) p2)⟩
theorem rv_ixWd {i : Int} (h0 : 0 ≤ i) (h : i.toNat < l.length) : RV (rIx K) (D K (dW b l)) (D K (.int i)) M (D K (.int (l.getD i.toNat 0))) M :=
  rv_ixW h0 (by rw [List.getElem?_map, List.getElem?_eq_getElem h, List.getD_eq_getElem?_getD, List.getElem?_eq_getElem h]; rfl)
theorem rv_ixDLd {i : Int} (h0 : 0 ≤ i) (h : i.toNat < l.length) : RV (rIx K) (D K (dL l)) (D K (.int i)) M (D K (.int (l.getD i.toNat 0))) M := rv_ixWd (b := false) h0 h
theorem rv_ixDTd {i : Int} (h0 : 0 ≤ i) (h : i.toNat < l.length) : RV (rIx K) (D K (dT l)) (D K (.int i)) M (D K (.int (l.getD i.toNat 0))) M := rv_ixWd (b := true) h0 h
end
end Hq
namespace Hq
open PySem L2
end Hq
namespace Hq
open PySem L2
/-! ### min(xs) of tuples of ints: where the first is a least one -/
section
variable {K : PySem.W.Frag} {E : Ent} {F H : Hp} {M M1 M2 : Ms} {Γ : Gm} {P : MP} {O : MO} {q : Addr} {te ta tb tl tl1 : TE} {tr : TA} {D1 : Ends} {tu tz : TS} {t t0 u : TT} {ps : List MP} {i j : Nat}
/-! ### a comprehension with two generators -/
theorem wipe_out {σ : St} {x : V} (h : i ≠ j) : wipe ((wipe σ [i, j]).set i (some x)) [i, j] = wipe σ [i, j] := by
  show ((((σ.set j none).set i none).set i (some x)).set j none).set i none = (σ.set j none).set i none
  apply List.ext_getElem?
  intro k
  simp only [List.getElem?_set, List.length_set]
  by_cases h1 : j = k <;> by_cases h2 : i = k <;> simp [h1, h2]
end
end Hq
namespace Hq
open PySem L2
/-! ### objects with all their fields known, and their methods -/
def FieldsOk (F : Hp) (fs : List (Str × V)) (fps : List (Str × MP)) : Prop := Paired (fun (x : Str × V) (g : Str × MP) => x.1 = g.1 ∧ g.2.p F x.2) fs fps
def MOb (C : Addr) (fps : List (Str × MP)) : MO := ⟨fun F o => ∃ dx fs, o = .ins C dx fs ∧ FieldsOk F fs fps, fun e ⟨dx, fs, h, p⟩ => ⟨dx, fs, h, Paired.mapP p fun _ g q => ⟨q.1, g.2.mono e q.2⟩⟩, fun ⟨dx, fs, h, _⟩ xs z => by rw [h] at z; cases z⟩
section
variable {K : PySem.W.Frag} {E : Ent} {F H : Hp} {M M1 M2 : Ms} {Γ : Gm} {P P' P1 : MP} {O O' : MO} {q C : Addr} {te ta tb tl tk : TE} {tr : TA} {D1 : Ends} {tu tz : TS} {ps qs : List MP} {i j v : Nat} {fps : List (Str × MP)} {f m : Str} {sp : Sp} {X : XK}
theorem fo_look : ∀ {fs : List (Str × V)} {fps : List (Str × MP)} {i : Nat}, FieldsOk F fs fps → fps[i]? = some (f, P) → (∀ g ∈ fps.take i, g.1 ≠ f) → ∃ x, fs.lookup f = some x ∧ P.p F x
  | _, _, _, .nil, h, _ => by simp at h
  | (n, x) :: fs, g :: fps, 0, .cons a _, h, _ => by
    have h : g = (f, P) := by simpa using h
    subst h
    have e : n = f := a.1
    subst e
    exact ⟨x, by simp [List.lookup], a.2⟩
  | (n, x) :: fs, g :: fps, i + 1, .cons a t, h, hn => by
    obtain ⟨y, hy, py⟩ := fo_look (i := i) t h fun g' hg => hn g' (by rw [List.take_succ_cons]; exact List.mem_cons_of_mem _ hg)
    have ne : g.1 ≠ f := hn g (by rw [List.take_succ_cons]; exact List.mem_cons_self)
    have e : n = g.1 := a.1
    refine ⟨y, ?_, py⟩
    have : (f == n) = false := by rw [beq_eq_false_iff_ne]; rw [e]; exact fun z => ne z.symm
    simp only [List.lookup, this]
    exact hy
theorem fo_none : ∀ {fs : List (Str × V)} {fps : List (Str × MP)}, FieldsOk F fs fps → (∀ g ∈ fps, g.1 ≠ f) → fs.lookup f = none
  | _, _, .nil, _ => rfl
  | (n, x) :: fs, g :: fps, .cons a t, hn => by
    have ne : g.1 ≠ f := hn g List.mem_cons_self
    have e : n = g.1 := a.1
    have : (f == n) = false := by rw [beq_eq_false_iff_ne]; rw [e]; exact fun z => ne z.symm
    simp only [List.lookup, this]
    exact fo_none t fun g' hg => hn g' (List.mem_cons_of_mem _ hg)
theorem fo_new {x : V} : ∀ {fs : List (Str × V)} {fps : List (Str × MP)}, FieldsOk F fs fps → (∀ g ∈ fps, g.1 ≠ f) → P.p F x → FieldsOk F (putF f x fs) (fps ++ [(f, P)])
  | _, _, .nil, _, h => .cons ⟨rfl, h⟩ .nil
  | (n, y) :: fs, g :: fps, .cons a t, hn, h => by
    have ne : g.1 ≠ f := hn g List.mem_cons_self
    have e : n = g.1 := a.1
    unfold putF
    rw [if_neg (by rw [e]; exact ne)]
    exact .cons a (fo_new t (fun g' hg => hn g' (List.mem_cons_of_mem _ hg)) h)
theorem fo_set {x : V} : ∀ {fs : List (Str × V)} {fps : List (Str × MP)} {i : Nat}, FieldsOk F fs fps → fps[i]? = some (f, P) → (∀ g ∈ fps.take i, g.1 ≠ f) → P'.p F x → FieldsOk F (putF f x fs) (fps.set i (f, P'))
  | _, _, _, .nil, h, _, _ => by simp at h
  | (n, y) :: fs, g :: fps, 0, .cons a t, h, _, hp => by
    have h : g = (f, P) := by simpa using h
    subst h
    have e : n = f := a.1
    unfold putF
    rw [if_pos e]
    exact .cons ⟨a.1, hp⟩ t
  | (n, y) :: fs, g :: fps, i + 1, .cons a t, h, hn, hp => by
    have ne : g.1 ≠ f := hn g (by rw [List.take_succ_cons]; exact List.mem_cons_self)
    have e : n = g.1 := a.1
    unfold putF
    rw [if_neg (by rw [e]; exact ne)]
    exact .cons a (fo_set (i := i) t h (fun g' hg => hn g' (by rw [List.take_succ_cons]; exact List.mem_cons_of_mem _ hg)) hp)
/-- self.f, of an own object -/
theorem ev_fldO (ho : Ev ta Γ M (Own q) M1) (e : M1[j]? = some (q, MOb C fps)) (i : Nat) (hi : fps[i]? = some (f, P)) (hn : ∀ g ∈ fps.take i, g.1 ≠ f) (hc : Cls K C) (ha : NoAttr K C f) : Ev (tFld K ta f) Γ M P M1 := fun E F σ H a b Q k => ho E F σ H a b _ fun v F1 H1 e1 g1 p1 => by
  have p1 : v = .ref q := p1
  subst p1
  obtain ⟨_, o, ho2, dx, fs, rfl, h⟩ := g1.at e
  obtain ⟨x, hx, px⟩ := fo_look h hi hn
  exact ⟨q, C, dx, fs, x, rfl, ho2, hc, ha, hx, k x F1 H1 e1 g1 px⟩
/-- x.f, of an object that stands -/
theorem ev_fldS (ho : Ev ta Γ M (Fr (MOb C fps)) M1) (i : Nat) (hi : fps[i]? = some (f, P)) (hn : ∀ g ∈ fps.take i, g.1 ≠ f) (hc : Cls K C) (ha : NoAttr K C f) : Ev (tFld K ta f) Γ M P M1 := fun E F σ H a b Q k => ho E F σ H a b _ fun v F1 H1 e1 g1 ⟨q, o, hv, hq, dx, fs, ho, h⟩ => by
  subst hv; subst ho
  obtain ⟨x, hx, px⟩ := fo_look h hi hn
  exact ⟨q, C, dx, fs, x, rfl, g1.ex _ _ hq, hc, ha, hx, k x F1 H1 e1 g1 px⟩
theorem fo_len {fs : List (Str × V)} (h : FieldsOk F fs fps) : fs.length = fps.length := paired_len h
/-- self.f = e, a new field -/
theorem go_fldN (hv : Ev tb Γ M P M1) (ho : Ev ta Γ M1 (Own q) M1) (e : M1[j]? = some (q, MOb C fps)) (hz : fps.length < 99) (hf : ∀ g ∈ fps, g.1 ≠ f) (hc : Cls K C) (hn : NoAttr K C f) (k : Nx E Γ (M1.set j (q, MOb C (fps ++ [(f, P)]))) D1.nx) :
    Nx E Γ M (sFld K ta tb f D1) := fun σ H ⟨F, a, b⟩ => hv E F σ H a b _ fun y F1 H1 e1 g1 p1 => ho E F1 σ H1 g1 (b.mono e1) _ fun v F2 H2 e2 g2 p2 => by
  have p2 : v = .ref q := p2
  subst p2
  obtain ⟨_, o, ho1, dx, fs, rfl, h3⟩ := g2.at e
  have := fo_len h3
  exact ⟨q, C, dx, fs, rfl, ho1, hc, hn, by omega, k _ _ ⟨F2, g2.mut e ⟨dx, _, rfl, fo_new h3 hf (P.mono e2 p1)⟩, b.mono (e1.trans e2)⟩⟩
theorem q_fldN (hv : Ev tb Γ M P M1) (ho : Ev ta Γ M1 (Own q) M1) (e : M1[j]? = some (q, MOb C fps)) (hz : fps.length < 99) (hf : ∀ g ∈ fps, g.1 ≠ f) (hc : Cls K C) (hn : NoAttr K C f) (k : Nx E Γ (M1.set j (q, MOb C (fps ++ [(f, P)]))) (tz D1)) :
    Nx E Γ M (tSeq (sFld K ta tb f) tz D1) := go_fldN (D1 := { D1 with nx := tz D1 }) hv ho e hz hf hc hn k
/-- self.f = e, the field is there -/
theorem go_fldU (hv : Ev tb Γ M P' M1) (ho : Ev ta Γ M1 (Own q) M1) (e : M1[j]? = some (q, MOb C fps)) (hz : fps.length < 99) (i : Nat) (hi : fps[i]? = some (f, P)) (hf : ∀ g ∈ fps.take i, g.1 ≠ f) (hc : Cls K C) (hn : NoAttr K C f) (k : Nx E Γ (M1.set j (q, MOb C (fps.set i (f, P')))) D1.nx) :
    Nx E Γ M (sFld K ta tb f D1) := fun σ H ⟨F, a, b⟩ => hv E F σ H a b _ fun y F1 H1 e1 g1 p1 => ho E F1 σ H1 g1 (b.mono e1) _ fun v F2 H2 e2 g2 p2 => by
  have p2 : v = .ref q := p2
  subst p2
  obtain ⟨_, o, ho1, dx, fs, rfl, h3⟩ := g2.at e
  have := fo_len h3
  exact ⟨q, C, dx, fs, rfl, ho1, hc, hn, by omega, k _ _ ⟨F2, g2.mut e ⟨dx, _, rfl, fo_set h3 hi hf (P'.mono e2 p1)⟩, b.mono (e1.trans e2)⟩⟩
theorem q_fldU (hv : Ev tb Γ M P' M1) (ho : Ev ta Γ M1 (Own q) M1) (e : M1[j]? = some (q, MOb C fps)) (hz : fps.length < 99) (i : Nat) (hi : fps[i]? = some (f, P)) (hf : ∀ g ∈ fps.take i, g.1 ≠ f) (hc : Cls K C) (hn : NoAttr K C f) (k : Nx E Γ (M1.set j (q, MOb C (fps.set i (f, P')))) (tz D1)) :
    Nx E Γ M (tSeq (sFld K ta tb f) tz D1) := go_fldU (D1 := { D1 with nx := tz D1 }) hv ho e hz i hi hf hc hn k
/-- C(..) -/
theorem make0' (h : EvA tr Γ M ps M1) (hs : ∀ x vs H Q, Prom (Own x :: ps) [(x, MOb C [])] (D K .none) [(x, O)] vs H Q → sp vs H Q X) : EvN (tMake C sp [] X tr) Γ M O M1 := fun E F σ H a b Q k =>
  h E F σ H a b _ fun vs F1 H1 e1 a1 p1 => fun x dx hx hdx hne => by
    have hx2 : upd H1 dx (.own x) x = none := by rw [upd_ne hne.symm]; exact hx
    have g2 : Pt E F1 ((x, MOb C []) :: M1) (upd (upd H1 dx (.own x)) x (.ins C dx [])) := (a1.junk hdx).new hx2 ⟨dx, [], rfl, .nil⟩
    show sp (V.ref x :: (vs ++ [])) _ _ X
    rw [List.append_nil]
    refine hs x (.ref x :: vs) _ _ ⟨F1, ⟨g2.ex, by simp [keys], fun r hr => ?_⟩, .cons rfl p1, fun v F' H' g hv => ⟨dp_non hv, ?_⟩⟩
    · rw [List.mem_singleton.mp hr]; exact g2.wd.own _ List.mem_cons_self
    · refine k x F' H' (a1.fresh hx) (e1.trans g.gr.ex) (g2.frame g (fun z hz => ?_) rfl fun r hr => ?_)
      · rw [List.mem_singleton.mp hz]; exact List.mem_cons_self
      · rcases List.mem_cons.mp hr with z | z
        · rw [z]; exact .inr List.mem_cons_self
        · exact .inl ⟨fun w => (List.nodup_cons.mp (show (x :: keys M1).Nodup from g2.wd.nd)).1 (by rw [show x = r.1 from (List.mem_singleton.mp w).symm]; exact List.mem_map_of_mem (f := (·.1)) z), List.mem_cons_of_mem _ z⟩
/-- o.m(..), o an own object -/
theorem ev_methO (ho : Ev ta Γ M (Own q) M) (e0 : M[j]? = some (q, MOb C fps)) (hn : ∀ g ∈ fps, g.1 ≠ m) (h : EvA tr Γ M ps M) (hs : ∀ vs H Q, Prom (Own q :: ps) [(q, MOb C fps)] P [(q, O')] vs H Q → sp vs H Q X) : Ev (tMeth C m sp [] X ta tr) Γ M P (M.set j (q, O')) := fun E F σ H a b Q k => ho E F σ H a b _ fun v F1 H1 e1 g1 p1 => by
  have p1 : v = .ref q := p1
  subst p1
  obtain ⟨_, o, ho1, dx, fs, rfl, h3⟩ := g1.at e0
  refine ⟨q, dx, fs, rfl, ho1, fo_none h3 hn, ?_⟩
  refine h E F1 σ H1 g1 (b.mono e1) _ fun vs F2 H2 e2 g2 p2 => ?_
  have r := rc_prom1 (ps := Own q :: ps) (O' := O') (P := P) (sp := sp) (X := X) (dvs := []) e0 (fun vs H Q z => by rw [List.append_nil]; exact hs vs H Q z)
  have r2 := r E F2 H2 (V.ref q :: vs) g2 (.cons rfl p2) Q fun v F' H' e g p => k v F' H' ((e1.trans e2).trans e) g p
  exact r2
/-- o.m(..), o stands -/
theorem ev_methS (ho : Ev ta Γ M (Fr (MOb C fps)) M1) (hn : ∀ g ∈ fps, g.1 ≠ m) (h : EvA tr Γ M1 ps M2) (hs : ∀ vs H Q, Prom (Fr (MOb C fps) :: ps) [] P [] vs H Q → sp vs H Q X) : Ev (tMeth C m sp [] X ta tr) Γ M P M2 := fun E F σ H a b Q k => ho E F σ H a b _ fun v F1 H1 e1 g1 p1 => by
  obtain ⟨q, o, hv, hq, dx, fs, rfl, h3⟩ := id p1
  subst hv
  refine ⟨q, dx, fs, rfl, g1.ex _ _ hq, fo_none h3 hn, ?_⟩
  refine h E F1 σ H1 g1 (b.mono e1) _ fun vs F2 H2 e2 g2 p2 => ?_
  have r := rc_prom0 (M := M2) (ps := Fr (MOb C fps) :: ps) (P := P) (sp := sp) (X := X) (dvs := []) (fun vs H Q z => by rw [List.append_nil]; exact hs vs H Q z)
  exact r E F2 H2 (V.ref q :: vs) g2 (.cons ((Fr (MOb C fps)).mono e2 p1) p2) Q fun v F' H' e g p => k v F' H' ((e1.trans e2).trans e) g p
end
section
variable {K : PySem.W.Frag} {F : Hp}
theorem ps_nameD {β : Type} {φ : β → Int → Prop} : ∀ {l : List β} {vs : List V}, Ps F vs (l.map fun b => PEx fun m : Int => PAn (φ b m) (D K (.int m))) → ∃ ms : List Int, Paired (fun b m => φ b m) l ms ∧ Ps F vs (ms.map fun m => D K (.int m))
  | [], _, h => by cases h; exact ⟨[], .nil, .nil⟩
  | b :: l, _, h => by
    cases h with
    | cons a t =>
      obtain ⟨m, hm, p⟩ := a
      obtain ⟨ms, h1, h2⟩ := ps_nameD t
      exact ⟨m :: ms, .cons hm h1, .cons p h2⟩
/-- a list of numbers, each of which is only known by something -/
theorem ml_nameD {n : Nat} {φ : Nat → Int → Prop} : ∀ F o, (ML ((List.range n).map fun i => PEx fun m : Int => PAn (φ i m) (D K (.int m)))).p F o → (MX fun ms : List Int => MA (ms.length = n ∧ ∀ i, i < n → φ i (ms.getD i 0)) (MInts K ms)).p F o := fun F o ⟨vs, e, p⟩ => by
  obtain ⟨ms, h1, h2⟩ := ps_nameD p
  have hl := paired_len h1
  rw [List.length_range] at hl
  refine ⟨ms, ⟨hl.symm, fun i hi => ?_⟩, vs, e, h2⟩
  obtain ⟨m, hm, hp⟩ := paired_get' h1 (List.getElem?_range hi)
  rw [List.getD_eq_getElem?_getD, hm]
  exact hp
end
/-! zip -/
theorem pi_zipK {X : Cx} {K : PySem.W.Frag} {e e2 : PySem.Expr} {ta : TA} {p pos tpos : Pos} {elts : List PySem.Expr} {kk : Nat} (eK : X.K = K) (hg : Gl X "zip") (hm : X.mg "zip" = none) (ha : PA X [e, e2] ta)
    (hs : starEach [e, e2] X.env = (false, eval e X.env) :: starEach [e2] X.env := by rfl) (hpl : (backTo pos (starEach [e2] X.env)).any (·.1) = false := by rfl) :
    PI X (.Tuple elts kk tpos) (.Call (.Name "zip" p) [e, e2] [] pos) (RZ.iZipA K ta) := eK ▸ RZ.pi_zipA hg hm ha hs hpl
section
variable {K : PySem.W.Frag} {E : Ent} {F H : Hp} {M M1 M2 : Ms} {Γ : Gm} {te ta tb : TE} {D1 : Ends} {tu tz : TS} {i j : Nat} {γ : Type} {zs : List γ} {RA RB : γ → MP} {t : TT}
theorem walk_zipT {a b : Addr} {xs ys : List V} {n : Nat} (hn : n = xs.length ∧ n = ys.length) : Walk (RZ.ItzT K a b) n (fun H => SqT K H a xs ∧ SqT K H b ys) (YPair (fun i => xs[i]?) (fun i => ys[i]?)) := by
  obtain ⟨h1, h2⟩ := hn
  refine ⟨fun i _ hi q => ⟨xs, ys, xs[i]'(by omega), ys[i]'(by omega), q.1, q.2, by simp [show i < xs.length by omega], by simp [show i < ys.length by omega]⟩, fun _ q => ⟨xs, ys, q.1, q.2, by omega⟩, fun i H v H' _ q y => ?_⟩
  obtain ⟨T, x, z, h1, h2, h3, h4, h5⟩ := y
  exact ⟨T, x, z, h1, h2, h3, h4 xs q.1, h5 ys q.2⟩
/-- zip of two tuples of one length -/
theorem go_forZipT (ha : Ev ta Γ M (PTu K (zs.map RA)) M1) (hb : Ev tb Γ M1 (PTu K (zs.map RB)) M2) (Jv : Nat → Gm → Ms → Prop) (h0 : Jv 0 Γ M2)
    (hs : ∀ E', Le E' E → ∀ n z, zs[n]? = some z → ∀ Γ' M', Jv n Γ' M' → Nx E' ((Γ'.set i (some (RA z))).set j (some (RB z))) M' (tu { D1 with nx := JA E' (Jv (n + 1)), ct := JA E' (Jv (n + 1)), bk := D1.nx }))
    (hd : ∀ Γ' M', Jv zs.length Γ' M' → Nx E Γ' M' D1.nx) : Nx E Γ M (tFor (RZ.iZipA K (tCons ta (tCons tb tNil))) (gPair K i j) tu D1) := fun σ H ⟨F, a, b⟩ =>
  ha E F σ H a b _ fun v F1 H1 e1 g1 p1 => hb E F1 σ H1 g1 (b.mono e1) _ fun w F2 H2 e2 g2 p2 => by
    obtain ⟨x, us, rfl, s1, q1⟩ := (PTu K (zs.map RA)).mono e2 p1
    obtain ⟨y, vs, rfl, s2, q2⟩ := p2
    have l1 : us.length = zs.length := by have := paired_len q1; rwa [List.length_map] at this
    have l2 : vs.length = zs.length := by have := paired_len q2; rwa [List.length_map] at this
    exact ⟨x, y, us, vs, rfl, .inr ⟨Evl.ex_t g2.ex s1, Evl.ex_t g2.ex s2, for_pairs (K := K) (Q := True) (walk_zipT ⟨l1.symm, l2.symm⟩) g2 (b.mono (e1.trans e2)) q1 q2 (fun F' H' e e' => ⟨Evl.ex_t (e.trans e') s1, Evl.ex_t (e.trans e') s2⟩) Jv h0 hs hd⟩⟩
theorem q_forZipT (ha : Ev ta Γ M (PTu K (zs.map RA)) M1) (hb : Ev tb Γ M1 (PTu K (zs.map RB)) M2) (Jv : Nat → Gm → Ms → Prop) (h0 : Jv 0 Γ M2)
    (hs : ∀ E', Le E' E → ∀ n z, zs[n]? = some z → ∀ Γ' M', Jv n Γ' M' → Nx E' ((Γ'.set i (some (RA z))).set j (some (RB z))) M' (tu { D1 with nx := JA E' (Jv (n + 1)), ct := JA E' (Jv (n + 1)), bk := tz D1 }))
    (hd : ∀ Γ' M', Jv zs.length Γ' M' → Nx E Γ' M' (tz D1)) : Nx E Γ M (tSeq (tFor (RZ.iZipA K (tCons ta (tCons tb tNil))) (gPair K i j) tu) tz D1) := go_forZipT (D1 := { D1 with nx := tz D1 }) ha hb Jv h0 hs hd
end
end Hq
namespace Hq
open PySem L2
/-! ### a comprehension with two generators, the inner list by the outer item; comprehensions over zip -/
section
variable {K : PySem.W.Frag} {E : Ent} {F H : Hp} {M M1 M2 : Ms} {Γ : Gm} {P : MP} {O : MO} {q : Addr} {te ta tb tl tl1 tk td : TE} {tr : TA} {D1 : Ends} {tu tz : TS} {t t0 u : TT} {ps : List MP} {i j : Nat}
theorem flatD_len {α β γ : Type} {ys : α → List β} {f : α → β → Bool} {G : α → β → γ} {N : Nat} : ∀ {xs : List α}, (∀ x ∈ xs, (ys x).length ≤ N) → (xs.flatMap fun x => ((ys x).filter (f x)).map (G x)).length ≤ xs.length * N
  | [], _ => Nat.zero_le _
  | x :: xs, h => by
    rw [List.flatMap_cons, List.length_append, List.length_map, List.length_cons, Nat.succ_mul]
    have h1 := List.length_filter_le (f x) (ys x)
    have h2 := flatD_len (ys := ys) (f := f) (G := G) (xs := xs) fun y hy => h y (List.mem_cons_of_mem _ hy)
    have h3 := h x List.mem_cons_self
    omega
theorem rv_inO {x : Int} {ns : List Int} {neg : Bool} (e : M[j]? = some (q, MInts K ns)) : RV (rIn K neg) (D K (.int x)) (Own q) M (D K (.bool (if neg then !decide (x ∈ ns) else decide (x ∈ ns)))) M := fun E F H v y a p1 p2 Q k => by
  cases dp_int p1
  have p2 : y = .ref q := p2
  subst p2
  obtain ⟨_, o, ho, ws, rfl, s⟩ := a.at e
  have e1 := ints_map s
  subst e1
  refine ⟨q, _, rfl, .inl (SqL.of ho), rfl, flat_all ns, ?_⟩
  rw [inV_ints]
  exact k _ F H (Evl.Ex.refl _) a (.bl _)
/-! a dict by a comprehension over ints, as the set of its keys -/
def MSet (ks : List Int) : MO := ⟨fun _ o => ∃ kvs : List (Key × V), o = .dK kvs ∧ kvs.length ≤ ks.length ∧ ∀ x : Int, (valV kvs (.inl x)).isSome = decide (x ∈ ks), fun _ h => h, fun ⟨kvs, h, _⟩ xs z => by rw [h] at z; cases z⟩
theorem put_len {kvs : List (Key × V)} {k : Key} {z : V} : (putK kvs k z).length ≤ kvs.length + 1 := by
  unfold putK
  split
  · rw [List.length_map]; omega
  · rw [List.length_append]; simp
end
/-! a dict by a comprehension, kept under a name -/
end Hq
set_option maxHeartbeats 4000000
namespace Hq
open PySem PySem.Spec PyProof.Rows L2
/-! ### tuple * int, any -/
theorem tuple_mul1 (l : Addr) (items : Array Value) (n : Nat) (dd : Option Addr) (sl : Array (Option Value)) (x : Int) (u : Tok) (c0 : (decide (x < -(2 ^ 63)) || decide (x ≥ 2 ^ 63)) = false) (c1 : (items.isEmpty || x == 1) = true) :
    Meets (Builtin.«tuple.__mul__» ⟨[.ref l, .int x u], []⟩) (fun _ R s => s.heap.get? l = some { cls := .type "tuple", dict := dd, data := .seq items n, slots := sl } ∧
      R (.ok (.ret (Value.ref l))) s) :=
  .of_wp fun prog w A R s h => by
    obtain ⟨hp, g, d, tk, os⟩ := s
    obtain ⟨hl, h⟩ := h
    have f1 := AutoSeq1.idx_int
    wp_walk using wpAny_loadPart' hl
    repeat (first
      | (refine wpAny_ite_false (decide_eq_false (by rw [c0]; exact Bool.false_ne_true)) ?_; wp_walk using wpAny_loadPart' hl)
      | (refine wpAny_ite_true (decide_eq_true (by rw [c1])) ?_; wp_walk using wpAny_loadPart' hl))
    exact ⟨_, rfl, h⟩
theorem tuple_mul0 (l : Addr) (items : Array Value) (n : Nat) (dd : Option Addr) (sl : Array (Option Value)) (x : Int) (u : Tok) (c0 : (decide (x < -(2 ^ 63)) || decide (x ≥ 2 ^ 63)) = false) (c1 : (items.isEmpty || x == 1) = false) (c2 : (decide (x ≤ 0) || items.isEmpty) = true) :
    Meets (Builtin.«tuple.__mul__» ⟨[.ref l, .int x u], []⟩) (fun _ R s => s.heap.get? l = some { cls := .type "tuple", dict := dd, data := .seq items n, slots := sl } ∧
      R (.ok (.ret (Value.ref s.heap.objs.size))) { s with heap := s.heap.push { cls := Value.type "tuple", data := Data.seq #[] }, toks := s.toks }) :=
  .of_wp fun prog w A R s h => by
    obtain ⟨hp, g, d, tk, os⟩ := s
    obtain ⟨hl, h⟩ := h
    have f1 := AutoSeq1.idx_int
    wp_walk using wpAny_loadPart' hl
    repeat (first
      | (refine wpAny_ite_false (decide_eq_false (by rw [c0]; exact Bool.false_ne_true)) ?_; wp_walk using wpAny_loadPart' hl)
      | (refine wpAny_ite_false (decide_eq_false (by rw [c1]; exact Bool.false_ne_true)) ?_; wp_walk using wpAny_loadPart' hl)
      | (refine wpAny_ite_true (decide_eq_true (by rw [c2])) ?_; wp_walk using wpAny_loadPart' hl))
    exact ⟨_, rfl, h⟩
def rRepA (K : PySem.W.Frag) : R2 := fun x y H Q => ∃ l k xs, x = .ref l ∧ y = .int k ∧ SqT K H l xs ∧ -1000 ≤ k ∧ k ≤ 1000 ∧ xs.length ≤ 1000 ∧ (xs = [] ∨ k = 1 → Q (.ref l) H) ∧ (xs ≠ [] → k ≠ 1 → ∀ p, H p = none → Q (.ref p) (upd H p (.tup (List.replicate k.toNat xs).flatten)))
theorem op_repA {X : Cx} : OpR X (binaryOp .Mult) (rRepA X.K) := by
  intro pins s σ H x y v u Q I rx ry h
  obtain ⟨l, k, xs, rfl, rfl, hT, k0, k1, hz, q1, q2⟩ := h
  by_cases big : xs ≠ [] ∧ 2 ≤ k
  · exact op_repT pins s σ H _ _ v u Q I rx ry ⟨l, k, xs, rfl, rfl, hT, big.1, big.2, k1, hz, q2 big.1 (by omega)⟩
  cases rx
  obtain ⟨t, rfl⟩ := ry
  obtain ⟨its, r, ⟨⟨cls, dd, data, sl⟩, ho, hc, n, hd⟩, hs⟩ := I.tuple hT
  simp only at hc hd
  subst hc hd
  have hle : its.length = xs.length := r.length.symm
  have c0 : (decide (k < -(2 ^ 63)) || decide (k ≥ 2 ^ 63)) = false := by
    rw [decide_eq_false (by omega), decide_eq_false (by omega)] <;> rfl
  by_cases one : xs = [] ∨ k = 1
  · have c1 : (its.toArray.isEmpty || k == 1) = true := by
      rcases one with e | e
      · rw [e] at hle
        rw [List.eq_nil_of_length_eq_zero hle]; rfl
      · rw [e]; simp
    refine wpAny_binaryOp_repeat_ref (T := "tuple") (U := "int") (by decide) ⟨_, ho, rfl⟩ (fun s' => typeIs_int s' k t) noFill_tuple_mul F.fills_int_mul F.slot_int_rmul repeat_tuple F.slot_int_index.lookup
      (call_meets F.slot_int_rmul (typeIs_int s k t) F.entry_int_rmul (F.args_int_rmul_2 _ _) (int_rmul_tuple k t l its.toArray n dd sl)
        ⟨ho, rfl, ⟨_, ho, rfl⟩, call_meets F.slot_tuple_mul ⟨_, ho, rfl⟩ F.entry_tuple_mul (F.args_tuple_mul_2 _ _) (tuple_mul1 l its.toArray n dd sl k t c0 c1) ⟨ho, ?_⟩⟩)
    exact ⟨.ref l, _, I, rfl, q1 one⟩
  · have hne : xs ≠ [] := fun e => one (.inl e)
    have k1' : k ≠ 1 := fun e => one (.inr e)
    have hkk : k ≤ 0 := by
      have : ¬ (2 ≤ k) := fun e => big ⟨hne, e⟩
      omega
    have hi : its.toArray.isEmpty = false := by
      cases its with
      | nil => exact absurd (List.eq_nil_of_length_eq_zero hle.symm) hne
      | cons a b => rfl
    have c1 : (its.toArray.isEmpty || k == 1) = false := by
      rw [hi, Bool.false_or]
      exact beq_eq_false_iff_ne.mpr k1'
    have c2 : (decide (k ≤ 0) || its.toArray.isEmpty) = true := by
      rw [decide_eq_true hkk]; rfl
    refine wpAny_binaryOp_repeat_ref (T := "tuple") (U := "int") (by decide) ⟨_, ho, rfl⟩ (fun s' => typeIs_int s' k t) noFill_tuple_mul F.fills_int_mul F.slot_int_rmul repeat_tuple F.slot_int_index.lookup
      (call_meets F.slot_int_rmul (typeIs_int s k t) F.entry_int_rmul (F.args_int_rmul_2 _ _) (int_rmul_tuple k t l its.toArray n dd sl)
        ⟨ho, rfl, ⟨_, ho, rfl⟩, call_meets F.slot_tuple_mul ⟨_, ho, rfl⟩ F.entry_tuple_mul (F.args_tuple_mul_2 _ _) (tuple_mul0 l its.toArray n dd sl k t c0 c1 c2) ⟨ho, ?_⟩⟩)
    have q := q2 hne k1'
    rw [show k.toNat = 0 by omega] at q
    refine ⟨.ref s.heap.objs.size, _, I.laid (t' := s.toks) (o := .tup []) (fun b ob q => Heap.get?_push_of_some _ q) (Nat.le_refl _) ?_, rfl, q _ (I.hok.fresh (Nat.le_refl _))⟩
    exact ⟨by rw [sizeLine_eq]; exact Nat.zero_le _, [], .nil, IsTup.new _ _⟩
theorem c_repT {K : PySem.W.Frag} {Y : Cx} (e : Y.K = K) : OpR Y (binaryOp .Mult) (rRepA K) := e ▸ op_repA
/-! ### a, b = a list of that length -/
section
variable {K : PySem.W.Frag} {E : Ent} {M M1 : Ms} {Γ : Gm} {D1 : Ends} {tz : TS} {te : TE} {i j : Nat}
theorem rv_eqX {lo hi c : Int} : RV rEq (PIn K lo hi) (D K (.int c)) M (PEx fun b : Bool => PAn True (D K (.bool b))) M := RV.ex1 fun x => RV.an1 fun _ => rv_eqI.weak (MP.le_trans (PAn.in trivial) (PEx.in (R := fun b : Bool => PAn True (D K (.bool b))) _))
theorem rep_ints {l : List Int} : ∀ n : Nat, (List.replicate n (l.map V.int)).flatten = ((List.replicate n l).flatten).map V.int
  | 0 => rfl
  | n + 1 => by rw [List.replicate_succ, List.flatten_cons, rep_ints n, List.replicate_succ, List.flatten_cons, List.map_append]
theorem rv_repT {l : List Int} {n : Int} (hn : -1000 ≤ n ∧ n ≤ 1000) (hl : l.length ≤ 1000) : RV (rRepA K) (D K (dT l)) (D K (.int n)) M (D K (dT (List.replicate n.toNat l).flatten)) M := fun E F H x y g p1 p2 Q k => by
  cases dp_int p2
  obtain ⟨p, vs, rfl, s, q⟩ := le_dT _ _ p1
  have e1 := ints_map q
  subst e1
  refine ⟨p, n, _, rfl, rfl, Evl.ex_t g.ex s, hn.1, hn.2, by rw [List.length_map]; exact hl, fun h => ?_, fun _ _ r hr => ?_⟩
  · refine k _ F H (Evl.Ex.refl _) g (dT_le _ _ ⟨p, _, rfl, s, ?_⟩)
    have e : (List.replicate n.toNat l).flatten = l := by
      rcases h with h | h
      · have : l = [] := by simpa using h
        subst this
        induction n.toNat with
        | zero => rfl
        | succ m ih => rw [List.replicate_succ, List.flatten_cons, ih]; rfl
      · rw [h]; simp
    rw [e]
    exact map_ints _
  · refine k _ _ _ (Evl.Ex.new (Evl.fresh_back g.ex hr)) (g.laid hr) (dT_le _ _ ⟨r, _, rfl, SqT.of upd_same, ?_⟩)
    rw [rep_ints]
    exact map_ints _
end
end Hq
namespace Hq
open PySem L2
section
variable {K : PySem.W.Frag} {E : Ent} {F H : Hp} {M M1 M2 : Ms} {Γ : Gm} {P P1 : MP} {O : MO} {q : Addr} {te ta tb tl tk : TE} {tr : TA} {D1 : Ends} {tu tz : TS} {t u : TT} {ps : List MP} {i j : Nat} {l : List Int}
/-! ### comprehensions with a drawn test -/
theorem lc_turnX {Γ2 : Gm} {σ2 : St} {D2 : Addr} {ps : List MP} {B : Bool → Prop} {F1 H1 : Hp} (g1 : Pt E F1 ((D2, ML ps) :: M) H1) (bo : EnvOk F1 σ2 Γ2) (ht : EvT t Γ2 M B M) (he : B true → Ev te Γ2 M P M) (hz : ps.length < 100000) (Nxt : Hp → Prop)
    (hN : ∀ b F2 H2, B b → Ex F1 F2 → Pt E F2 ((D2, ML (if b = true then ps ++ [P] else ps)) :: M) H2 → Nxt H2) : t σ2 H1 fun c H3 => if c = true then te σ2 H3 fun y H4 => ∃ acc, H4 D2 = some (.lst acc) ∧ acc.length < sizeLine ∧ Nxt (upd H4 D2 (.lst (acc ++ [y]))) else Nxt H3 := by
  have gM : Pt ⟨F1, H1, keys M⟩ F1 M H1 := Pt.start (g1.drop (List.sublist_cons_self _ _)).wd
  have nk : D2 ∉ keys M := (List.nodup_cons.mp (show (D2 :: keys M).Nodup from g1.wd.nd)).1
  obtain ⟨fD, o, hD, ws, rfl, s⟩ := g1.at (j := 0) rfl
  have up : ∀ {F' H'}, Pt ⟨F1, H1, keys M⟩ F' M H' → Pt E F' ((D2, ML ps) :: M) H' := fun {F' H'} g => by
    have hh : F' D2 = none := g.gr.off D2 fD (show H1 D2 ≠ none by rw [hD]; exact fun z => by cases z) (fun xs z => by have z : H1 D2 = some (HO.tup xs) := z; rw [hD] at z; cases z)
    have hd : H' D2 = some (.lst ws) := g.gr.keep D2 _ nk hD
    have big : Pt ⟨F1, H1, keys ((D2, ML ps) :: M)⟩ F' ((D2, ML ps) :: M) H' := by
      refine ⟨⟨g.gr.ex, fun a u h1 h2 => g.gr.keep a u (fun z => h1 (List.mem_cons_of_mem _ z)) h2, g.gr.off, g.gr.stay, g.gr.nott⟩, ⟨g.wd.ex, List.nodup_cons.mpr ⟨nk, g.wd.nd⟩, fun r hr => ?_⟩, fun r hr => ?_⟩
      · rcases List.mem_cons.mp hr with e | hm
        · subst e; exact ⟨hh, _, hd, ws, rfl, s.mono g.gr.ex⟩
        · exact g.wd.own r hm
      · rcases List.mem_cons.mp hr with e | hm
        · subst e; exact .inl List.mem_cons_self
        · rcases g.fr r hm with z | z
          · exact .inl (List.mem_cons_of_mem _ z)
          · exact .inr z
    exact g1.back big
  refine ht _ F1 σ2 H1 gM bo _ fun c F3 H3 e3 g3 hc => ?_
  cases c with
  | true =>
    refine he hc _ F3 σ2 H3 g3 (bo.mono e3) _ fun y F4 H4 e4 g4 p4 => ?_
    have g5 := up g4
    obtain ⟨_, o5, h5, ws5, rfl, s5⟩ := g5.at (j := 0) rfl
    refine ⟨ws5, h5, sz_lt (by rw [paired_len s5]; exact hz), ?_⟩
    exact hN true F4 _ hc (e3.trans e4) (g5.mut (j := 0) (O' := ML (ps ++ [P])) rfl ⟨_, rfl, paired_app s5 (.cons p4 .nil)⟩)
  | false => exact hN false F3 _ hc e3 (up g3)
theorem evn_lcRD {z : Int} {G : Nat → MP} (h : EvA tr Γ M [D K (.int z)] M1) (hz : z ≤ 50000 ∧ -50000 ≤ z)
    (ht : ∀ x : Nat, (x : Int) < z → EvT t ((Γ.set i none).set i (some (D K (.int x)))) M1 (fun _ => True) M1) (he : ∀ x : Nat, (x : Int) < z → Ev te ((Γ.set i none).set i (some (D K (.int x)))) M1 (G x) M1) :
    EvN (tLc (iRng1 tr) (gName i) t te [i]) Γ M (MX fun L : List Nat => MA (L.Sublist (List.range z.toNat)) (ML (L.map G))) M1 := fun E F σ H a b Q k => h E F σ H a b _ fun vs F1 H1 e1 g1 p => by
  obtain ⟨v, rfl, hv⟩ := ps1 p
  cases dp_int hv
  refine ⟨z, rfl, by omega, by omega, fun D2 hD => ?_⟩
  have gn : Pt ⟨F1, H1, keys M1⟩ F1 ((D2, ML []) :: M1) (upd H1 D2 (.lst [])) := g1.enter.new hD ⟨[], rfl, .nil⟩
  refine lc_range (lo := 0) (n := z.toNat) (fun n H' => ∃ F' L, L.Sublist (List.range n) ∧ Pt ⟨F1, H1, keys M1⟩ F' ((D2, ML (L.map G)) :: M1) H') ⟨F1, [], List.nil_sublist _, gn⟩ (fun n H2 hn ⟨F2, L, hL, g2⟩ => ⟨wipe_one, ?_⟩) (fun H2 ⟨F2, L, hL, g2⟩ => ?_)
  · have e0 : (0 : Int) + (n : Int) = (n : Int) := Int.zero_add _
    rw [e0]
    have hn2 : (n : Int) < z := by omega
    have hl := hL.length_le
    rw [List.length_range] at hl
    refine lc_turnX g2 ((env_wipe (b.mono (e1.trans g2.gr.ex))).set i (P := D K (.int n)) (.int _)) (ht n hn2) (fun _ => he n hn2) (by rw [List.length_map]; omega) _ fun b F3 H3 _ e3 g3 => ?_
    cases b with
    | true => exact ⟨F3, L ++ [n], by rw [List.range_succ]; exact hL.append (List.Sublist.refl _), by rw [List.map_append]; exact g3⟩
    | false => exact ⟨F3, L, by rw [List.range_succ]; exact hL.trans (List.sublist_append_left _ _), g3⟩
  · exact k D2 F2 H2 (g1.fresh hD) (e1.trans g2.gr.ex) ((g1.back g2).to (j := 0) (O' := MX fun L : List Nat => MA (L.Sublist (List.range z.toNat)) (ML (L.map G))) (fun F o p => ⟨L, hL, p⟩) rfl)
/-! xs[::-1] -/
/-- xs[i], i drawn -/
theorem rv_ixX {α : Type} {f : α → PyData} {xs : List α} : RV (rIx K) (D K (.list (xs.map f))) (PIn K 0 (xs.length : Int)) M (PEx fun x : α => PAn (x ∈ xs) (D K (f x))) M := RV.ex2 fun z => RV.an2 fun hz => by
  obtain ⟨n, rfl⟩ := Int.eq_ofNat_of_zero_le hz.1
  have hn : n < xs.length := by omega
  exact (rv_ixDL (ds := xs.map f) (d := f xs[n]) (by omega) (by rw [Int.toNat_natCast, List.getElem?_map, List.getElem?_eq_getElem hn]; rfl)).weak (MP.le_trans (PAn.in (List.getElem_mem hn)) (PEx.in (R := fun x : α => PAn (x ∈ xs) (D K (f x))) xs[n]))
end
end Hq
namespace Hq
open PySem L2
def MAny : MO := ⟨fun _ o => ∀ xs, o ≠ .tup xs, fun _ h => h, fun h => h⟩
/-- what is wanted if an exception of the class at C leaves -/
def RtE (E : Ent) (M : Ms) (C : Addr) (X : XK) : Prop := ∀ F H, Pt E F M H → X (.ref C) none H
section
variable {K : PySem.W.Frag} {E E0 : Ent} {F H : Hp} {M M1 M2 M' : Ms} {Γ : Gm} {P P1 : MP} {O O' : MO} {q : Addr} {te ta tb tl tk : TE} {tr : TA} {D1 : Ends} {tu tz : TS} {t u : TT} {ps : List MP} {i j : Nat} {C Cx : Addr} {X : XK} {sp : Sp}
theorem RtE.drop (s : List.Sublist M M') (h : RtE E M C X) : RtE E M' C X := fun F H a => h F H (a.drop s)
theorem RtE.le (l : Le E E0) (h : RtE E0 M C X) : RtE E M C X := fun F H a => h F H (l.to _ _ _ a)
theorem RtE.any (h : RtE E [(q, MAny)] C X) (e : M[j]? = some (q, O)) : RtE E M C X := fun F H a => by
  have s : List.Sublist [(q, O)] M := List.singleton_sublist.mpr (List.mem_of_getElem? e)
  exact h F H ((a.drop s).to (j := 0) (O' := MAny) (fun _ _ h => O.nt h) rfl)
theorem go_raise (k : RtE E M C X) : Nx E Γ M (fun σ H => X (.ref C) none H) := fun σ H ⟨F, a, b⟩ => k F H a
/-- f(..) as a statement, f may raise -/
theorem q_callB {ok : Bool} (h : EvA tr Γ M ps M1) (hs : ∀ vs H Q X, (∃ F, Wd F [] H ∧ Ps F vs ps ∧ (ok = true → Rt ⟨F, H, keys []⟩ [] P Q) ∧ (ok = false → RtE ⟨F, H, keys []⟩ [] Cx X)) → sp vs H Q X)
    (k1 : ok = true → Nx E Γ M1 D1.nx) (k2 : ok = false → RtE E M1 Cx X) : Nx E Γ M (tDrop (tCall sp [] X tr) D1) := fun σ H ⟨F, a, b⟩ => h E F σ H a b _ fun vs F1 H1 e1 a1 p1 => by
  show sp (vs ++ []) H1 _ X
  rw [List.append_nil]
  have w : Wd F1 [] H1 := ⟨a1.wd.ex, List.nodup_nil, fun r hr => by cases hr⟩
  have fr : ∀ {F' H'}, Pt ⟨F1, H1, keys []⟩ F' [] H' → Pt E F' M1 H' := fun g => a1.frame g (fun z hz => by cases hz) rfl fun r hr => .inl ⟨fun z => (by cases z), hr⟩
  exact hs vs H1 _ X ⟨F1, w, p1, fun e v F' H' g hv => k1 e σ H' ⟨F', fr g, b.mono (e1.trans g.gr.ex)⟩, fun e F' H' g => k2 e F' H' (fr g)⟩
theorem exm_self {S : Addr} (h1 : PySem.W.subIn K (.ref S) (.type "BaseException") = some true) (h2 : PySem.W.isClsIn K S = true) (h3 : PySem.W.typeIn K (.ref S) = some (.type "type")) (h4 : PySem.W.subIn K (.ref S) (.ref S) = some true) :
    PySem.W.exmOne K (.ref S) (.ref S) = some true := by
  have e1 : (PySem.W.subIn K (.ref S) (.type "BaseException") == some true) = true := by rw [h1] <;> rfl
  have e2 : ((PySem.W.clsIn K S).isSome && PySem.W.typeIn K (.ref S) == some (.type "type")) = true := by
    have h2' : (PySem.W.clsIn K S).isSome = true := h2
    rw [h2', h3] <;> rfl
  show (if (PySem.W.subIn K (.ref S) (.type "BaseException") == some true) = true then (if ((PySem.W.clsIn K S).isSome && PySem.W.typeIn K (.ref S) == some (.type "type")) = true then PySem.W.subIn K (.ref S) (.ref S) else none) else none) = some true
  rw [if_pos e1, if_pos e2]
  exact h4
end
end Hq
namespace Hq
open PySem L2
section
variable {K : PySem.W.Frag} {E E0 : Ent} {F H : Hp} {M M1 M2 M' : Ms} {Γ : Gm} {P P1 : MP} {O O' : MO} {q : Addr} {te ta tb tl tk : TE} {tr : TA} {D1 : Ends} {tu tz : TS} {t u : TT} {ps : List MP} {i j : Nat}
variable {γ : Type} {zs : List γ} {RA RB G : γ → MP} {f : γ → Bool}
/-! ### walks over pairs that stand -/
/-- for a, b in a list of pairs -/
theorem go_forLP (h : Ev tl Γ M (PLi K (zs.map fun z => PTu K [RA z, RB z])) M1) (J : Nat → Gm → Ms → Prop) (h0 : J 0 Γ M1)
    (hs : ∀ E', Le E' E → ∀ n z, zs[n]? = some z → ∀ Γ' M', J n Γ' M' → Nx E' ((Γ'.set i (some (RA z))).set j (some (RB z))) M' (tu { D1 with nx := JA E' (J (n + 1)), ct := JA E' (J (n + 1)), bk := D1.nx }))
    (hd : ∀ Γ' M', J zs.length Γ' M' → Nx E Γ' M' D1.nx) : Nx E Γ M (tFor (iList K tl) (gPair K i j) tu D1) := fun σ H ⟨F, a, b⟩ => h E F σ H a b _ fun v F1 H1 e1 g1 ⟨p, vs, hp, s, q⟩ => by
  refine ⟨p, hp, ⟨vs, Evl.ex_l g1.ex s⟩, for_list (xs := vs) (fun n σ H => JA ⟨F1, H1, keys M1⟩ (J n) σ H) ⟨Γ, M1, h0, F1, g1.enter, b.mono e1⟩ (fun n σ2 H2 _ ⟨Γ', M', _, F2, g2, _⟩ => Evl.ex_l (g2.gr.ex.trans g2.ex) s)
    (fun n x σ2 H2 hx ⟨Γ', M', hJ, F2, g2, b2⟩ => ?_) (fun σ2 H2 hJ => ?_)⟩
  · obtain ⟨P, hP, hx2⟩ := paired_get' q hx
    rw [List.getElem?_map] at hP
    obtain ⟨z, hz, rfl⟩ := Option.map_eq_some_iff.mp hP
    obtain ⟨T, us, rfl, hT, hu⟩ := hx2
    obtain ⟨x1, y1, rfl, hxA, hyB⟩ := ps2 hu
    exact ⟨T, [x1, y1], rfl, Evl.ex_t (g2.gr.ex.trans g2.ex) hT, rfl, x1, [y1], rfl, y1, [], rfl, rfl, hs ⟨F1, H1, keys M1⟩ g1.le n z hz Γ' M' hJ _ _ ⟨F2, g2, (b2.set i ((RA z).mono g2.gr.ex hxA)).set j ((RB z).mono g2.gr.ex hyB)⟩⟩
  · rw [paired_len q, List.length_map] at hJ
    obtain ⟨Γ', M', hJ, at2⟩ := hJ
    exact hd Γ' M' hJ _ _ (at2.le g1.le)
theorem q_forLP (h : Ev tl Γ M (PLi K (zs.map fun z => PTu K [RA z, RB z])) M1) (J : Nat → Gm → Ms → Prop) (h0 : J 0 Γ M1)
    (hs : ∀ E', Le E' E → ∀ n z, zs[n]? = some z → ∀ Γ' M', J n Γ' M' → Nx E' ((Γ'.set i (some (RA z))).set j (some (RB z))) M' (tu { D1 with nx := JA E' (J (n + 1)), ct := JA E' (J (n + 1)), bk := tz D1 }))
    (hd : ∀ Γ' M', J zs.length Γ' M' → Nx E Γ' M' (tz D1)) : Nx E Γ M (tSeq (tFor (iList K tl) (gPair K i j) tu) tz D1) := go_forLP (D1 := { D1 with nx := tz D1 }) h J h0 hs hd
/-- data pairs -/
theorem le_pair {α : Type} {a b : α → PyData} {zs : List α} : (D K (.list (zs.map fun z => .tuple [a z, b z]))).le (PLi K (zs.map fun z => PTu K [D K (a z), D K (b z)])) := fun F v h => by
  obtain ⟨p, vs, e, s, q⟩ := le_Lm (f := fun z => PyData.tuple [a z, b z]) F v h
  refine ⟨p, vs, e, s, ?_⟩
  have key : ∀ {vs : List V} {zs : List α}, Ps F vs (zs.map fun z => D K (.tuple [a z, b z])) → Ps F vs (zs.map fun z => PTu K [D K (a z), D K (b z)]) := fun {vs zs} => by
    induction zs generalizing vs with
    | nil => intro h; cases h; exact .nil
    | cons z zs ih => intro h; cases h with | cons h t => exact .cons (D_PTu (ds := [a z, b z]) F _ h) (ih t)
  exact key q
/-! slices of an own list of any items -/
end
end Hq
namespace Hq
open PySem L2
section
variable {K : PySem.W.Frag} {E E0 : Ent} {F H : Hp} {M M1 M2 M' : Ms} {Γ : Gm} {P P1 : MP} {O O' : MO} {q : Addr} {te ta tb tl tk : TE} {tr : TA} {D1 : Ends} {tu tz : TS} {t u : TT} {ps : List MP} {i j : Nat} {C Cx : Addr} {X : XK} {sp : Sp} {f m : Str} {fps : List (Str × MP)}
/-- o.m(..) that raises -/
theorem meth_no (ho : Ev ta Γ M (Own q) M) (e0 : M[j]? = some (q, MOb C fps)) (hn : ∀ g ∈ fps, g.1 ≠ m) (h : EvA tr Γ M ps M) (hs : ∀ vs H Q X, (∃ F, Wd F [(q, MOb C fps)] H ∧ Ps F vs (Own q :: ps) ∧ RtE ⟨F, H, keys [(q, MOb C fps)]⟩ [(q, O')] Cx X) → sp vs H Q X)
    (k : RtE E (M.set j (q, O')) Cx X) {Qs : St → VK} : Nx E Γ M (fun σ H => tMeth C m sp [] X ta tr σ H (Qs σ)) := fun σ H ⟨F, a, b⟩ => ho E F σ H a b _ fun v F1 H1 e1 g1 p1 => by
  have p1 : v = .ref q := p1
  subst p1
  obtain ⟨_, o, ho1, dx, fs, rfl, h3⟩ := g1.at e0
  refine ⟨q, dx, fs, rfl, ho1, fo_none h3 hn, ?_⟩
  refine h E F1 σ H1 g1 (b.mono e1) _ fun vs F2 H2 e2 g2 p2 => ?_
  show sp (V.ref q :: (vs ++ [])) H2 _ X
  rw [List.append_nil]
  have gq := g2.at e0
  have w : Wd F2 [(q, MOb C fps)] H2 := ⟨g2.wd.ex, by simp [keys], fun r hr => by rw [List.mem_singleton.mp hr]; exact gq⟩
  refine hs _ _ _ X ⟨F2, w, .cons rfl p2, fun F' H' g => k F' H' (g2.frame (M' := M.set j (q, O')) g (fun z hz => ?_) (keys_set e0) fun r hr => ?_)⟩
  · rw [List.mem_singleton.mp hz]
    exact List.mem_map_of_mem (f := (·.1)) (List.mem_of_getElem? e0)
  · rcases mem_set_ne g2.wd.nd e0 r hr with z | ⟨z, n⟩
    · rw [z]; exact .inr List.mem_cons_self
    · exact .inl ⟨fun c => n (List.mem_singleton.mp c), z⟩
/-- an own list compared with data -/
theorem rv_neLO {α : Type} [DecidableEq α] {g : α → PyData} {n : Nat} (en : Enc g n) (hn : n + 1 ≤ 64) {xs ys : List α} (e : M[j]? = some (q, ML (ys.map fun x => D K (g x)))) : RV (rNeD K) (D K (.list (xs.map g))) (Own q) M (D K (.bool (!decide (xs = ys)))) M := fun E F H x y a p1 p2 Q k => by
  have p2 : y = .ref q := p2
  subst p2
  obtain ⟨fq, o, ho, vs, rfl, s⟩ := a.at e
  have ds : DpAll K F vs (ys.map g) := by
    refine ps_all (K := K) ?_
    rw [List.map_map]
    exact s
  refine ⟨.list (xs.map g), .list (ys.map g), Dp.mono a.ex p1, .lst (SqL.of ho) (DpAll.mono a.ex ds), en.all_shaped hn xs, en.all_shaped hn ys, ?_⟩
  have ee := (enc_list en).eq xs ys
  have ee : PyData.eqv (.list (xs.map g)) (.list (ys.map g)) = decide (xs = ys) := ee
  rw [ee]
  exact k _ F H (Evl.Ex.refl _) a (.bl _)
end
end Hq
namespace Hq
open PySem L2
section
variable {K : PySem.W.Frag} {E E0 : Ent} {F H : Hp} {M M1 M2 M' : Ms} {Γ : Gm} {P P1 : MP} {O O' : MO} {q : Addr} {te ta tb tl tk tv td : TE} {tr : TA} {D1 : Ends} {tu tz : TS} {t u : TT} {ps : List MP} {i j : Nat}
/-! gcd, list.count -/
/-! a dict of ints to ints -/
def MDO (g : Int → Option Int) (n : Nat) : MO := ⟨fun _ o => ∃ kvs : List (Key × V), o = .dK kvs ∧ kvs.length ≤ n ∧ ∀ x : Int, valV kvs (.inl x) = (g x).map V.int, fun _ h => h, fun ⟨kvs, h, _⟩ xs z => by rw [h] at z; cases z⟩
theorem evn_dcV {φ : List Int → Prop} {L : List Int} {n : Nat} {val : Int → Int} (h : Ev tl Γ M (PEx fun xs : List Int => PAn (φ xs) (PLi K (xs.map fun x => D K (.int x)))) M1) (hφ : ∀ xs, φ xs → (∀ x, x ∈ xs ↔ x ∈ L) ∧ xs.length ≤ n) (hz : n ≤ 50000) (hi : i < Γ.length)
    (hv : ∀ x ∈ L, ∀ M, Ev tv ((Γ.set i none).set i (some (D K (.int x)))) M (D K (.int (val x))) M) :
    EvN (tDc (iList K tl) (gName i) tYes (tVar i) tv [i]) Γ M (MDO (fun x => if x ∈ L then some (val x) else none) n) M1 := fun E F σ H a b Q k => h E F σ H a b _ fun v F1 H1 e1 g1 ⟨xs, hxs, p, vs, hp, s, q⟩ => by
  obtain ⟨hL, hn⟩ := hφ xs hxs
  refine ⟨p, hp, ⟨vs, Evl.ex_l g1.ex s⟩, fun D2 hD => ?_⟩
  have hl : vs.length = xs.length := by have := paired_len q; rwa [List.length_map] at this
  have gn : Pt ⟨F1, H1, keys M1⟩ F1 ((D2, MDO (fun x => if x ∈ xs.take 0 then some (val x) else none) 0) :: M1) (upd H1 D2 (.dK [])) := g1.enter.new hD ⟨[], rfl, Nat.le_refl _, fun x => by simp; rfl⟩
  refine ⟨fun n m H' => m = xs.length - n ∧ n ≤ xs.length ∧ ∃ F', Pt ⟨F1, H1, keys M1⟩ F' ((D2, MDO (fun x => if x ∈ xs.take n then some (val x) else none) n) :: M1) H', ⟨_, rfl, Nat.zero_le _, F1, gn⟩, ?_⟩
  rintro n2 m H2 ⟨rfl, hn2, F2, g2⟩
  have sl2 : SqL K H2 p vs := Evl.ex_l (g2.gr.ex.trans g2.ex) s
  rcases Nat.lt_or_ge n2 xs.length with hlt | hge
  case inr =>
    refine .inl ⟨⟨vs, sl2, by omega⟩, ?_⟩
    rw [List.take_of_length_le (by omega)] at g2
    have le : ∀ F o, (MDO (fun x => if x ∈ xs then some (val x) else none) n2).p F o → (MDO (fun x => if x ∈ L then some (val x) else none) n).p F o := fun F o ⟨kvs, h1, h2, h3⟩ => ⟨kvs, h1, by omega, fun x => by
      rw [h3 x]
      have e : (x ∈ xs) = (x ∈ L) := propext (hL x)
      simp only [e]⟩
    exact k D2 F2 H2 (g1.fresh hD) (e1.trans g2.gr.ex) ((g1.back g2).to (j := 0) le rfl)
  refine .inr ⟨⟨vs, vs[n2], sl2, List.getElem?_eq_getElem (by omega)⟩, fun H' => n2 + 1 ≤ xs.length ∧ ∃ F', Pt ⟨F1, H1, keys M1⟩ F' ((D2, MDO (fun x => if x ∈ xs.take (n2 + 1) then some (val x) else none) (n2 + 1)) :: M1) H', fun H' ⟨c1, c2⟩ => ⟨_, by omega, rfl, c1, c2⟩, fun x H' y => ?_⟩
  obtain ⟨rfl, y⟩ := y
  have hx := y vs sl2
  obtain ⟨P, hP, hx2⟩ := paired_get' q hx
  have hxn : xs[n2]? = some xs[n2] := List.getElem?_eq_getElem hlt
  have hzL : xs[n2] ∈ L := (hL _).mp (List.getElem_mem hlt)
  rw [List.getElem?_map, hxn] at hP
  have hP : D K (.int xs[n2]) = P := Option.some.inj hP
  subst hP
  have tk : xs.take (n2 + 1) = xs.take n2 ++ [xs[n2]] := by rw [List.take_add_one, hxn]; rfl
  rw [tk]
  generalize xs[n2] = z at *
  have b2 : EnvOk F2 ((wipe σ [i]).set i (some x)) ((Γ.set i none).set i (some (D K (.int z)))) := (env_wipe (b.mono (e1.trans g2.gr.ex))).set i ((D K (.int z)).mono g2.gr.ex hx2)
  refine ⟨wipe_one, ?_⟩
  refine (et_yes (M := (D2, MDO (fun x => if x ∈ xs.take n2 then some (val x) else none) n2) :: M1) (Γ := (Γ.set i none).set i (some (D K (.int z))))) _ F2 _ _ g2 b2 _ fun c F3 H3 e3 g3 hc => ?_
  have hc : c = true := hc
  subst hc
  rw [if_pos rfl]
  refine (ev_var (i := i) (P := D K (.int z)) (by simp [hi])) _ F3 _ H3 g3 (b2.mono e3) _ fun w F4 H4 e4 g4 p4 => ?_
  refine (hv z hzL _) _ F4 _ H4 g4 (b2.mono (e3.trans e4)) _ fun w5 F5 H5 e5 g5 p5 => ?_
  cases dp_int p4
  cases dp_int p5
  obtain ⟨fq, o, ho, kvs, rfl, hk1, hk2⟩ := g5.at (j := 0) rfl
  refine ⟨kvs, .inl z, rfl, ho, sz_lt (by omega), hlt, F5, g5.mut (j := 0) rfl ⟨_, rfl, ?_, fun x => ?_⟩⟩
  · have := put_len (kvs := kvs) (k := .inl z) (z := .int (val z))
    omega
  · rw [valV_put]
    by_cases e : x = z
    · subst e; rw [if_pos rfl]; simp
    · rw [if_neg (fun c => e (Sum.inl.inj c)), hk2 x]
      simp [e]
theorem ev_dgetI {g : Int → Option Int} {n : Nat} {x y : Int} (hd : Ev td Γ M (Own q) M1) (hk : Ev tk Γ M1 (D K (.int x)) M2) (e : M2[j]? = some (q, MDO g n)) (hg : g x = some y) : Ev (tDGet td tk) Γ M (D K (.int y)) M2 := fun E F σ H a b Q k => by
  refine hd E F σ H a b _ fun v F1 H1 e1 g1 p1 => hk E F1 σ H1 g1 (b.mono e1) _ fun w F2 H2 e2 g2 p2 => ?_
  have p1 : v = .ref q := p1
  subst p1
  cases dp_int p2
  obtain ⟨fq, o, ho, kvs, rfl, _, hkv⟩ := g2.at e
  refine ⟨q, .int y, rfl, ?_, k _ F2 H2 (e1.trans e2) g2 (.int _)⟩
  have := DGet.k (k := .inl x) ho
  rw [hkv, hg] at this
  exact this
end
end Hq
namespace L2
open PySem PySem.Spec PyProof.Rows
end L2
namespace Hq
open PySem L2
end Hq
namespace Hq
open PySem L2
section
variable {K : PySem.W.Frag} {E E0 : Ent} {F H : Hp} {M M1 M2 M' : Ms} {Γ : Gm} {P P1 : MP} {O O' : MO} {q : Addr} {te ta tb tl tk tv td : TE} {tr : TA} {D1 : Ends} {tu tz : TS} {t u : TT} {ps : List MP} {i j : Nat}
/-- xs.append(e), e one of several -/
theorem go_appE {α : Type} {φ : α → Prop} {R : α → MP} {ps : List MP} (ho : Ev ta Γ M (Own q) M) (h : Ev te Γ M (PEx fun x => PAn (φ x) (R x)) M1) (e0 : M[j]? = some (q, ML ps)) (e : M1[j]? = some (q, ML ps)) (hz : ps.length < 100000) (k : ∀ x, φ x → Nx E Γ (M1.set j (q, ML (ps ++ [R x]))) D1.nx) :
    Nx E Γ M (tDrop (tBM K "list" rAppend ta (tCons te tNil)) D1) := fun σ H ⟨F, a, b⟩ => ho E F σ H a b _ fun v F1 H1 e1 g1 p1 => by
  have p1 : v = .ref q := p1
  subst p1
  obtain ⟨_, o, ho1, ws0, rfl, _⟩ := g1.at e0
  refine ⟨.inl ⟨rfl, ws0, SqL.of ho1⟩, ?_⟩
  refine h E F1 σ H1 g1 (b.mono e1) _ fun w F2 H2 e2 g2 ⟨x, hx, p2⟩ => ?_
  obtain ⟨_, o, ho2, ws, rfl, s⟩ := g2.at e
  refine ⟨q, ws, w, rfl, rfl, ho2, sz_lt (by rw [paired_len s]; exact hz), ?_⟩
  exact k x hx _ _ ⟨F2, g2.mut e ⟨_, rfl, paired_app s (.cons p2 .nil)⟩, b.mono (e1.trans e2)⟩
theorem upd_id {H : Hp} {q : Addr} {o : HO} (h : H q = some o) : upd H q o = H := by
  funext a
  unfold upd
  split
  · rename_i e; rw [e, h]
  · rfl
theorem Pt.openX {α : Type} {φ : α → Prop} {R : α → MO} (h : Pt E F M H) (e : M[j]? = some (q, MX fun x => MA (φ x) (R x))) : ∃ x, φ x ∧ Pt E F (M.set j (q, R x)) H := by
  obtain ⟨_, o, ho, x, hx, hR⟩ := h.at e
  have := h.mut (O' := R x) e hR
  rw [upd_id ho] at this
  exact ⟨x, hx, this⟩
theorem nx_openX {f} {α : Type} {φ : α → Prop} {R : α → MO} (e : M[j]? = some (q, MX fun x => MA (φ x) (R x))) (k : ∀ x, φ x → Nx E Γ (M.set j (q, R x)) f) : Nx E Γ M f := fun σ H ⟨F, a, b⟩ => by
  obtain ⟨x, hx, a2⟩ := a.openX e
  exact k x hx σ H ⟨F, a2, b⟩
end
end Hq
namespace L2
open PySem PySem.Spec PyProof.Rows
end L2
namespace L2
open PySem PySem.Spec PyProof.Rows
end L2
namespace Hq
open PySem L2
end Hq
namespace Hq
open PySem L2
section
variable {K : PySem.W.Frag} {E E0 : Ent} {F H : Hp} {M M1 M2 M' : Ms} {Γ : Gm} {P P1 : MP} {O O' : MO} {q : Addr} {te ta tb tl tk tv td tx : TE} {tr : TA} {D1 : Ends} {tu tz : TS} {t u : TT} {ps : List MP} {i j v jj : Nat} {L : List (List Int × List Int)} {l w : List Int}
/-! ### d.get(t, x), d[t] = x -/
def lkD (L : List (List Int × List Int)) (l : List Int) : Option (List Int) := (L.find? fun z => decide (z.1 = l)).map (·.2)
def putD (L : List (List Int × List Int)) (l w : List Int) : List (List Int × List Int) := if (L.any fun z => decide (z.1 = l)) = true then L.map (fun z => if z.1 = l then (z.1, w) else z) else L ++ [(l, w)]
end
end Hq
namespace L2
open PySem PySem.Spec PyProof.Rows
end L2
namespace Hq
open PySem L2
end Hq
/-! ### zip of a list and a tuple -/
namespace HqA
open PySem PySem.Spec PyProof.Rows L2
theorem sep {I a b : Addr} (ha : a < I) (hb : b < I) : ZipSep2 (I + 4) (I + 2) (I + 3) I (I + 1) [I, a] [I + 1, b] := by
  have ha : @LT.lt Nat _ a I := ha
  have hb : @LT.lt Nat _ b I := hb
  constructor <;> first
    | exact List.mem_cons_self
    | (intro e; have e : ((_ : Nat) = _) := e; omega)
    | (intro h
       rcases List.mem_cons.mp h with e | h
       · have e : ((_ : Nat) = _) := e
         omega
       · have e : ((_ : Nat) = _) := List.mem_singleton.mp h
         omega)
end HqA
namespace Hq
open PySem L2 HqA
end Hq
/-! ### list(zip(a tuple, a list)) -/
namespace HqJ
open PySem PySem.Spec PyProof.Rows
section
variable {prog : Program} {w : World} {A : Around} {E : Value → Shared → Prop} {s : Shared} {z TI TO T i1 i2 : Addr} {fp1 fp2 : List Addr} {n1 n2 i : Nat} {P1 P2 : Nat → Value → Prop} {St1 St2 : Nat → Heap → Prop} {f : Bool} {oT : Obj}
theorem held_item {Q : Value → Shared → Prop} (S : ZipSep2 z TI TO i1 i2 fp1 fp2) (D1 : Draws prog w A i1 fp1 n1 P1 St1) (D2 : Draws prog w A i2 fp2 n2 P2 St2)
    (hz : IsZipHeld s.heap z TI TO T f) (hT : s.heap.get? T = some oT) (hTI : IsTupOf2 s.heap TI (.ref i1) (.ref i2)) (st1 : St1 i s.heap) (st2 : St2 i s.heap) (hlt1 : i < n1) (hlt2 : i < n2)
    (hQ : ∀ x1 x2 h' tk, P1 i x1 → P2 i x2 → IsZipHeld h' z TI TO T true → St1 (i + 1) h' → St2 (i + 1) h' → IsTupOf2 h' s.heap.objs.size x1 x2 → h'.objs.size = s.heap.objs.size + 1 →
      (∀ c o, c ≠ z → c ≠ i1 → c ≠ i2 → s.heap.get? c = some o → h'.get? c = some o) → Q (.ref s.heap.objs.size) { s with heap := h', toks := tk }) :
    wpAny (model prog w) A (Builtin.«zip.__next__» ⟨[.ref z], []⟩) (fun fin s' => ∃ v, fin = .done (.ret v) ∧ Q v s') E s := by
  obtain ⟨hp, g, d, tk0, os⟩ := s
  show wpAny _ _ (field (.ref z) 2 >>= _) _ _ _
  refine wpAny_bind (wpAny_field hz rfl (x := .bool false) rfl ?_)
  show wpAny _ _ (field (.ref z) 3 >>= _) _ _ _
  refine wpAny_bind (wpAny_field hz rfl (x := .ref TI) rfl ?_)
  refine wpAny_bind (wpAny_seqItems hTI rfl ?_)
  show wpAny _ _ (Builtin.SmallTypes.ownedTupleIsFree (.ref z) >>= _) _ _ _
  refine wpAny_bind (wpAny_tupleHeld_zip hz hT fun h₁ hz₁ hs₁ => ?_)
  replace hs₁ : Heap.SameBut z hp h₁ := hs₁
  simp only [Bool.false_eq_true, if_false]
  refine wpAny_bind ?_
  rw [← Array.forIn_toList]
  simp only [List.forIn_cons, List.forIn_nil]
  refine wpAny_bind (wpAny_bind (wpAny_holding ?_))
  show wpAny _ _ (Builtin.SmallTypes.nextOf (.ref i1) >>= _) _ _ ⟨h₁, g, d, tk0, os⟩
  refine wpAny_bind (D1.item i _ _ _ hlt1 (D1.over st1 hs₁ S.zf1) fun x1 p1 tk1 hx1 sn1 hp1 => wpAny_pure ?_)
  replace hp1 : Heap.SameBut i1 h₁ p1 := hp1
  refine wpAny_pure ?_
  refine wpAny_bind (wpAny_bind (wpAny_holding ?_))
  show wpAny _ _ (Builtin.SmallTypes.nextOf (.ref i2) >>= _) _ _ ⟨p1, g, d, tk1, os⟩
  refine wpAny_bind (D2.item i _ _ _ hlt2 (D2.over (D2.over st2 hs₁ S.zf2) hp1 S.sep1_2) fun x2 p2 tk2 hx2 sn2 hp2 => wpAny_pure ?_)
  replace hp2 : Heap.SameBut i2 p1 p2 := hp2
  refine wpAny_pure (wpAny_pure ?_)
  show wpAny _ _ (newTuple [x1, x2] >>= _) _ _ ⟨p2, g, d, tk2, os⟩
  refine wpAny_bind (wpAny_newTuple ?_)
  have hsz : p2.objs.size = hp.objs.size := by rw [hp2.1, hp1.1, hs₁.1]
  have hz₃ : IsZipHeld p2 z TI TO T true := hp2.extBut _ _ S.zi2 (hp1.extBut _ _ S.zi1 hz₁)
  have hk : ∀ c o, c ≠ z → c ≠ i1 → c ≠ i2 → hp.get? c = some o → p2.get? c = some o := fun c o c1 c2 c3 e => hp2.extBut _ _ c3 (hp1.extBut _ _ c2 (hs₁.extBut _ _ c1 e))
  have j1 : St1 (i + 1) p2 := D1.over sn1 hp2 S.sep2_1
  refine wpAny_pure ⟨_, rfl, ?_⟩
  show Q (.ref p2.objs.size) _
  have hp' : IsTupOf2 (p2.push { cls := .type "tuple", data := .seq #[x1, x2] }) p2.objs.size x1 x2 := Heap.get?_push_size _ rfl
  have hz4 : (p2.push { cls := .type "tuple", data := .seq #[x1, x2] }).objs.size = p2.objs.size + 1 := Heap.size_push ..
  rw [hsz] at hp' hz4 ⊢
  exact hQ x1 x2 _ tk2 hx1 hx2 (Heap.get?_push_of_some _ hz₃) (D1.frame _ _ _ j1 fun b _ o e => Heap.get?_push_of_some _ e) (D2.frame _ _ _ sn2 fun b _ o e => Heap.get?_push_of_some _ e) hp' hz4 fun c o c1 c2 c3 e => Heap.get?_push_of_some _ (hk c o c1 c2 c3 e)
theorem held_end {Q : Fin → Shared → Prop} (S : ZipSep2 z TI TO i1 i2 fp1 fp2) (D1 : Draws prog w A i1 fp1 n1 P1 St1)
    (hz : IsZipHeld s.heap z TI TO T f) (hT : s.heap.get? T = some oT) (hTI : IsTupOf2 s.heap TI (.ref i1) (.ref i2)) (st1 : St1 n1 s.heap)
    (hE : ∀ h' e, (∀ c o, c ≠ z → c ≠ i1 → s.heap.get? c = some o → h'.get? c = some o) → (∃ o, h'.get? e = some o ∧ o.cls = .type "StopIteration") → E (.ref e) { s with heap := h' }) :
    wpAny (model prog w) A (Builtin.«zip.__next__» ⟨[.ref z], []⟩) Q E s := by
  show wpAny _ _ (field (.ref z) 2 >>= _) _ _ _
  refine wpAny_bind (wpAny_field hz rfl (x := .bool false) rfl ?_)
  show wpAny _ _ (field (.ref z) 3 >>= _) _ _ _
  refine wpAny_bind (wpAny_field hz rfl (x := .ref TI) rfl ?_)
  refine wpAny_bind (wpAny_seqItems hTI rfl ?_)
  show wpAny _ _ (Builtin.SmallTypes.ownedTupleIsFree (.ref z) >>= _) _ _ _
  refine wpAny_bind (wpAny_tupleHeld_zip hz hT fun h₁ hz₁ hs₁ => ?_)
  simp only [Bool.false_eq_true, if_false]
  refine wpAny_bind ?_
  rw [← Array.forIn_toList]
  simp only [List.forIn_cons, List.forIn_nil]
  refine wpAny_bind (wpAny_bind (wpAny_holding ?_))
  show wpAny _ _ (Builtin.SmallTypes.nextOf (.ref i1) >>= _) _ _ _
  refine wpAny_bind (D1.done { s with heap := h₁ } _ _ (D1.over st1 hs₁ S.zf1) fun h₂ e hs₂ he => ?_)
  exact hE h₂ e (fun c o c1 c2 x => hs₂ _ _ c2 (hs₁.extBut _ _ c1 x)) he
end
/-- a zip that has given i pairs that live on -/
def ZSt (h : Heap) (z TI TO i1 i2 S t l : Addr) (i : Nat) : Prop :=
  (∃ T f oT, IsZipHeld h z TI TO T f ∧ h.get? T = some oT ∧ T ≠ z ∧ T ≠ i1 ∧ T ≠ i2 ∧ T ≠ S ∨ IsZip h z TI TO .none ∧ T = 0 ∧ f = false ∧ oT = (default : Obj)) ∧
    IsTupOf2 h TI (.ref i1) (.ref i2) ∧ (∃ a b, IsTupOf2 h TO a b) ∧ h.IsTupleIter i1 t i ∧ h.IsListIter i2 l i
structure Ap (z TI TO i1 i2 S t l : Addr) : Prop where
  sep : ZipSep2 z TI TO i1 i2 [i1, t] [i2, l]
  t1 : t ≠ i1
  l2 : l ≠ i2
  lo : z < S ∧ TI < S ∧ TO < S ∧ i1 < S ∧ i2 < S ∧ t < S ∧ l < S
  tz : t ≠ z ∧ t ≠ TO ∧ t ≠ i2 ∧ l ≠ z ∧ l ≠ TO ∧ l ≠ i1
section
variable {prog : Program} {w : World} {A : Around} {E : Value → Shared → Prop} {s : Shared} {z TI TO i1 i2 S t l : Addr} {xs ys : Array Value} {i : Nat}
theorem nxt (a : Ap z TI TO i1 i2 S t l) (hh : A.handled = none) {Q : Option Value → Shared → Prop} (st : ZSt s.heap z TI TO i1 i2 S t l i) (ht : s.heap.IsTuple t xs) (hl : s.heap.IsList l ys) (h1 : i < xs.size) (h2 : i < ys.size) (hSl : S < s.heap.objs.size)
    (hQ : ∀ x1 x2 h' tk, xs[i]? = some x1 → ys[i]? = some x2 → ZSt h' z TI TO i1 i2 S t l (i + 1) → IsTupOf2 h' s.heap.objs.size x1 x2 → h'.objs.size = s.heap.objs.size + 1 →
      (∀ c o, c ≠ z → c ≠ TO → c ≠ i1 → c ≠ i2 → s.heap.get? c = some o → h'.get? c = some o) → Q (some (.ref s.heap.objs.size)) { s with heap := h', toks := tk }) :
    wpAny (model prog w) A (pyNext (.ref z)) Q E s := by
  obtain ⟨⟨T, f, oT, hz⟩, hTI, ⟨b1, b2, hTO⟩, s1, s2⟩ := st
  have D1 := Draws.tuple (prog := prog) (w := w) (A := A.in1) hh i1 t a.t1 xs
  have D2 := Draws.list (prog := prog) (w := w) (A := A.in1) hh i2 l a.l2 ys
  obtain ⟨z0, z1, z2, z3, z4, z5, z6⟩ := a.lo
  rcases hz with ⟨hz, hT, n1, n2, n3, n4⟩ | ⟨hz, _⟩
  · have hTy : s.TypeIs (.ref z) "zip" := ⟨_, hz, rfl⟩
    unfold pyNext
    refine wpAny_bind (wpAny_attempt (wpAny_callSpecial?_slot (name := Str.ofString "__next__") hTy F.slot_zip_next
      (wpAny_call_entry F.slot_zip_next hTy F.entry_zip_next
        (held_item a.sep D1 D2 hz hT hTI ⟨s1, ht⟩ ⟨s2, hl⟩ h1 h2 fun x1 x2 h' tk e1 e2 hz' st1' st2' hp hsz hk => wpAny_pure ?_) (F.args_zip_next_1 _))))
    exact hQ x1 x2 h' tk e1 e2 ⟨⟨T, true, oT, .inl ⟨hz', hk T oT n1 n2 n3 hT, n1, n2, n3, n4⟩⟩, hk _ _ a.sep.TIz a.sep.TIi1 a.sep.TIi2 hTI, ⟨b1, b2, hk _ _ a.sep.TOz a.sep.Ti1 a.sep.Ti2 hTO⟩, st1'.1, st2'.1⟩ hp hsz fun c o c1 _ c3 c4 e => hk c o c1 c3 c4 e
  · refine wpAny_pyNext_zipD2_item a.sep D1 D2 hz hTI hTO ⟨s1, ht⟩ ⟨s2, hl⟩ h1 h2 fun x1 x2 h' tk e1 e2 hz' hTO' st1' st2' hp hsz hk => ?_
    have gt : ∀ c, c < S → s.heap.objs.size ≠ c := fun c hc => Nat.ne_of_gt (Nat.lt_trans hc hSl)
    exact hQ x1 x2 h' tk e1 e2 ⟨⟨s.heap.objs.size, false, _, .inl ⟨hz', hp, gt _ z0, gt _ z3, gt _ z4, Nat.ne_of_gt hSl⟩⟩, hk _ _ a.sep.TIz a.sep.TITO a.sep.TIi1 a.sep.TIi2 hTI, ⟨_, _, hTO'⟩, st1'.1, st2'.1⟩ hp hsz hk
theorem fin (a : Ap z TI TO i1 i2 S t l) (hh : A.handled = none) {Q : Option Value → Shared → Prop} (st : ZSt s.heap z TI TO i1 i2 S t l i) (ht : s.heap.IsTuple t xs) (hl : s.heap.IsList l ys) (h1 : i = xs.size) (h2 : i ≤ ys.size)
    (hQ : ∀ h' tk, (∀ c o, c ≠ z → c ≠ TO → c ≠ i1 → c ≠ i2 → s.heap.get? c = some o → h'.get? c = some o) → Q none { s with heap := h', toks := tk }) :
    wpAny (model prog w) A (pyNext (.ref z)) Q E s := by
  obtain ⟨⟨T, f, oT, hz⟩, hTI, ⟨b1, b2, hTO⟩, s1, s2⟩ := st
  have D1 := Draws.tuple (prog := prog) (w := w) (A := A.in1) hh i1 t a.t1 xs
  have D2 := Draws.list (prog := prog) (w := w) (A := A.in1) hh i2 l a.l2 ys
  rcases hz with ⟨hz, hT, n1, n2, n3, n4⟩ | ⟨hz, _⟩
  · have hTy : s.TypeIs (.ref z) "zip" := ⟨_, hz, rfl⟩
    unfold pyNext
    refine wpAny_bind (wpAny_attempt (wpAny_callSpecial?_slot (name := Str.ofString "__next__") hTy F.slot_zip_next
      (wpAny_call_entry F.slot_zip_next hTy F.entry_zip_next
        (held_end a.sep D1 hz hT hTI (by rw [← h1]; exact ⟨s1, ht⟩) fun h' e hk he => ?_) (F.args_zip_next_1 _))))
    obtain ⟨o, ho, hc⟩ := he
    refine wpAny_bind (wpAny_isInstance (T := "StopIteration") (b := true) ⟨o, ho, hc⟩ isSubtype_stop ?_)
    exact wpAny_pure (hQ h' s.toks fun c o c1 _ c3 _ e => hk c o c1 c3 e)
  · exact wpAny_pyNext_zipD2_end a.sep D1 D2 hz hTI hTO ⟨s1, ht⟩ ⟨s2, hl⟩ (by omega) h2 (.inl h1) hQ
end
end HqJ
namespace L2
open PySem PySem.Spec PyProof.Rows HqJ
end L2
namespace Hq
open PySem L2 HqJ
end Hq
/-! ### a slice of a list or a tuple of ints that stands -/
namespace Hq
open PySem L2
section
variable {K : PySem.W.Frag} {E E0 : Ent} {F H : Hp} {M M1 M2 M' : Ms} {Γ : Gm} {P P1 : MP} {O O' : MO} {q : Addr} {te ta tb tl tk tv td tx : TE} {tr : TA} {D1 : Ends} {tu tz : TS} {t u : TT} {ps : List MP} {i j v jj : Nat} {b : Bool}
theorem rsl_L {l : List Int} {lo hi : Option Int} {v : V} {Q : VK} (g3 : Pt E F M H) (p1 : (D K (dL l)).p F v) (k : ∀ w F' H', Ex F F' → Pt E F' M H' → (D K (dL (cutI l lo hi))).p F' w → Q w H') : rSlL K v lo hi H Q := by
  obtain ⟨p, vs, rfl, s, qq⟩ := le_dL _ _ p1
  have es := ints_map qq
  subst es
  have hl : (l.map V.int).length = l.length := List.length_map _
  refine ⟨p, _, rfl, Evl.ex_l g3.ex s, fun r hr => ?_⟩
  have ex := Evl.Ex.new (o := .lst (cutV (l.map V.int) lo hi)) (Evl.fresh_back g3.ex hr)
  refine k _ _ _ ex (g3.laid hr) (dL_le _ _ ⟨r, (cutI l lo hi).map V.int, rfl, ?_, map_ints _⟩)
  have : cutV (l.map V.int) lo hi = (cutI l lo hi).map V.int := by
    unfold cutV cutI
    rw [hl, List.map_take, List.map_drop]
  rw [this]
  exact SqL.of upd_same
end
end Hq
/-! ### sorted lists of lists; try .. except X as e; an object against an int; C(.., an own list) -/
namespace Hq
open PySem L2
section
variable {K : PySem.W.Frag} {E E0 : Ent} {F H : Hp} {M M1 M2 M' : Ms} {Γ : Gm} {P P1 : MP} {O O' O2 : MO} {q : Addr} {te ta tb tl tk tv td tx : TE} {tr : TA} {D1 : Ends} {tu tz : TS} {t u : TT} {ps : List MP} {i j : Nat} {C Cx : Addr} {X : XK} {sp : Sp}
/-! C(.., an own list) -/
theorem RtE.any0 {x : Addr} (h : RtE E ((x, MAny) :: M) C X) : RtE E ((x, O) :: M) C X := fun F H a => h F H (a.to (j := 0) (O' := MAny) (fun _ _ h => O.nt h) rfl)
end
end Hq
namespace L2
open PySem PySem.Spec PyProof.Rows
end L2
namespace L2
open PySem PySem.Spec PyProof.Rows
end L2
namespace Hq
open PySem L2
end Hq
namespace L2
open PySem PySem.Spec PyProof.Rows
end L2
namespace L2
open PySem PySem.Spec PyProof.Rows
section
variable {X : Cx}
/-- + of two lists that are read -/
def rCatL (K : PySem.W.Frag) : R2 := fun x y H Q => ∃ l b xs zs, x = .ref l ∧ y = .ref b ∧ SqL K H l xs ∧ SqL K H b zs ∧ xs.length + zs.length ≤ sizeLine ∧ ∀ p, H p = none → Q (.ref p) (upd H p (.lst (xs ++ zs)))
theorem op_catL : OpR X (binaryOp .Add) (rCatL X.K) := by
  intro pins s σ H x y v u Q I rx ry h
  obtain ⟨l, b, xs, zs, rfl, rfl, hH, hB, hz, q⟩ := h
  cases rx
  cases ry
  obtain ⟨its, r, p1, z1⟩ := I.list hH
  obtain ⟨its2, r2, p2, z2⟩ := I.list hB
  have l1 := r.length
  have l2 := r2.length
  obtain ⟨⟨cls, dd, data, sl⟩, ho, hc, n, hd⟩ := p1.isList
  obtain ⟨⟨cls2, dd2, data2, sl2⟩, ho2, hc2, n2, hd2⟩ := p2.isList
  simp only at hc hd hc2 hd2
  subst hc hd hc2 hd2
  have ea : its.toArray ++ its2.toArray = (its ++ its2).toArray := by simp
  refine concat_meets ⟨_, ho, rfl⟩ ⟨_, ho2, rfl⟩ noFill_list_add seq_list_add PySem.F.slot_list_add PySem.F.entry_list_add (PySem.F.args_list_add_2 _ _) (list_addW l b its.toArray its2.toArray n n2 dd dd2 sl sl2 (by rw [List.size_toArray, List.size_toArray]; omega)) ⟨ho, ho2, ?_⟩
  rw [ea]
  exact ⟨.ref _, _, I.lnew (t' := s.toks) (r.append r2) (by rw [List.length_append]; omega), rfl, q _ I.fresh⟩
theorem c_catL {K : PySem.W.Frag} {Y : Cx} (e : Y.K = K) : OpR Y (binaryOp .Add) (rCatL K) := e ▸ op_catL
end
end L2
namespace Hq
open PySem L2
end Hq
namespace Hq
open PySem
end Hq
namespace Hq
open PySem L2
section
variable {K : PySem.W.Frag} {E : Ent} {F H : Hp} {M M1 M2 : Ms} {Γ : Gm} {te ti : TE}
/-- a slice of a list of ints, as data -/
theorem ev_slLD {l : List Int} {lo hi : Option Int} {tl th : TO} (h : Ev te Γ M (D K (dL l)) M1) (h1 : EvP tl Γ M1 lo) (h2 : EvP th Γ M1 hi) : Ev (tSl (rSlL K) te tl th) Γ M (D K (dL (cutI l lo hi))) M1 := fun E F σ H a c Q k =>
  h E F σ H a c _ fun v F1 H1 e1 g1 p1 => h1 E F1 σ H1 g1 (c.mono e1) _ fun F2 H2 e2 g2 => h2 E F2 σ H2 g2 (c.mono (e1.trans e2)) _ fun F3 H3 e3 g3 =>
    rsl_L g3 ((D K (dL l)).mono (e2.trans e3) p1) fun w F' H' e g p => k w F' H' (((e1.trans e2).trans e3).trans e) g p
end
end Hq
namespace Hq
open PySem L2
section
theorem le_frN {K : PySem.W.Frag} {l : List Nat} : (PLi K (l.map fun x : Nat => D K (.int (x : Int)))).le (D K (dL (l.map fun x : Nat => (x : Int)))) := fun F v h => dL_le (K := K) F v (by rw [List.map_map]; exact h)
end
end Hq
/-! ### dicts with tuple keys, values of any kind -/
namespace Hq
open PySem L2
section
variable {K : PySem.W.Frag} {E E0 : Ent} {F H : Hp} {M M1 M2 M' : Ms} {Γ : Gm} {P P1 : MP} {O O' : MO} {q : Addr} {te ta tb tl tk tv td tx : TE} {tr : TA} {D1 : Ends} {tu tz : TS} {t u : TT} {ps : List MP} {i j v jj : Nat} {β : Type} {R : β → MP} {L : List (List Int × β)} {l : List Int} {w : β}
/-! ### d.get(t, x), d[t] = x -/
def putV {β : Type} (L : List (List Int × β)) (l : List Int) (w : β) : List (List Int × β) := if (L.any fun z => decide (z.1 = l)) = true then L.map (fun z => if z.1 = l then (z.1, w) else z) else L ++ [(l, w)]
end
end Hq
/-! ### dicts whose keys are tuples of ints and tuples, nested -/
namespace L2
open PySem PySem.Spec PyProof.Rows
mutual
/-- the value is such a key -/
inductive NV (H : Hp) : V → NestedKey → Prop
  | int (i : Int) : NV H (.int i) (.num i)
  | bl (b : Bool) : NV H (.bl b) (.num (if b = true then 1 else 0))
  | non : NV H .non .none
  | tup {b : Addr} {vs : List V} {ks : List NestedKey} : H b = some (.tup vs) → NVs H vs ks → NV H (.ref b) (.tup ks)
inductive NVs (H : Hp) : List V → List NestedKey → Prop
  | nil : NVs H [] []
  | cons {v : V} {k : NestedKey} {vs : List V} {ks : List NestedKey} : NV H v k → NVs H vs ks → NVs H (v :: vs) (k :: ks)
end
mutual
theorem NV.mono {H H' : Hp} (e : ∀ b xs, H b = some (.tup xs) → H' b = some (.tup xs)) : ∀ (k : NestedKey) (v : V), NV H v k → NV H' v k
  | .none, _, h => by cases h; exact .non
  | .num i, _, h => by
    cases h with
    | int => exact .int i
    | bl b => exact .bl b
  | .text _, _, h => by cases h
  | .tup ks, _, h => by
    cases h with
    | tup h1 h2 => exact .tup (e _ _ h1) (NVs.mono e ks _ h2)
theorem NVs.mono {H H' : Hp} (e : ∀ b xs, H b = some (.tup xs) → H' b = some (.tup xs)) : ∀ (ks : List NestedKey) (vs : List V), NVs H vs ks → NVs H' vs ks
  | [], _, h => by cases h; exact .nil
  | k :: ks, _, h => by
    cases h with
    | cons h1 h2 => exact .cons (NV.mono e k _ h1) (NVs.mono e ks _ h2)
end
section
variable {P : Program} {w : World} {H : Hp} {h : Heap}
mutual
theorem NV.is (ok : HOk P w H h) : ∀ (k : NestedKey) (v : V) (u : Value), NV H v k → RelV v u → NestedIs h k u
  | .none, _, u, n, r => by
    cases n
    have r : u = Value.none := r
    subst r; exact .none
  | .num i, _, u, n, r => by
    cases n with
    | int => obtain ⟨t, rfl⟩ := (show ∃ t, u = Value.int i t from r); exact .int i t
    | bl b => have r : u = Value.bool b := r; subst r; exact .bool rfl
  | .text _, _, _, n, _ => by cases n
  | .tup ks, _, u, n, r => by
    cases n with
    | @tup b vs _ h1 h2 =>
      have r : u = Value.ref b := r
      subst r
      obtain ⟨_, its, r2, o, e1, e2, m, e3⟩ := (show ObjOk P w H h b (.tup vs) from ok b _ h1)
      exact .tup e1 e2 e3 (by simpa using NVs.is ok ks vs its h2 r2)
theorem NVs.is (ok : HOk P w H h) : ∀ (ks : List NestedKey) (vs : List V) (us : List Value), NVs H vs ks → Vals vs us → NestedAll h ks us
  | [], _, us, n, r => by cases n; cases r; exact .nil
  | k :: ks, _, us, n, r => by
    cases n with
    | cons n1 n2 =>
      cases r with
      | cons r1 r2 => exact .cons (NV.is ok k _ _ n1 r1) (NVs.is ok ks _ _ n2 r2)
end
end
abbrev NX := NestedKey × Addr × V
abbrev KN : List NX → List (NestedKey × Addr × Value) → Prop := Paired fun p q => p.1 = q.1 ∧ p.2.1 = q.2.1 ∧ RelV p.2.2 q.2.2
def atN (xs : List NX) (k : NestedKey) : Option V := (xs.find? fun x => decide (x.1 = k)).map (·.2.2)
def putN (xs : List NX) (k : NestedKey) (b : Addr) (v : V) : List NX := if (atN xs k).isSome then xs.map (fun x => if x.1 = k then (x.1, x.2.1, v) else x) else xs ++ [(k, b, v)]
theorem KN.val {xs : List NX} {us : List (NestedKey × Addr × Value)} (r : KN xs us) (k : NestedKey) : RelO (atN xs k) ((atKey us k).map (·.2)) := by
  induction r with
  | nil => exact True.intro
  | @cons p q ps qs h t ih =>
    obtain ⟨h1, _, h2⟩ := h
    by_cases e : p.1 = k
    · have e' : q.1 = k := h1.symm.trans e
      have b : atKey (q :: qs) k = some q.2 := by simp [atKey, List.find?_cons, e']
      have c : atN (p :: ps) k = some p.2.2 := by simp [atN, List.find?_cons, e]
      rw [c, b]; exact h2
    · have e' : ¬ q.1 = k := fun z => e (h1.trans z)
      have b : atKey (q :: qs) k = atKey qs k := by simp [atKey, List.find?_cons, e']
      have c : atN (p :: ps) k = atN ps k := by simp [atN, List.find?_cons, e]
      rw [c, b]; exact ih
theorem KN.put {xs : List NX} {us : List (NestedKey × Addr × Value)} (r : KN xs us) (k : NestedKey) {b : Addr} {y : V} {u : Value} (ry : RelV y u) : KN (putN xs k b y) (storedH us k b u) := by
  have e : (atN xs k).isSome = (atKey us k).isSome := by rw [(r.val k).isSome_eq, Option.isSome_map]
  unfold putN storedH
  rw [e]
  by_cases q : (atKey us k).isSome = true
  · rw [if_pos q, if_pos q]
    clear e q
    induction r with
    | nil => exact .nil
    | @cons p q ps qs h t ih =>
      rw [List.map_cons, List.map_cons]
      refine .cons ?_ ih
      obtain ⟨h1, h2, h3⟩ := h
      unfold putAt
      by_cases e : p.1 = k
      · rw [if_pos e, if_pos (h1.symm.trans e)]; exact ⟨h1, h2, ry⟩
      · rw [if_neg e, if_neg (fun z => e (h1.trans z))]; exact ⟨h1, h2, h3⟩
  · rw [if_neg q, if_neg q]; exact Paired.snoc r ⟨rfl, rfl, ry⟩
/-- the dict at a -/
def DN (P : Program) (w : World) (a : Addr) (xs : List NX) : HO := .ext fun h => (a == sysModules) = false ∧ xs.length ≤ sizeLine ∧ ∃ us : List (NestedKey × Addr × Value), KN xs us ∧
  ∃ o es ep, h.get? a = some o ∧ o.ExactDict ∧ o.data = .dict es ep ∧ es.toList = us.map (entryOfKey (nestedKind P w)) ∧ (us.map (·.1)).Nodup
/-- its keys are there -/
def NKs (H : Hp) (xs : List NX) : Prop := ∀ z ∈ xs, NV H (.ref z.2.1) z.1 ∧ z.1.depth ≤ 8
section
variable {P : Program} {w : World} {H : Hp} {h : Heap} {a : Addr} {xs : List NX}
theorem dn_of (ok : HOk P w H h) (e : H a = some (DN P w a xs)) (ks : NKs H xs) : (a == sysModules) = false ∧ xs.length ≤ sizeLine ∧ ∃ us, KN xs us ∧ h.DictOfH (nestedKind P w) a us := by
  obtain ⟨⟨h1, h2, us, r, o, es, ep, e1, e2, e3, e4, e5⟩, hex⟩ := (show ObjOk P w H h a (DN P w a xs) from ok a _ e)
  refine ⟨h1, h2, us, r, o, es, ep, e1, e2, e3, e4, fun x hx => ?_, e5⟩
  clear h2 e4 e5 e hex
  induction r with
  | nil => cases hx
  | @cons p q ps qs hq t ih =>
    rcases List.mem_cons.mp hx with e | hx
    · subst e
      obtain ⟨k1, k2⟩ := ks p List.mem_cons_self
      rw [← hq.1, ← hq.2.1]
      exact ⟨NV.is ok _ _ _ k1 rfl, k2⟩
    · exact ih (fun z hz => ks z (List.mem_cons_of_mem _ hz)) hx
theorem dn_ok {us : List (NestedKey × Addr × Value)} (h1 : (a == sysModules) = false) (h2 : xs.length ≤ sizeLine) (r : KN xs us) (d : h.DictOfH (nestedKind P w) a us) : ObjOk P w H h a (DN P w a xs) := by
  obtain ⟨o, es, ep, e1, e2, e3, e4, _, e5⟩ := d
  refine ⟨⟨h1, h2, us, r, o, es, ep, e1, e2, e3, e4, e5⟩, ⟨o, e1⟩, fun g1 g2 ⟨z1, z2, us, r, o, es, ep, e1, e2, e3, e4, e5⟩ hg => ⟨z1, z2, us, r, o, es, ep, hg _ e1, e2, e3, e4, e5⟩⟩
end
/-! the terms -/
def tDNewN (P : Program) (w : World) : TE := fun _ H Q => ∀ p, H p = none → Q (.ref p) (upd H p (DN P w p []))
def DAtN (P : Program) (w : World) (H : Hp) (a : Addr) (xs : List NX) (y : V) (k : NestedKey) : Prop := H a = some (DN P w a xs) ∧ NKs H xs ∧ (∃ b, y = .ref b) ∧ NV H y k ∧ k.depth ≤ 8
def tDGetN (P : Program) (w : World) (td ty : TE) : TE := fun σ H Q => td σ H fun x H1 => ty σ H1 fun y H2 => ∃ a xs k v, x = .ref a ∧ DAtN P w H2 a xs y k ∧ atN xs k = some v ∧ Q v H2
def tDNotInN (P : Program) (w : World) (ty td : TE) : TE := fun σ H Q => ty σ H fun y H1 => td σ H1 fun x H2 => ∃ a xs k, x = .ref a ∧ DAtN P w H2 a xs y k ∧ Q (.bl (!(atN xs k).isSome)) H2
def sDPutN (P : Program) (w : World) (td ty tv : TE) : TS := fun D σ H => tv σ H fun v H1 => td σ H1 fun x H2 => ty σ H2 fun y H3 => ∃ a xs k b, x = .ref a ∧ y = .ref b ∧ DAtN P w H3 a xs y k ∧ xs.length < sizeLine ∧ D.nx σ (upd H3 a (DN P w a (putN xs k b v)))
def rLenN (P : Program) (w : World) : List V → Hp → VK → Prop := fun vs H Q => ∃ a xs, vs = [V.ref a] ∧ H a = some (DN P w a xs) ∧ NKs H xs ∧ Q (.int xs.length) H
section
variable {X : Cx} {o i e value : Expr} {pos pos' tpos : Pos} {td ty tv : TE}
theorem units8 {k : Nat} {A : Around} (r : Room k A) : A.units + 9 < cLine := by have := r.un; omega
theorem room8 {P : Program} {w : World} {A : Around} (hu : A.units + 9 < cLine) : (nestedKind P w).room A.in1 := by
  show A.in1.units + 8 < cLine
  rw [Around.in1_units]; omega
theorem pe_dnewN : PE X (.Dict [] [] pos) (tDNewN X.prog X.w) := ⟨fun pins s σ H Q I h =>
  wpAny_Dict_empty ⟨.ref s.heap.objs.size, _, I.laid (a := s.heap.objs.size) (o := DN X.prog X.w s.heap.objs.size []) (t' := s.toks) (fun _ _ q => Heap.get?_push_of_some _ q) (Nat.le_refl _) (dn_ok (us := []) (beq_eq_false_iff_ne.mpr (Ne.symm (Nat.ne_of_lt I.big))) (Nat.zero_le _) .nil (Heap.DictOfH.new s.heap)), rfl, h _ (I.hok.fresh (Nat.le_refl _))⟩⟩
theorem pe_dgetN (hu : X.A.units + 9 < cLine) (ho : PE X o td) (hi : PE X i ty) (hs : NoSl i) : PE X (.Subscript o i pos) (tDGetN X.prog X.w td ty) := by
  refine ⟨fun pins s σ H Q I h => ?_⟩
  refine subD_of PySem.F.slot_dict_getitem.lookup hs (thn (ho.run pins s σ H _ I h) fun u s1 ⟨x, H1, I1, rx, q1⟩ => thn (hi.run pins s1 σ H1 _ I1 q1) fun iv s2 ⟨y, H2, I2, ry, a, xs, k, v, ex, ⟨g1, g2, ⟨b, eb⟩, g3, g4⟩, g5, q2⟩ => ?_)
  subst ex; subst eb
  obtain rfl : u = Value.ref a := rx
  obtain rfl : iv = Value.ref b := ry
  obtain ⟨hd, hz, us, r, dd⟩ := dn_of I2.hok g1 g2
  obtain ⟨w', hw, rw'⟩ := RelO.some_of (v := v) (o := (atKey us k).map (·.2)) (by rw [← g5]; exact r.val k)
  obtain ⟨p, hp, hp2⟩ := Option.map_eq_some_iff.mp hw
  refine ⟨dd.typeIs, wpAny_getItem_heap (room8 hu) ⟨NV.is I2.hok _ _ _ g3 rfl, g4⟩ dd hp ?_⟩
  rw [hp2]
  exact ⟨v, H2, I2.tok _, rw', q2⟩
theorem pc_dnotinN (hu : X.A.units + 9 < cLine) (hi : PE X i ty) (ho : PE X o td) : PC X .NotIn i o (tDNotInN X.prog X.w ty td) := by
  refine ⟨fun pins s σ H Q I h => ?_⟩
  refine thn (hi.run pins s σ H _ I h) fun iv s1 ⟨y, H1, I1, ry, q1⟩ => thn (ho.run pins s1 σ H1 _ I1 q1) fun u s2 ⟨x, H2, I2, rx, a, xs, k, ex, ⟨g1, g2, ⟨b, eb⟩, g3, g4⟩, q2⟩ => ?_
  subst ex; subst eb
  obtain rfl : u = Value.ref a := rx
  obtain rfl : iv = Value.ref b := ry
  obtain ⟨hd, hz, us, r, dd⟩ := dn_of I2.hok g1 g2
  have l := (r.val k).isSome_eq
  refine notIn_keyed (room8 hu) ⟨NV.is I2.hok _ _ _ g3 rfl, g4⟩ hd ⟨us, dd, rfl⟩ ?_
  rw [valueAt_pairsH, ← l]
  exact ⟨.bl (!(atN xs k).isSome), H2, I2.tok _, rfl, q2⟩
theorem putN_len {xs : List NX} {k : NestedKey} {b : Addr} {v : V} : (putN xs k b v).length ≤ xs.length + 1 := by
  unfold putN
  by_cases h : (atN xs k).isSome = true
  · rw [if_pos h, List.length_map]; omega
  · rw [if_neg h, List.length_append]; simp
theorem ps_dputN (hu : X.A.units + 9 < cLine) (ho : PE X o td) (hi : PE X i ty) (hv : PE X value tv) (hs : swapsWith value (some (.Subscript o i pos')) pos.line X.env = pure false) :
    PS X (.Assign [.Subscript o i pos'] value pos) (sDPutN X.prog X.w td ty tv) := by
  refine ⟨fun pins s σ H D I h => ?_⟩
  refine wpAny_Assign_Subscript (thn (hv.run pins s σ H _ I h) fun r s1 ⟨v, H1, I1, rv, q1⟩ => thn (ho.run pins s1 σ H1 _ I1 q1) fun u s2 ⟨x, H2, I2, rx, q2⟩ => thn (hi.run pins s2 σ H2 _ I2 q2) fun iv s3 ⟨y, H3, I3, ry, a, xs, k, b, ex, eb, ⟨g1, g2, _, g3, g4⟩, l, q3⟩ => ?_) hs
  subst ex; subst eb
  obtain rfl : u = Value.ref a := rx
  obtain rfl : iv = Value.ref b := ry
  obtain ⟨hd, hz, us, rr, dd⟩ := dn_of I3.hok g1 g2
  have hz2 : us.length ≤ sizeLine := by rw [← Paired.length rr]; exact hz
  refine wpAny_setItem_heap (hsz := hz2) (room8 hu) ⟨NV.is I3.hok _ _ _ g3 rfl, g4⟩ dd fun h' dd' hs => ?_
  have hq : ∃ q, h'.get? a = some q := let ⟨q, _, _, hq, _⟩ := dd'; ⟨q, hq⟩
  exact ⟨σ, _, d_write I3 (by rw [g1]; exact True.intro) hs hq (dn_ok hd (by have := putN_len (xs := xs) (k := k) (b := b) (v := v); omega) (rr.put k rv) dd'), q3⟩
theorem call_lenN : CallR X (.builtin "len") (rLenN X.prog X.w) := by
  intro pins s σ H xs us Q I r h
  obtain ⟨a, ys, rfl, ha, ks, q⟩ := h
  obtain ⟨u, rfl, ru⟩ := vals1 r
  cases ru
  obtain ⟨hd, hz, us, rr, dd⟩ := dn_of I.hok ha ks
  have e : (pairsH us).length = ys.length := by rw [pairsH_length, ← Paired.length rr]
  refine call_len_slot (n := (ys.length : Int)) dd.typeIs F.slot_dict_len (fun Q' hQ => len_keyed hd ⟨us, dd, rfl⟩ (by rw [e]; exact hQ)) (by omega) (by rw [sizeLine_eq] at hz; omega) ?_
  exact ⟨.int ys.length, H, I.tok _, ⟨_, rfl⟩, q⟩
end
end L2
namespace Hq
open PySem L2
/-- a key: a tuple -/
def NKy (k : NestedKey) : MP := ⟨fun F v => (∃ b, v = .ref b) ∧ NV F v k, fun e ⟨h1, h2⟩ => ⟨h1, NV.mono (fun b xs z => e b _ z) k _ h2⟩⟩
abbrev LN := List (NestedKey × Int)
def lkN (L : LN) (k : NestedKey) : Option Int := (L.find? fun x => decide (x.1 = k)).map (·.2)
def ptN (L : LN) (k : NestedKey) (v : Int) : LN := if (lkN L k).isSome then L.map (fun x => if x.1 = k then (x.1, v) else x) else L ++ [(k, v)]
/-- the dict at q, nested keys to ints -/
def MDN (P : Program) (w : World) (q : Addr) (L : LN) : MO := ⟨fun F o => ∃ xs : List NX, o = DN P w q xs ∧ Paired (fun (x : NX) (l : NestedKey × Int) => x.1 = l.1 ∧ x.2.2 = V.int l.2) xs L ∧ NKs F xs,
  fun e ⟨xs, h1, h2, h3⟩ => ⟨xs, h1, h2, fun z hz => ⟨NV.mono (fun b xs z => e b _ z) _ _ (h3 z hz).1, (h3 z hz).2⟩⟩, fun ⟨xs, h, _⟩ ys z => by rw [h] at z; cases z⟩
section
variable {P : Program} {w : World} {K : PySem.W.Frag} {E : Ent} {F H : Hp} {M M1 M2 : Ms} {Γ : Gm} {q : Addr} {j i : Nat} {te ta tb tk tv td : TE} {tr : TA} {D1 : Ends} {tz : TS} {key : NestedKey} {L : LN}
theorem pn_at {xs : List NX} {L : LN} (r : Paired (fun (x : NX) (l : NestedKey × Int) => x.1 = l.1 ∧ x.2.2 = V.int l.2) xs L) : atN xs key = (lkN L key).map V.int := by
  induction r with
  | nil => rfl
  | @cons p l ps ls h t ih =>
    obtain ⟨h1, h2⟩ := h
    by_cases e : p.1 = key
    · have e' : l.1 = key := h1.symm.trans e
      have b : lkN (l :: ls) key = some l.2 := by simp [lkN, List.find?_cons, e']
      have c : atN (p :: ps) key = some p.2.2 := by simp [atN, List.find?_cons, e]
      rw [b, c, h2]; rfl
    · have e' : ¬ l.1 = key := fun z => e (h1.trans z)
      have b : lkN (l :: ls) key = lkN ls key := by simp [lkN, List.find?_cons, e']
      have c : atN (p :: ps) key = atN ps key := by simp [atN, List.find?_cons, e]
      rw [b, c, ih]
theorem pn_put {xs : List NX} {L : LN} {b : Addr} {v : Int} (r : Paired (fun (x : NX) (l : NestedKey × Int) => x.1 = l.1 ∧ x.2.2 = V.int l.2) xs L) : Paired (fun (x : NX) (l : NestedKey × Int) => x.1 = l.1 ∧ x.2.2 = V.int l.2) (putN xs key b (.int v)) (ptN L key v) := by
  have e : (atN xs key).isSome = (lkN L key).isSome := by rw [pn_at r, Option.isSome_map]
  unfold putN ptN
  rw [e]
  by_cases q : (lkN L key).isSome = true
  · rw [if_pos q, if_pos q]
    clear e q
    induction r with
    | nil => exact .nil
    | @cons p l ps ls h t ih =>
      rw [List.map_cons, List.map_cons]
      refine .cons ?_ ih
      obtain ⟨h1, h2⟩ := h
      by_cases e : p.1 = key
      · rw [if_pos e, if_pos (h1.symm.trans e)]; exact ⟨h1, rfl⟩
      · rw [if_neg e, if_neg (fun z => e (h1.trans z))]; exact ⟨h1, h2⟩
  · rw [if_neg q, if_neg q]; exact paired_app r (.cons ⟨rfl, rfl⟩ .nil)
theorem nks_put {xs : List NX} {b : Addr} {v : V} (h : NKs F xs) (hk : NV F (.ref b) key) (hd : key.depth ≤ 8) : NKs F (putN xs key b v) := by
  unfold putN
  by_cases q : (atN xs key).isSome = true
  · rw [if_pos q]
    intro z hz
    obtain ⟨x, hx, rfl⟩ := List.mem_map.mp hz
    by_cases e : x.1 = key
    · rw [if_pos e]; exact h x hx
    · rw [if_neg e]; exact h x hx
  · rw [if_neg q]
    intro z hz
    rcases List.mem_append.mp hz with hz | hz
    · exact h z hz
    · rw [List.mem_singleton.mp hz]; exact ⟨hk, hd⟩
theorem lkN_cons {l : NestedKey × Int} {L : LN} {k : NestedKey} : lkN (l :: L) k = if l.1 = k then some l.2 else lkN L k := by
  unfold lkN
  rw [List.find?_cons]
  by_cases e : l.1 = k
  · rw [decide_eq_true e, if_pos e]; rfl
  · rw [decide_eq_false e, if_neg e]
theorem ptN_new {L : LN} {k : NestedKey} {v : Int} (h : lkN L k = none) : ptN L k v = L ++ [(k, v)] := by unfold ptN; rw [h]; rfl
theorem q_newDN (k : ∀ q, E.H q = none → Nx E (Γ.set i (some (Own q))) ((q, MDN P w q []) :: M) (tz D1)) : Nx E Γ M (tSeq (tAsg (tDNewN P w) (gName i)) tz D1) := fun σ H ⟨F, a, b⟩ p hp =>
  k p (a.fresh hp) _ _ ⟨F, a.new hp ⟨[], rfl, .nil, fun z hz => by cases hz⟩, b.set i (P := Own p) rfl⟩
theorem ev_dnotinN (hk : Ev tk Γ M (NKy key) M1) (hd : Ev td Γ M1 (Own q) M2) (e : M2[j]? = some (q, MDN P w q L)) (h8 : key.depth ≤ 8) : Ev (tDNotInN P w tk td) Γ M (D K (.bool (!(lkN L key).isSome))) M2 := fun E F σ H a b Q k => by
  refine hk E F σ H a b _ fun x F1 H1 e1 g1 ⟨hb, hn⟩ => hd E F1 σ H1 g1 (b.mono e1) _ fun y F2 H2 e2 g2 p2 => ?_
  have p2 : y = .ref q := p2
  subst p2
  obtain ⟨fq, o, ho, xs, rfl, pr, nk⟩ := g2.at e
  refine ⟨q, xs, key, rfl, ⟨ho, fun z hz => ⟨NV.mono (fun b xs z => g2.ex b _ z) _ _ (nk z hz).1, (nk z hz).2⟩, hb, NV.mono (fun b xs z => g2.ex b _ (e2 b _ z)) _ _ hn, h8⟩, ?_⟩
  rw [pn_at pr, Option.isSome_map]
  exact k _ F2 H2 (e1.trans e2) g2 (.bl _)
theorem ev_dgetN {v : Int} (hd : Ev td Γ M (Own q) M1) (hk : Ev tk Γ M1 (NKy key) M2) (e : M2[j]? = some (q, MDN P w q L)) (h8 : key.depth ≤ 8) (hv : lkN L key = some v) : Ev (tDGetN P w td tk) Γ M (D K (.int v)) M2 := fun E F σ H a b Q k => by
  refine hd E F σ H a b _ fun y F1 H1 e1 g1 p2 => hk E F1 σ H1 g1 (b.mono e1) _ fun x F2 H2 e2 g2 ⟨hb, hn⟩ => ?_
  have p2 : y = .ref q := p2
  subst p2
  obtain ⟨fq, o, ho, xs, rfl, pr, nk⟩ := g2.at e
  exact ⟨q, xs, key, .int v, rfl, ⟨ho, fun z hz => ⟨NV.mono (fun b xs z => g2.ex b _ z) _ _ (nk z hz).1, (nk z hz).2⟩, hb, NV.mono (fun b xs z => g2.ex b _ z) _ _ hn, h8⟩, by rw [pn_at pr, hv]; rfl, k _ F2 H2 (e1.trans e2) g2 (.int v)⟩
theorem go_dputN {v : Int} (hv : Ev tv Γ M (D K (.int v)) M1) (hd : Ev td Γ M1 (Own q) M1) (hk : Ev tk Γ M1 (NKy key) M1) (e : M1[j]? = some (q, MDN P w q L)) (h8 : key.depth ≤ 8) (hz : L.length < 100000) (k : Nx E Γ (M1.set j (q, MDN P w q (ptN L key v))) D1.nx) : Nx E Γ M (sDPutN P w td tk tv D1) := fun σ H ⟨F, a, b⟩ => by
  refine hv E F σ H a b _ fun y F1 H1 e1 g1 p1 => hd E F1 σ H1 g1 (b.mono e1) _ fun x F2 H2 e2 g2 p2 => hk E F2 σ H2 g2 (b.mono (e1.trans e2)) _ fun z F3 H3 e3 g3 ⟨⟨bb, hb⟩, hn⟩ => ?_
  cases dp_int p1
  have p2 : x = .ref q := p2
  subst p2
  subst hb
  obtain ⟨fq, o, ho, xs, rfl, pr, nk⟩ := g3.at e
  have hlen : xs.length = L.length := Paired.length pr
  refine ⟨q, xs, key, bb, rfl, rfl, ⟨ho, fun z hz => ⟨NV.mono (fun b xs z => g3.ex b _ z) _ _ (nk z hz).1, (nk z hz).2⟩, ⟨bb, rfl⟩, NV.mono (fun b xs z => g3.ex b _ z) _ _ hn, h8⟩, sz_lt (by omega), ?_⟩
  exact k _ _ ⟨F3, g3.mut e ⟨_, rfl, pn_put pr, nks_put nk hn h8⟩, b.mono ((e1.trans e2).trans e3)⟩
theorem ev_lenN (hd : Ev td Γ M (Own q) M1) (e : M1[j]? = some (q, MDN P w q L)) : Ev (tCB (rLenN P w) (tCons td tNil)) Γ M (D K (.int L.length)) M1 := ev_cb (ea_cons hd ea_nil) fun E F H vs g h Q k => by
  obtain ⟨v, rfl, hv⟩ := ps1 h
  have hv : v = .ref q := hv
  subst hv
  obtain ⟨fq, o, ho, xs, rfl, pr, nk⟩ := g.at e
  refine ⟨q, xs, rfl, ho, fun z hz => ⟨NV.mono (fun b xs z => g.ex b _ z) _ _ (nk z hz).1, (nk z hz).2⟩, ?_⟩
  rw [Paired.length pr]
  exact k _ F H (Evl.Ex.refl _) g (.int _)
/-! keys -/
def NKv (k : NestedKey) : MP := ⟨fun F v => NV F v k, fun e h => NV.mono (fun b xs z => e b _ z) k _ h⟩
theorem nk_int {n : Int} : (D K (.int n)).le (NKv (.num n)) := fun F v h => by cases dp_int h; exact .int n
theorem nk_y : (NKy key).le (NKv key) := fun F v h => h.2
theorem nvs_ints {F : Hp} : ∀ {l : List Int}, NVs F (l.map V.int) (l.map NestedKey.num)
  | [] => .nil
  | n :: l => .cons (.int n) nvs_ints
theorem nk_T {l : List Int} : (NT l).le (NKy (.tup (l.map .num))) := fun F v ⟨b, h1, h2⟩ => ⟨⟨b, h1⟩, h1 ▸ .tup h2 nvs_ints⟩
theorem ps_nvs {F : Hp} : ∀ {vs : List V} {ks : List NestedKey}, Ps F vs (ks.map NKv) → NVs F vs ks
  | _, [], h => by cases h; exact .nil
  | _, k :: ks, h => by cases h with | cons h t => exact .cons h (ps_nvs t)
theorem ev_tupK {ks : List NestedKey} (h : EvA tr Γ M (ks.map NKv) M1) (hl : ks.length ≤ 1000) : Ev (tTup tr) Γ M (NKy (.tup ks)) M1 := fun E F σ H a b Q k =>
  h E F σ H a b _ fun vs F1 H1 e1 g1 p1 => by
    have n := ps_nvs p1
    have l : vs.length ≤ 1000 := by have := Paired.length p1; rw [List.length_map] at this; omega
    refine ⟨sz_of (by omega), fun p hp => ?_⟩
    have fr := Evl.fresh_back g1.ex hp
    exact k _ _ _ (e1.trans (Evl.Ex.new fr)) (g1.laid hp) ⟨⟨p, rfl⟩, .tup upd_same (NVs.mono (fun b xs z => (Evl.Ex.new fr) b _ z) _ _ n)⟩
end
end Hq
/-! ### dicts of ints to ints, list(range(..)), unpacking three, isinstance of an own object -/
namespace Hq
open PySem L2
section
variable {K : PySem.W.Frag} {E E0 : Ent} {F H : Hp} {M M1 M2 M' : Ms} {Γ : Gm} {P P1 : MP} {O O' : MO} {q : Addr} {te ta tb tl tk tv td : TE} {tr : TA} {D1 : Ends} {tu tz : TS} {t u : TT} {ps : List MP} {i j : Nat}
theorem evn_dnewI : EvN tDNewK Γ M (MDO (fun _ => none) 0) M := fun E F σ H a b Q k p hp => k p F _ (a.fresh hp) (Evl.Ex.refl _) (a.new hp ⟨[], rfl, Nat.le_refl _, fun _ => rfl⟩)
theorem ev_dnotinI {g : Int → Option Int} {n : Nat} {x : Int} (hk : Ev tk Γ M (D K (.int x)) M1) (hd : Ev td Γ M1 (Own q) M2) (e : M2[j]? = some (q, MDO g n)) : Ev (tDNotIn tk td) Γ M (D K (.bool (!(g x).isSome))) M2 := fun E F σ H a b Q k => by
  refine hk E F σ H a b _ fun v F1 H1 e1 g1 p1 => hd E F1 σ H1 g1 (b.mono e1) _ fun y F2 H2 e2 g2 p2 => ?_
  cases dp_int p1
  have p2 : y = .ref q := p2
  subst p2
  obtain ⟨fq, o, ho, kvs, rfl, _, hkv⟩ := g2.at e
  refine ⟨q, _, rfl, DGet.k (k := .inl x) ho, ?_⟩
  rw [hkv, Option.isSome_map]
  exact k _ F2 H2 (e1.trans e2) g2 (.bl _)
theorem go_dputI {g : Int → Option Int} {n : Nat} {x v : Int} (hv : Ev tv Γ M (D K (.int v)) M1) (hd : Ev td Γ M1 (Own q) M1) (hk : Ev tk Γ M1 (D K (.int x)) M1) (e : M1[j]? = some (q, MDO g n)) (hn : n < 50000) (k : Nx E Γ (M1.set j (q, MDO (fun y => if y = x then some v else g y) (n + 1))) D1.nx) : Nx E Γ M (sDPut td tk tv D1) := fun σ H ⟨F, a, b⟩ => by
  refine hv E F σ H a b _ fun y F1 H1 e1 g1 p1 => hd E F1 σ H1 g1 (b.mono e1) _ fun w F2 H2 e2 g2 p2 => hk E F2 σ H2 g2 (b.mono (e1.trans e2)) _ fun z F3 H3 e3 g3 p3 => ?_
  cases dp_int p1
  cases dp_int p3
  have p2 : w = .ref q := p2
  subst p2
  obtain ⟨fq, o, ho, kvs, rfl, hl, hkv⟩ := g3.at e
  refine ⟨q, _, rfl, DPut.k (k := .inl x) ho (sz_lt (by omega)), ?_⟩
  refine k _ _ ⟨F3, g3.mut e ⟨_, rfl, Nat.le_trans (length_putK _ _ _) (by omega), fun y => ?_⟩, b.mono ((e1.trans e2).trans e3)⟩
  rw [valV_put]
  by_cases c : y = x
  · subst c; rw [if_pos rfl]; show some (V.int v) = Option.map V.int (if y = y then some v else g y); rw [if_pos rfl]; rfl
  · rw [if_neg (fun z => c (Sum.inl.inj z))]; show _ = Option.map V.int (if y = x then some v else g y); rw [if_neg c, hkv]
theorem q_dputI {g : Int → Option Int} {n : Nat} {x v : Int} (hv : Ev tv Γ M (D K (.int v)) M1) (hd : Ev td Γ M1 (Own q) M1) (hk : Ev tk Γ M1 (D K (.int x)) M1) (e : M1[j]? = some (q, MDO g n)) (hn : n < 50000) (k : Nx E Γ (M1.set j (q, MDO (fun y => if y = x then some v else g y) (n + 1))) (tz D1)) : Nx E Γ M (tSeq (sDPut td tk tv) tz D1) :=
  go_dputI (D1 := { D1 with nx := tz D1 }) hv hd hk e hn k
theorem evn_dispI {x v : Int} (hk : ∀ r : Addr × MO, Ev tk Γ (r :: M) (D K (.int x)) (r :: M)) (hv : ∀ M, Ev tv Γ M (D K (.int v)) M) : EvN (tDisp [(tk, tv)]) Γ M (MDO (fun y => if y = x then some v else none) 1) M := fun E F σ H a b Q k p hp => by
  have g0 := a.new (q := p) (O := MDO (fun _ => none) 0) (o := .dK []) hp ⟨[], rfl, Nat.le_refl _, fun _ => rfl⟩
  refine hk _ E F σ _ g0 b _ fun y F1 H1 e1 g1 p1 => hv _ E F1 σ H1 g1 (b.mono e1) _ fun z F2 H2 e2 g2 p2 => ?_
  cases dp_int p1
  cases dp_int p2
  obtain ⟨fq, o, ho, kvs, rfl, hl, hkv⟩ := g2.at (j := 0) rfl
  have : kvs = [] := List.length_eq_zero_iff.mp (by omega)
  subst this
  refine ⟨ho, [(.inl x, .int v)], rfl, by simp, ?_⟩
  refine k p F2 _ (a.fresh hp) (e1.trans e2) (g2.mut (j := 0) rfl ⟨_, rfl, Nat.le_refl _, fun y => ?_⟩)
  show valV (putK ([] : List (Key × V)) (.inl x) (.int v)) (.inl y) = Option.map V.int (if y = x then some v else none)
  rw [valV_put]
  by_cases c : y = x
  · subst c; rw [if_pos rfl, if_pos rfl]; rfl
  · rw [if_neg (fun z => c (Sum.inl.inj z)), if_neg c]; rfl
/-! the keys alone -/
theorem evn_dispS {x : Int} (hk : ∀ M, Ev tk Γ M (D K (.int x)) M) (hv : ∀ M, Ev tv Γ M P M) : EvN (tDisp [(tk, tv)]) Γ M (MSet [x]) M := fun E F σ H a b Q k p hp => by
  have g0 := a.new (q := p) (O := MSet []) (o := .dK []) hp ⟨[], rfl, Nat.le_refl _, fun _ => rfl⟩
  refine hk _ E F σ _ g0 b _ fun y F1 H1 e1 g1 p1 => hv _ E F1 σ H1 g1 (b.mono e1) _ fun z F2 H2 e2 g2 p2 => ?_
  cases dp_int p1
  obtain ⟨fq, o, ho, kvs, rfl, hl, hkv⟩ := g2.at (j := 0) rfl
  have : kvs = [] := List.length_eq_zero_iff.mp (by simpa using hl)
  subst this
  refine ⟨ho, [(.inl x, z)], rfl, by simp, ?_⟩
  refine k p F2 _ (a.fresh hp) (e1.trans e2) (g2.mut (j := 0) rfl ⟨_, rfl, Nat.le_refl _, fun y => ?_⟩)
  show (valV (putK ([] : List (Key × V)) (.inl x) z) (.inl y)).isSome = _
  rw [valV_put]
  by_cases c : y = x
  · subst c; rw [if_pos rfl]; simp
  · rw [if_neg (fun z => c (Sum.inl.inj z))]; simp [c]; rfl
theorem ev_dnotinS {x : Int} {ks : List Int} (hk : Ev tk Γ M (D K (.int x)) M1) (hd : Ev td Γ M1 (Own q) M2) (e : M2[j]? = some (q, MSet ks)) : Ev (tDNotIn tk td) Γ M (D K (.bool (!decide (x ∈ ks)))) M2 := fun E F σ H a b Q k => by
  refine hk E F σ H a b _ fun v F1 H1 e1 g1 p1 => hd E F1 σ H1 g1 (b.mono e1) _ fun y F2 H2 e2 g2 p2 => ?_
  cases dp_int p1
  have p2 : y = .ref q := p2
  subst p2
  obtain ⟨fq, o, ho, kvs, rfl, _, hkv⟩ := g2.at e
  refine ⟨q, _, rfl, DGet.k (k := .inl x) ho, ?_⟩
  rw [hkv]
  exact k _ F2 H2 (e1.trans e2) g2 (.bl _)
theorem q_dputS {x : Int} {ks : List Int} (hv : Ev tv Γ M P M1) (hd : Ev td Γ M1 (Own q) M1) (hk : Ev tk Γ M1 (D K (.int x)) M1) (e : M1[j]? = some (q, MSet ks)) (hn : ks.length < 50000) (k : Nx E Γ (M1.set j (q, MSet (x :: ks))) (tz D1)) : Nx E Γ M (tSeq (sDPut td tk tv) tz D1) := fun σ H ⟨F, a, b⟩ => by
  refine hv E F σ H a b _ fun y F1 H1 e1 g1 p1 => hd E F1 σ H1 g1 (b.mono e1) _ fun w F2 H2 e2 g2 p2 => hk E F2 σ H2 g2 (b.mono (e1.trans e2)) _ fun z F3 H3 e3 g3 p3 => ?_
  cases dp_int p3
  have p2 : w = .ref q := p2
  subst p2
  obtain ⟨fq, o, ho, kvs, rfl, hl, hkv⟩ := g3.at e
  refine ⟨q, _, rfl, DPut.k (k := .inl x) ho (sz_lt (by omega)), ?_⟩
  refine k _ _ ⟨F3, g3.mut e ⟨_, rfl, Nat.le_trans (length_putK _ _ _) (by rw [List.length_cons]; omega), fun y => ?_⟩, b.mono ((e1.trans e2).trans e3)⟩
  rw [valV_put]
  by_cases c : y = x
  · subst c; rw [if_pos rfl]; simp
  · rw [if_neg (fun z => c (Sum.inl.inj z)), hkv]; simp [c]
/-! list(range(n)) -/
theorem evn_listRg {n : Nat} (h : Ev te Γ M (D K (.int (n : Int))) M1) (hn : n ≤ 10000) : EvN (tLstRg (tRg1 te)) Γ M (MInts K ((List.range n).map fun i : Nat => (i : Int))) M1 := fun E F σ H a b Q k => h E F σ H a b _ fun v F1 H1 e1 g1 p1 => by
  cases dp_int p1
  refine ⟨(n : Int), rfl, RgOk.of_le (by omega) (by omega) (by omega) (by omega), fun l hl => k l F1 _ (g1.fresh hl) e1 (g1.new hl ⟨_, rfl, ?_⟩)⟩
  have e : rgV 0 (n : Int) = ((List.range n).map fun i : Nat => (i : Int)).map V.int := by
    unfold rgV
    rw [Int.sub_zero, Int.toNat_natCast, List.map_map]
    exact List.map_congr_left fun i _ => by show V.int (0 + (i : Int)) = V.int (i : Int); rw [Int.zero_add]
  rw [e]
  exact map_ints _
/-! a, b, c = e -/
/-! isinstance(o, C) -/
end
end Hq
namespace Hq
open PySem L2
section
variable {K : PySem.W.Frag} {E E0 : Ent} {F H : Hp} {M M1 M2 M' : Ms} {Γ : Gm} {P P1 : MP} {O O' : MO} {q : Addr} {te ta tb tl tk tv td : TE} {tr : TA} {D1 : Ends} {tu tz : TS} {t u : TT} {ps : List MP} {i j : Nat}
/-! in and index of own lists -/
theorem dp_own {ds : List PyData} {ws : List V} (h : H q = some (.lst ws)) (e : Ex F H) (s : Ps F ws (ds.map (D K))) : Dp K H (.ref q) (.list ds) := by
  refine .lst (SqL.of h) ?_
  have key : ∀ {ws : List V} {ds : List PyData}, Ps F ws (ds.map (D K)) → Paired (fun v d => Dp K H v d) ws ds := by
    intro ws ds
    induction ds generalizing ws with
    | nil => intro h; cases h; exact .nil
    | cons d ds ih => intro h; cases h with | cons a t => exact .cons (Dp.mono e a) (ih t)
  have := key s
  clear s h
  induction this with
  | nil => exact .nil
  | cons a t ih => exact .cons a ih
theorem ps_mapD {F : Hp} {α : Type} {f : α → PyData} {l : List α} {ws : List V} (h : Ps F ws (l.map fun x => D K (f x))) : Ps F ws ((l.map f).map (D K)) := by rw [List.map_map]; exact h
theorem rv_notInDO {α : Type} [DecidableEq α] {f : α → PyData} {n : Nat} (en : Enc f n) (hn : n + 1 ≤ 64) {x : α} {l : List α} (e : M[j]? = some (q, ML (l.map fun x => D K (f x)))) : RV (rNotInD K) (D K (f x)) (Own q) M (D K (.bool (!decide (x ∈ l)))) M := fun E F H y z a p1 p2 Q k => by
  have p2 : z = .ref q := p2
  subst p2
  obtain ⟨_, o, ho, ws, rfl, s⟩ := a.at e
  exact ⟨_, _, Dp.mono a.ex p1, dp_own ho a.ex (ps_mapD s), en.shaped (by omega) x, (enc_list en).shaped hn l, by rw [any_enc en]; exact k _ F H (Evl.Ex.refl _) a (.bl _)⟩
end
end Hq
/-! ### own lists of own lists: read by a call and owned after it -/
namespace Hq
open PySem L2
/-- what does not speak of lists -/
def Pure (P : MP) : Prop := ∀ (F F' : Hp) (v : V), (∀ a o, F a = some o → (∀ xs, o ≠ .lst xs) → F' a = some o) → P.p F v → P.p F' v
def PureO (O : MO) : Prop := ∀ (F F' : Hp) (o : HO), (∀ a o, F a = some o → (∀ xs, o ≠ .lst xs) → F' a = some o) → O.p F o → O.p F' o
section
variable {K : PySem.W.Frag} {E E0 : Ent} {F H : Hp} {M M1 M2 M' : Ms} {Γ : Gm} {P P1 : MP} {O O' : MO} {q : Addr} {te ta tb tl tk tv td : TE} {tr : TA} {D1 : Ends} {tu tz : TS} {t u : TT} {ps : List MP} {i j : Nat}
/-- owned lists are read as lists that stand while e is worked out, and are owned after it -/
theorem ev_borrow {MB M0 : Ms} {Γ' : Gm} (hb : ∀ r ∈ MB, ∃ ps, r.2 = ML ps) (pP : Pure P) (pM : ∀ r ∈ M0, PureO r.2)
    (hΓ : ∀ (σ : St) (F F1 : Hp), EnvOk F σ Γ → Ex F F1 → (∀ r ∈ MB, ∃ o, F1 r.1 = some o ∧ r.2.p F1 o) → EnvOk F1 σ Γ')
    (h : Ev te Γ' M0 P M0) : Ev te Γ (MB ++ M0) P (MB ++ M0) := fun E F σ H a b Q k => by
  let B : Addr → Prop := fun x => x ∈ keys MB
  letI : DecidablePred B := fun _ => Classical.propDecidable _
  have nd := a.wd.nd
  have own := a.wd.own
  have ndk : (keys MB ++ keys M0).Nodup := by have := nd; rwa [keys, List.map_append] at this
  have off0 : ∀ r ∈ M0, ¬ B r.1 := fun r hr hB => (List.nodup_append.mp ndk).2.2 r.1 hB r.1 (List.mem_map_of_mem (f := (·.1)) hr) rfl
  have atB : ∀ x, B x → F x = none ∧ ∃ r ∈ MB, r.1 = x := fun x hx => by
    obtain ⟨r, hr, rfl⟩ := List.mem_map.mp hx
    exact ⟨(own r (List.mem_append_left _ hr)).1, r, hr, rfl⟩
  let F1 : Hp := fun x => if B x then H x else F x
  have e1 : Ex F F1 := fun x o hx => by
    show (if B x then H x else F x) = some o
    by_cases c : B x
    · rw [(atB x c).1] at hx; cases hx
    · rw [if_neg c]; exact hx
  have w1 : Wd F1 M0 H := by
    refine ⟨fun x o hx => ?_, (List.nodup_append.mp ndk).2.1, fun r hr => ?_⟩
    · have hx : (if B x then H x else F x) = some o := hx
      by_cases c : B x
      · rw [if_pos c] at hx; exact hx
      · rw [if_neg c] at hx; exact a.wd.ex x o hx
    · obtain ⟨h1, o, h2, h3⟩ := own r (List.mem_append_right _ hr)
      refine ⟨?_, o, h2, r.2.mono e1 h3⟩
      show (if B r.1 then H r.1 else F r.1) = none
      rw [if_neg (off0 r hr)]; exact h1
  have rd : ∀ r ∈ MB, ∃ o, F1 r.1 = some o ∧ r.2.p F1 o := fun r hr => by
    obtain ⟨_, o, h2, h3⟩ := own r (List.mem_append_left _ hr)
    refine ⟨o, ?_, r.2.mono e1 h3⟩
    show (if B r.1 then H r.1 else F r.1) = some o
    rw [if_pos (show B r.1 from List.mem_map_of_mem (f := (·.1)) hr)]; exact h2
  refine h ⟨F1, H, keys M0⟩ F1 σ H (Pt.start w1) (hΓ σ F F1 b e1 rd) _ fun v F2 H2 e2 g2 p2 => ?_
  have e2 : Ex F1 F2 := e2
  let F3 : Hp := fun x => if B x then none else F2 x
  have e3 : Ex F F3 := fun x o hx => by
    show (if B x then none else F2 x) = some o
    by_cases c : B x
    · rw [(atB x c).1] at hx; cases hx
    · rw [if_neg c]; exact e2 _ _ (e1 _ _ hx)
  have lst : ∀ x o, F2 x = some o → (∀ xs, o ≠ .lst xs) → F3 x = some o := fun x o hx hn => by
    show (if B x then none else F2 x) = some o
    by_cases c : B x
    · exfalso
      obtain ⟨_, r, hr, rfl⟩ := atB x c
      obtain ⟨o', h1, h2⟩ := rd r hr
      obtain ⟨ps, hp⟩ := hb r hr
      rw [hp] at h2
      obtain ⟨vs, ho, _⟩ := h2
      rw [e2 _ _ h1] at hx
      exact hn vs ((Option.some.inj hx).symm.trans ho)
    · rw [if_neg c]; exact hx
  have g3 : Pt ⟨F, H, keys (MB ++ M0)⟩ F3 (MB ++ M0) H2 := by
    refine ⟨⟨e3, fun x o hx ho => g2.gr.keep x o (fun z => hx (by rw [keys, List.map_append]; exact List.mem_append_right _ z)) ho, fun x h1 h2 h3 => ?_, g2.gr.stay, g2.gr.nott⟩, ⟨fun x o hx => ?_, nd, fun r hr => ?_⟩, fun r hr => .inl (List.mem_map_of_mem hr)⟩
    · show (if B x then none else F2 x) = none
      by_cases c : B x
      · rw [if_pos c]
      · rw [if_neg c]
        exact g2.gr.off x (show (if B x then H x else F x) = none by rw [if_neg c]; exact h1) h2 h3
    · have hx : (if B x then none else F2 x) = some o := hx
      by_cases c : B x
      · rw [if_pos c] at hx; cases hx
      · rw [if_neg c] at hx; exact g2.wd.ex x o hx
    · rcases List.mem_append.mp hr with hr | hr
      · have hB : B r.1 := List.mem_map_of_mem (f := (·.1)) hr
        obtain ⟨h1, o, h2, h3⟩ := own r (List.mem_append_left _ hr)
        refine ⟨show (if B r.1 then none else F2 r.1) = none by rw [if_pos hB], o, ?_, r.2.mono e3 h3⟩
        have : F1 r.1 = some o := show (if B r.1 then H r.1 else F r.1) = some o by rw [if_pos hB]; exact h2
        exact g2.wd.ex _ _ (e2 _ _ this)
      · obtain ⟨h1, o, h2, h3⟩ := g2.wd.own r hr
        exact ⟨show (if B r.1 then none else F2 r.1) = none by rw [if_neg (off0 r hr)]; exact h1, o, h2, pM r hr F2 F3 o lst h3⟩
  exact k v F3 H2 e3 (a.back g3) (pP F2 F3 v lst p2)
end
end Hq
/-! ### tuple(range(n)) -/
namespace Hq
open PySem L2
section
variable {K : PySem.W.Frag} {E E0 : Ent} {F H : Hp} {M M1 M2 M' : Ms} {Γ : Gm} {P P1 : MP} {O O' : MO} {q : Addr} {te ta tb tl tk tv td : TE} {tr : TA} {D1 : Ends} {tu tz : TS} {t u : TT} {ps : List MP} {i j : Nat}
theorem ev_tupRg {n : Nat} (h : Ev te Γ M (D K (.int (n : Int))) M1) (hn : n ≤ 10000) : Ev (tTupRg (tRg1 te)) Γ M (NT ((List.range n).map fun i : Nat => (i : Int))) M1 := fun E F σ H a b Q k => h E F σ H a b _ fun v F1 H1 e1 g1 p1 => by
  cases dp_int p1
  have e : rgV 0 (n : Int) = ((List.range n).map fun i : Nat => (i : Int)).map V.int := by
    unfold rgV
    rw [Int.sub_zero, Int.toNat_natCast, List.map_map]
    exact List.map_congr_left fun i _ => by show V.int (0 + (i : Int)) = V.int (i : Int); rw [Int.zero_add]
  refine ⟨(n : Int), rfl, RgOk.of_le (by omega) (by omega) (by omega) (by omega), fun p hp => k _ _ _ (e1.trans (Evl.Ex.new (Evl.fresh_back g1.ex hp))) (g1.laid hp) ⟨p, rfl, ?_⟩⟩
  rw [e]
  exact upd_same
/-! a dict {t: x} whose key is read out of what is owned -/
/-! comprehensions over a tuple of ints that give ints -/
theorem ev_tupNg {xs : List Int} (h : EvN te Γ M (MInts K xs) M1) : Ev (tCB (rTuple K) (tCons te tNil)) Γ M (NT xs) M1 := ev_cb (ea_cons (ev_newL (K := K) h) ea_nil) rc_tupleNL
theorem ev_tupDg {xs : List Int} (h : EvN te Γ M (MInts K xs) M1) : Ev (tCB (rTuple K) (tCons te tNil)) Γ M (D K (dT xs)) M1 := (ev_tupNg h).weak nt_D
end
end Hq
/-! ### searches: dicts with tuple keys and values of any kind read by d[t], t not in d; tuple(reversed(xs)) -/
namespace Hq
open PySem L2 RT
section
variable {K : PySem.W.Frag} {E E0 : Ent} {F H : Hp} {M M1 M2 M' : Ms} {Γ : Gm} {P P1 : MP} {O O' : MO} {q : Addr} {te ta tb tl tk tv td tx : TE} {tr : TA} {D1 : Ends} {tu tz : TS} {t u : TT} {ps : List MP} {i j v jj : Nat} {β : Type} {R : β → MP} {L : List (List Int × β)} {l : List Int} {w : β}
/-! two generators over ranges -/
theorem flat_lenR {f : Nat → Nat → Bool} {γ : Type} {G : Nat → Nat → γ} {m : Nat} : ∀ {xs : List Nat}, (xs.flatMap fun x => ((List.range m).filter (f x)).map (G x)).length ≤ xs.length * m
  | [] => by simp
  | x :: xs => by
    rw [List.flatMap_cons, List.length_append, List.length_map, List.length_cons, Nat.add_mul]
    have h1 := List.length_filter_le (f x) (List.range m)
    rw [List.length_range] at h1
    have h2 := @flat_lenR f γ G m xs
    omega
theorem evn_lc2R {tr tr1 : TA} {z z1 : Int} {t0 : TT} {G : Nat → Nat → MP} (f : Nat → Nat → Bool) (hij : i ≠ j) (h : EvA tr Γ M [D K (.int z)] M1) (hz : z ≤ 200 ∧ 0 ≤ z) (hz1 : z1 ≤ 200 ∧ 0 ≤ z1)
    (h0 : ∀ x : Nat, (x : Int) < z → ∀ M, EvT t0 (((Γ.set j none).set i none).set i (some (D K (.int x)))) M (· = true) M)
    (h1 : ∀ x : Nat, (x : Int) < z → ∀ M, EvA tr1 (((Γ.set j none).set i none).set i (some (D K (.int x)))) M [D K (.int z1)] M)
    (ht : ∀ x y : Nat, (x : Int) < z → (y : Int) < z1 → EvT t (((((Γ.set j none).set i none).set i (some (D K (.int x)))).set j none).set j (some (D K (.int y)))) M1 (· = f x y) M1)
    (he : ∀ x y : Nat, (x : Int) < z → (y : Int) < z1 → f x y = true → Ev te (((((Γ.set j none).set i none).set i (some (D K (.int x)))).set j none).set j (some (D K (.int y)))) M1 (G x y) M1) :
    EvN (tLc2 (iRng1 tr) (gName i) t0 (iRng1 tr1) (gName j) t te [i, j] [j]) Γ M (ML ((List.range z.toNat).flatMap fun x => ((List.range z1.toNat).filter (f x)).map (G x))) M1 := fun E F σ H a b Q k => h E F σ H a b _ fun vs F1 H1 e1 g1 p => by
  obtain ⟨v, rfl, hv⟩ := ps1 p
  cases dp_int hv
  refine ⟨z, rfl, by omega, by omega, fun D2 hD => ?_⟩
  have gn : Pt ⟨F1, H1, keys M1⟩ F1 ((D2, ML []) :: M1) (upd H1 D2 (.lst [])) := g1.enter.new hD ⟨[], rfl, .nil⟩
  refine ⟨fun n m H' => m = z.toNat - n ∧ n ≤ z.toNat ∧ ∃ F', Pt ⟨F1, H1, keys M1⟩ F' ((D2, ML ((List.range n).flatMap fun x => ((List.range z1.toNat).filter (f x)).map (G x))) :: M1) H', ⟨_, rfl, Nat.zero_le _, F1, gn⟩, ?_⟩
  rintro n m H2 ⟨rfl, hn, F2, g2⟩
  rcases Nat.lt_or_ge n z.toNat with hlt | hge
  case inr =>
    have e0 : n = z.toNat := by omega
    subst e0
    exact .inl ⟨Nat.le_refl _, k D2 F2 H2 (g1.fresh hD) (e1.trans g2.gr.ex) (g1.back g2)⟩
  refine .inr ⟨hlt, fun H' => n + 1 ≤ z.toNat ∧ ∃ F', Pt ⟨F1, H1, keys M1⟩ F' ((D2, ML ((List.range (n + 1)).flatMap fun x => ((List.range z1.toNat).filter (f x)).map (G x))) :: M1) H', fun H' ⟨c1, c2⟩ => ⟨_, by omega, rfl, c1, c2⟩, fun x H' y => ?_⟩
  obtain ⟨ex, ey⟩ := y
  subst ex ey
  have e0 : (0 : Int) + (n : Int) = (n : Int) := Int.zero_add _
  rw [e0]
  have hn2 : (n : Int) < z := by omega
  have b2 : EnvOk F2 ((wipe σ [i, j]).set i (some (V.int n))) (((Γ.set j none).set i none).set i (some (D K (.int n)))) := (env_wipe2 (b.mono (e1.trans g2.gr.ex))).set i (P := D K (.int n)) (.int _)
  refine ⟨wipe_out hij, ?_⟩
  refine h0 n hn2 _ _ F2 _ _ g2 b2 _ fun c F3 H3 e3 g3 hc => ?_
  have hc : c = true := hc
  subst hc
  rw [if_pos rfl]
  refine h1 n hn2 _ _ F3 _ H3 g3 (b2.mono e3) _ fun vs4 F4 H4 e4 g4 p4 => ?_
  obtain ⟨v4, rfl, hv4⟩ := ps1 p4
  cases dp_int hv4
  have b4 := b2.mono (e3.trans e4)
  refine ⟨z1, rfl, by omega, by omega, ?_⟩
  refine ⟨fun m k H' => k = z1.toNat - m ∧ m ≤ z1.toNat ∧ ∃ F', Ex F4 F' ∧ Pt ⟨F1, H1, keys M1⟩ F' ((D2, ML (((List.range n).flatMap fun x => ((List.range z1.toNat).filter (f x)).map (G x)) ++ ((List.range m).filter (f n)).map (G n))) :: M1) H', ⟨_, rfl, Nat.zero_le _, F4, Evl.Ex.refl _, by simpa using g4⟩, ?_⟩
  rintro m k2 H5 ⟨rfl, hm, F5, e5, g5⟩
  rcases Nat.lt_or_ge m z1.toNat with hlt2 | hge2
  case inr =>
    have e6 : m = z1.toNat := by omega
    refine .inl ⟨hge2, hlt, F5, ?_⟩
    rw [List.range_succ, List.flatMap_append, List.flatMap_singleton]
    rw [e6] at g5
    exact g5
  refine .inr ⟨hlt2, fun H' => ∃ F', Ex F4 F' ∧ Pt ⟨F1, H1, keys M1⟩ F' ((D2, ML (((List.range n).flatMap fun x => ((List.range z1.toNat).filter (f x)).map (G x)) ++ ((List.range (m + 1)).filter (f n)).map (G n))) :: M1) H', fun H' c => ⟨_, by omega, rfl, hlt2, c⟩, fun x2 H' y2 => ?_⟩
  obtain ⟨ex, ey⟩ := y2
  subst ex ey
  have e7 : (0 : Int) + (m : Int) = (m : Int) := Int.zero_add _
  rw [e7]
  have hm2 : (m : Int) < z1 := by omega
  refine ⟨wipe_one, ?_⟩
  refine lc_turn g5 ((env_wipe (b4.mono e5)).set j (P := D K (.int m)) (.int _)) (ht n m hn2 hm2) (he n m hn2 hm2) ?_ _ fun F6 H6 e6 g6 => ⟨F6, e5.trans e6, ?_⟩
  · have l1 := flat_lenR (f := f) (G := G) (m := z1.toNat) (xs := List.range n)
    rw [List.length_range] at l1
    have l2 : n * z1.toNat ≤ 200 * 200 := Nat.mul_le_mul (by omega) (by omega)
    have l3 := List.length_filter_le (f n) (List.range m)
    rw [List.length_range] at l3
    rw [List.length_append, List.length_map]
    omega
  · rw [List.range_succ, List.filter_append, List.map_append, ← List.append_assoc]
    cases hf : f n m
    · rw [hf] at g6; simpa [hf] using g6
    · rw [hf] at g6; simpa [hf] using g6
/-! tuples of ints made here; x is not None; d[t] = v with more behind it -/
/-! xs.index(d), xs an own list of data -/
theorem ev_indexDO {α : Type} [DecidableEq α] [BEq α] [LawfulBEq α] {f : α → PyData} {n : Nat} (en : Enc f n) (hn : n + 1 ≤ 64) {l : List α} {x : α} (ho : Ev ta Γ M (Own q) M) (h : Ev te Γ M (D K (f x)) M) (e : M[j]? = some (q, ML (l.map fun x => D K (f x)))) (hx : x ∈ l) :
    Ev (tBM K "list" (rIndexD K) ta (tCons te tNil)) Γ M (D K (.int ((l.idxOf x : Nat) : Int))) M := fun E F σ H a b Q kk => ho E F σ H a b _ fun v F1 H1 e1 g1 p1 => by
  have p1 : v = .ref q := p1
  subst p1
  obtain ⟨_, o, ho1, ws0, rfl, _⟩ := g1.at e
  refine ⟨.inl ⟨rfl, ws0, SqL.of ho1⟩, ?_⟩
  refine h E F1 σ H1 g1 (b.mono e1) _ fun w F2 H2 e2 g2 p2 => ?_
  obtain ⟨_, o, ho2, ws, rfl, s⟩ := g2.at e
  have hl := List.idxOf_lt_length_of_mem hx
  refine ⟨q, w, f x, l.map f, l.idxOf x, f x, rfl, rfl, dp_own ho2 g2.ex (ps_mapD s), Dp.mono g2.ex p2, en.all_shaped hn l, en.shaped (by omega) x, ?_, ?_, ?_, kk _ _ _ (e1.trans e2) g2 (.int _)⟩
  · rw [List.getElem?_map, List.getElem?_eq_getElem hl, List.getElem_idxOf hl]; rfl
  · rw [en.eq]; simp
  · intro m z hm hz
    rw [List.getElem?_map] at hz
    obtain ⟨y, hy, rfl⟩ := Option.map_eq_some_iff.mp hz
    rw [en.eq, decide_eq_false_iff_not]
    rintro rfl
    have hm2 : m < l.length := by omega
    have : l.idxOf y ≤ m := by
      rw [List.getElem?_eq_getElem hm2] at hy
      have hy := Option.some.inj hy
      apply Nat.le_of_not_lt
      intro hlt
      have := List.not_of_lt_findIdx hlt
      rw [hy] at this
      simp at this
    omega
/-! tuple(reversed(xs)) -/
end
end Hq
/-! ### all([..]), min of two, xs.extend(ys), for a, b in zip of lists, return f(..) that raises -/
namespace Hq
open PySem L2
section
variable {K : PySem.W.Frag} {E E0 : Ent} {F H : Hp} {M M1 M2 M' : Ms} {Γ : Gm} {P P1 : MP} {O O' : MO} {q q2 : Addr} {te ta tb tl tk tv td tx : TE} {tr : TA} {D1 : Ends} {tu tz : TS} {t u : TT} {ps qs : List MP} {i j j2 v jj : Nat} {γ : Type} {zs : List γ} {RA RB : γ → MP} {CE0 : Addr} {X : XK} {sp : Sp}
theorem c_star {Y : Cx} {e : PySem.Expr} {es : List PySem.Expr} {p : Pos} (eK : Y.K = K) (he : PE Y e te) (hr : PA Y es tr) (hs : starEach (.Starred e p :: es) Y.env = (true, eval e Y.env) :: starEach es Y.env := by rfl) : PA Y (.Starred e p :: es) (StX.tStar K te tr) := eK ▸ StX.pa_star he hr hs
/-! rows that are lists of lists or tuples of tuples -/
end
end Hq
namespace Hq
open PySem L2
/-! cells and made functions: tracked while a call runs to which the functions are handed -/
/-- the object at a is just o -/
def PinO (a : Addr) (o : Obj) : HO := .ext fun h => h.get? a = some o
abbrev Pins := List (Addr × Obj)
section
variable {C : Pins} {H H' F F' : Hp} {a c : Addr} {o : Obj} {E : Ent} {M M' B : Ms}
theorem look_of_mem (nd : (C.map (·.1)).Nodup) {p : Addr × Obj} (h : p ∈ C) : C.lookup p.1 = some p.2 := by
  induction C with
  | nil => cases h
  | cons r t ih =>
    rw [List.map_cons, List.nodup_cons] at nd
    rcases List.mem_cons.mp h with z | z
    · rw [z, List.lookup_cons, beq_self_eq_true]
    · have ne : (p.1 == r.1) = false := by
        rw [beq_eq_false_iff_ne]
        intro e
        exact nd.1 (e ▸ List.mem_map_of_mem z)
      rw [List.lookup_cons, ne]
      exact ih nd.2 z
/-- B owns just C's cells -/
structure Holds (C : Pins) (B : Ms) : Prop where
  nd : (C.map (·.1)).Nodup
  key : keys B = C.map (·.1)
  pin : ∀ q ∈ B, ∀ o, C.lookup q.1 = some o → ∀ F u, q.2.p F u → u = PinO q.1 o
end
/-! a made function as a value: what stands of it, what its calls give -/
section
variable (P : Program) (w : World) (K : PySem.W.Frag) (mg : Str → Option Value) (base : Heap)
/-- f's call with vs at H ends as Q tells -/
def Ans (j : Nat) (f : Addr) (vs : List V) (H : Hp) (Q : VK) : Prop := ∀ (A : Around) (outer : List Env) (s : Shared) (us : List Value), Room j A → Env0 P w K mg base A outer s H → Vals vs us →
  codeAny (model P w) A (.call (.ref f) ⟨us, []⟩) (CR L2.CX0 outer P w H s Q L2.E0) s
/-- where Mc is owned, f's calls with such arguments give R -/
def Clo (j : Nat) (Mc : Ms) (f : Addr) (Fs : List (Addr × HO)) (ps : List MP) (R : MP) : Prop := ∀ (E : Ent) (F : Hp) (M : Ms) (H : Hp) (vs : List V) (Q : VK), (∀ q ∈ Mc, q ∈ M) → Pt E F M H → (∀ p ∈ Fs, F p.1 = some p.2) → Ps F vs ps → Cont E F M R Q → Ans P w K mg base j f vs H Q
end
end Hq
namespace Hq
open PySem L2 NdefX LamX
/-! a call to which functions made here are handed: the captured cells are tracked meanwhile -/
/-- the cells of the names ys, one after the other, with what they hold -/
inductive Capt (cells : List (Str × Addr)) : List Str → List V → Pins → Prop
  | nil : Capt cells [] [] []
  | cons {y : Str} {c : Addr} {o : Obj} {u : Value} {v : V} {ys : List Str} {ws : List V} {C : Pins} : cells.lookup y = some c → o.data = .cell (some u) → RelV v u → Capt cells ys ws C → Capt cells (y :: ys) (v :: ws) ((c, o) :: C)
section
variable {cells : List (Str × Addr)} {ys : List Str} {ws : List V} {C : Pins}
theorem Capt.len (h : Capt cells ys ws C) : ws.length = ys.length := by
  induction h with
  | nil => rfl
  | cons _ _ _ _ ih => rw [List.length_cons, List.length_cons, ih]
theorem Capt.mem (h : Capt cells ys ws C) {c : Addr} {o : Obj} : (c, o) ∈ C → ∃ y ∈ ys, cells.lookup y = some c := by
  induction h with
  | nil => intro z; cases z
  | cons a b r t ih =>
    intro z
    rcases List.mem_cons.mp z with e | e
    · cases e; exact ⟨_, List.mem_cons_self, a⟩
    · obtain ⟨y, hy, q⟩ := ih e
      exact ⟨y, List.mem_cons_of_mem _ hy, q⟩
theorem Capt.nd (inj : ∀ x y c, cells.lookup x = some c → cells.lookup y = some c → x = y) (h : Capt cells ys ws C) (nd : ys.Nodup) : (C.map (·.1)).Nodup := by
  induction h with
  | nil => exact List.nodup_nil
  | cons a b r t ih =>
    rw [List.nodup_cons] at nd
    rw [List.map_cons, List.nodup_cons]
    refine ⟨fun z => ?_, ih nd.2⟩
    obtain ⟨p, hp, e⟩ := List.mem_map.mp z
    obtain ⟨y, hy, q⟩ := t.mem (c := p.1) (o := p.2) hp
    have e : p.1 = _ := e
    rw [e] at q
    have := inj _ _ _ a q
    exact nd.1 (this ▸ hy)
theorem Capt.at (nd : (C.map (·.1)).Nodup) (h : Capt cells ys ws C) {y : Str} {i : Nat} (e : ys[i]? = some y) : ∃ c o u v, cells.lookup y = some c ∧ C.lookup c = some o ∧ o.data = .cell (some u) ∧ ws[i]? = some v ∧ RelV v u := by
  have key : ∃ c o u v, cells.lookup y = some c ∧ (c, o) ∈ C ∧ o.data = .cell (some u) ∧ ws[i]? = some v ∧ RelV v u := by
    clear nd
    induction h generalizing i with
    | nil => simp at e
    | cons a b r t ih =>
      cases i with
      | zero =>
        simp at e
        subst e
        exact ⟨_, _, _, _, a, List.mem_cons_self, b, rfl, r⟩
      | succ i =>
        obtain ⟨c, o, u, v, h1, h2, h3⟩ := ih (i := i) (by simpa using e)
        exact ⟨c, o, u, v, h1, List.mem_cons_of_mem _ h2, by simpa using h3⟩
  obtain ⟨c, o, u, v, h1, h2, h3⟩ := key
  exact ⟨c, o, u, v, h1, look_of_mem (p := (c, o)) nd h2, h3⟩
end
/-! what a made function's calls give -/
end Hq
namespace Hq
open PySem L2 NdefX LamX
/-! making functions: nested defs, lambdas with parameters -/
/-- a table's entries tell code objects of the names that their places have -/
def Told (nm : Nat → Nat → Str) (ps : Array Value) (H : Hp) : Prop := TriplesOk ps.toList ∧ ∀ (pos : Pos) (cv : Value), codeAmong pos ps.toList = some cv → ∃ c, cv = .ref c ∧ H c = some (CodeO c (nm pos.line pos.col))
theorem Told.ext {nm : Nat → Nat → Str} {ps : Array Value} {H H' : Hp} (t : Told nm ps H) (e : Ex H H') : Told nm ps H' := ⟨t.1, fun pos cv h => let ⟨c, a, b⟩ := t.2 pos cv h; ⟨c, a, e _ _ b⟩⟩
/-- a function is made by the table at P: q its name, u its object's words -/
def MkFn (P : Addr) (nm : Nat → Nat → Str) (q : Str) (u : Addr → Addr → HO) (H : Hp) (k : Addr → Hp → Prop) : Prop := ∃ ps : Array Value, H P = some (.tbl ps) ∧ Told nm ps H ∧
  (∀ (f c' : Addr) (ps' : Array Value), H c' = none → H f = none → c' ≠ f → c' ≠ P → f ≠ P → (∀ F0 : Hp, Told nm ps F0 → F0 c' = none → Told nm ps' (upd F0 c' (CodeO c' q))) → k f (upd (upd (upd H P (.tbl ps')) c' (CodeO c' q)) f (u f c'))) ∧
  (∀ (f c' : Addr), (∀ F0 : Hp, Told nm ps F0 → F0 c' = some (CodeO c' q)) → H f = none → k f (upd H f (u f c')))
section
variable {X : Cx}
theorem MkFn.imp {P : Addr} {nm : Nat → Nat → Str} {q : Str} {u : Addr → Addr → HO} {H : Hp} {k k' : Addr → Hp → Prop} (h : MkFn P nm q u H k) (i : ∀ f H1, k f H1 → k' f H1) : MkFn P nm q u H k' :=
  let ⟨ps, a, b, c, d⟩ := h
  ⟨ps, a, b, fun f c' ps' h1 h2 h3 h4 h5 h6 => i _ _ (c f c' ps' h1 h2 h3 h4 h5 h6), fun f c' h1 h2 => i _ _ (d f c' h1 h2)⟩
end
/-! read -/
end Hq
namespace Hq
open PySem L2 NdefX LamX
/-! bodies of made functions -/
end Hq
/-! ### a def within a def whose own names are taken by a comprehension in it (own cells beside the captured ones) -/
namespace HqLE
open PySem PySem.Spec PyProof.Rows
end HqLE
namespace Hq
open PySem L2 NdefX LamX HqLE
end Hq
/-! ### zip of a tuple and a list; tuples made here of anything; any -/
namespace HqLC
open PySem PySem.Spec PyProof.Rows L2
theorem sep {I a b : Addr} (ha : a < I) (hb : b < I) : ZipSep2 (I + 4) (I + 2) (I + 3) I (I + 1) [I, a] [I + 1, b] := by
  have ha : @LT.lt Nat _ a I := ha
  have hb : @LT.lt Nat _ b I := hb
  constructor <;> first
    | exact List.mem_cons_self
    | (intro e; have e : ((_ : Nat) = _) := e; omega)
    | (intro h
       rcases List.mem_cons.mp h with e | h
       · have e : ((_ : Nat) = _) := e
         omega
       · have e : ((_ : Nat) = _) := List.mem_singleton.mp h
         omega)
end HqLC
namespace Hq
open PySem L2 HqLC
section
variable {K : PySem.W.Frag} {E E0 : Ent} {F H : Hp} {M M1 M2 M' : Ms} {Γ : Gm} {P P1 : MP} {O O' : MO} {q : Addr} {te ta tb tl tk tv td tx : TE} {tr : TA} {D1 : Ends} {tu tz : TS} {t u : TT} {ps : List MP} {i j v jj : Nat} {b : Bool}
theorem any_of {bs : List Bool} : ∀ {vs : List V}, Ps F vs (bs.map fun b => D K (.bool b)) → vs = bs.map V.bl := by
  induction bs with
  | nil => intro vs h; cases h; rfl
  | cons b bs ih =>
    intro vs h
    cases h with
    | cons a t => cases dp_bl a; rw [ih t]; rfl
theorem rc_any {bs : List Bool} : RC (rAny K) [PLi K (bs.map fun b => D K (.bool b))] M (D K (.bool (bs.any id))) M := fun E F H vs a h Q k => by
  obtain ⟨v, rfl, b, ws, rfl, s, p⟩ := ps1 h
  have e := any_of p
  subst e
  exact ⟨b, bs, rfl, Evl.ex_l a.ex s, k _ F H (Evl.Ex.refl _) a (.bl _)⟩
theorem c_any {Y : Cx} (e : Y.K = K) (hc : Y.calm = true) : CallR Y (.builtin "any") (rAny K) := e ▸ cr_any hc
end
end Hq
/-! ### rows and words that are lists or tuples, as values of any expression -/
namespace Hq
open PySem L2
end Hq
namespace L2
open PySem PySem.Spec PyProof.Rows
/-! {k: v} with a nested key -/
end L2
namespace Hq
open PySem L2
end Hq
namespace Hq
open PySem L2 NdefX LamX
/-! the law's start and end where the program makes functions -/
end Hq
namespace Hq
open PySem L2 NdefX LamX
/-! a def that returns what it made: its cells are tracked behind it -/
/-! a call that tells what it owns behind it -/
end Hq
/-! ### tuples made here, of anything -/
namespace Hq
open PySem L2
end Hq
/-! ### xs + ys of lists that stand -/
namespace Hq
open PySem L2
section
variable {K : PySem.W.Frag} {E : Ent} {F H : Hp} {M M1 M2 : Ms} {Γ : Gm} {ps qs : List MP} {α : Type}
theorem rv_catLP (hz : ps.length + qs.length ≤ 100000) : RV (rCatL K) (PLi K ps) (PLi K qs) M (PLi K (ps ++ qs)) M := fun E F H x y g p1 p2 Q k => by
  obtain ⟨l, xs, rfl, s, q⟩ := p1
  obtain ⟨l2, ys, rfl, s2, q2⟩ := p2
  refine ⟨l, l2, xs, ys, rfl, rfl, Evl.ex_l g.ex s, Evl.ex_l g.ex s2, sz_of (by rw [paired_len q, paired_len q2]; exact hz), fun p hp => ?_⟩
  have ex : Ex F (upd F p (.lst (xs ++ ys))) := Evl.Ex.new (Evl.fresh_back g.ex hp)
  exact k _ _ _ ex (g.laid hp) ⟨p, _, rfl, SqL.of upd_same, Ps.mono ex (paired_app q q2)⟩
theorem rv_catLD {f : α → PyData} {as bs : List α} (hz : as.length + bs.length ≤ 100000) : RV (rCatL K) (D K (.list (as.map f))) (D K (.list (bs.map f))) M (D K (.list ((as ++ bs).map f))) M := fun E F H x y g p1 p2 Q k =>
  rv_catLP (K := K) (ps := as.map fun a => D K (f a)) (qs := bs.map fun a => D K (f a)) (by rw [List.length_map, List.length_map]; exact hz) E F H x y g (le_Lm (f := f) _ _ p1) (le_Lm (f := f) _ _ p2) Q fun v F' H' e g' p => k v F' H' e g' (by
    rw [← List.map_append] at p
    exact Lm_le (f := f) _ _ p)
end
end Hq
namespace Hq
open PySem L2
section
variable {K : PySem.W.Frag} {E : Ent} {F H : Hp} {M M1 M2 : Ms} {Γ : Gm} {P : MP} {q : Addr} {te ti ta : TE} {i j : Nat}
/-- the names of fields, told apart from one more -/
theorem names_ne {fps : List (Str × MP)} {m : Str} (L : List Str) (h : ∀ s ∈ L, s ≠ m) (e : fps.map Prod.fst = L := by rfl) : ∀ g ∈ fps, g.1 ≠ m := fun g hg => h g.1 (by rw [← e]; exact List.mem_map_of_mem hg)
/-- a slice of a list that stands, as data -/
theorem ev_slLDf {α : Type} {f : α → PyData} {l : List α} {lo hi : Option Int} {tl th : TO} (h : Ev te Γ M (D K (.list (l.map f))) M1) (h1 : EvP tl Γ M1 lo) (h2 : EvP th Γ M1 hi) : Ev (tSl (rSlL K) te tl th) Γ M (D K (.list ((cutG l lo hi).map f))) M1 :=
  (ev_newL (evn_slM (R := fun x => D K (f x)) (h.weak (le_Lm (f := f))) h1 h2)).weak (Lm_le (f := f))
theorem lst1_le {φ : Int → Prop} : (PLi K [PEx fun x : Int => PAn (φ x) (D K (.int x))]).le (PEx fun x : Int => PAn (φ x) (D K (dL [x]))) := fun F v ⟨p, vs, h1, s, q⟩ => by
  subst h1
  obtain ⟨y, rfl, x, hx, px⟩ := ps1 q
  exact ⟨x, hx, dL_le (l := [x]) _ _ ⟨p, _, rfl, s, .cons px .nil⟩⟩
/-- an own list compared with data -/
theorem rv_eqOL {α : Type} [DecidableEq α] {g : α → PyData} {n : Nat} (en : Enc g n) (hn : n + 1 ≤ 64) {xs ys : List α} (e : M[j]? = some (q, ML (ys.map fun x => D K (g x)))) : RV (rEqD K) (Own q) (D K (.list (xs.map g))) M (D K (.bool (decide (ys = xs)))) M := fun E F H x y a p1 p2 Q k => by
  have p1 : x = .ref q := p1
  subst p1
  obtain ⟨fq, o, ho, vs, rfl, s⟩ := a.at e
  have ds : DpAll K F vs (ys.map g) := by
    refine ps_all (K := K) ?_
    rw [List.map_map]
    exact s
  refine ⟨.list (ys.map g), .list (xs.map g), .lst (SqL.of ho) (DpAll.mono a.ex ds), Dp.mono a.ex p2, en.all_shaped hn ys, en.all_shaped hn xs, ?_⟩
  have ee := (enc_list en).eq ys xs
  have ee : PyData.eqv (.list (ys.map g)) (.list (xs.map g)) = decide (ys = xs) := ee
  rw [ee]
  exact k _ F H (Evl.Ex.refl _) a (.bl _)
theorem pure_bool {b : Bool} : Pure (D K (.bool b)) := fun F F' v _ h => by cases dp_bl h; exact .bl b
/-- one own list of ints is read while e is worked out, nothing else is owned -/
theorem ev_borrow1 {ns : List Int} (hg : Γ[i]? = some (some (Own q))) (pP : Pure P) (h : Ev te (Γ.set i (some (D K (dL ns)))) [] P []) : Ev te Γ [(q, MInts K ns)] P [(q, MInts K ns)] := by
  refine ev_borrow (M0 := []) (MB := [(q, MInts K ns)]) (fun r hr => by rw [List.mem_singleton.mp hr]; exact ⟨_, rfl⟩) pP (fun r hr => by cases hr) (fun σ F F1 b e rd => (b.mono e).upd hg fun v hv => ?_) h
  have hv : v = .ref q := hv
  subst hv
  obtain ⟨o, ho, ws, rfl, s⟩ := rd _ List.mem_cons_self
  exact dL_le (K := K) F1 _ ⟨q, ws, rfl, SqL.of ho, s⟩
end
end Hq
namespace Hq
open PySem L2 HqA HqLC
end Hq
/-! ### t[:x] where x is one of several; (x,) with a drawn x -/
namespace Hq
open PySem L2
end Hq
/-! ### truths: a bool, or an int 0 or 1 -/
namespace HqPd
open PySem PySem.Spec PyProof.Rows L2
end HqPd
namespace Hq
open PySem L2 HqPd
end Hq
namespace Hq
open PySem L2
section
variable {K : PySem.W.Frag} {E : Ent} {F H : Hp} {M M1 M2 : Ms} {Γ : Gm} {P : MP} {O : MO} {q : Addr} {te ta : TE} {D1 : Ends} {ps qs : List MP} {j : Nat}
/-- xs.extend([..]), the second made here -/
theorem go_extN (ho : Ev ta Γ M (Own q) M) (h : EvN te Γ M (ML qs) M) (e : M[j]? = some (q, ML ps)) (hz : ps.length + qs.length ≤ 100000) (k : Nx E Γ (M.set j (q, ML (ps ++ qs))) D1.nx) :
    Nx E Γ M (tDrop (tBM K "list" rExtend ta (tCons te tNil)) D1) := fun σ H ⟨F, a, b⟩ => ho E F σ H a b _ fun v F1 H1 e1 g1 p1 => by
  have p1 : v = .ref q := p1
  subst p1
  obtain ⟨_, o, ho1, ws0, rfl, _⟩ := g1.at e
  refine ⟨.inl ⟨rfl, ws0, SqL.of ho1⟩, ?_⟩
  refine h E F1 σ H1 g1 (b.mono e1) _ fun q2 F2 H2 f e3 g2 => ?_
  obtain ⟨_, o, ho2, ws, rfl, s⟩ := g2.at (j := j + 1) (q := q) (O := ML ps) (by rw [List.getElem?_cons_succ]; exact e)
  obtain ⟨_, o, ho3, us, rfl, s2⟩ := g2.at (j := 0) (q := q2) (O := ML qs) rfl
  refine ⟨q, q2, ws, us, rfl, rfl, ho2, ho3, sz_of (by rw [paired_len s, paired_len s2]; exact hz), ?_⟩
  have g3 := g2.mut (j := j + 1) (q := q) (O := ML ps) (O' := ML (ps ++ qs)) (by rw [List.getElem?_cons_succ]; exact e) ⟨_, rfl, paired_app s s2⟩
  rw [List.set_cons_succ] at g3
  exact k _ _ ⟨F2, g3.drop (List.sublist_cons_self _ _), b.mono (e1.trans e3)⟩
end
end Hq
/-! ### a comprehension with three generators -/
namespace L2
open PySem PySem.Spec PyProof.Rows
end L2
namespace Hq
open PySem L2
end Hq
/-! ### tuples of tuples, sorted lists of tuples, lists of lists of which the inner ones come to rest -/
namespace Hq
open PySem L2
end Hq
/-! ### lists that are extended by tuples -/
namespace HqQa
open PySem PySem.Spec PyProof.Rows L2
theorem ext_tup {l b : Addr} {xs ys : Array Value} {n m : Nat} {dc : Option Addr} {sl : Array (Option Value)} (long : ¬(!xs.isEmpty && Builtin.List.listTooLong (xs.size + ys.size)) = true) (h1 : xs.size ≤ sizeLine) (h2 : xs.size + ys.size ≤ sizeLine + 1) :
    Meets (Builtin.«list.extend» ⟨[.ref l, .ref b], []⟩) (fun _ R s => s.heap.get? l = some { cls := .type "list", dict := none, data := .seq xs n, slots := #[] } ∧ s.heap.get? b = some { cls := .type "tuple", dict := dc, data := .seq ys m, slots := sl } ∧
      R (.ok (.ret Value.none)) { s with heap := s.heap.update l (Obj.mapSeq fun x => x ++ ys), toks := s.toks }) :=
  .of_wp fun prog w A R s h => by
    obtain ⟨hp, g, d, tk, os⟩ := s
    obtain ⟨hl, hb, h⟩ := h
    have f2 := AutoSeq1.sub_tuple_tuple
    have f3 := AutoSeq1.sub_list_list
    have f4 := AutoSeq1.sub_tuple_list
    have f5 := AutoSeq1.sub_list_tuple
    have hz : (xs ++ ys).size ≤ sizeLine + 1 := by rw [Array.size_append]; exact h2
    wp_walk using (wpAny_updateSeq hl rfl (hz := h1) (_hz' := hz)), AutoSeq1.wpAny_loadPart' hl, AutoSeq1.wpAny_loadPart' hb
    exact ⟨_, rfl, h⟩
section
variable {X : Cx}
def rExtendT (K : PySem.W.Frag) : V → List V → Hp → VK → Prop := fun x vs H Q => ∃ l b xs zs, x = .ref l ∧ vs = [.ref b] ∧ H l = some (.lst xs) ∧ SqT K H b zs ∧ xs.length + zs.length ≤ sizeLine ∧ Q .non (upd H l (.lst (xs ++ zs)))
theorem mt_extendT : MtM X "list.extend" (rExtendT X.K) := by
  intro pins s σ H x vs v us Q I rx rv h
  obtain ⟨l, b, xs, zs, rfl, rfl, hH, hB, hz, q⟩ := h
  cases rx
  obtain ⟨u, rfl, ru⟩ := rv.one
  cases ru
  obtain ⟨z, its, n, r, hl, e⟩ := I.lstM hH
  obtain ⟨its2, r2, ⟨⟨c2, dc, dt, sl⟩, e2, hc, n2, hd⟩, z2⟩ := I.tuple hB
  have hc : c2 = .type "tuple" := hc
  have hd : dt = .seq its2.toArray n2 := hd
  subst hc; subst hd
  have hl2 := r2.length
  have hsz : its.toArray.size + its2.toArray.size ≤ sizeLine := by rw [List.size_toArray, List.size_toArray]; omega
  have hlong : ¬ (!its.toArray.isEmpty && Builtin.List.listTooLong (its.toArray.size + its2.toArray.size)) = true := by
    rw [notLongL hsz, Bool.and_false]
    exact Bool.false_ne_true
  refine call_meets F.slot_list_extend ⟨_, e, rfl⟩ F.entry_list_extend (F.args_list_extend_2 _ _) (ext_tup (dc := dc) (sl := sl) (n := n) (m := n2) hlong (by rw [List.size_toArray]; omega) (by omega)) ⟨e, e2, ?_⟩
  refine ⟨.non, _, I.lset (its' := its ++ its2) hH e (by simp) (r.append r2) ?_, rfl, q⟩
  rw [List.length_append]
  omega
end
end HqQa
namespace Hq
open PySem L2 HqQa
section
variable {K : PySem.W.Frag} {E : Ent} {F H : Hp} {M M1 M2 : Ms} {Γ : Gm} {P : MP} {O : MO} {q : Addr} {te ta tb tl tl1 tk td : TE} {tr : TA} {D1 : Ends} {tu tz : TS} {t t0 u : TT} {ps qs : List MP} {i j : Nat}
/-- xs.extend(t) -/
theorem go_extT (ho : Ev ta Γ M (Own q) M) (h : Ev te Γ M (PTu K qs) M) (e : M[j]? = some (q, ML ps)) (hz : ps.length + qs.length ≤ 100000) (k : Nx E Γ (M.set j (q, ML (ps ++ qs))) D1.nx) :
    Nx E Γ M (tDrop (tBM K "list" (rExtendT K) ta (tCons te tNil)) D1) := fun σ H ⟨F, a, b⟩ => ho E F σ H a b _ fun v F1 H1 e1 g1 p1 => by
  have p1 : v = .ref q := p1
  subst p1
  obtain ⟨_, o, ho1, ws0, rfl, _⟩ := g1.at e
  refine ⟨.inl ⟨rfl, ws0, SqL.of ho1⟩, ?_⟩
  refine h E F1 σ H1 g1 (b.mono e1) _ fun w F2 H2 e3 g2 p2 => ?_
  obtain ⟨p, us, rfl, s, s2⟩ := p2
  obtain ⟨_, o, ho2, ws, rfl, s1⟩ := g2.at e
  refine ⟨q, p, ws, us, rfl, rfl, ho2, Evl.ex_t g2.ex s, sz_of (by rw [paired_len s1, paired_len s2]; exact hz), ?_⟩
  exact k _ _ ⟨F2, g2.mut e ⟨_, rfl, paired_app s1 s2⟩, b.mono (e1.trans e3)⟩
/-- a comprehension over the items of the tuples in a list -/
theorem evn_lc2LT {α β : Type} {xs : List α} {ys : α → List β} {N : Nat} {R : α → MP} {S : β → MP} {G : α → β → MP} (f : α → β → Bool) (hij : i ≠ j)
    (h : Ev tl Γ M (PLi K (xs.map R)) M1) (hy : ∀ x ∈ xs, (ys x).length ≤ N) (hz : (xs.length + 1) * N ≤ 50000)
    (h0 : ∀ x ∈ xs, ∀ M, EvT t0 (((Γ.set j none).set i none).set i (some (R x))) M (· = true) M)
    (h1 : ∀ x ∈ xs, ∀ M, Ev tl1 (((Γ.set j none).set i none).set i (some (R x))) M (PTu K ((ys x).map S)) M)
    (ht : ∀ x ∈ xs, ∀ y ∈ ys x, EvT t (((((Γ.set j none).set i none).set i (some (R x))).set j none).set j (some (S y))) M1 (· = f x y) M1)
    (he : ∀ x ∈ xs, ∀ y ∈ ys x, f x y = true → Ev te (((((Γ.set j none).set i none).set i (some (R x))).set j none).set j (some (S y))) M1 (G x y) M1) :
    EvN (tLc2 (iList K tl) (gName i) t0 (iTup K tl1) (gName j) t te [i, j] [j]) Γ M (ML (xs.flatMap fun x => ((ys x).filter (f x)).map (G x))) M1 := fun E F σ H a b Q k => h E F σ H a b _ fun v F1 H1 e1 g1 ⟨p, vs, hp, s, q⟩ => by
  refine ⟨p, hp, ⟨vs, Evl.ex_l g1.ex s⟩, fun D2 hD => ?_⟩
  have hl : vs.length = xs.length := by have := paired_len q; rwa [List.length_map] at this
  have gn : Pt ⟨F1, H1, keys M1⟩ F1 ((D2, ML []) :: M1) (upd H1 D2 (.lst [])) := g1.enter.new hD ⟨[], rfl, .nil⟩
  refine ⟨fun n m H' => m = xs.length - n ∧ n ≤ xs.length ∧ ∃ F', Pt ⟨F1, H1, keys M1⟩ F' ((D2, ML ((xs.take n).flatMap fun x => ((ys x).filter (f x)).map (G x))) :: M1) H', ⟨_, rfl, Nat.zero_le _, F1, gn⟩, ?_⟩
  rintro n m H2 ⟨rfl, hn, F2, g2⟩
  have sl2 : SqL K H2 p vs := Evl.ex_l (g2.gr.ex.trans g2.ex) s
  rcases Nat.lt_or_ge n xs.length with hlt | hge
  case inr =>
    refine .inl ⟨⟨vs, sl2, by omega⟩, ?_⟩
    rw [List.take_of_length_le (by omega)] at g2
    exact k D2 F2 H2 (g1.fresh hD) (e1.trans g2.gr.ex) (g1.back g2)
  refine .inr ⟨⟨vs, vs[n], sl2, List.getElem?_eq_getElem (by omega)⟩, fun H' => n + 1 ≤ xs.length ∧ ∃ F', Pt ⟨F1, H1, keys M1⟩ F' ((D2, ML ((xs.take (n + 1)).flatMap fun x => ((ys x).filter (f x)).map (G x))) :: M1) H', fun H' ⟨c1, c2⟩ => ⟨_, by omega, rfl, c1, c2⟩, fun x H' y => ?_⟩
  obtain ⟨rfl, y⟩ := y
  have hx := y vs sl2
  obtain ⟨P, hP, hx2⟩ := paired_get' q hx
  have hxn : xs[n]? = some xs[n] := List.getElem?_eq_getElem hlt
  rw [List.getElem?_map, hxn] at hP
  have hP : R xs[n] = P := Option.some.inj hP
  subst hP
  have tk : xs.take (n + 1) = xs.take n ++ [xs[n]] := by rw [List.take_add_one, hxn]; rfl
  have tl : (xs.take n).length = n := by rw [List.length_take]; omega
  rw [tk]
  have xm := List.mem_of_getElem? hxn
  generalize xs[n] = z at *
  have b2 : EnvOk F2 ((wipe σ [i, j]).set i (some x)) (((Γ.set j none).set i none).set i (some (R z))) := (env_wipe2 (b.mono (e1.trans g2.gr.ex))).set i ((R z).mono g2.gr.ex hx2)
  refine ⟨wipe_out hij, ?_⟩
  refine h0 z xm _ _ F2 _ _ g2 b2 _ fun c F3 H3 e3 g3 hc => ?_
  have hc : c = true := hc
  subst hc
  rw [if_pos rfl]
  refine h1 z xm _ _ F3 _ H3 g3 (b2.mono e3) _ fun v1 F4 H4 e4 g4 ⟨p1, hp1q⟩ => ?_
  obtain ⟨vs1, hp1, s1, q1⟩ := hp1q
  have hl1 : vs1.length = (ys z).length := by have := paired_len q1; rwa [List.length_map] at this
  have b4 := b2.mono (e3.trans e4)
  refine ⟨p1, hp1, ⟨vs1, Evl.ex_t g4.ex s1⟩, ?_⟩
  have e14 : Ex F1 F4 := g4.gr.ex
  refine ⟨fun m k H' => k = (ys z).length - m ∧ m ≤ (ys z).length ∧ ∃ F', Ex F4 F' ∧ Pt ⟨F1, H1, keys M1⟩ F' ((D2, ML (((xs.take n).flatMap fun x => ((ys x).filter (f x)).map (G x)) ++ (((ys z).take m).filter (f z)).map (G z))) :: M1) H', ⟨_, rfl, Nat.zero_le _, F4, Evl.Ex.refl _, by simpa using g4⟩, ?_⟩
  rintro m k2 H5 ⟨rfl, hm, F5, e5, g5⟩
  have sl5 : SqT K H5 p1 vs1 := Evl.ex_t (e5.trans g5.ex) s1
  rcases Nat.lt_or_ge m (ys z).length with hlt2 | hge2
  case inr =>
    refine .inl ⟨⟨vs1, sl5, by omega⟩, hlt, F5, ?_⟩
    rw [List.take_of_length_le hge2] at g5
    rw [List.flatMap_append, List.flatMap_singleton]
    exact g5
  refine .inr ⟨⟨vs1, vs1[m], sl5, List.getElem?_eq_getElem (by omega)⟩, fun H' => ∃ F', Ex F4 F' ∧ Pt ⟨F1, H1, keys M1⟩ F' ((D2, ML (((xs.take n).flatMap fun x => ((ys x).filter (f x)).map (G x)) ++ (((ys z).take (m + 1)).filter (f z)).map (G z))) :: M1) H', fun H' c => ⟨_, by omega, rfl, hlt2, c⟩, fun x2 H' y2 => ?_⟩
  obtain ⟨e, y2⟩ := y2
  subst e
  have hx5 := y2 vs1 sl5
  obtain ⟨P, hP, hx6⟩ := paired_get' q1 hx5
  have hym : (ys z)[m]? = some (ys z)[m] := List.getElem?_eq_getElem hlt2
  rw [List.getElem?_map, hym] at hP
  have hP : S (ys z)[m] = P := Option.some.inj hP
  subst hP
  have tk2 := take_filter (ys z) (f z) m (ys z)[m] hym
  have ym := List.mem_of_getElem? hym
  generalize (ys z)[m] = y at *
  refine ⟨wipe_one, ?_⟩
  refine lc_turn g5 ((env_wipe (b4.mono e5)).set j ((S y).mono e5 hx6)) (ht z xm y ym) (he z xm y ym) ?_ _ fun F6 H6 e6 g6 => ⟨F6, e5.trans e6, ?_⟩
  · have l1 := flatD_len (ys := ys) (f := f) (G := G) (N := N) (xs := xs.take n) (fun x hx => hy x (List.mem_of_mem_take hx))
    rw [tl] at l1
    have l2 : n * N ≤ xs.length * N := Nat.mul_le_mul_right _ hn
    have l3 := List.length_filter_le (f z) ((ys z).take m)
    have l4 := hy z xm
    rw [List.length_append, List.length_map]
    rw [List.length_take] at l3
    rw [Nat.succ_mul] at hz
    omega
  · rw [tk2, List.map_append, ← List.append_assoc]
    cases hf : f z y
    · rw [hf] at g6; simpa using g6
    · rw [hf] at g6; simpa using g6
end
section
variable {K : PySem.W.Frag}
theorem i_r {l : List Int} {n : Nat} (h : n < l.length) : (l.map fun n => D K (.int n))[((n : Int)).toNat]? = some (D K (.int (l.getD n 0))) := by
  rw [Int.toNat_natCast, List.getElem?_map, List.getElem?_eq_getElem h, List.getD_eq_getElem?_getD, List.getElem?_eq_getElem h]; rfl
end
end Hq
namespace Hq
open PySem L2
end Hq
/-! ### dicts whose keys are None or nested tuples: lookups in the heap -/
namespace HqNa
open PySem PySem.Spec PyProof.Rows
abbrev XV := NestedKey × Value × Value
structure KeyV (h : Heap) (k : NestedKey) (v : Value) : Prop where
  is : NestedIs h k v
  dep : k.depth ≤ 8
  top : v = .none ∨ ∃ b, v = .ref b
def entV (w : World) (x : XV) : DictEntry := ⟨x.1.hash w, x.2.1, x.2.2⟩
def atV (xs : List XV) (k : NestedKey) : Option Value := (xs.find? fun x => decide (x.1 = k)).map fun x => x.2.2
def putV (xs : List XV) (k : NestedKey) (key v : Value) : List XV := if (atV xs k).isSome then xs.map (fun x => if x.1 = k then (x.1, x.2.1, v) else x) else xs ++ [(k, key, v)]
theorem atV_cons {x : XV} {xs : List XV} {k : NestedKey} : atV (x :: xs) k = if x.1 = k then some x.2.2 else atV xs k := by
  unfold atV
  rw [List.find?_cons]
  by_cases c : x.1 = k
  · rw [decide_eq_true c, if_pos c]; rfl
  · rw [decide_eq_false c, if_neg c]
section
variable {prog : Program} {w : World} {A : Around} {E : Value → Shared → Prop} {s : Shared} {d : Addr} {key : Value} {k : NestedKey} {xs : List XV}
/-- at d stands a dict with these entries -/
structure DictV (w : World) (h : Heap) (d : Addr) (xs : List XV) : Prop where
  ex : ∃ o es ep, h.get? d = some o ∧ o.ExactDict ∧ o.data = .dict es ep ∧ es.toList = xs.map (entV w)
  keys : ∀ x ∈ xs, KeyV h x.1 x.2.1
  nd : (xs.map (·.1)).Nodup
theorem DictV.typeIs (m : DictV w s.heap d xs) : s.TypeIs (.ref d) "dict" := let ⟨⟨o, _, _, ho, hc, _⟩, _, _⟩ := m; ⟨o, ho, hc.1⟩
theorem DictV.new (h : Heap) : DictV w (h.push { cls := .type "dict", data := .dict #[] }) h.objs.size [] :=
  ⟨⟨_, #[], 0, Heap.get?_push_size _ rfl, ⟨rfl, rfl, rfl⟩, rfl, rfl⟩, (fun _ h => nomatch h), List.nodup_nil⟩
end
end HqNa
/-! ### dicts whose keys are None or nested tuples, values of any reading -/
namespace L2
open PySem PySem.Spec PyProof.Rows HqNa
abbrev NXo := NestedKey × V × V
abbrev KNo : List NXo → List XV → Prop := Paired fun p q => p.1 = q.1 ∧ RelV p.2.1 q.2.1 ∧ RelV p.2.2 q.2.2
def atO (xs : List NXo) (k : NestedKey) : Option V := (xs.find? fun x => decide (x.1 = k)).map (·.2.2)
def putO (xs : List NXo) (k : NestedKey) (y v : V) : List NXo := if (atO xs k).isSome then xs.map (fun x => if x.1 = k then (x.1, x.2.1, v) else x) else xs ++ [(k, y, v)]
theorem atO_cons {x : NXo} {xs : List NXo} {k : NestedKey} : atO (x :: xs) k = if x.1 = k then some x.2.2 else atO xs k := by
  unfold atO
  rw [List.find?_cons]
  by_cases c : x.1 = k
  · rw [decide_eq_true c, if_pos c]; rfl
  · rw [decide_eq_false c, if_neg c]
theorem KNo.val {xs : List NXo} {us : List XV} (r : KNo xs us) (k : NestedKey) : RelO (atO xs k) (atV us k) := by
  induction r with
  | nil => exact True.intro
  | @cons p q ps qs h t ih =>
    obtain ⟨h1, _, h2⟩ := h
    rw [atO_cons, atV_cons]
    by_cases e : p.1 = k
    · rw [if_pos e, if_pos (h1.symm.trans e)]; exact h2
    · rw [if_neg e, if_neg (fun z => e (h1.trans z))]; exact ih
theorem KNo.put {xs : List NXo} {us : List XV} (r : KNo xs us) (k : NestedKey) {x y : V} {key u : Value} (rk : RelV x key) (ry : RelV y u) : KNo (putO xs k x y) (putV us k key u) := by
  have e : (atO xs k).isSome = (atV us k).isSome := (r.val k).isSome_eq
  unfold putO putV
  rw [e]
  by_cases q : (atV us k).isSome = true
  · rw [if_pos q, if_pos q]
    clear e q
    induction r with
    | nil => exact .nil
    | @cons p q ps qs h t ih =>
      rw [List.map_cons, List.map_cons]
      refine .cons ?_ ih
      obtain ⟨h1, h2, h3⟩ := h
      by_cases e : p.1 = k
      · rw [if_pos e, if_pos (h1.symm.trans e)]; exact ⟨h1, h2, ry⟩
      · rw [if_neg e, if_neg (fun z => e (h1.trans z))]; exact ⟨h1, h2, h3⟩
  · rw [if_neg q, if_neg q]; exact Paired.snoc r ⟨rfl, rk, ry⟩
/-! the terms -/
end L2
namespace Hq
open PySem L2
end Hq
/-! ### for (t, i), v in d.items(): dicts whose keys are pairs of a tuple of ints and an int -/
namespace L2
open PySem PySem.Spec PyProof.Rows HqNa
end L2
namespace Hq
open PySem L2 HqNa
/-! ### dicts whose keys are pairs of a tuple of ints and an int -/
abbrev HS := List Int × Int
def nkHS (k : HS) : NestedKey := .tup [.tup (k.1.map .num), .num k.2]
section
variable {β : Type}
def mg (L : List (HS × β)) : List (NestedKey × β) := L.map fun l => (nkHS l.1, l.2)
end
end Hq
/-! ### min(xs, default=None) of tuples of ints -/
namespace Hq
open PySem L2
end Hq
namespace Hq
open PySem L2
section
variable {K : PySem.W.Frag} {M M1 : Ms} {Γ : Gm} {tl te : TE} {t : TT}
/-- a comprehension over a list that is one of several -/
theorem evn_lcLX {ι α : Type} {φ : ι → Prop} {xs : ι → List α} {R G : α → MP} {i : Nat} (f : α → Bool) (h : Ev tl Γ M (PEx fun c => PAn (φ c) (PLi K ((xs c).map R))) M1) (hz : ∀ c, φ c → (xs c).length ≤ 50000)
    (ht : ∀ c, φ c → ∀ x ∈ xs c, EvT t ((Γ.set i none).set i (some (R x))) M1 (· = f x) M1) (he : ∀ c, φ c → ∀ x ∈ xs c, f x = true → Ev te ((Γ.set i none).set i (some (R x))) M1 (G x) M1) :
    EvN (tLc (iList K tl) (gName i) t te [i]) Γ M (MX fun c => MA (φ c) (ML (((xs c).filter f).map G))) M1 := fun E F σ H a b Q k => h E F σ H a b _ fun v F1 H1 e1 g1 ⟨c, hc, p, vs, hp, s, q⟩ => by
  have hz := hz c hc; have ht := ht c hc; have he := he c hc
  refine ⟨p, hp, ⟨vs, Evl.ex_l g1.ex s⟩, fun D2 hD => ?_⟩
  have gn : Pt ⟨F1, H1, keys M1⟩ F1 ((D2, ML []) :: M1) (upd H1 D2 (.lst [])) := g1.enter.new hD ⟨[], rfl, .nil⟩
  refine lc_list (xs := vs) (fun n H' => ∃ F', Pt ⟨F1, H1, keys M1⟩ F' ((D2, ML ((((xs c).take n).filter f).map G)) :: M1) H') ⟨F1, gn⟩ (fun n H2 _ ⟨F2, g2⟩ => Evl.ex_l (g2.gr.ex.trans g2.ex) s) (fun n x H2 hx ⟨F2, g2⟩ => ⟨wipe_one, ?_⟩) (fun H2 ⟨F2, g2⟩ => ?_)
  · obtain ⟨P, hP, hx2⟩ := paired_get' q hx
    rw [List.getElem?_map] at hP
    obtain ⟨y, hy, hP⟩ := Option.map_eq_some_iff.mp hP
    subst hP
    have hm := List.mem_of_getElem? hy
    refine lc_turn g2 ((env_wipe (b.mono (e1.trans g2.gr.ex))).set i ((R y).mono g2.gr.ex hx2)) (ht y hm) (he y hm) ?_ _ fun F3 H3 e3 g3 => ⟨F3, ?_⟩
    · rw [List.length_map]
      exact Nat.lt_of_le_of_lt (Nat.le_trans (List.length_filter_le _ _) (by rw [List.length_take]; omega)) (by omega : (xs c).length < 100000)
    · rw [take_filter (xs c) f n y hy, List.map_append]
      cases hf : f y
      · rw [hf] at g3; simpa using g3
      · rw [hf] at g3; simpa using g3
  · rw [paired_len q, List.length_map, List.take_length] at g2
    exact k D2 F2 H2 (g1.fresh hD) (e1.trans g2.gr.ex) ((g1.back g2).to (O := ML (((xs c).filter f).map G)) (j := 0) (fun F o z => ⟨c, hc, z⟩) rfl)
end
end Hq
/-! ### t > u of tuples of ints -/
namespace L2
open PySem PySem.Spec PyProof.Rows
end L2
namespace Hq
open PySem L2
end Hq
namespace My
/-! ### letters, places: plain lists -/
abbrev Lets := List (List Int)
/-- the places of a letter -/
def pl (ls : Lets) (a : Int) : List Int := ls.getD a.toNat []
def disj (l m : List Int) : Bool := !(l.any fun x => decide (x ∈ m))
/-- two letters without a common place -/
def free (ls : Lets) (a b : Int) : Bool := disj (pl ls a) (pl ls b)
structure AlphaOk (k : Int) (ls : Lets) : Prop where
  k1 : 1 ≤ k
  k4 : k ≤ 4
  l1 : 1 ≤ ls.length
  l6 : ls.length ≤ 6
  ok : ∀ l ∈ ls, l ≠ [] ∧ l.Pairwise (· < ·) ∧ ∀ x ∈ l, 0 ≤ x ∧ x < k
/-- a word of the letters -/
def WordOk (ls : Lets) (w : List Int) : Prop := ∀ x ∈ w, 0 ≤ x ∧ x < (ls.length : Int)
theorem pl_get {ls : Lets} {a : Int} (h0 : 0 ≤ a) (h : a < (ls.length : Int)) : ls[a.toNat]? = some (pl ls a) := by
  unfold pl
  have : a.toNat < ls.length := by omega
  rw [List.getD_eq_getElem?_getD, List.getElem?_eq_getElem this]; rfl
theorem pl_mem {ls : Lets} {a : Int} (h0 : 0 ≤ a) (h : a < (ls.length : Int)) : pl ls a ∈ ls := List.mem_of_getElem? (pl_get h0 h)
theorem disj_comm (l m : List Int) : disj l m = disj m l := by
  unfold disj
  congr 1
  rw [Bool.eq_iff_iff, List.any_eq_true, List.any_eq_true]
  simp only [decide_eq_true_eq]
  exact ⟨fun ⟨x, a, b⟩ => ⟨x, b, a⟩, fun ⟨x, a, b⟩ => ⟨x, b, a⟩⟩
theorem free_comm (ls : Lets) (a b : Int) : free ls a b = free ls b a := disj_comm _ _
theorem disj_iff {l m : List Int} : disj l m = true ↔ ∀ x ∈ l, x ∉ m := by
  unfold disj
  simp
theorem not_disj {l m : List Int} : disj l m = false ↔ ∃ x ∈ l, x ∈ m := by
  unfold disj
  simp
/-- the word of a place -/
def at_ (ls : Lets) (p : Int) (w : List Int) : List Int := w.filter fun a => decide (p ∈ pl ls a)
/-- swaps of independent neighbours -/
inductive Swp (ls : Lets) : List Int → List Int → Prop where
  | refl (w) : Swp ls w w
  | step {w u v a b} : Swp ls w (u ++ a :: b :: v) → free ls a b = true → Swp ls w (u ++ b :: a :: v)
theorem Swp.word {ls w w'} (h : Swp ls w w') (k : WordOk ls w) : WordOk ls w' ∧ w'.length = w.length := by
  induction h with
  | refl => exact ⟨k, rfl⟩
  | step h f ih =>
    obtain ⟨a, b⟩ := ih
    refine ⟨fun x hx => a x ?_, ?_⟩
    · simp only [List.mem_append, List.mem_cons] at hx ⊢
      rcases hx with h | h | h | h
      · exact .inl h
      · exact .inr (.inr (.inl h))
      · exact .inr (.inl h)
      · exact .inr (.inr (.inr h))
    · rw [← b]; simp
theorem Swp.at_ {ls w w'} (h : Swp ls w w') (p : Int) : at_ ls p w' = at_ ls p w := by
  induction h with
  | refl => rfl
  | @step u v a b h f ih =>
    rw [← ih]
    unfold My.at_
    rw [List.filter_append, List.filter_append]
    congr 1
    have : ¬ (p ∈ pl ls a ∧ p ∈ pl ls b) := fun ⟨x, y⟩ => disj_iff.mp f p x y
    by_cases ha : p ∈ pl ls a
    · have hb : p ∉ pl ls b := fun y => this ⟨ha, y⟩
      simp [List.filter_cons, ha, hb]
    · simp [List.filter_cons, ha]
end My
namespace My
/-! ### sorted lists -/
theorem sorted_unique : ∀ {l m : List Int}, l.Perm m → l.Pairwise (· ≤ ·) → m.Pairwise (· ≤ ·) → l = m
  | [], m, p, _, _ => (List.Perm.nil_eq p)
  | a :: l, [], p, _, _ => absurd p.symm (by simp)
  | a :: l, b :: m, p, h1, h2 => by
    have hab : a = b := by
      have ha : a ∈ b :: m := p.subset List.mem_cons_self
      have hb : b ∈ a :: l := p.symm.subset List.mem_cons_self
      rcases List.mem_cons.mp ha with e | e
      · exact e
      · rcases List.mem_cons.mp hb with e2 | e2
        · exact e2.symm
        · have x := (List.pairwise_cons.mp h1).1 b e2
          have y := (List.pairwise_cons.mp h2).1 a e
          omega
    subst hab
    rw [sorted_unique (List.Perm.cons_inv p) (List.pairwise_cons.mp h1).2 (List.pairwise_cons.mp h2).2]
/-- the items in ascending order -/
def srt (l : List Int) : List Int := l.mergeSort
theorem srt_perm (l : List Int) : (srt l).Perm l := List.mergeSort_perm _ _
theorem srt_up (l : List Int) : (srt l).Pairwise (· ≤ ·) := by
  have := List.pairwise_mergeSort (le := fun a b : Int => decide (a ≤ b)) (fun a b c h1 h2 => by simp at *; omega) (fun a b => by simp; omega) l
  unfold srt
  refine List.Pairwise.imp ?_ this
  intro a b h
  simpa using h
theorem srt_eq {l m : List Int} (p : m.Perm l) (h : m.Pairwise (· ≤ ·)) : m = srt l := sorted_unique (p.trans (srt_perm l).symm) h (srt_up l)
/-- the greatest of some numbers that are not negative -/
def top0 (l : List Int) : Int := l.foldr max 0
theorem top0_le {l : List Int} : ∀ y ∈ l, y ≤ top0 l := by
  induction l with
  | nil => intro y h; cases h
  | cons a l ih =>
    intro y h
    show y ≤ max a (top0 l)
    rcases List.mem_cons.mp h with e | e
    · subst e; omega
    · have := ih y e; omega
theorem top0_mem {l : List Int} (h : l ≠ []) (h0 : ∀ y ∈ l, 0 ≤ y) : top0 l ∈ l := by
  induction l with
  | nil => exact absurd rfl h
  | cons a l ih =>
    show max a (top0 l) ∈ a :: l
    by_cases e : l = []
    · subst e
      have := h0 a List.mem_cons_self
      have : max a (top0 []) = a := by show max a 0 = a; omega
      rw [this]; exact List.mem_cons_self
    · have := ih e fun y hy => h0 y (List.mem_cons_of_mem _ hy)
      by_cases c : a ≤ top0 l
      · rw [show max a (top0 l) = top0 l by omega]; exact List.mem_cons_of_mem _ this
      · rw [show max a (top0 l) = a by omega]; exact List.mem_cons_self
/-! ### layers: a turn for each letter -/
def setAll (hs : List Int) (ps : List Int) (v : Int) : List Int := ps.foldl (fun hs p => hs.set p.toNat v) hs
def addRow (rs : List (List Int)) (h : Nat) (a : Int) : List (List Int) := if h = rs.length then rs ++ [[a]] else rs.set h (rs.getD h [] ++ [a])
def hts (ls : Lets) (hs : List Int) (a : Int) : List Int := (pl ls a).map fun p => hs.getD p.toNat 0
def lstep (ls : Lets) (s : List Int × List (List Int)) (a : Int) : List Int × List (List Int) :=
  (setAll s.1 (pl ls a) (top0 (hts ls s.1 a) + 1), addRow s.2 (top0 (hts ls s.1 a)).toNat a)
def lay (ls : Lets) (k : Int) (w : List Int) : List Int × List (List Int) := w.foldl (lstep ls) (List.replicate k.toNat 0, [])
theorem setAll_len (ps : List Int) (v : Int) : ∀ hs : List Int, (setAll hs ps v).length = hs.length := by
  induction ps with
  | nil => intro hs; rfl
  | cons p ps ih =>
    intro hs
    show (setAll (hs.set p.toNat v) ps v).length = hs.length
    rw [ih, List.length_set]
theorem setAll_get {ps : List Int} {v : Int} (h0 : ∀ p ∈ ps, 0 ≤ p) {q : Nat} : ∀ {hs : List Int}, q < hs.length → (setAll hs ps v).getD q 0 = if (q : Int) ∈ ps then v else hs.getD q 0 := by
  induction ps with
  | nil => intro hs _; simp [setAll]
  | cons p ps ih =>
    intro hs hq
    show (setAll (hs.set p.toNat v) ps v).getD q 0 = _
    rw [ih (fun x hx => h0 x (List.mem_cons_of_mem _ hx)) (by rw [List.length_set]; exact hq)]
    have hp := h0 p List.mem_cons_self
    by_cases h1 : (q : Int) ∈ ps
    · rw [if_pos h1, if_pos (List.mem_cons_of_mem _ h1)]
    · rw [if_neg h1]
      by_cases h2 : p = q
      · subst h2
        rw [if_pos List.mem_cons_self]
        simp [List.getD_eq_getElem?_getD, hq]
      · rw [if_neg (by simp [h1]; omega)]
        have : p.toNat ≠ q := by omega
        simp [List.getD_eq_getElem?_getD, List.getElem?_set, this]
theorem addRow_len {rs : List (List Int)} {h : Nat} {a : Int} (hh : h ≤ rs.length) : (addRow rs h a).length = max rs.length (h + 1) := by
  unfold addRow
  split
  · rw [List.length_append, List.length_singleton]; omega
  · rw [List.length_set]; omega
theorem addRow_get {rs : List (List Int)} {h : Nat} {a : Int} (hh : h ≤ rs.length) (i : Nat) : (addRow rs h a).getD i [] = if i = h then rs.getD h [] ++ [a] else rs.getD i [] := by
  unfold addRow
  split
  · rename_i e
    subst e
    by_cases h1 : i < rs.length
    · rw [if_neg (by omega)]
      simp [List.getD_eq_getElem?_getD, List.getElem?_append_left h1]
    · by_cases h2 : i = rs.length
      · subst h2
        rw [if_pos rfl]
        simp [List.getD_eq_getElem?_getD]
      · rw [if_neg h2]
        have : rs.length ≤ i := by omega
        rw [List.getD_eq_getElem?_getD, List.getD_eq_getElem?_getD, List.getElem?_append_right this, List.getElem?_eq_none (by simp; omega), List.getElem?_eq_none (by omega)]
  · by_cases h2 : i = h
    · subst h2
      rw [if_pos rfl]
      simp [List.getD_eq_getElem?_getD, show i < rs.length by omega]
    · rw [if_neg h2]
      simp [List.getD_eq_getElem?_getD, List.getElem?_set, Ne.symm h2]
/-- what holds between the turns -/
structure LInv (ls : Lets) (k : Int) (w : List Int) (s : List Int × List (List Int)) : Prop where
  len : s.1.length = k.toNat
  hi : ∀ q : Nat, q < k.toNat → 0 ≤ s.1.getD q 0 ∧ s.1.getD q 0 ≤ s.2.length
  word : ∀ p, at_ ls p s.2.flatten = at_ ls p w
  above : ∀ (q : Nat) (i : Nat), q < k.toNat → s.1.getD q 0 ≤ i → at_ ls q (s.2.getD i []) = []
  apart : ∀ i, (s.2.getD i []).Pairwise fun a b => free ls a b = true
  rests : ∀ i a, a ∈ s.2.getD (i + 1) [] → ∃ b ∈ s.2.getD i [], free ls a b = false
  full : ∀ i, i < s.2.length → s.2.getD i [] ≠ []
  some : ∀ (q : Nat), q < k.toNat → 0 < s.1.getD q 0 → at_ ls q (s.2.getD ((s.1.getD q 0).toNat - 1) []) ≠ []
  ok : ∀ i, ∀ x ∈ s.2.getD i [], 0 ≤ x ∧ x < (ls.length : Int)
  cnt : s.2.length ≤ w.length
  few : ∀ i, (s.2.getD i []).length ≤ w.length
theorem at_append (ls : Lets) (p : Int) (u v : List Int) : at_ ls p (u ++ v) = at_ ls p u ++ at_ ls p v := List.filter_append ..
theorem at_flatten (ls : Lets) (p : Int) (rs : List (List Int)) : at_ ls p rs.flatten = (rs.map (at_ ls p)).flatten := by
  induction rs with
  | nil => rfl
  | cons r rs ih => rw [List.flatten_cons, at_append, ih]; rfl
theorem flat_nil {rs : List (List Int)} (h : ∀ r ∈ rs, r = []) : rs.flatten = [] := by
  induction rs with
  | nil => rfl
  | cons r rs ih => rw [List.flatten_cons, h r List.mem_cons_self, ih fun x hx => h x (List.mem_cons_of_mem _ hx)]; rfl
theorem addRow_at {ls : Lets} {rs : List (List Int)} {h : Nat} {a p : Int} (hh : h ≤ rs.length) (hp : p ∈ pl ls a → ∀ i, h ≤ i → at_ ls p (rs.getD i []) = []) : at_ ls p (addRow rs h a).flatten = at_ ls p rs.flatten ++ at_ ls p [a] := by
  unfold addRow
  split
  · rw [List.flatten_append, at_append]
    congr 1
  · have hlt : h < rs.length := by omega
    have e1 : rs.set h (rs.getD h [] ++ [a]) = rs.take h ++ (rs.getD h [] ++ [a]) :: rs.drop (h + 1) := by
      rw [List.set_eq_take_append_cons_drop, if_pos hlt]
    have e2 : rs = rs.take h ++ rs.getD h [] :: rs.drop (h + 1) := by
      conv => lhs; rw [← List.take_append_drop h rs, List.drop_eq_getElem_cons hlt]
      simp [List.getD_eq_getElem?_getD, hlt]
    rw [e1]
    conv => rhs; rw [e2]
    rw [List.flatten_append, List.flatten_cons, List.flatten_append, List.flatten_cons]
    simp only [at_append, List.append_assoc]
    congr 2
    by_cases hpa : p ∈ pl ls a
    · have hn := hp hpa
      have : at_ ls p (rs.drop (h + 1)).flatten = [] := by
        rw [at_flatten]
        apply flat_nil
        intro r hr
        obtain ⟨r0, hr0, rfl⟩ := List.mem_map.mp hr
        obtain ⟨n, hn2, e⟩ := List.getElem_of_mem hr0
        rw [List.getElem_drop] at e
        have := hn (h + 1 + n) (by omega)
        rw [← e]
        rw [List.length_drop] at hn2
        simpa [List.getD_eq_getElem?_getD, show h + 1 + n < rs.length by omega] using this
      rw [this]; simp
    · have : at_ ls p [a] = [] := by simp [at_, hpa]
      rw [this]; simp
theorem at_one {ls : Lets} {p a : Int} : at_ ls p [a] = if p ∈ pl ls a then [a] else [] := by
  by_cases h : p ∈ pl ls a <;> simp [at_, h]
theorem at_nil_iff {ls : Lets} {p : Int} {l : List Int} : at_ ls p l = [] ↔ ∀ x ∈ l, p ∉ pl ls x := by
  unfold at_
  rw [List.filter_eq_nil_iff]
  simp
theorem LInv.step {ls : Lets} {k : Int} {w : List Int} {s : List Int × List (List Int)} (A : AlphaOk k ls) (I : LInv ls k w s) {a : Int} (ha : 0 ≤ a ∧ a < (ls.length : Int)) : LInv ls k (w ++ [a]) (lstep ls s a) := by
  obtain ⟨hs, rs⟩ := s
  obtain ⟨pne, _, pok⟩ := A.ok _ (pl_mem ha.1 ha.2)
  have pin : ∀ p ∈ pl ls a, p.toNat < k.toNat ∧ ((p.toNat : Nat) : Int) = p := fun p hp => by have := pok p hp; omega
  -- the height
  have hmem : top0 (hts ls hs a) ∈ hts ls hs a := top0_mem (by simp [hts, pne]) fun y hy => by
    obtain ⟨p, hp, rfl⟩ := List.mem_map.mp hy
    exact (I.hi _ (pin p hp).1).1
  obtain ⟨p0, hp0, e0⟩ := List.mem_map.mp hmem
  have hge : ∀ p ∈ pl ls a, hs.getD p.toNat 0 ≤ top0 (hts ls hs a) := fun p hp => top0_le _ (List.mem_map_of_mem hp)
  have hb := I.hi _ (pin p0 hp0).1
  generalize hh : top0 (hts ls hs a) = h at *
  obtain ⟨n, rfl⟩ : ∃ n : Nat, h = n := ⟨h.toNat, by dsimp only at hb; omega⟩
  have hn : n ≤ rs.length := by dsimp only at hb; omega
  have E : lstep ls (hs, rs) a = (setAll hs (pl ls a) ((n : Int) + 1), addRow rs n a) := by
    show (setAll hs (pl ls a) (top0 (hts ls hs a) + 1), addRow rs (top0 (hts ls hs a)).toNat a) = _
    rw [hh]; rfl
  rw [E]
  have hl : hs.length = k.toNat := I.len
  have gs : ∀ q : Nat, q < k.toNat → (setAll hs (pl ls a) ((n : Int) + 1)).getD q 0 = if (q : Int) ∈ pl ls a then (n : Int) + 1 else hs.getD q 0 := fun q hq => setAll_get (fun p hp => (pok p hp).1) (by omega)
  have gr := addRow_get (a := a) hn
  have gl := addRow_len (a := a) hn
  have emp : ∀ p ∈ pl ls a, ∀ i, n ≤ i → at_ ls p (rs.getD i []) = [] := fun p hp i hi => by
    have := I.above p.toNat i (pin p hp).1 (by have := hge p hp; dsimp only; omega)
    rw [(pin p hp).2] at this
    exact this
  refine ⟨by rw [setAll_len]; exact hl, fun q hq => ?_, fun p => ?_, fun q i hq hi => ?_, fun i => ?_, fun i b hbm => ?_, fun i hi => ?_, fun q hq h0 => ?_, fun i x hx => ?_, by have := I.cnt; dsimp only at this ⊢; rw [gl, List.length_append, List.length_singleton]; omega, fun i => by
    have := I.few i
    have h2 := I.few n
    dsimp only at this h2 ⊢
    rw [gr, List.length_append, List.length_singleton]
    split
    · rw [List.length_append, List.length_singleton]; omega
    · omega⟩
  · dsimp only
    rw [gs q hq, gl]
    have := I.hi q hq
    dsimp only at this
    split <;> omega
  · dsimp only
    rw [addRow_at hn (fun hp => emp p hp), at_append, I.word p]
  · dsimp only at hi ⊢
    rw [gs q hq] at hi
    rw [gr]
    split at hi
    · rename_i hqa
      rw [if_neg (by omega)]
      exact emp _ hqa i (by omega)
    · rename_i hqa
      split
      · rename_i e
        subst e
        rw [at_append, at_one, if_neg hqa, I.above q i hq hi]; rfl
      · exact I.above q i hq hi
  · dsimp only
    rw [gr]
    split
    · rw [List.pairwise_append]
      refine ⟨I.apart n, List.pairwise_singleton _ _, fun b hb c hc => ?_⟩
      rw [List.mem_singleton.mp hc]
      refine disj_iff.mpr fun p hpb hpa => ?_
      exact at_nil_iff.mp (emp p hpa n (Nat.le_refl _)) b hb hpb
    · exact I.apart i
  · dsimp only at hbm ⊢
    rw [gr] at hbm
    have old : ∀ (c : Int), c ∈ rs.getD i [] → c ∈ (addRow rs n a).getD i [] := fun c hc => by
      rw [gr]
      split
      · rename_i e; subst e; exact List.mem_append_left _ hc
      · exact hc
    have fromold : b ∈ rs.getD (i + 1) [] → ∃ c ∈ (addRow rs n a).getD i [], free ls b c = false := fun h => by
      obtain ⟨c, hc, f⟩ := I.rests i b h
      exact ⟨c, old c hc, f⟩
    split at hbm
    · rename_i e
      rcases List.mem_append.mp hbm with h | h
      · exact fromold (by rw [e]; exact h)
      · rw [List.mem_singleton.mp h]
        have sm := I.some p0.toNat (pin p0 hp0).1 (by dsimp only; omega)
        dsimp only at sm
        rw [show (hs.getD p0.toNat 0).toNat - 1 = i by omega, (pin p0 hp0).2] at sm
        cases hat : at_ ls p0 (rs.getD i []) with
        | nil => exact absurd hat sm
        | cons c cs =>
          have hc : c ∈ at_ ls p0 (rs.getD i []) := by rw [hat]; exact List.mem_cons_self
          unfold at_ at hc
          obtain ⟨h1, h2⟩ := List.mem_filter.mp hc
          exact ⟨c, old c h1, not_disj.mpr ⟨p0, hp0, by simpa using h2⟩⟩
    · exact fromold hbm
  · dsimp only at hi ⊢
    rw [gr]
    rw [gl] at hi
    split
    · simp
    · exact I.full i (by dsimp only; omega)
  · dsimp only at h0 ⊢
    rw [gs q hq] at h0 ⊢
    split
    · rename_i hqa
      rw [show (((n : Int) + 1).toNat - 1) = n by omega, gr, if_pos rfl, at_append, at_one, if_pos hqa]
      simp
    · rename_i hqa
      rw [if_neg hqa] at h0
      have := I.some q hq h0
      dsimp only at this
      rw [gr]
      split
      · rename_i e
        rw [e] at this
        rw [at_append]
        intro z
        exact this (List.append_eq_nil_iff.mp z).1
      · exact this
  · dsimp only at hx
    rw [gr] at hx
    split at hx
    · rcases List.mem_append.mp hx with h | h
      · exact I.ok n x h
      · rw [List.mem_singleton.mp h]; exact ha
    · exact I.ok i x hx
theorem LInv.start {ls : Lets} {k : Int} : LInv ls k [] (List.replicate k.toNat 0, []) := by
  have g : ∀ q : Nat, (List.replicate k.toNat (0 : Int)).getD q 0 = 0 := fun q => by
    rw [List.getD_eq_getElem?_getD, List.getElem?_replicate]; split <;> rfl
  refine ⟨List.length_replicate, fun q _ => ?_, fun p => rfl, fun q i _ _ => rfl, fun i => List.Pairwise.nil, fun i a h => (by cases h), fun i h => (by cases h), fun q _ h => ?_, fun i x h => (by cases h), Nat.le_refl _, fun i => Nat.le_refl _⟩
  · dsimp only; rw [g]; exact ⟨Int.le_refl _, Int.le_refl _⟩
  · dsimp only at h; rw [g] at h; omega
/-! ### the order of free neighbours doesn't matter -/
structure Like (s t : List Int × List (List Int)) : Prop where
  hs : s.1 = t.1
  len : s.2.length = t.2.length
  row : ∀ i, (s.2.getD i []).Perm (t.2.getD i [])
theorem hgt_le {ls : Lets} {k : Int} {w : List Int} {s : List Int × List (List Int)} (A : AlphaOk k ls) (I : LInv ls k w s) {a : Int} (ha : 0 ≤ a ∧ a < (ls.length : Int)) : (top0 (hts ls s.1 a)).toNat ≤ s.2.length ∧ 0 ≤ top0 (hts ls s.1 a) := by
  obtain ⟨pne, _, pok⟩ := A.ok _ (pl_mem ha.1 ha.2)
  have hb : ∀ p ∈ pl ls a, 0 ≤ s.1.getD p.toNat 0 ∧ s.1.getD p.toNat 0 ≤ s.2.length := fun p hp => I.hi _ (by have := pok p hp; omega)
  have hmem : top0 (hts ls s.1 a) ∈ hts ls s.1 a := top0_mem (by simp [hts, pne]) fun y hy => by
    obtain ⟨p, hp, rfl⟩ := List.mem_map.mp hy
    exact (hb p hp).1
  obtain ⟨p, hp, e⟩ := List.mem_map.mp hmem
  have := hb p hp
  omega
theorem Like.step {ls : Lets} {k : Int} {w : List Int} {s t : List Int × List (List Int)} (A : AlphaOk k ls) (I : LInv ls k w s) (L : Like s t) {a : Int} (ha : 0 ≤ a ∧ a < (ls.length : Int)) : Like (lstep ls s a) (lstep ls t a) := by
  have h1 := (hgt_le A I ha).1
  have e : hts ls t.1 a = hts ls s.1 a := by rw [L.hs]
  refine ⟨?_, ?_, fun i => ?_⟩
  · show setAll s.1 _ (top0 (hts ls s.1 a) + 1) = setAll t.1 _ (top0 (hts ls t.1 a) + 1)
    rw [e, L.hs]
  · show (addRow s.2 _ a).length = (addRow t.2 (top0 (hts ls t.1 a)).toNat a).length
    rw [e, addRow_len h1, addRow_len (by rw [← L.len]; exact h1), L.len]
  · show ((addRow s.2 _ a).getD i []).Perm ((addRow t.2 (top0 (hts ls t.1 a)).toNat a).getD i [])
    rw [e, addRow_get h1, addRow_get (by rw [← L.len]; exact h1)]
    split
    · exact (L.row _).append_right _
    · exact L.row i
theorem srt_congr {l m : List Int} (p : l.Perm m) : srt l = srt m := srt_eq ((srt_perm l).trans p) (srt_up l)
theorem Like.same {s t : List Int × List (List Int)} (L : Like s t) : s.2.map srt = t.2.map srt := by
  apply List.ext_getElem
  · simp [L.len]
  · intro n h1 h2
    rw [List.length_map] at h1 h2
    rw [List.getElem_map, List.getElem_map]
    have := L.row n
    rw [List.getD_eq_getElem?_getD, List.getD_eq_getElem?_getD, List.getElem?_eq_getElem h1, List.getElem?_eq_getElem h2] at this
    exact srt_congr this
/-! ### what the law asks of the layers -/
end My
namespace My
/-! ### words of places, swaps, least forms -/
/-- the same words of all places -/
def Alk (ls : Lets) (k : Int) (u v : List Int) : Prop := ∀ p : Int, 0 ≤ p → p < k → at_ ls p u = at_ ls p v
theorem Alk.symm {ls k u v} (h : Alk ls k u v) : Alk ls k v u := fun p a b => (h p a b).symm
theorem Alk.trans {ls k u v x} (h : Alk ls k u v) (g : Alk ls k v x) : Alk ls k u x := fun p a b => (h p a b).trans (g p a b)
theorem AlphaOk.pl_ok {k : Int} {ls : Lets} (A : AlphaOk k ls) {a : Int} (ha : 0 ≤ a ∧ a < (ls.length : Int)) : pl ls a ≠ [] ∧ ∀ p ∈ pl ls a, 0 ≤ p ∧ p < k := by
  obtain ⟨h1, _, h3⟩ := A.ok _ (pl_mem ha.1 ha.2)
  exact ⟨h1, h3⟩
theorem AlphaOk.some {k : Int} {ls : Lets} (A : AlphaOk k ls) {a : Int} (ha : 0 ≤ a ∧ a < (ls.length : Int)) : ∃ p ∈ pl ls a, 0 ≤ p ∧ p < k := by
  obtain ⟨h1, h3⟩ := A.pl_ok ha
  obtain ⟨p, hp⟩ := List.exists_mem_of_ne_nil _ h1
  exact ⟨p, hp, h3 p hp⟩
/-- the letter comes next at each of its places -/
def rdy (ls : Lets) (r : List Int) (a : Int) : Bool := (pl ls a).all fun p => decide ((at_ ls p r).head? = some a)
theorem rdy_iff {ls : Lets} {r : List Int} {a : Int} : rdy ls r a = true ↔ ∀ p ∈ pl ls a, (at_ ls p r).head? = some a := by
  unfold rdy; simp
theorem at_cons_in {ls : Lets} {p a : Int} {r : List Int} (h : p ∈ pl ls a) : at_ ls p (a :: r) = a :: at_ ls p r := by
  unfold at_; rw [List.filter_cons, if_pos (by simpa using h)]
theorem at_cons_out {ls : Lets} {p a : Int} {r : List Int} (h : p ∉ pl ls a) : at_ ls p (a :: r) = at_ ls p r := by
  unfold at_; rw [List.filter_cons, if_neg (by simpa using h)]
theorem rdy_first {ls : Lets} {r : List Int} {a : Int} : rdy ls (a :: r) a = true := rdy_iff.mpr fun p hp => by rw [at_cons_in hp]; rfl
theorem WordOk.tail {ls : Lets} {a : Int} {r : List Int} (h : WordOk ls (a :: r)) : WordOk ls r := fun x hx => h x (List.mem_cons_of_mem _ hx)
theorem WordOk.erase {ls : Lets} {a : Int} {r : List Int} (h : WordOk ls r) : WordOk ls (r.erase a) := fun x hx => h x (List.mem_of_mem_erase hx)
theorem rdy_split {k : Int} {ls : Lets} (A : AlphaOk k ls) {a : Int} (ha : 0 ≤ a ∧ a < (ls.length : Int)) : ∀ {r : List Int}, rdy ls r a = true → ∃ r1 r2, r = r1 ++ a :: r2 ∧ a ∉ r1 ∧ (∀ b ∈ r1, free ls b a = true) ∧ r.erase a = r1 ++ r2
  | [], h => by
    obtain ⟨p, hp, _⟩ := A.some ha
    have := rdy_iff.mp h p hp
    simp [at_] at this
  | b :: r, h => by
    by_cases e : b = a
    · subst e
      exact ⟨[], r, rfl, by simp, (by simp), by simp⟩
    · have hp : ∀ p ∈ pl ls a, p ∉ pl ls b := fun p hp hb => by
        have := rdy_iff.mp h p hp
        rw [at_cons_in hb] at this
        exact e (by simpa using this)
      have h2 : rdy ls r a = true := rdy_iff.mpr fun p q => by
        have := rdy_iff.mp h p q
        rwa [at_cons_out (hp p q)] at this
      obtain ⟨r1, r2, e1, n1, f1, x1⟩ := rdy_split A ha h2
      refine ⟨b :: r1, r2, by rw [e1]; rfl, ?_, ?_, ?_⟩
      · intro hm
        rcases List.mem_cons.mp hm with hm | hm
        · exact e hm.symm
        · exact n1 hm
      · intro c hc
        rcases List.mem_cons.mp hc with rfl | hc
        · exact disj_iff.mpr fun p hpb hpa => hp p hpa hpb
        · exact f1 c hc
      · rw [List.erase_cons, if_neg (by simpa using e), x1]; rfl
theorem rdy_at {k : Int} {ls : Lets} (A : AlphaOk k ls) {a : Int} (ha : 0 ≤ a ∧ a < (ls.length : Int)) {r : List Int} (h : rdy ls r a = true) (p : Int) : at_ ls p r = at_ ls p (a :: r.erase a) := by
  obtain ⟨r1, r2, e1, n1, f1, x1⟩ := rdy_split A ha h
  rw [x1]
  by_cases hp : p ∈ pl ls a
  · have : at_ ls p r1 = [] := at_nil_iff.mpr fun b hb q => disj_iff.mp (f1 b hb) p q hp
    rw [at_cons_in hp, e1, at_append, at_append, this, at_cons_in hp]; rfl
  · rw [at_cons_out hp, e1, at_append, at_append, at_cons_out hp]
theorem rdy_mem {k : Int} {ls : Lets} (A : AlphaOk k ls) {a : Int} (ha : 0 ≤ a ∧ a < (ls.length : Int)) {r : List Int} (h : rdy ls r a = true) : a ∈ r := by
  obtain ⟨r1, r2, e1, _⟩ := rdy_split A ha h
  rw [e1]; simp
theorem Swp.trans1 {ls : Lets} {w u v : List Int} {a : Int} : ∀ {r : List Int}, Swp ls w (u ++ (r ++ a :: v)) → (∀ b ∈ r, free ls b a = true) → Swp ls w (u ++ a :: (r ++ v)) := by
  intro r
  induction r generalizing u with
  | nil => intro h _; exact h
  | cons b r ih =>
    intro h hf
    have h1 : Swp ls w ((u ++ [b]) ++ (r ++ a :: v)) := by simpa using h
    have h2 := ih h1 fun c hc => hf c (List.mem_cons_of_mem _ hc)
    have h3 : Swp ls w (u ++ b :: a :: (r ++ v)) := by simpa using h2
    exact .step h3 (hf b List.mem_cons_self)
theorem Alk.nil {k : Int} {ls : Lets} (A : AlphaOk k ls) {u : List Int} (hu : WordOk ls u) (h : Alk ls k u []) : u = [] := by
  cases u with
  | nil => rfl
  | cons a u =>
    obtain ⟨p, hp, h0, h1⟩ := A.some (hu a List.mem_cons_self)
    have := h p h0 h1
    rw [at_cons_in hp] at this
    cases this
theorem Alk.rdy {k : Int} {ls : Lets} (A : AlphaOk k ls) {u v : List Int} (h : Alk ls k u v) {a : Int} (ha : 0 ≤ a ∧ a < (ls.length : Int)) : rdy ls u a = rdy ls v a := by
  have := (A.pl_ok ha).2
  rw [Bool.eq_iff_iff, rdy_iff, rdy_iff]
  exact ⟨fun x p hp => by rw [← h p (this p hp).1 (this p hp).2]; exact x p hp, fun x p hp => by rw [h p (this p hp).1 (this p hp).2]; exact x p hp⟩
theorem Alk.tail {k : Int} {ls : Lets} {a : Int} {u v : List Int} (h : Alk ls k (a :: u) (a :: v)) : Alk ls k u v := fun p h0 h1 => by
  have := h p h0 h1
  by_cases hp : p ∈ pl ls a
  · rw [at_cons_in hp, at_cons_in hp] at this
    exact (List.cons.inj this).2
  · rwa [at_cons_out hp, at_cons_out hp] at this
theorem Alk.erase {k : Int} {ls : Lets} (A : AlphaOk k ls) {u v : List Int} (h : Alk ls k u v) {a : Int} (ha : 0 ≤ a ∧ a < (ls.length : Int)) (r : My.rdy ls u a = true) : Alk ls k (u.erase a) (v.erase a) := by
  have r2 : My.rdy ls v a = true := by rw [← h.rdy A ha]; exact r
  refine Alk.tail (a := a) fun p h0 h1 => ?_
  rw [← rdy_at A ha r, ← rdy_at A ha r2]
  exact h p h0 h1
theorem Alk.head {k : Int} {ls : Lets} (A : AlphaOk k ls) {u v : List Int} {a : Int} (h : Alk ls k u (a :: v)) (ha : 0 ≤ a ∧ a < (ls.length : Int)) : My.rdy ls u a = true ∧ Alk ls k (u.erase a) v := by
  have r : My.rdy ls u a = true := by rw [h.rdy A ha]; exact rdy_first
  have := h.erase A ha r
  rw [List.erase_cons_head] at this
  exact ⟨r, this⟩
theorem swp_of_alk {k : Int} {ls : Lets} (A : AlphaOk k ls) : ∀ {v u w x : List Int}, WordOk ls u → WordOk ls v → Alk ls k u v → Swp ls w (x ++ u) → Swp ls w (x ++ v)
  | [], u, w, x, hu, hv, h, s => by rw [h.nil A hu] at s; exact s
  | a :: v, u, w, x, hu, hv, h, s => by
    have ha := hv a List.mem_cons_self
    obtain ⟨r, h2⟩ := h.head A ha
    obtain ⟨r1, r2, e1, n1, f1, x1⟩ := rdy_split A ha r
    have s2 : Swp ls w (x ++ a :: (r1 ++ r2)) := by
      rw [e1] at s
      exact s.trans1 f1
    rw [← x1] at s2
    have s3 : Swp ls w ((x ++ [a]) ++ u.erase a) := by simpa using s2
    have := swp_of_alk A hu.erase hv.tail h2 s3
    simpa using this
theorem Alk.len {k : Int} {ls : Lets} (A : AlphaOk k ls) {u v : List Int} (hu : WordOk ls u) (hv : WordOk ls v) (h : Alk ls k u v) : v.length = u.length :=
  (swp_of_alk A (x := []) hu hv h (.refl u)).word hu |>.2
/-! least forms -/
def nxt (ls : Lets) (r : List Int) : Option Nat := ((List.range ls.length).filter fun a : Nat => rdy ls r a).head?
def lfN (ls : Lets) : Nat → List Int → List Int
  | 0, _ => []
  | n + 1, r => match nxt ls r with
    | none => []
    | some a => (a : Int) :: lfN ls n (r.erase a)
def lf (ls : Lets) (w : List Int) : List Int := lfN ls w.length w
/-! lists of swaps -/
end My
namespace My
/-! ### swaps counted -/
def tot : List Int → List Int → Nat
  | _, [] => 0
  | x, a :: v => x.idxOf a + tot (x.erase a) v
/-- how often the letter at e stands before e -/
def occ (u : List Int) (e : Nat) : Nat := (u.take e).count (u.getD e 0)
def num (u : List Int) : List (Int × Int) := (List.range u.length).map fun e => (u.getD e 0, (occ u e : Int))
def pk (u : List Int) : List Int → List Int → List Nat
  | _, [] => []
  | pre, a :: v => (num u).idxOf (a, (pre.count a : Int)) :: pk u (pre ++ [a]) v
/-- a run: each time one of what is left is taken -/
inductive Run : List Nat → List Nat → Nat → Prop where
  | nil : Run [] [] 0
  | cons {r1 r2 P e t} : Run (r1 ++ r2) P t → Run (r1 ++ e :: r2) (e :: P) (r1.length + t)
def inv : List Nat → Nat
  | [] => 0
  | e :: P => (P.filter fun p => decide (p < e)).length + inv P
theorem Run.ok {r P t} (h : Run r P t) : r.Pairwise (· < ·) → r.Perm P ∧ t = inv P := by
  induction h with
  | nil => exact fun _ => ⟨.refl _, rfl⟩
  | @cons r1 r2 P e t h ih =>
    intro hp
    have hs : List.Sublist (r1 ++ r2) (r1 ++ e :: r2) := List.Sublist.append_left (List.sublist_cons_self _ _) _
    obtain ⟨p1, p2⟩ := ih (hp.sublist hs)
    refine ⟨List.perm_middle.trans (.cons e p1), ?_⟩
    have hf : (P.filter fun p => decide (p < e)).length = r1.length := by
      rw [← (p1.filter _).length_eq, List.filter_append]
      obtain ⟨q1, q2, q3⟩ := List.pairwise_append.mp hp
      rw [List.filter_eq_self.mpr fun x hx => decide_eq_true (q3 x hx e List.mem_cons_self), List.filter_eq_nil_iff.mpr fun x hx => by
        have := (List.pairwise_cons.mp q2).1 x hx
        simp; omega]
      simp
    unfold inv
    rw [hf, p2]
end My
namespace My
/-! ### all orders of a word, found breadth first -/
def ins (a : Int) : List Int → List (List Int)
  | [] => [[a]]
  | b :: l => (a :: b :: l) :: (ins a l).map (b :: ·)
theorem nodup_le {α : Type} [DecidableEq α] : ∀ {l m : List α}, l.Nodup → (∀ x ∈ l, x ∈ m) → l.length ≤ m.length
  | [], m, _, _ => Nat.zero_le _
  | x :: l, m, h, s => by
    obtain ⟨h1, h2⟩ := List.nodup_cons.mp h
    have hx := s x List.mem_cons_self
    have := nodup_le (l := l) (m := m.erase x) h2 fun y hy => by
      have hne : y ≠ x := fun e => h1 (e ▸ hy)
      exact (List.mem_erase_of_ne hne).mpr (s y (List.mem_cons_of_mem _ hy))
    rw [List.length_erase_of_mem hx] at this
    have := List.length_pos_of_mem hx
    rw [List.length_cons]; omega
end My
namespace My
/-- the words of all places -/
def pws (ls : Lets) (k : Int) (wd : List Int) : List (List Int) := (List.range k.toNat).map fun p : Nat => at_ ls p wd
end My
namespace My
/-! ### queues -/
abbrev Qs := List (List Int)
def qat (Q : Qs) (p : Int) : List Int := Q.getD p.toNat []
/-- the letter comes next in the queue of each of its places -/
def rdyR (ls : Lets) (Q : Qs) (a : Int) : Bool := (pl ls a).all fun p => decide ((qat Q p).head? = some a)
theorem rdyR_iff {ls : Lets} {Q : Qs} {a : Int} : rdyR ls Q a = true ↔ ∀ p ∈ pl ls a, (qat Q p).head? = some a := by
  unfold rdyR; simp
def nxtR (ls : Lets) (Q : Qs) : Option Nat := ((List.range ls.length).filter fun a : Nat => rdyR ls Q a).head?
/-- the letter taken off -/
def mvQ (ls : Lets) (a : Int) (Q : Qs) : Qs := (List.range Q.length).map fun p : Nat => if (p : Int) ∈ pl ls a then (qat Q p).tail else qat Q p
def totQ (Q : Qs) : Nat := (Q.map List.length).sum
def tkN (ls : Lets) : Nat → Qs → List Int
  | 0, _ => []
  | n + 1, Q => match nxtR ls Q with
    | none => []
    | some a => (a : Int) :: tkN ls n (mvQ ls a Q)
/-- the letters that happen if always the first ready one does -/
def tk (ls : Lets) (Q : Qs) : List Int := tkN ls (totQ Q) Q
theorem mvQ_len {ls : Lets} {a : Int} {Q : Qs} : (mvQ ls a Q).length = Q.length := by unfold mvQ; simp
theorem qat_map {n : Nat} {f : Nat → List Int} {p : Nat} (h : p < n) : qat ((List.range n).map f) (p : Int) = f p := by
  unfold qat
  rw [Int.toNat_natCast, List.getD_eq_getElem?_getD, List.getElem?_map, List.getElem?_range h]; rfl
theorem qat_mv {ls : Lets} {a : Int} {Q : Qs} {p : Nat} (h : p < Q.length) : qat (mvQ ls a Q) (p : Int) = if (p : Int) ∈ pl ls a then (qat Q p).tail else qat Q p := by
  unfold mvQ
  rw [qat_map h]
theorem qs_eq {Q : Qs} : Q = (List.range Q.length).map fun p : Nat => qat Q p := by
  apply List.ext_getElem
  · simp
  · intro i h1 h2
    simp only [List.getElem_map, List.getElem_range]
    unfold qat
    rw [Int.toNat_natCast, List.getD_eq_getElem?_getD, List.getElem?_eq_getElem h1]; rfl
theorem qs_ext {Q R : Qs} (hl : Q.length = R.length) (h : ∀ p : Nat, p < Q.length → qat Q p = qat R p) : Q = R := by
  rw [qs_eq (Q := Q), qs_eq (Q := R), ← hl]
  exact List.map_congr_left fun p hp => h p (List.mem_range.mp hp)
theorem totQ_eq {Q : Qs} : totQ Q = ((List.range Q.length).map fun p : Nat => (qat Q p).length).sum := by
  unfold totQ
  conv => lhs; rw [qs_eq (Q := Q), List.map_map]
  rfl
theorem sum_le {l : List Nat} {f g : Nat → Nat} (h : ∀ x ∈ l, f x ≤ g x) : (l.map f).sum ≤ (l.map g).sum := by
  induction l with
  | nil => exact Nat.le_refl _
  | cons a l ih =>
    have := h a List.mem_cons_self
    have := ih fun x hx => h x (List.mem_cons_of_mem _ hx)
    simp only [List.map_cons, List.sum_cons]; omega
theorem sum_lt {l : List Nat} {f g : Nat → Nat} (h : ∀ x ∈ l, f x ≤ g x) {y : Nat} (hy : y ∈ l) (hlt : f y < g y) : (l.map f).sum < (l.map g).sum := by
  induction l with
  | nil => cases hy
  | cons a l ih =>
    have h1 := h a List.mem_cons_self
    have h2 := sum_le fun x hx => h x (List.mem_cons_of_mem _ hx)
    simp only [List.map_cons, List.sum_cons]
    rcases List.mem_cons.mp hy with rfl | hy
    · omega
    · have := ih (fun x hx => h x (List.mem_cons_of_mem _ hx)) hy; omega
theorem totQ_mv {k : Int} {ls : Lets} (A : AlphaOk k ls) {Q : Qs} (hQ : Q.length = k.toNat) {a : Int} (ha : 0 ≤ a ∧ a < (ls.length : Int)) (r : rdyR ls Q a = true) : totQ (mvQ ls a Q) < totQ Q := by
  obtain ⟨p, hp, p0, pk⟩ := A.some ha
  obtain ⟨n, rfl⟩ := Int.eq_ofNat_of_zero_le p0
  have hn : n < Q.length := by omega
  rw [totQ_eq, totQ_eq (Q := Q), mvQ_len]
  refine sum_lt (fun x hx => ?_) (List.mem_range.mpr hn) ?_
  · rw [qat_mv (List.mem_range.mp hx)]
    split
    · rw [List.length_tail]; omega
    · exact Nat.le_refl _
  · rw [qat_mv hn, if_pos hp, List.length_tail]
    have := rdyR_iff.mp r _ hp
    cases e : qat Q (n : Int) with
    | nil => rw [e] at this; cases this
    | cons b l => simp
/-! heads -/
def rq (qs : Qs) (hs : List Int) : Qs := (List.range qs.length).map fun p : Nat => (qat qs p).drop (hs.getD p 0).toNat
def mvH (ls : Lets) (a : Int) (hs : List Int) : List Int := hs.zipIdx.map fun z => z.1 + if (z.2 : Int) ∈ pl ls a then 1 else 0
structure QOk (k : Int) (qs : Qs) (hs : List Int) : Prop where
  ql : qs.length = k.toNat
  hl : hs.length = k.toNat
  h0 : ∀ x ∈ hs, 0 ≤ x
theorem rq_len {qs : Qs} {hs : List Int} : (rq qs hs).length = qs.length := by unfold rq; simp
theorem qat_rq {qs : Qs} {hs : List Int} {p : Nat} (h : p < qs.length) : qat (rq qs hs) (p : Int) = (qat qs p).drop (hs.getD p 0).toNat := qat_map h
theorem mvH_get {ls : Lets} {a : Int} {hs : List Int} {p : Nat} (h : p < hs.length) : (mvH ls a hs).getD p 0 = hs.getD p 0 + if (p : Int) ∈ pl ls a then 1 else 0 := by
  unfold mvH
  rw [List.getD_eq_getElem?_getD, List.getElem?_map, List.getElem?_zipIdx, List.getElem?_eq_getElem h, List.getD_eq_getElem?_getD, List.getElem?_eq_getElem h]
  simp
theorem getD_mem {hs : List Int} {p : Nat} (h : p < hs.length) : hs.getD p 0 ∈ hs := by
  rw [List.getD_eq_getElem?_getD, List.getElem?_eq_getElem h]; exact List.getElem_mem h
theorem QOk.mv {k : Int} {qs : Qs} {hs : List Int} (h : QOk k qs hs) {ls : Lets} {a : Int} : QOk k qs (mvH ls a hs) := by
  refine ⟨h.ql, by unfold mvH; rw [List.length_map, List.length_zipIdx]; exact h.hl, fun x hx => ?_⟩
  unfold mvH at hx
  obtain ⟨z, hz, rfl⟩ := List.mem_map.mp hx
  have := h.h0 z.1 (by
    have := List.mem_zipIdx hz
    rw [this.2.2]; exact List.getElem_mem _)
  split <;> omega
theorem rq_mv {k : Int} {qs : Qs} {hs : List Int} (h : QOk k qs hs) {ls : Lets} {a : Int} : rq qs (mvH ls a hs) = mvQ ls a (rq qs hs) := by
  have hl := h.hl; have ql := h.ql
  refine qs_ext (by rw [mvQ_len, rq_len, rq_len]) fun p hp => ?_
  rw [rq_len] at hp
  rw [qat_rq hp, qat_mv (by rw [rq_len]; exact hp), qat_rq hp, mvH_get (by omega)]
  have := h.h0 _ (getD_mem (hs := hs) (p := p) (by omega))
  split
  · rw [show (hs.getD p 0 + 1).toNat = (hs.getD p 0).toNat + 1 by omega, List.tail_drop]
  · rw [Int.add_zero]
theorem rq_zero {k : Int} {qs : Qs} (h : qs.length = k.toNat) : QOk k qs (List.replicate k.toNat 0) ∧ rq qs (List.replicate k.toNat 0) = qs := by
  refine ⟨⟨h, by simp, fun x hx => by rw [List.eq_of_mem_replicate hx]; exact Int.le_refl _⟩, ?_⟩
  refine qs_ext (by rw [rq_len]) fun p hp => ?_
  rw [rq_len] at hp
  rw [qat_rq hp, List.getD_eq_getElem?_getD, List.getElem?_replicate]
  split <;> rfl
/-! queues of a word -/
def QW (ls : Lets) (k : Int) (Q : Qs) (r : List Int) : Prop := Q.length = k.toNat ∧ ∀ p : Nat, (p : Int) < k → qat Q p = at_ ls p r
theorem QW.rdy {k : Int} {ls : Lets} (A : AlphaOk k ls) {Q : Qs} {r : List Int} (h : QW ls k Q r) {a : Int} (ha : 0 ≤ a ∧ a < (ls.length : Int)) : rdyR ls Q a = rdy ls r a := by
  have pk := (A.pl_ok ha).2
  rw [Bool.eq_iff_iff, rdyR_iff, rdy_iff]
  have key : ∀ p ∈ pl ls a, qat Q p = at_ ls p r := fun p hp => by
    obtain ⟨h0, h1⟩ := pk p hp
    obtain ⟨n, rfl⟩ := Int.eq_ofNat_of_zero_le h0
    exact h.2 n h1
  exact ⟨fun x p hp => by rw [← key p hp]; exact x p hp, fun x p hp => by rw [key p hp]; exact x p hp⟩
theorem QW.mv {k : Int} {ls : Lets} (A : AlphaOk k ls) {Q : Qs} {r : List Int} (h : QW ls k Q r) {a : Int} (ha : 0 ≤ a ∧ a < (ls.length : Int)) (rd : My.rdy ls r a = true) : QW ls k (mvQ ls a Q) (r.erase a) := by
  refine ⟨by rw [mvQ_len]; exact h.1, fun p hp => ?_⟩
  have hq := h.1
  rw [qat_mv (by omega), h.2 p hp, rdy_at A ha rd p]
  split
  · rename_i hm; rw [at_cons_in hm]; rfl
  · rename_i hm; rw [at_cons_out hm]
/-- the ready letters -/
def rdyRL (ls : Lets) (Q : Qs) : List Int := ((List.range ls.length).filter fun a : Nat => rdyR ls Q a).map fun a : Nat => (a : Int)
/-- at most as many letters of a place as it has in the word -/
theorem at_le {ls : Lets} {p : Int} {w : List Int} : (at_ ls p w).length ≤ w.length := List.length_filter_le _ _
theorem totQ_pws {ls : Lets} {k : Int} {w : List Int} : totQ (pws ls k w) ≤ k.toNat * w.length := by
  unfold totQ pws
  rw [List.map_map]
  generalize k.toNat = n
  induction n with
  | zero => simp
  | succ n ih =>
    rw [List.range_succ, List.map_append, List.sum_append, Nat.succ_mul]
    have : ((List.length ∘ fun p : Nat => at_ ls p w) n) ≤ w.length := at_le
    simp only [List.map_cons, List.map_nil, List.sum_cons, List.sum_nil]
    omega
end My
namespace My
/-! ### the first letter that nothing ahead of it holds back -/
theorem getD_at {r : List Int} {k : Nat} (h : k < r.length) : r.getD k 0 = r[k] := by rw [List.getD_eq_getElem?_getD, List.getElem?_eq_getElem h]; rfl
end My
namespace My
/-! ### runs of queues in any order -/
structure Sch (k : Int) (ls : Lets) (qs : Qs) (f hs : List Int) : Prop where
  q : QOk k qs hs
  wf : WordOk ls f
  hp : ∀ p : Nat, (p : Int) < k → hs.getD p 0 = ((at_ ls p f).length : Int) ∧ at_ ls p f ++ qat (rq qs hs) p = qat qs p
  tot : f.length + totQ (rq qs hs) ≤ totQ qs
  of : ∀ w, WordOk ls w → QW ls k qs w → ∃ r, WordOk ls r ∧ QW ls k (rq qs hs) r
theorem Sch.start {k : Int} {ls : Lets} {qs : Qs} (h : qs.length = k.toNat) : Sch k ls qs [] (List.replicate k.toNat 0) := by
  obtain ⟨z1, z2⟩ := rq_zero (qs := qs) h
  refine ⟨z1, fun x hx => (by cases hx), fun p hp => ⟨?_, by rw [z2]; rfl⟩, by rw [z2]; simp, fun w hw hq => ⟨w, hw, by rw [z2]; exact hq⟩⟩
  rw [List.getD_eq_getElem?_getD, List.getElem?_replicate]
  split <;> rfl
theorem Sch.step {k : Int} {ls : Lets} (A : AlphaOk k ls) {qs : Qs} {f hs : List Int} (h : Sch k ls qs f hs) {a : Int} (ha : 0 ≤ a ∧ a < (ls.length : Int)) (rd : rdyR ls (rq qs hs) a = true) : Sch k ls qs (f ++ [a]) (mvH ls a hs) := by
  have hl := h.q.hl; have ql := h.q.ql
  have mv := rq_mv h.q (ls := ls) (a := a)
  have lt := totQ_mv A (Q := rq qs hs) (by rw [rq_len]; exact ql) ha rd
  refine ⟨h.q.mv, fun x hx => ?_, fun p hp => ?_, ?_, fun w hw hq => ?_⟩
  · rcases List.mem_append.mp hx with hx | hx
    · exact h.wf x hx
    · rw [List.mem_singleton.mp hx]; exact ha
  · obtain ⟨h1, h2⟩ := h.hp p hp
    have hpn : p < qs.length := by omega
    rw [mvH_get (by omega), mv, qat_mv (by rw [rq_len]; exact hpn), at_append]
    by_cases hm : (p : Int) ∈ pl ls a
    · rw [if_pos hm, if_pos hm, at_cons_in hm]
      have hd := rdyR_iff.mp rd _ hm
      cases e : qat (rq qs hs) (p : Int) with
      | nil => rw [e] at hd; cases hd
      | cons b t =>
        rw [e] at hd h2
        have hb : b = a := by simpa using hd
        subst hb
        refine ⟨?_, ?_⟩
        · rw [h1, show at_ ls (p : Int) [] = [] from rfl, List.length_append]; simp
        · rw [← h2]
          simp only [show at_ ls (p : Int) [] = [] from rfl, List.tail_cons, List.append_assoc, List.cons_append, List.nil_append]
    · rw [if_neg hm, if_neg hm, at_cons_out hm, Int.add_zero, show at_ ls (p : Int) [] = [] from rfl, List.append_nil]
      exact ⟨h1, h2⟩
  · rw [mv, List.length_append]; simp only [List.length_singleton]
    have := h.tot
    omega
  · obtain ⟨r, hr, qr⟩ := h.of w hw hq
    rw [qr.rdy A ha] at rd
    exact ⟨r.erase a, hr.erase, by rw [mv]; exact qr.mv A ha rd⟩
def lens (qs : Qs) : List Int := qs.map fun q => (q.length : Int)
theorem totQ_put {qs : Qs} {p : Nat} {o : List Int} : totQ (qs.take p ++ [o] ++ qs.drop (p + 1)) ≤ totQ qs + o.length := by
  unfold totQ
  have e : (qs.map List.length).sum = ((qs.take p).map List.length).sum + ((qs.drop p).map List.length).sum := by
    rw [← List.sum_append, ← List.map_append, List.take_append_drop]
  have e2 : ((qs.drop (p + 1)).map List.length).sum ≤ ((qs.drop p).map List.length).sum := by
    rw [List.drop_add_one_eq_tail_drop]
    cases qs.drop p with
    | nil => exact Nat.le_refl _
    | cons a l => simp only [List.tail_cons, List.map_cons, List.sum_cons]; omega
  rw [e]
  simp only [List.map_append, List.sum_append, List.map_cons, List.map_nil, List.sum_cons, List.sum_nil]
  omega
end My
namespace My
/-! ### prefixes up to order -/
/-- what is left of a word behind the letters of another one -/
def dif (w u : List Int) : List Int := u.foldl (fun w a => w.erase a) w
theorem dif_cons {w u : List Int} {a : Int} : dif w (a :: u) = dif (w.erase a) u := rfl
def Pre (ls : Lets) (k : Int) (u w : List Int) : Prop := ∀ p : Int, 0 ≤ p → p < k → at_ ls p u <+: at_ ls p w
theorem Pre.head {k : Int} {ls : Lets} (A : AlphaOk k ls) {a : Int} {u w : List Int} (ha : 0 ≤ a ∧ a < (ls.length : Int)) (h : Pre ls k (a :: u) w) : rdy ls w a = true ∧ Pre ls k u (w.erase a) := by
  have pk := (A.pl_ok ha).2
  have r : rdy ls w a = true := rdy_iff.mpr fun p hp => by
    obtain ⟨t, e⟩ := h p (pk p hp).1 (pk p hp).2
    rw [at_cons_in hp] at e
    rw [← e]; rfl
  refine ⟨r, fun p h0 h1 => ?_⟩
  have q := h p h0 h1
  rw [rdy_at A ha r p] at q
  by_cases hp : p ∈ pl ls a
  · rw [at_cons_in hp, at_cons_in hp] at q
    exact (List.cons_prefix_cons.mp q).2
  · rw [at_cons_out hp, at_cons_out hp] at q
    exact q
theorem pre_dif {k : Int} {ls : Lets} (A : AlphaOk k ls) : ∀ {u w : List Int}, WordOk ls u → WordOk ls w → Pre ls k u w → WordOk ls (dif w u) ∧ (dif w u).length + u.length = w.length ∧ ∀ p : Int, 0 ≤ p → p < k → at_ ls p u ++ at_ ls p (dif w u) = at_ ls p w
  | [], w, _, hw, _ => ⟨hw, rfl, fun p _ _ => rfl⟩
  | a :: u, w, hu, hw, h => by
    have ha := hu a List.mem_cons_self
    obtain ⟨r, h2⟩ := h.head A ha
    obtain ⟨i1, i2, i3⟩ := pre_dif A hu.tail hw.erase h2
    have hm := rdy_mem A ha r
    have := List.length_erase_of_mem hm
    have := List.length_pos_of_mem hm
    refine ⟨i1, by rw [dif_cons, List.length_cons]; omega, fun p h0 h1 => ?_⟩
    rw [dif_cons, rdy_at A ha r p]
    by_cases hp : p ∈ pl ls a
    · rw [at_cons_in hp, at_cons_in hp, List.cons_append, i3 p h0 h1]
    · rw [at_cons_out hp, at_cons_out hp, i3 p h0 h1]
theorem Pre.rdy {k : Int} {ls : Lets} (A : AlphaOk k ls) {u w : List Int} (h : Pre ls k u w) {a : Int} (ha : 0 ≤ a ∧ a < (ls.length : Int)) (r : My.rdy ls u a = true) : My.rdy ls w a = true := rdy_iff.mpr fun p hp => by
  obtain ⟨h0, h1⟩ := (A.pl_ok ha).2 p hp
  have := rdy_iff.mp r p hp
  obtain ⟨t, e⟩ := h p h0 h1
  rw [← e]
  cases z : at_ ls p u with
  | nil => rw [z] at this; cases this
  | cons b l => rw [z] at this; exact this
/-! the greatest common prefix -/
/-! without, by counts -/
theorem getD_set {ts : List Int} {i j : Nat} {x : Int} (h : i < ts.length) : (ts.set i x).getD j 0 = if i = j then x else ts.getD j 0 := by
  rw [List.getD_eq_getElem?_getD, List.getElem?_set, List.getD_eq_getElem?_getD]
  by_cases e : i = j
  · subst e; simp [h]
  · simp [e]
/-- the rest, if it is a prefix -/
def preB (ls : Lets) (k : Int) (u w : List Int) : Bool := (List.range k.toNat).all fun p : Nat => decide ((at_ ls p w).take (at_ ls p u).length = at_ ls p u)
def rst (ls : Lets) (k : Int) (u w : List Int) : Option (List Int) := if preB ls k u w = true then some (lf ls (dif w u)) else none
end My
namespace My
/-! ### cuts -/
/-! the cut of a prefix -/
/-! the greatest common prefix is the greatest -/
theorem Pre.len {k : Int} {ls : Lets} (A : AlphaOk k ls) {u w : List Int} (hu : WordOk ls u) (hw : WordOk ls w) (h : Pre ls k u w) : u.length ≤ w.length := by
  have := (pre_dif A hu hw h).2.1
  omega
end My
namespace My
/-! ### lines of places, heads, least cuts -/
def lineQ (ls : Lets) (wd : List Int) (p : Int) : List Int := ((List.range wd.length).filter fun e : Nat => decide (p ∈ pl ls (wd.getD e 0))).map fun e : Nat => (e : Int)
def unm (cs : List (List Int)) (l : List Int) : Int := match (List.range l.length).find? fun p => !decide (l.getD p 0 ∈ cs.getD p []) with
  | some p => (p : Int)
  | none => -1
/-! heads of a cut -/
def lastL (qs : List (List Int)) (hs : List Int) : List Int := (qs.zip hs).map fun z => if z.2 > 0 then z.1.getD (z.2 - 1).toNat 0 else -1
/-- what the heads hs take -/
def tkn2 (ls : Lets) (wd hs : List Int) (p : Nat) : List Int := (lineQ ls wd p).take (hs.getD p 0).toNat
def Full (ls : Lets) (wd hs : List Int) (e : Int) : Prop := ∀ q : Nat, (q : Int) ∈ pl ls (wd.getD e.toNat 0) → e ∈ tkn2 ls wd hs q
theorem tkn2_mono {ls : Lets} {wd hs : List Int} {p q : Nat} {h : Nat} (hp : p < hs.length) (hh : hs.getD p 0 = (h : Int)) {x : Int} (hx : x ∈ tkn2 ls wd hs q) : x ∈ tkn2 ls wd (hs.set p ((h : Int) + 1)) q := by
  unfold tkn2 at hx ⊢
  rw [getD_set hp]
  by_cases e : p = q
  · subst e
    rw [if_pos rfl]
    rw [hh, Int.toNat_natCast] at hx
    rw [show ((h : Int) + 1).toNat = h + 1 by omega]
    exact (List.take_sublist_take_left (by omega)).subset hx
  · rw [if_neg e]; exact hx
theorem Full.mono {ls : Lets} {wd hs : List Int} {p : Nat} {h : Nat} (hp : p < hs.length) (hh : hs.getD p 0 = (h : Int)) {x : Int} (f : Full ls wd hs x) : Full ls wd (hs.set p ((h : Int) + 1)) x := fun q hq => tkn2_mono hp hh (f q hq)
/-! the last letters -/
/-! least cuts in which the conditions hold -/
end My
namespace My
open Hq
/-! ### beginnings of orders, told by their heads; the least of them that avoids some heads -/
def hdF (ls : Lets) (k : Int) (u : List Int) : List Int := u.foldl (fun h a => mvH ls a h) (List.replicate k.toNat 0)
theorem hdF_snoc {ls : Lets} {k : Int} {u : List Int} {a : Int} : hdF ls k (u ++ [a]) = mvH ls a (hdF ls k u) := by
  unfold hdF; rw [List.foldl_append]; rfl
def Bg (ls : Lets) (k : Int) (wd u : List Int) : Prop := WordOk ls u ∧ ∃ r, WordOk ls r ∧ Alk ls k wd (u ++ r)
/-! #### lists of pairs with each first part once -/
theorem lkD_some {L : List (List Int × List Int)} {l w : List Int} (h : lkD L l = some w) : (l, w) ∈ L := by
  unfold lkD at h
  obtain ⟨z, hz, rfl⟩ := Option.map_eq_some_iff.mp h
  have e : z.1 = l := by simpa using List.find?_some hz
  rw [← e]
  exact List.mem_of_find?_eq_some hz
theorem lkD_none {L : List (List Int × List Int)} {l : List Int} (h : lkD L l = none) {z : List Int × List Int} (hz : z ∈ L) : z.1 ≠ l := fun e => by
  unfold lkD at h
  have h := List.find?_eq_none.mp (Option.map_eq_none_iff.mp h) z hz
  simp [e] at h
theorem putD_of {L : List (List Int × List Int)} {l w : List Int} {z : List Int × List Int} (h : z ∈ putD L l w) : z = (l, w) ∨ (z ∈ L ∧ z.1 ≠ l) := by
  unfold putD at h
  split at h
  · obtain ⟨y, hy, e⟩ := List.mem_map.mp h
    by_cases c : y.1 = l
    · rw [if_pos c] at e; rw [← e, c]; exact .inl rfl
    · rw [if_neg c] at e; rw [← e]; exact .inr ⟨hy, c⟩
  · rename_i hn
    rcases List.mem_append.mp h with h | h
    · refine .inr ⟨h, fun e => hn (List.any_eq_true.mpr ⟨z, h, by simpa using e⟩)⟩
    · exact .inl (List.mem_singleton.mp h)
theorem putD_in {L : List (List Int × List Int)} {l w : List Int} : (l, w) ∈ putD L l w := by
  unfold putD
  split
  · rename_i h
    obtain ⟨y, hy, e⟩ := List.any_eq_true.mp h
    have e : y.1 = l := by simpa using e
    exact List.mem_map.mpr ⟨y, hy, by rw [if_pos e, e]⟩
  · exact List.mem_append_right _ List.mem_cons_self
theorem putD_old {L : List (List Int × List Int)} {l w : List Int} {z : List Int × List Int} (hz : z ∈ L) (h : z.1 ≠ l) : z ∈ putD L l w := by
  unfold putD
  split
  · exact List.mem_map.mpr ⟨z, hz, by rw [if_neg h]⟩
  · exact List.mem_append_left _ hz
theorem putD_nd {L : List (List Int × List Int)} {l w : List Int} (h : (L.map (·.1)).Nodup) : ((putD L l w).map (·.1)).Nodup := by
  unfold putD
  split
  · rw [List.map_map]
    have e : ((fun z : List Int × List Int => z.1) ∘ fun z : List Int × List Int => if z.1 = l then (z.1, w) else z) = fun z => z.1 := by
      funext z
      show (if z.1 = l then (z.1, w) else z).1 = z.1
      split <;> rfl
    rw [e]; exact h
  · rename_i hn
    rw [List.map_append]
    refine List.nodup_append.mpr ⟨h, by simp, fun x hx y hy => ?_⟩
    have hy : y = l := by simpa using hy
    obtain ⟨z, hz, rfl⟩ := List.mem_map.mp hx
    rw [hy]
    exact fun e => hn (List.any_eq_true.mpr ⟨z, hz, by simpa using e⟩)
/-! #### the rounds -/
def bad (cs qs : List (List Int)) (h : List Int) : Bool := decide (unm cs (lastL qs h) < 0)
def Av (ls : Lets) (k : Int) (wd : List Int) (cs : List (List Int)) (u : List Int) : Prop := ∀ m, m ≤ u.length → bad cs (pws ls k wd) (hdF ls k (u.take m)) = false
theorem av_snoc {ls : Lets} {k : Int} {wd u : List Int} {cs : List (List Int)} {a : Int} : Av ls k wd cs (u ++ [a]) ↔ Av ls k wd cs u ∧ bad cs (pws ls k wd) (mvH ls a (hdF ls k u)) = false := by
  constructor
  · intro h
    refine ⟨fun m hm => ?_, ?_⟩
    · have := h m (by rw [List.length_append]; omega)
      rwa [List.take_append_of_le_length hm] at this
    · have := h (u ++ [a]).length (Nat.le_refl _)
      rwa [List.take_length, hdF_snoc] at this
  · rintro ⟨h1, h2⟩ m hm
    rw [List.length_append, List.length_singleton] at hm
    rcases Nat.lt_or_ge u.length m with c | c
    · rw [List.take_of_length_le (by rw [List.length_append, List.length_singleton]; omega), hdF_snoc]; exact h2
    · rw [List.take_append_of_le_length c]; exact h1 m c
structure Dl (ls : Lets) (k : Int) (wd : List Int) (cs : List (List Int)) (r : Nat) (Pr : List Int → Int → Prop) (L : List (List Int × List Int)) : Prop where
  nd : (L.map (·.1)).Nodup
  ok : ∀ z ∈ L, z.2.length = r + 1 ∧ Bg ls k wd z.2 ∧ hdF ls k z.2 = z.1 ∧ Av ls k wd cs z.2
  le : ∀ (o : List Int) (a : Int), Pr o a → bad cs (pws ls k wd) (mvH ls a (hdF ls k o)) = false → ∃ z ∈ L, z.1 = mvH ls a (hdF ls k o) ∧ z.2 ≤ o ++ [a]
theorem Dl.mono {ls k wd cs r Pr Pr' L} (h : Dl ls k wd cs r Pr L) (hp : ∀ o a, Pr' o a → Pr o a) : Dl ls k wd cs r Pr' L := ⟨h.nd, h.ok, fun o a p => h.le o a (hp o a p)⟩
def lowr (x y : List Int) : List Int := if y < x then y else x
theorem Dl.put {ls : Lets} {k : Int} {wd : List Int} {cs : List (List Int)} {r : Nat} {Pr : List Int → Int → Prop} {L : List (List Int × List Int)} (h : Dl ls k wd cs r Pr L) {o : List Int} {a : Int} (ho : o.length = r) (hg : Bg ls k wd (o ++ [a])) (av : Av ls k wd cs o) (hb : bad cs (pws ls k wd) (mvH ls a (hdF ls k o)) = false) :
    Dl ls k wd cs r (fun o' a' => Pr o' a' ∨ (o' = o ∧ a' = a)) (putD L (mvH ls a (hdF ls k o)) (lowr ((lkD L (mvH ls a (hdF ls k o))).getD (o ++ [a])) (o ++ [a]))) := by
  have hn : (o ++ [a]).length = r + 1 ∧ Bg ls k wd (o ++ [a]) ∧ hdF ls k (o ++ [a]) = mvH ls a (hdF ls k o) ∧ Av ls k wd cs (o ++ [a]) := ⟨by rw [List.length_append, ho]; rfl, hg, hdF_snoc, av_snoc.mpr ⟨av, hb⟩⟩
  generalize hB : mvH ls a (hdF ls k o) = B at *
  -- what is put: one of those that are known, at most both
  have key : ∃ w, w = lowr ((lkD L B).getD (o ++ [a])) (o ++ [a]) ∧ (w = o ++ [a] ∨ (B, w) ∈ L) ∧ w ≤ o ++ [a] ∧ ∀ z ∈ L, z.1 = B → w ≤ z.2 := by
    refine ⟨_, rfl, ?_⟩
    cases hl : lkD L B with
    | none =>
      have e : lowr ((none : Option (List Int)).getD (o ++ [a])) (o ++ [a]) = o ++ [a] := by
        unfold lowr; split <;> rfl
      rw [e]
      exact ⟨.inl rfl, Std.le_refl _, fun z hz hz1 => absurd hz1 (lkD_none hl hz)⟩
    | some w' =>
      have hm := lkD_some hl
      have uni : ∀ z ∈ L, z.1 = B → z.2 = w' := fun z hz hz1 => by
        have nd := h.nd
        have : z = (B, w') := by
          obtain ⟨i, hi, rfl⟩ := List.mem_iff_getElem.mp hz
          obtain ⟨j, hj, e⟩ := List.mem_iff_getElem.mp hm
          have hij : i = j := by
            refine (List.getElem_inj (h₀ := by rw [List.length_map]; exact hi) (h₁ := by rw [List.length_map]; exact hj) nd).mp ?_
            rw [List.getElem_map, List.getElem_map, e, hz1]
          subst hij
          exact e
        rw [this]
      by_cases c : o ++ [a] < w'
      · have e : lowr ((some w').getD (o ++ [a])) (o ++ [a]) = o ++ [a] := if_pos c
        rw [e]
        exact ⟨.inl rfl, Std.le_refl _, fun z hz hz1 => by rw [uni z hz hz1]; exact Std.le_of_lt c⟩
      · have e : lowr ((some w').getD (o ++ [a])) (o ++ [a]) = w' := if_neg c
        rw [e]
        exact ⟨.inr hm, Std.not_lt.mp c, fun z hz hz1 => by rw [uni z hz hz1]; exact Std.le_refl _⟩
  obtain ⟨w, hw, h1, h2, h3⟩ := key
  rw [← hw]
  refine ⟨putD_nd h.nd, fun z hz => ?_, fun o' a' p hb' => ?_⟩
  · rcases putD_of hz with rfl | ⟨hz, _⟩
    · rcases h1 with rfl | h1
      · exact hn
      · exact h.ok _ h1
    · exact h.ok z hz
  · rcases p with p | ⟨rfl, rfl⟩
    · obtain ⟨z, hz, e1, e2⟩ := h.le o' a' p hb'
      by_cases c : z.1 = B
      · exact ⟨(B, w), putD_in, c ▸ e1, Std.le_trans (h3 z hz c) e2⟩
      · exact ⟨z, putD_old hz c, e1, e2⟩
    · rw [hB]
      exact ⟨(B, w), putD_in, rfl, h2⟩
theorem rdyRL_mem {ls : Lets} {Q : Qs} {a : Int} : a ∈ rdyRL ls Q ↔ (0 ≤ a ∧ a < (ls.length : Int)) ∧ rdyR ls Q a = true := by
  unfold rdyRL
  constructor
  · intro h
    obtain ⟨b, hb, rfl⟩ := List.mem_map.mp h
    obtain ⟨h1, h2⟩ := List.mem_filter.mp hb
    have := List.mem_range.mp h1
    exact ⟨by omega, h2⟩
  · rintro ⟨⟨h0, h1⟩, h2⟩
    refine List.mem_map.mpr ⟨a.toNat, List.mem_filter.mpr ⟨List.mem_range.mpr (by omega), ?_⟩, Int.toNat_of_nonneg h0⟩
    rw [Int.toNat_of_nonneg h0]; exact h2
/-! #### last letters -/
end My
namespace My
/-! ### the order of events -/
/-- event j of the word depends on event k -/
def dep (ls : Lets) (w : List Int) (j k : Nat) : Bool := !free ls (w.getD j 0) (w.getD k 0)
inductive Bel (d : Nat → Nat → Bool) : Nat → Nat → Prop where
  | refl (i : Nat) : Bel d i i
  | step {i j k : Nat} : Bel d i j → j < k → d j k = true → Bel d i k
theorem Bel.le {d : Nat → Nat → Bool} {i k : Nat} (h : Bel d i k) : i ≤ k := by
  induction h with
  | refl => exact Nat.le_refl _
  | step _ h _ ih => omega
theorem Bel.cons {d : Nat → Nat → Bool} {i j k : Nat} (h : d i j = true) (l : i < j) (b : Bel d j k) : Bel d i k := by
  induction b with
  | refl => exact .step (.refl i) l h
  | step _ l2 h2 ih => exact .step ih l2 h2
theorem Bel.last {d : Nat → Nat → Bool} {i k : Nat} : Bel d i k ↔ i = k ∨ ∃ j, j < k ∧ d j k = true ∧ Bel d i j := by
  constructor
  · intro b
    cases b with
    | refl => exact .inl rfl
    | step b l h => exact .inr ⟨_, l, h, b⟩
  · rintro (e | ⟨j, l, h, b⟩)
    · subst e; exact .refl i
    · exact .step b l h
/-- a table of truth values at a place -/
def cell (m : List (List Bool)) (r c : Nat) : Bool := (m.getD r []).getD c false
/-! ### masks -/
/-- the bits of a mask are the places of the letter -/
def MaskOf (m : Nat) (l : List Int) : Prop := ∀ p : Nat, m.testBit p = true ↔ (p : Int) ∈ l
theorem mask_add {m : Nat} {l : List Int} {p : Nat} (h : MaskOf m l) : MaskOf (m ||| 2 ^ p) (l ++ [(p : Int)]) := by
  intro q
  rw [Nat.testBit_or, Bool.or_eq_true, h q, Nat.testBit_two_pow, List.mem_append, List.mem_singleton, decide_eq_true_iff]
  constructor
  · rintro (h | h)
    · exact .inl h
    · subst h; exact .inr rfl
  · rintro (h | h)
    · exact .inl h
    · exact .inr (by omega)
theorem mask_meet {m n : Nat} : (m &&& n ≠ 0) ↔ ∃ p, m.testBit p = true ∧ n.testBit p = true := by
  constructor
  · intro h
    obtain ⟨p, hp⟩ := Nat.exists_testBit_of_ne_zero h
    rw [Nat.testBit_and, Bool.and_eq_true] at hp
    exact ⟨p, hp⟩
  · rintro ⟨p, h1, h2⟩ e
    have : (m &&& n).testBit p = true := by rw [Nat.testBit_and, h1, h2]; rfl
    rw [e, Nat.zero_testBit] at this
    cases this
theorem band_nat (m n : Nat) : PySem.Builtin.bitAnd (m : Int) (n : Int) = ((m &&& n : Nat) : Int) := by
  have := PyProof.Rows.bitAnd_pp (x := (m : Int)) (y := (n : Int)) (by omega) (by omega)
  simpa using this
theorem bor_nat (m n : Nat) : PySem.Builtin.bitOr (m : Int) (n : Int) = ((m ||| n : Nat) : Int) := by
  have := Bits.bitOr_pp (x := (m : Int)) (y := (n : Int)) (by omega) (by omega)
  simpa using this
end My
namespace My
/-! ### automata: states that no words tell apart, least automata -/
structure Au where
  L : Nat
  s : Int
  F : List Int
  R : List (List Int)
def Au.row (A : Au) (q : Int) : List Int := A.R.getD q.toNat []
def Au.In (A : Au) (q : Int) : Prop := 0 ≤ q ∧ q < (A.R.length : Int)
structure Au.Ok (A : Au) : Prop where
  L1 : 1 ≤ A.L
  s : A.In A.s
  F : ∀ x ∈ A.F, A.In x
  up : A.F.Pairwise (· < ·)
  R : ∀ r ∈ A.R, r.length = A.L ∧ ∀ x ∈ r, A.In x
theorem Au.row_mem {A : Au} {q : Int} (h : A.In q) : A.row q ∈ A.R := by
  have : q.toNat < A.R.length := by unfold Au.In at h; omega
  unfold Au.row
  rw [List.getD_eq_getElem?_getD, List.getElem?_eq_getElem this]
  exact List.getElem_mem this
theorem Au.row_at {A : Au} {q : Int} (h : A.In q) : A.R[q.toNat]? = some (A.row q) := by
  have : q.toNat < A.R.length := by unfold Au.In at h; omega
  unfold Au.row
  rw [List.getD_eq_getElem?_getD, List.getElem?_eq_getElem this]; rfl
def nxA (A : Au) (q : Int) (a : Nat) : Int := (A.row q).getD a 0
/-- not told apart by words of up to k letters -/
def eqn (A : Au) : Nat → Int → Int → Prop
  | 0, p, q => (p ∈ A.F ↔ q ∈ A.F)
  | k + 1, p, q => eqn A k p q ∧ ∀ a, a < A.L → eqn A k (nxA A p a) (nxA A q a)
def eqI (A : Au) (p q : Int) : Prop := ∀ k, eqn A k p q
theorem eqn.refl {A : Au} : ∀ (k : Nat) (p : Int), eqn A k p p
  | 0, _ => Iff.rfl
  | k + 1, p => ⟨eqn.refl k p, fun a _ => eqn.refl k _⟩
theorem eqn.symm {A : Au} : ∀ {k : Nat} {p q : Int}, eqn A k p q → eqn A k q p
  | 0, _, _, h => Iff.symm h
  | k + 1, _, _, h => ⟨eqn.symm h.1, fun a ha => eqn.symm (h.2 a ha)⟩
theorem eqn.trans {A : Au} : ∀ {k : Nat} {p q r : Int}, eqn A k p q → eqn A k q r → eqn A k p r
  | 0, _, _, _, h1, h2 => Iff.trans h1 h2
  | k + 1, _, _, _, h1, h2 => ⟨eqn.trans h1.1 h2.1, fun a ha => eqn.trans (h1.2 a ha) (h2.2 a ha)⟩
theorem eqn.down {A : Au} {p q : Int} : ∀ {m k : Nat}, k ≤ m → eqn A m p q → eqn A k p q := by
  intro m
  induction m with
  | zero => intro k h e; rw [show k = 0 by omega]; exact e
  | succ m ih =>
    intro k h e
    by_cases c : k = m + 1
    · rw [c]; exact e
    · exact ih (by omega) e.1
theorem eqI.refl {A : Au} (p : Int) : eqI A p p := fun k => eqn.refl k p
theorem eqI.symm {A : Au} {p q : Int} (h : eqI A p q) : eqI A q p := fun k => (h k).symm
theorem eqI.trans {A : Au} {p q r : Int} (h1 : eqI A p q) (h2 : eqI A q r) : eqI A p r := fun k => (h1 k).trans (h2 k)
theorem eqI.next {A : Au} {p q : Int} (h : eqI A p q) {a : Nat} (ha : a < A.L) : eqI A (nxA A p a) (nxA A q a) := fun k => (h (k + 1)).2 a ha
theorem eqI.fin {A : Au} {p q : Int} (h : eqI A p q) : p ∈ A.F ↔ q ∈ A.F := h 0
/-- states with all that follow -/
def Clo (A : Au) (S : List Int) : Prop := ∀ q ∈ S, A.In q ∧ ∀ x ∈ A.row q, x ∈ S
theorem Clo.next {A : Au} {S : List Int} (O : A.Ok) (C : Clo A S) {q : Int} (h : q ∈ S) {a : Nat} (ha : a < A.L) : nxA A q a ∈ S := by
  obtain ⟨h1, h2⟩ := C q h
  have l := (O.R _ (Au.row_mem h1)).1
  refine h2 _ ?_
  unfold nxA
  rw [List.getD_eq_getElem?_getD, List.getElem?_eq_getElem (by omega)]
  exact List.getElem_mem _
def Lab (A : Au) (S : List Int) (cl : Int → Int) (k : Nat) : Prop := ∀ p ∈ S, ∀ q ∈ S, (cl p = cl q ↔ eqn A k p q)
def LabI (A : Au) (S : List Int) (cl : Int → Int) : Prop := ∀ p ∈ S, ∀ q ∈ S, (cl p = cl q ↔ eqI A p q)
abbrev Knd := Int × List Int
def kd (A : Au) (cl : Int → Int) (q : Int) : Knd := (cl q, (A.row q).map cl)
theorem kd_eq {A : Au} {S : List Int} {cl : Int → Int} {k : Nat} (O : A.Ok) (C : Clo A S) (h : Lab A S cl k) {p q : Int} (hp : p ∈ S) (hq : q ∈ S) : kd A cl p = kd A cl q ↔ eqn A (k + 1) p q := by
  have lp := (O.R _ (Au.row_mem (C p hp).1)).1
  have lq := (O.R _ (Au.row_mem (C q hq).1)).1
  have key : (A.row p).map cl = (A.row q).map cl ↔ ∀ a, a < A.L → cl (nxA A p a) = cl (nxA A q a) := by
    constructor
    · intro e a ha
      have e2 := congrArg (fun l => l[a]?) e
      simp only [List.getElem?_map] at e2
      rw [List.getElem?_eq_getElem (by omega), List.getElem?_eq_getElem (by omega)] at e2
      unfold nxA
      rw [List.getD_eq_getElem?_getD, List.getD_eq_getElem?_getD, List.getElem?_eq_getElem (by omega), List.getElem?_eq_getElem (by omega)]
      simpa using e2
    · intro e
      apply List.ext_getElem
      · rw [List.length_map, List.length_map, lp, lq]
      · intro a h1 h2
        rw [List.length_map] at h1 h2
        have := e a (by omega)
        unfold nxA at this
        rw [List.getD_eq_getElem?_getD, List.getD_eq_getElem?_getD, List.getElem?_eq_getElem h1, List.getElem?_eq_getElem h2] at this
        simpa using this
  constructor
  · intro e
    have e1 : cl p = cl q := congrArg Prod.fst e
    have e2 := key.mp (congrArg Prod.snd e)
    exact ⟨(h p hp q hq).mp e1, fun a ha => (h _ (C.next O hp ha) _ (C.next O hq ha)).mp (e2 a ha)⟩
  · rintro ⟨e1, e2⟩
    exact Prod.ext ((h p hp q hq).mpr e1) (key.mpr fun a ha => (h _ (C.next O hp ha) _ (C.next O hq ha)).mpr (e2 a ha))
theorem stable_all {A : Au} {S : List Int} {k : Nat} (O : A.Ok) (C : Clo A S) (st : ∀ p ∈ S, ∀ q ∈ S, eqn A k p q → eqn A (k + 1) p q) {p q : Int} (hp : p ∈ S) (hq : q ∈ S) (h : eqn A k p q) : eqI A p q := by
  have key : ∀ d, ∀ p ∈ S, ∀ q ∈ S, eqn A (k + d) p q → eqn A (k + d + 1) p q := by
    intro d
    induction d with
    | zero => exact st
    | succ d ih =>
      intro p hp q hq e
      exact ⟨e, fun a ha => ih _ (C.next O hp ha) _ (C.next O hq ha) (e.2 a ha)⟩
  have up : ∀ d, eqn A (k + d) p q := by
    intro d
    induction d with
    | zero => exact h
    | succ d ih => exact key d p hp q hq ih
  intro m
  by_cases c : m ≤ k
  · exact eqn.down c h
  · have := up (m - k)
    rwa [show k + (m - k) = m by omega] at this
/-! in the order of the first of each -/
section
variable {β : Type} [DecidableEq β]
def ded (l : List β) : List β := l.foldl (fun acc x => if x ∈ acc then acc else acc ++ [x]) []
theorem ded_snoc {l : List β} {x : β} : ded (l ++ [x]) = if x ∈ ded l then ded l else ded l ++ [x] := by
  unfold ded
  rw [List.foldl_append]; rfl
theorem ded_mem {l : List β} : ∀ {x : β}, x ∈ ded l ↔ x ∈ l := by
  have key : ∀ n, n ≤ l.length → ∀ x, x ∈ ded (l.take n) ↔ x ∈ l.take n := by
    intro n
    induction n with
    | zero => intro _ x; simp [ded]
    | succ n ih =>
      intro hn x
      have hx : l[n]? = some l[n] := List.getElem?_eq_getElem (by omega)
      rw [List.take_add_one, hx, Option.toList_some, ded_snoc]
      by_cases c : l[n] ∈ ded (l.take n)
      · rw [if_pos c, ih (by omega), List.mem_append]
        constructor
        · exact fun h => .inl h
        · rintro (h | h)
          · exact h
          · rw [List.mem_singleton.mp h]; exact (ih (by omega) _).mp c
      · rw [if_neg c, List.mem_append, List.mem_append, ih (by omega)]
  have := key l.length (Nat.le_refl _)
  rwa [List.take_length] at this
theorem ded_nodup {l : List β} : (ded l).Nodup := by
  have key : ∀ n, n ≤ l.length → (ded (l.take n)).Nodup := by
    intro n
    induction n with
    | zero => intro _; simp [ded]
    | succ n ih =>
      intro hn
      have hx : l[n]? = some l[n] := List.getElem?_eq_getElem (by omega)
      rw [List.take_add_one, hx, Option.toList_some, ded_snoc]
      by_cases c : l[n] ∈ ded (l.take n)
      · rw [if_pos c]; exact ih (by omega)
      · rw [if_neg c, List.nodup_append]
        exact ⟨ih (by omega), by simp, fun a ha b hb => by rw [List.mem_singleton.mp hb]; rintro rfl; exact c ha⟩
  have := key l.length (Nat.le_refl _)
  rwa [List.take_length] at this
def ix (K : List β) (x : β) : Nat := K.findIdx fun y => decide (y = x)
theorem ix_cons {K : List β} {x y : β} : ix (y :: K) x = if y = x then 0 else ix K x + 1 := by
  unfold ix
  rw [List.findIdx_cons]
  by_cases c : y = x
  · rw [decide_eq_true c, if_pos c]; rfl
  · rw [decide_eq_false c, if_neg c]; rfl
theorem ix_get {x : β} : ∀ {K : List β}, x ∈ K → K[ix K x]? = some x
  | [], h => by cases h
  | y :: K, h => by
    rw [ix_cons]
    by_cases c : y = x
    · rw [if_pos c, c]; rfl
    · rw [if_neg c, List.getElem?_cons_succ]
      rcases List.mem_cons.mp h with h | h
      · exact absurd h.symm c
      · exact ix_get h
theorem ix_lt {K : List β} {x : β} (h : x ∈ K) : ix K x < K.length := (List.getElem?_eq_some_iff.mp (ix_get h)).1
theorem ix_app {x : β} {M : List β} : ∀ {K : List β}, x ∈ K → ix (K ++ M) x = ix K x
  | [], h => by cases h
  | y :: K, h => by
    rw [List.cons_append, ix_cons, ix_cons]
    by_cases c : y = x
    · rw [if_pos c, if_pos c]
    · rw [if_neg c, if_neg c]
      rcases List.mem_cons.mp h with h | h
      · exact absurd h.symm c
      · rw [ix_app h]
theorem ix_new {x : β} : ∀ {K : List β}, x ∉ K → ix (K ++ [x]) x = K.length
  | [], _ => by rw [List.nil_append, ix_cons, if_pos rfl]; rfl
  | y :: K, h => by
    rw [List.cons_append, ix_cons, if_neg (fun z => h (by rw [z]; exact List.mem_cons_self)), ix_new (fun z => h (List.mem_cons_of_mem _ z))]; rfl
theorem ix_at {K : List β} (nd : K.Nodup) {i : Nat} (h : i < K.length) : ix K K[i] = i := by
  have h1 := ix_lt (List.getElem_mem h)
  have h2 := ix_get (List.getElem_mem h)
  rw [List.getElem?_eq_getElem h1] at h2
  exact (List.getElem_inj nd).mp (Option.some.inj h2)
theorem ded_idx {l : List β} {x y : β} (h : x ∈ ded l) : ix (ded (l ++ [y])) x = ix (ded l) x := by
  rw [ded_snoc]
  by_cases c : y ∈ ded l
  · rw [if_pos c]
  · rw [if_neg c, ix_app h]
theorem idx_inj {K : List β} {x y : β} (hx : x ∈ K) (hy : y ∈ K) : ix K x = ix K y ↔ x = y := ⟨fun h => by
  have h1 := ix_get hx
  have h2 := ix_get hy
  rw [h, h2] at h1
  exact (Option.some.inj h1).symm, fun h => by rw [h]⟩
end
/-- labels by the order of the kinds -/
def clN (A : Au) (S : List Int) (cl : Int → Int) (q : Int) : Int := (ix (ded (S.map (kd A cl))) (kd A cl q) : Nat)
theorem kd_mem {A : Au} {S : List Int} {cl : Int → Int} {q : Int} (h : q ∈ S) : kd A cl q ∈ ded (S.map (kd A cl)) := ded_mem.mpr (List.mem_map_of_mem h)
theorem clN_eq {A : Au} {S : List Int} {cl : Int → Int} {p q : Int} (hp : p ∈ S) (hq : q ∈ S) : clN A S cl p = clN A S cl q ↔ kd A cl p = kd A cl q := by
  unfold clN
  rw [Int.ofNat_inj, idx_inj (kd_mem hp) (kd_mem hq)]
theorem clN_lab {A : Au} {S : List Int} {cl : Int → Int} {k : Nat} (O : A.Ok) (C : Clo A S) (h : Lab A S cl k) : Lab A S (clN A S cl) (k + 1) := fun p hp q hq => by rw [clN_eq hp hq, kd_eq O C h hp hq]
theorem clN_all {A : Au} {S : List Int} {cl : Int → Int} {i : Nat} (h : i < (ded (S.map (kd A cl))).length) : ∃ p ∈ S, clN A S cl p = (i : Int) := by
  have hm := List.getElem_mem h
  obtain ⟨p, hp, e⟩ := List.mem_map.mp (ded_mem.mp hm)
  refine ⟨p, hp, ?_⟩
  unfold clN
  rw [e, Int.ofNat_inj]
  exact ix_at ded_nodup h
/-- where no kind is split, nothing is split any more -/
theorem kinds_stop {A : Au} {S : List Int} {cl : Int → Int} {n : Nat} (hall : ∀ i, i < n → ∃ p ∈ S, cl p = (i : Int)) (hn : (ded (S.map (kd A cl))).length ≤ n) {p q : Int} (hp : p ∈ S) (hq : q ∈ S) (h : cl p = cl q) : kd A cl p = kd A cl q := by
  refine Classical.byContradiction fun ne => ?_
  have hK := kd_mem (A := A) (cl := cl) hq
  have l1 := List.length_erase_of_mem hK
  have l2 := List.length_pos_of_mem hK
  have nd : ((List.range n).map fun i : Nat => (i : Int)).Nodup := by
    rw [List.Nodup, List.pairwise_map]
    exact List.nodup_range.imp fun h e => h (by omega)
  have := nodup_le nd (m := ((ded (S.map (kd A cl))).erase (kd A cl q)).map Prod.fst) fun x hx => by
    obtain ⟨i, hi, rfl⟩ := List.mem_map.mp hx
    obtain ⟨r, hr, e⟩ := hall i (List.mem_range.mp hi)
    by_cases c : kd A cl r = kd A cl q
    · have e2 : cl r = cl q := congrArg Prod.fst c
      exact List.mem_map.mpr ⟨kd A cl p, (List.mem_erase_of_ne ne).mpr (kd_mem hp), by show cl p = _; rw [h, ← e2, e]⟩
    · exact List.mem_map.mpr ⟨kd A cl r, (List.mem_erase_of_ne c).mpr (kd_mem hr), e⟩
  rw [List.length_map, List.length_map, List.length_range, l1] at this
  omega
end My
namespace My
/-! ### rounds of labels -/
def fin01 (A : Au) (q : Int) : Int := if q ∈ A.F then 1 else 0
def lcl (A : Au) (S : List Int) : Nat → Int → Int
  | 0 => fin01 A
  | k + 1 => clN A S (lcl A S k)
theorem lcl_lab {A : Au} {S : List Int} (O : A.Ok) (C : Clo A S) : ∀ k, Lab A S (lcl A S k) k
  | 0 => fun p _ q _ => by
    show fin01 A p = fin01 A q ↔ (p ∈ A.F ↔ q ∈ A.F)
    unfold fin01
    by_cases h1 : p ∈ A.F <;> by_cases h2 : q ∈ A.F <;> simp [h1, h2]
  | k + 1 => clN_lab O C (lcl_lab O C k)
/-- how many labels there are in round k -/
def nnl (A : Au) (S : List Int) (k : Nat) : Nat := (ded (S.map (kd A (lcl A S k)))).length
theorem ded_le {β : Type} [DecidableEq β] {l : List β} : (ded l).length ≤ l.length := nodup_le ded_nodup fun x hx => ded_mem.mp hx
theorem nnl_le {A : Au} {S : List Int} {k : Nat} : nnl A S k ≤ S.length := by
  have := ded_le (l := S.map (kd A (lcl A S k)))
  rwa [List.length_map] at this
/-- no more labels: none will be split -/
theorem lcl_stop {A : Au} {S : List Int} {k : Nat} (O : A.Ok) (C : Clo A S) (h : nnl A S (k + 1) ≤ nnl A S k) : ∀ p ∈ S, ∀ q ∈ S, eqn A (k + 1) p q → eqn A (k + 2) p q := fun p hp q hq e => by
  have e1 := (lcl_lab O C (k + 1) p hp q hq).mpr e
  have := kinds_stop (A := A) (S := S) (cl := lcl A S (k + 1)) (n := nnl A S k) (fun i hi => clN_all hi) h hp hq e1
  exact (kd_eq O C (lcl_lab O C (k + 1)) hp hq).mp this
theorem lcl_inf {A : Au} {S : List Int} {k : Nat} (O : A.Ok) (C : Clo A S) (h : nnl A S (k + 1) ≤ nnl A S k) {m : Nat} (hm : k + 1 ≤ m) : LabI A S (lcl A S m) := fun p hp q hq => by
  rw [lcl_lab O C m p hp q hq]
  exact ⟨fun e => stable_all O C (lcl_stop O C h) hp hq (eqn.down hm e), fun e => e m⟩
/-! ### one state for each class, as they are first reached -/
open Classical in
noncomputable def st1 (A : Au) (C : List Int) (t : Int) : List Int := if ∃ c ∈ C, eqI A c t then C else C ++ [t]
open Classical in
noncomputable def idc (A : Au) (C : List Int) (t : Int) : Nat := C.findIdx fun c => decide (eqI A c t)
noncomputable def cC (A : Au) : Nat → List Int
  | 0 => [A.s]
  | i + 1 => match (cC A i)[i]? with
    | none => cC A i
    | some c => (A.row c).foldl (st1 A) (cC A i)
open Classical in
theorem idc_cons {A : Au} {C : List Int} {c t : Int} : idc A (c :: C) t = if eqI A c t then 0 else idc A C t + 1 := by
  unfold idc
  rw [List.findIdx_cons]
  by_cases h : eqI A c t
  · rw [if_pos h, decide_eq_true h]; rfl
  · rw [if_neg h, decide_eq_false h]; rfl
open Classical in
theorem idc_lt {A : Au} {t : Int} : ∀ {C : List Int}, (∃ c ∈ C, eqI A c t) → idc A C t < C.length
  | [], h => by obtain ⟨_, h, _⟩ := h; cases h
  | c :: C, h => by
    rw [idc_cons, List.length_cons]
    by_cases e : eqI A c t
    · rw [if_pos e]; omega
    · rw [if_neg e]
      obtain ⟨d, hd, h2⟩ := h
      rcases List.mem_cons.mp hd with rfl | hd
      · exact absurd h2 e
      · have := idc_lt ⟨d, hd, h2⟩; omega
open Classical in
theorem idc_app {A : Au} {t : Int} {M : List Int} : ∀ {C : List Int}, (∃ c ∈ C, eqI A c t) → idc A (C ++ M) t = idc A C t
  | [], h => by obtain ⟨_, h, _⟩ := h; cases h
  | c :: C, h => by
    rw [List.cons_append, idc_cons, idc_cons]
    by_cases e : eqI A c t
    · rw [if_pos e, if_pos e]
    · rw [if_neg e, if_neg e]
      obtain ⟨d, hd, h2⟩ := h
      rcases List.mem_cons.mp hd with rfl | hd
      · exact absurd h2 e
      · rw [idc_app ⟨d, hd, h2⟩]
open Classical in
theorem ix_idc {A : Au} {cl : Int → Int} {t : Int} : ∀ {C : List Int}, (∀ c ∈ C, cl c = cl t ↔ eqI A c t) → ix (C.map cl) (cl t) = idc A C t
  | [], _ => rfl
  | c :: C, h => by
    rw [List.map_cons, ix_cons, idc_cons, ix_idc fun d hd => h d (List.mem_cons_of_mem _ hd)]
    have := h c List.mem_cons_self
    by_cases e : eqI A c t
    · rw [if_pos e, if_pos (this.mpr e)]
    · rw [if_neg e, if_neg fun z => e (this.mp z)]
theorem mem_cl {A : Au} {cl : Int → Int} {t : Int} {C : List Int} (h : ∀ c ∈ C, cl c = cl t ↔ eqI A c t) : cl t ∈ C.map cl ↔ ∃ c ∈ C, eqI A c t := by
  rw [List.mem_map]
  exact ⟨fun ⟨c, h1, h2⟩ => ⟨c, h1, (h c h1).mp h2⟩, fun ⟨c, h1, h2⟩ => ⟨c, h1, (h c h1).mpr h2⟩⟩
theorem st1_new {A : Au} {C : List Int} {t : Int} (h : ¬ ∃ c ∈ C, eqI A c t) : st1 A C t = C ++ [t] := by unfold st1; rw [if_neg h]
theorem st1_old {A : Au} {C : List Int} {t : Int} (h : ∃ c ∈ C, eqI A c t) : st1 A C t = C := by unfold st1; rw [if_pos h]
theorem st1_pre {A : Au} {C : List Int} {t : Int} : ∃ M, st1 A C t = C ++ M := by
  unfold st1
  by_cases h : ∃ c ∈ C, eqI A c t
  · rw [if_pos h]; exact ⟨[], by simp⟩
  · rw [if_neg h]; exact ⟨[t], rfl⟩
theorem st1_has {A : Au} {C : List Int} {t : Int} : ∃ c ∈ st1 A C t, eqI A c t := by
  unfold st1
  by_cases h : ∃ c ∈ C, eqI A c t
  · rw [if_pos h]; exact h
  · rw [if_neg h]; exact ⟨t, by simp, eqI.refl t⟩
theorem fold_pre {A : Au} : ∀ {ts : List Int} {C : List Int}, ∃ M, ts.foldl (st1 A) C = C ++ M
  | [], C => ⟨[], by simp⟩
  | t :: ts, C => by
    obtain ⟨M1, e1⟩ := st1_pre (A := A) (C := C) (t := t)
    obtain ⟨M2, e2⟩ := fold_pre (A := A) (ts := ts) (C := st1 A C t)
    exact ⟨M1 ++ M2, by rw [List.foldl_cons, e2, e1, List.append_assoc]⟩
theorem fold_has {A : Au} : ∀ {ts : List Int} {C : List Int} {t : Int}, t ∈ ts → ∃ c ∈ ts.foldl (st1 A) C, eqI A c t
  | [], _, _, h => by cases h
  | u :: ts, C, t, h => by
    rw [List.foldl_cons]
    rcases List.mem_cons.mp h with rfl | h
    · obtain ⟨c, h1, h2⟩ := st1_has (A := A) (C := C) (t := t)
      obtain ⟨M, e⟩ := fold_pre (A := A) (ts := ts) (C := st1 A C t)
      exact ⟨c, by rw [e]; exact List.mem_append_left _ h1, h2⟩
    · exact fold_has h
/-- what the list of chosen states is like -/
structure Chs (A : Au) (S C : List Int) : Prop where
  sub : ∀ c ∈ C, c ∈ S
  apart : C.Pairwise fun a b => ¬ eqI A a b
theorem Chs.step {A : Au} {S C : List Int} (h : Chs A S C) {t : Int} (ht : t ∈ S) : Chs A S (st1 A C t) := by
  unfold st1
  by_cases c : ∃ c ∈ C, eqI A c t
  · rw [if_pos c]; exact h
  · rw [if_neg c]
    refine ⟨fun x hx => ?_, ?_⟩
    · rcases List.mem_append.mp hx with hx | hx
      · exact h.sub x hx
      · rw [List.mem_singleton.mp hx]; exact ht
    · rw [List.pairwise_append]
      exact ⟨h.apart, List.pairwise_singleton _ _, fun a ha b hb => by rw [List.mem_singleton.mp hb]; exact fun z => c ⟨a, ha, z⟩⟩
theorem Chs.fold {A : Au} {S : List Int} : ∀ {ts C : List Int}, Chs A S C → (∀ t ∈ ts, t ∈ S) → Chs A S (ts.foldl (st1 A) C)
  | [], _, h, _ => h
  | t :: ts, _, h, ht => by
    rw [List.foldl_cons]
    exact Chs.fold (h.step (ht t List.mem_cons_self)) fun x hx => ht x (List.mem_cons_of_mem _ hx)
theorem cC_next {A : Au} {i : Nat} {c : Int} (h : (cC A i)[i]? = some c) : cC A (i + 1) = (A.row c).foldl (st1 A) (cC A i) := by
  rw [cC, h]
theorem cC_same {A : Au} {i : Nat} (h : (cC A i).length ≤ i) : cC A (i + 1) = cC A i := by
  rw [cC, List.getElem?_eq_none h]
theorem cC_chs {A : Au} {S : List Int} (C : Clo A S) (hs : A.s ∈ S) : ∀ i, Chs A S (cC A i)
  | 0 => ⟨fun c hc => by rw [List.mem_singleton.mp hc]; exact hs, List.pairwise_singleton _ _⟩
  | i + 1 => by
    have ih := cC_chs C hs i
    cases h : (cC A i)[i]? with
    | none => rw [cC, h]; exact ih
    | some c =>
      rw [cC_next h]
      exact ih.fold (C c (ih.sub c (List.mem_of_getElem? h))).2
theorem cC_pre {A : Au} (i : Nat) : ∀ d, ∃ M, cC A (i + d) = cC A i ++ M
  | 0 => ⟨[], by simp⟩
  | d + 1 => by
    obtain ⟨M, e⟩ := cC_pre (A := A) i d
    cases h : (cC A (i + d))[i + d]? with
    | none => exact ⟨M, by rw [← e, show i + (d + 1) = (i + d) + 1 from rfl, cC, h]⟩
    | some c =>
      obtain ⟨M2, e2⟩ := fold_pre (A := A) (ts := A.row c) (C := cC A (i + d))
      exact ⟨M ++ M2, by rw [show i + (d + 1) = (i + d) + 1 from rfl, cC_next h, e2, e, List.append_assoc]⟩
theorem cC_stay {A : Au} {i : Nat} (h : (cC A i).length ≤ i) : ∀ d, cC A (i + d) = cC A i
  | 0 => rfl
  | d + 1 => by
    have ih := cC_stay h d
    rw [show i + (d + 1) = (i + d) + 1 from rfl, cC_same (by rw [ih]; omega), ih]
theorem cC_len {A : Au} {S : List Int} (C : Clo A S) (hs : A.s ∈ S) (i : Nat) : (cC A i).length ≤ A.R.length := by
  have h := cC_chs C hs i
  have nd : (cC A i).Nodup := h.apart.imp fun h e => h (by rw [e]; exact eqI.refl _)
  have := nodup_le nd (m := (List.range A.R.length).map fun n : Nat => (n : Int)) fun x hx => by
    obtain ⟨h1, h2⟩ := (C x (h.sub x hx)).1
    exact List.mem_map.mpr ⟨x.toNat, List.mem_range.mpr (by omega), by omega⟩
  rwa [List.length_map, List.length_range] at this
noncomputable def CC (A : Au) : List Int := cC A A.R.length
theorem CC_eq {A : Au} {S : List Int} (C : Clo A S) (hs : A.s ∈ S) {i : Nat} (h : (cC A i).length ≤ i) : cC A i = CC A := by
  by_cases c : i ≤ A.R.length
  · have := cC_stay h (A.R.length - i)
    rw [show i + (A.R.length - i) = A.R.length by omega] at this
    exact this.symm
  · have := cC_stay (A := A) (i := A.R.length) (cC_len C hs _) (i - A.R.length)
    rw [show A.R.length + (i - A.R.length) = i by omega] at this
    exact this
theorem CC_at {A : Au} {k : Nat} (h : k < (CC A).length) (hk : k ≤ A.R.length) : (cC A k)[k]? = (CC A)[k]? ∧ k < (cC A k).length := by
  obtain ⟨M, e⟩ := cC_pre (A := A) k (A.R.length - k)
  rw [show k + (A.R.length - k) = A.R.length by omega] at e
  have e : CC A = cC A k ++ M := e
  have lt : k < (cC A k).length := by
    refine Nat.lt_of_not_le fun z => ?_
    have := cC_stay z (A.R.length - k)
    rw [show k + (A.R.length - k) = A.R.length by omega] at this
    have : CC A = cC A k := this
    rw [this] at h; omega
  exact ⟨by rw [e, List.getElem?_append_left lt], lt⟩
/-- each next state has one that stands for it -/
theorem CC_has {A : Au} {S : List Int} (C : Clo A S) (hs : A.s ∈ S) {c t : Int} (hc : c ∈ CC A) (ht : t ∈ A.row c) : ∃ d ∈ CC A, eqI A d t := by
  obtain ⟨k, hk, rfl⟩ := List.getElem_of_mem hc
  have l : (CC A).length ≤ A.R.length := cC_len C hs _
  obtain ⟨e1, lt⟩ := CC_at hk (by omega)
  rw [List.getElem?_eq_getElem hk] at e1
  obtain ⟨d, h1, h2⟩ := fold_has (A := A) (C := cC A k) ht
  rw [← cC_next e1] at h1
  obtain ⟨M, e⟩ := cC_pre (A := A) (k + 1) (A.R.length - (k + 1))
  rw [show k + 1 + (A.R.length - (k + 1)) = A.R.length by omega] at e
  have e : CC A = cC A (k + 1) ++ M := e
  exact ⟨d, by rw [e]; exact List.mem_append_left _ h1, h2⟩
/-- the least automaton -/
noncomputable def mrow (A : Au) (c : Int) : List Int := (A.row c).map fun t => (idc A (CC A) t : Int)
noncomputable def minA (A : Au) : Au := ⟨A.L, 0, ((List.range (CC A).length).filter fun k => decide ((CC A).getD k 0 ∈ A.F)).map (fun n : Nat => (n : Int)), (CC A).map (mrow A)⟩
theorem CC_pos {A : Au} : 0 < (CC A).length := by
  obtain ⟨M, e⟩ := cC_pre (A := A) 0 A.R.length
  rw [Nat.zero_add] at e
  have e : CC A = [A.s] ++ M := e
  rw [e]; simp
theorem minA_ok {A : Au} {S : List Int} (O : A.Ok) (C : Clo A S) (hs : A.s ∈ S) : (minA A).Ok := by
  have len : (minA A).R.length = (CC A).length := by show ((CC A).map _).length = _; rw [List.length_map]
  have chs := cC_chs C hs A.R.length
  refine ⟨O.L1, ⟨Int.le_refl 0, ?_⟩, fun x hx => ?_, ?_, fun r hr => ?_⟩
  · rw [len]; have := CC_pos (A := A); show (0 : Int) < _; omega
  · obtain ⟨n, hn, rfl⟩ := List.mem_map.mp hx
    have := List.mem_range.mp (List.mem_filter.mp hn).1
    refine ⟨by omega, ?_⟩
    rw [len]; omega
  · show (List.map _ _).Pairwise (· < ·)
    rw [List.pairwise_map]
    exact (List.pairwise_lt_range.sublist List.filter_sublist).imp fun h => by omega
  · obtain ⟨c, hc, rfl⟩ := List.mem_map.mp hr
    refine ⟨?_, fun x hx => ?_⟩
    · unfold mrow
      rw [List.length_map]
      exact (O.R _ (Au.row_mem (C c (chs.sub c hc)).1)).1
    · obtain ⟨t, ht, rfl⟩ := List.mem_map.mp hx
      have := idc_lt (CC_has C hs hc ht)
      refine ⟨by omega, ?_⟩
      rw [len]; omega
end My
namespace My
/-! ### actions of words on the states of an automaton; powers that settle -/
def lonA (A : Au) (st : List Int) (a : Nat) : List Int := st.map fun q => nxA A q a
abbrev AEnt := List Int × List Int
def stpT (A : Au) (e : AEnt) (T : List AEnt) (a : Nat) : List AEnt := if lonA A e.2 a ∈ T.map Prod.snd then T else T ++ [(e.1 ++ [(a : Int)], lonA A e.2 a)]
def grT (A : Au) (e : AEnt) (n : Nat) (T : List AEnt) : List AEnt := (List.range n).foldl (stpT A e) T
def nxT (A : Au) (n : Nat) (T : List AEnt) : List AEnt := match T[n]? with | some e => grT A e A.L T | none => T
def idS (A : Au) : List Int := (List.range A.R.length).map fun i : Nat => (i : Int)
def tbT (A : Au) : Nat → List AEnt
  | 0 => [([], idS A)]
  | n + 1 => nxT A n (tbT A n)
structure TOk (A : Au) (n : Nat) (T : List AEnt) : Prop where
  nd : (T.map Prod.snd).Nodup
  len : ∀ e ∈ T, e.2.length = A.R.length
  ins : ∀ e ∈ T, ∀ q ∈ e.2, A.In q
  wl : ∀ e ∈ T, e.1.length ≤ n
theorem nxA_inM {A : Au} (O : A.Ok) {q : Int} (h : A.In q) {a : Nat} (ha : a < A.L) : A.In (nxA A q a) := by
  have h1 := Au.row_mem h
  have h2 := O.R _ h1
  refine h2.2 _ ?_
  unfold nxA
  rw [List.getD_eq_getElem?_getD, List.getElem?_eq_getElem (by rw [h2.1]; exact ha)]
  exact List.getElem_mem _
theorem idS_in {A : Au} {q : Int} (h : q ∈ idS A) : A.In q := by
  obtain ⟨k, hk, rfl⟩ := List.mem_map.mp h
  have := List.mem_range.mp hk
  exact ⟨by omega, by omega⟩
theorem TOk.start (A : Au) : TOk A 0 (tbT A 0) := ⟨by show [idS A].Nodup; simp, fun e he => by
    rw [List.mem_singleton.mp he]; show (idS A).length = _; unfold idS; rw [List.length_map, List.length_range], fun e he => by
    rw [List.mem_singleton.mp he]; exact fun q hq => idS_in hq, fun e he => by rw [List.mem_singleton.mp he]; exact Nat.le_refl _⟩
theorem TOk.up {A : Au} {n m : Nat} {T : List AEnt} (h : TOk A n T) (hm : n ≤ m) : TOk A m T := ⟨h.nd, h.len, h.ins, fun e he => Nat.le_trans (h.wl e he) hm⟩
theorem TOk.step {A : Au} {n : Nat} {T : List AEnt} {e : AEnt} {a : Nat} (O : A.Ok) (h : TOk A (n + 1) T) (e1 : e.1.length ≤ n) (e2 : e.2.length = A.R.length) (e3 : ∀ q ∈ e.2, A.In q) (ha : a < A.L) : TOk A (n + 1) (stpT A e T a) := by
  unfold stpT
  split
  · exact h
  · rename_i c
    refine ⟨?_, fun x hx => ?_, fun x hx => ?_, fun x hx => ?_⟩
    · rw [List.map_append, List.nodup_append]
      exact ⟨h.nd, by simp, fun x hx y hy => by rw [show y = lonA A e.2 a by simpa using hy]; rintro rfl; exact c hx⟩
    · rcases List.mem_append.mp hx with hx | hx
      · exact h.len x hx
      · rw [List.mem_singleton.mp hx]; show (lonA A e.2 a).length = _; unfold lonA; rw [List.length_map, e2]
    · rcases List.mem_append.mp hx with hx | hx
      · exact h.ins x hx
      · rw [List.mem_singleton.mp hx]
        intro q hq
        obtain ⟨p, hp, rfl⟩ := List.mem_map.mp (show q ∈ lonA A e.2 a from hq)
        exact nxA_inM O (e3 p hp) ha
    · rcases List.mem_append.mp hx with hx | hx
      · exact h.wl x hx
      · rw [List.mem_singleton.mp hx]; show (e.1 ++ [(a : Int)]).length ≤ _; rw [List.length_append]; simpa using e1
/-! #### how many there are -/
def encS (N : Nat) : List Int → Nat
  | [] => 0
  | q :: l => q.toNat + N * encS N l
theorem encS_lt {N : Nat} : ∀ {l : List Int}, (∀ q ∈ l, 0 ≤ q ∧ q < (N : Int)) → encS N l < N ^ l.length
  | [], _ => by simp [encS]
  | q :: l, h => by
    have h1 := h q (by simp)
    have ih := encS_lt (l := l) fun x hx => h x (List.mem_cons_of_mem _ hx)
    show q.toNat + N * encS N l < N ^ (l.length + 1)
    rw [Nat.pow_succ, Nat.mul_comm]
    have : (encS N l + 1) * N ≤ N ^ l.length * N := Nat.mul_le_mul_right N ih
    rw [Nat.add_mul, Nat.one_mul] at this
    omega
theorem encS_inj {N : Nat} : ∀ {l m : List Int}, l.length = m.length → (∀ q ∈ l, 0 ≤ q ∧ q < (N : Int)) → (∀ q ∈ m, 0 ≤ q ∧ q < (N : Int)) → encS N l = encS N m → l = m
  | [], [], _, _, _, _ => rfl
  | [], _ :: _, h, _, _, _ => by simp at h
  | _ :: _, [], h, _, _, _ => by simp at h
  | q :: l, p :: m, h, h1, h2, e => by
    have a := h1 q (by simp)
    have b := h2 p (by simp)
    have e : q.toNat + N * encS N l = p.toNat + N * encS N m := e
    have e1 : q.toNat = p.toNat := by
      have := congrArg (· % N) e
      simp only [Nat.add_mul_mod_self_left] at this
      rwa [Nat.mod_eq_of_lt (by omega), Nat.mod_eq_of_lt (by omega)] at this
    have e2 : encS N l = encS N m := by
      rw [e1] at e
      exact Nat.eq_of_mul_eq_mul_left (show 0 < N by omega) (Nat.add_left_cancel e)
    rw [encS_inj (by simpa using h) (fun x hx => h1 x (List.mem_cons_of_mem _ hx)) (fun x hx => h2 x (List.mem_cons_of_mem _ hx)) e2, show q = p by omega]
theorem nodup_mapOn {α β : Type} {f : α → β} : ∀ {l : List α}, l.Nodup → (∀ x ∈ l, ∀ y ∈ l, f x = f y → x = y) → (l.map f).Nodup
  | [], _, _ => by simp
  | x :: l, h, i => by
    rw [List.nodup_cons] at h
    rw [List.map_cons, List.nodup_cons]
    refine ⟨fun m => ?_, nodup_mapOn h.2 fun a ha b hb => i a (List.mem_cons_of_mem _ ha) b (List.mem_cons_of_mem _ hb)⟩
    obtain ⟨y, hy, e⟩ := List.mem_map.mp m
    have := i y (List.mem_cons_of_mem _ hy) x (by simp) e
    rw [this] at hy
    exact h.1 hy
/-! #### powers -/
def itF (F : Int → Int) : Nat → Int → Int
  | 0, x => x
  | n + 1, x => F (itF F n x)
def fxS (F : Int → Int) (x : Int) (e : Nat) : Prop := F (itF F e x) = itF F e x
theorem fxS.up {F : Int → Int} {x : Int} {e : Nat} (h : fxS F x e) : ∀ d, fxS F x (e + d)
  | 0 => h
  | d + 1 => by
    have := fxS.up h d
    show F (F (itF F (e + d) x)) = F (itF F (e + d) x)
    rw [show F (itF F (e + d) x) = itF F (e + d) x from this]
    exact this
theorem idS_mem {A : Au} {q : Int} (h : A.In q) : q ∈ idS A := List.mem_map.mpr ⟨q.toNat, List.mem_range.mpr (by obtain ⟨h1, h2⟩ := h; omega), Int.toNat_of_nonneg h.1⟩
theorem idS_clo {A : Au} (O : A.Ok) : Clo A (idS A) := fun q hq => by
  have h := idS_in hq
  exact ⟨h, fun x hx => idS_mem ((O.R _ (Au.row_mem h)).2 x hx)⟩
theorem mok {A : Au} (O : A.Ok) : (minA A).Ok := minA_ok O (idS_clo O) (idS_mem O.s)
theorem minR_len {A : Au} : (minA A).R.length = (CC A).length := List.length_map _
end My
namespace My
/-! ### the least automaton accepts the same words; its states are told apart, and all are reached -/
/-- behind a word -/
def runA (A : Au) (q : Int) (w : List Int) : Int := w.foldl (fun q a => nxA A q a.toNat) q
def LetOk (A : Au) (w : List Int) : Prop := ∀ a ∈ w, 0 ≤ a ∧ a < (A.L : Int)
theorem nxA_in {A : Au} (O : A.Ok) {q : Int} (h : A.In q) {a : Nat} (ha : a < A.L) : A.In (nxA A q a) := nxA_inM O h ha
theorem runA_snoc {A : Au} {q a : Int} {w : List Int} : runA A q (w ++ [a]) = nxA A (runA A q w) a.toNat := by
  unfold runA
  rw [List.foldl_append]; rfl
theorem runA_app {A : Au} {q : Int} {v w : List Int} : runA A q (v ++ w) = runA A (runA A q v) w := by
  unfold runA
  rw [List.foldl_append]
theorem runA_in {A : Au} (O : A.Ok) : ∀ {w : List Int} {q : Int}, A.In q → LetOk A w → A.In (runA A q w)
  | [], _, h, _ => h
  | a :: w, q, h, hw => by
    have := hw a List.mem_cons_self
    show A.In (runA A (nxA A q a.toNat) w)
    exact runA_in O (nxA_in O h (by omega)) fun b hb => hw b (List.mem_cons_of_mem _ hb)
/-- the state for which one of the least automaton stands -/
noncomputable def cAt (A : Au) (i : Int) : Int := (CC A).getD i.toNat 0
theorem cAt_get {A : Au} {i : Int} (h : (minA A).In i) : (CC A)[i.toNat]? = some (cAt A i) := by
  obtain ⟨h1, h2⟩ := h
  rw [minR_len] at h2
  unfold cAt
  rw [List.getD_eq_getElem?_getD, List.getElem?_eq_getElem (by omega)]; rfl
theorem cAt_mem {A : Au} {i : Int} (h : (minA A).In i) : cAt A i ∈ CC A := List.mem_of_getElem? (cAt_get h)
theorem cAt_in {A : Au} (O : A.Ok) {i : Int} (h : (minA A).In i) : A.In (cAt A i) :=
  idS_in ((cC_chs (idS_clo O) (idS_mem O.s) A.R.length).sub _ (cAt_mem h))
theorem cAt_zero {A : Au} : cAt A 0 = A.s := by
  obtain ⟨M, e⟩ := cC_pre (A := A) 0 A.R.length
  rw [Nat.zero_add] at e
  have e : CC A = [A.s] ++ M := e
  unfold cAt
  rw [e]; rfl
theorem idc_get {A : Au} {t : Int} : ∀ {C : List Int}, (∃ c ∈ C, eqI A c t) → ∃ c, C[idc A C t]? = some c ∧ eqI A c t
  | [], h => by obtain ⟨_, h, _⟩ := h; cases h
  | c :: C, h => by
    by_cases e : eqI A c t
    · rw [idc_cons, if_pos e]; exact ⟨c, rfl, e⟩
    · rw [idc_cons, if_neg e]
      obtain ⟨d, hd, h2⟩ := h
      rcases List.mem_cons.mp hd with rfl | hd
      · exact absurd h2 e
      · obtain ⟨x, h3, h4⟩ := idc_get ⟨d, hd, h2⟩
        exact ⟨x, by rw [List.getElem?_cons_succ]; exact h3, h4⟩
theorem row_nx {A : Au} (O : A.Ok) {q : Int} (h : A.In q) {a : Nat} (ha : a < A.L) : nxA A q a ∈ A.row q := by
  unfold nxA
  rw [List.getD_eq_getElem?_getD, List.getElem?_eq_getElem (by rw [(O.R _ (Au.row_mem h)).1]; exact ha)]
  exact List.getElem_mem _
theorem min_idc {A : Au} (O : A.Ok) {i : Int} (h : (minA A).In i) {a : Nat} (ha : a < A.L) : nxA (minA A) i a = (idc A (CC A) (nxA A (cAt A i) a) : Nat) := by
  have hc := cAt_in O h
  have l := (O.R _ (Au.row_mem hc)).1
  have e : (minA A).row i = mrow A (cAt A i) := by
    show ((CC A).map (mrow A)).getD i.toNat [] = _
    rw [List.getD_eq_getElem?_getD, List.getElem?_map, cAt_get h]; rfl
  show ((minA A).row i).getD a 0 = _
  rw [e]
  show ((A.row (cAt A i)).map _).getD a 0 = _
  unfold nxA
  rw [List.getD_eq_getElem?_getD, List.getElem?_map, List.getD_eq_getElem?_getD, List.getElem?_eq_getElem (by rw [l]; exact ha)]; rfl
theorem min_nx {A : Au} (O : A.Ok) {i : Int} (h : (minA A).In i) {a : Nat} (ha : a < A.L) : eqI A (cAt A (nxA (minA A) i a)) (nxA A (cAt A i) a) := by
  have hc := cAt_in O h
  obtain ⟨c, h1, h2⟩ := idc_get (CC_has (idS_clo O) (idS_mem O.s) (cAt_mem h) (row_nx O hc ha))
  rw [min_idc O h ha]
  show eqI A ((CC A).getD ((idc A (CC A) (nxA A (cAt A i) a) : Nat) : Int).toNat 0) _
  rw [Int.toNat_natCast, List.getD_eq_getElem?_getD, show (CC A)[idc A (CC A) (nxA A (cAt A i) a)]? = some c from h1]
  exact h2
theorem min_fin {A : Au} {i : Int} (h : (minA A).In i) : i ∈ (minA A).F ↔ cAt A i ∈ A.F := by
  obtain ⟨h1, h2⟩ := h
  rw [minR_len] at h2
  show i ∈ (List.map _ _) ↔ _
  constructor
  · intro hi
    obtain ⟨n, hn, rfl⟩ := List.mem_map.mp hi
    have := of_decide_eq_true (List.mem_filter.mp hn).2
    unfold cAt
    rw [Int.toNat_natCast]; exact this
  · intro hi
    refine List.mem_map.mpr ⟨i.toNat, List.mem_filter.mpr ⟨List.mem_range.mpr (by omega), decide_eq_true hi⟩, by omega⟩
theorem min_eqn {A : Au} (O : A.Ok) : ∀ (k : Nat) {i j : Int}, (minA A).In i → (minA A).In j → (eqn (minA A) k i j ↔ eqn A k (cAt A i) (cAt A j))
  | 0, i, j, hi, hj => by
    show (i ∈ (minA A).F ↔ j ∈ (minA A).F) ↔ (cAt A i ∈ A.F ↔ cAt A j ∈ A.F)
    rw [min_fin hi, min_fin hj]
  | k + 1, i, j, hi, hj => by
    show (eqn (minA A) k i j ∧ ∀ a, a < A.L → eqn (minA A) k (nxA (minA A) i a) (nxA (minA A) j a)) ↔ (eqn A k (cAt A i) (cAt A j) ∧ ∀ a, a < A.L → eqn A k (nxA A (cAt A i) a) (nxA A (cAt A j) a))
    rw [min_eqn O k hi hj]
    refine and_congr_right fun _ => forall_congr' fun a => imp_congr_right fun ha => ?_
    rw [min_eqn O k (nxA_in (mok O) hi ha) (nxA_in (mok O) hj ha)]
    have e1 := min_nx O hi ha k
    have e2 := min_nx O hj ha k
    exact ⟨fun h => (e1.symm.trans h).trans e2, fun h => (e1.trans h).trans e2.symm⟩
theorem min_apart {A : Au} (O : A.Ok) {i j : Int} (hi : (minA A).In i) (hj : (minA A).In j) (h : eqI (minA A) i j) : i = j := by
  have e : eqI A (cAt A i) (cAt A j) := fun k => (min_eqn O k hi hj).mp (h k)
  have ap := (cC_chs (idS_clo O) (idS_mem O.s) A.R.length).apart
  have g1 := cAt_get hi
  have g2 := cAt_get hj
  obtain ⟨l1, v1⟩ := List.getElem?_eq_some_iff.mp g1
  obtain ⟨l2, v2⟩ := List.getElem?_eq_some_iff.mp g2
  rw [List.pairwise_iff_getElem] at ap
  have i0 := hi.1
  have j0 := hj.1
  rcases Nat.lt_trichotomy i.toNat j.toNat with c | c | c
  · exact absurd (Eq.subst (motive := fun x => eqI A x _) v1.symm (Eq.subst (motive := fun y => eqI A (cAt A i) y) v2.symm e)) (ap i.toNat j.toNat l1 l2 c)
  · omega
  · exact absurd (Eq.subst (motive := fun x => eqI A x _) v2.symm (Eq.subst (motive := fun y => eqI A (cAt A j) y) v1.symm e.symm)) (ap j.toNat i.toNat l2 l1 c)
theorem eqI.run {A : Au} {p q : Int} (h : eqI A p q) : ∀ {w : List Int}, LetOk A w → eqI A (runA A p w) (runA A q w)
  | [], _ => h
  | a :: w, hw => by
    have := hw a List.mem_cons_self
    exact eqI.run (h.next (by omega)) (w := w) fun b hb => hw b (List.mem_cons_of_mem _ hb)
theorem min_run {A : Au} (O : A.Ok) : ∀ {w : List Int} {i : Int}, (minA A).In i → LetOk A w → eqI A (cAt A (runA (minA A) i w)) (runA A (cAt A i) w)
  | [], i, _, _ => eqI.refl _
  | a :: w, i, hi, hw => by
    have ha := hw a List.mem_cons_self
    have hw2 : LetOk A w := fun b hb => hw b (List.mem_cons_of_mem _ hb)
    have h1 := min_run O (w := w) (nxA_in (mok O) hi (show a.toNat < (minA A).L by show a.toNat < A.L; omega)) hw2
    have h2 := (min_nx O hi (a := a.toNat) (by omega)).run hw2
    exact h1.trans h2
theorem min_acc {A : Au} (O : A.Ok) {w : List Int} (hw : LetOk A w) : runA (minA A) 0 w ∈ (minA A).F ↔ runA A A.s w ∈ A.F := by
  have z : (minA A).In 0 := (mok O).s
  rw [min_fin (runA_in (mok O) z hw), (min_run O z hw).fin, cAt_zero]
/-! each one is next to an earlier one -/
def RcA (A : Au) (C : List Int) : Prop := ∀ j, 0 < j → ∀ d, C[j]? = some d → ∃ k a c, k < j ∧ a < A.L ∧ C[k]? = some c ∧ d = nxA A c a
theorem RcA.step {A : Au} {C : List Int} {k a : Nat} {c : Int} (h : RcA A C) (hc : C[k]? = some c) (ha : a < A.L) : RcA A (st1 A C (nxA A c a)) := by
  unfold st1
  split
  · exact h
  · have hk := (List.getElem?_eq_some_iff.mp hc).1
    intro j hj d hd
    rcases Nat.lt_or_ge j C.length with l | l
    · rw [List.getElem?_append_left l] at hd
      obtain ⟨k', a', c', h1, h2, h3, h4⟩ := h j hj d hd
      exact ⟨k', a', c', h1, h2, by rw [List.getElem?_append_left (by omega)]; exact h3, h4⟩
    · have e : j = C.length := by
        have := (List.getElem?_eq_some_iff.mp hd).1
        rw [List.length_append] at this
        have : j < C.length + 1 := this
        omega
      subst e
      rw [List.getElem?_append_right (Nat.le_refl _), Nat.sub_self] at hd
      have hd : nxA A c a = d := Option.some.inj hd
      exact ⟨k, a, c, hk, ha, by rw [List.getElem?_append_left hk]; exact hc, hd.symm⟩
theorem RcA.fold {A : Au} {k : Nat} {c : Int} : ∀ {ts C : List Int}, RcA A C → C[k]? = some c → (∀ t ∈ ts, ∃ a, a < A.L ∧ t = nxA A c a) → RcA A (ts.foldl (st1 A) C)
  | [], _, h, _, _ => h
  | t :: ts, C, h, hc, ht => by
    obtain ⟨a, ha, rfl⟩ := ht t List.mem_cons_self
    rw [List.foldl_cons]
    obtain ⟨M, e⟩ := st1_pre (A := A) (C := C) (t := nxA A c a)
    exact RcA.fold (h.step hc ha) (by rw [e, List.getElem?_append_left (List.getElem?_eq_some_iff.mp hc).1]; exact hc) fun x hx => ht x (List.mem_cons_of_mem _ hx)
end My
namespace My
/-! ### breadth-first search: nodes as they are found, the word that leads to each -/
structure BE (ν lb : Type) where
  nd : ν
  o : Option (ν × lb)
  w : List lb
section
variable {ν lb : Type} [DecidableEq ν]
inductive Pth (succ : ν → List (ν × lb)) (s0 : ν) : List lb → ν → Prop
  | nil : Pth succ s0 [] s0
  | snoc {u x y l} : Pth succ s0 u x → (y, l) ∈ succ x → Pth succ s0 (u ++ [l]) y
def bfA (e : BE ν lb) (E : List (BE ν lb)) (z : ν × lb) : List (BE ν lb) := if z.1 ∈ E.map BE.nd then E else E ++ [⟨z.1, some (e.nd, z.2), e.w ++ [z.2]⟩]
def bfG (e : BE ν lb) (zs : List (ν × lb)) (E : List (BE ν lb)) : List (BE ν lb) := zs.foldl (bfA e) E
def bfN (succ : ν → List (ν × lb)) (s0 : ν) : Nat → List (BE ν lb)
  | 0 => [⟨s0, none, []⟩]
  | n + 1 => match (bfN succ s0 n)[n]? with | none => bfN succ s0 n | some e => bfG e (succ e.nd) (bfN succ s0 n)
variable {succ : ν → List (ν × lb)} {s0 : ν}
/-- while the node at n is visited -/
structure BMid (succ : ν → List (ν × lb)) (s0 : ν) (n : Nat) (e : BE ν lb) (E : List (BE ν lb)) : Prop where
  nd : (E.map BE.nd).Nodup
  hd : E[0]? = some ⟨s0, none, []⟩
  path : ∀ b ∈ E, Pth succ s0 b.w b.nd
  ptr : ∀ (i : Nat) (b : BE ν lb), E[i]? = some b → (b.o = none ∧ b.w = []) ∨ ∃ (j : Nat) (c : BE ν lb) (l : lb), j < i ∧ E[j]? = some c ∧ b.o = some (c.nd, l) ∧ b.w = c.w ++ [l]
  mono : ∀ (i j : Nat) (a b : BE ν lb), i ≤ j → E[i]? = some a → E[j]? = some b → a.w.length ≤ b.w.length
  at_ : E[n]? = some e
  le1 : ∀ b ∈ E, b.w.length ≤ e.w.length + 1
  done : ∀ (j : Nat) (b : BE ν lb), j < n → E[j]? = some b → ∀ z ∈ succ b.nd, ∃ c ∈ E, c.nd = z.1 ∧ c.w.length ≤ b.w.length + 1
theorem BMid.add {n : Nat} {e : BE ν lb} {E : List (BE ν lb)} (h : BMid succ s0 n e E) {z : ν × lb} (hz : z ∈ succ e.nd) : BMid succ s0 n e (bfA e E z) := by
  unfold bfA
  split
  · exact h
  · rename_i c
    have hn := (List.getElem?_eq_some_iff.mp h.at_).1
    have get : ∀ {i : Nat} {b : BE ν lb}, (E ++ [⟨z.1, some (e.nd, z.2), e.w ++ [z.2]⟩])[i]? = some b → (i < E.length ∧ E[i]? = some b) ∨ (i = E.length ∧ b = ⟨z.1, some (e.nd, z.2), e.w ++ [z.2]⟩) := fun {i b} hb => by
      rcases Nat.lt_or_ge i E.length with l | l
      · rw [List.getElem?_append_left l] at hb; exact .inl ⟨l, hb⟩
      · have hi := (List.getElem?_eq_some_iff.mp hb).1
        rw [List.length_append] at hi
        have hi : i < E.length + 1 := hi
        have e0 : i = E.length := by omega
        subst e0
        rw [List.getElem?_append_right (Nat.le_refl _), Nat.sub_self] at hb
        exact .inr ⟨rfl, (Option.some.inj hb).symm⟩
    have old : ∀ {i : Nat} {b : BE ν lb}, E[i]? = some b → (E ++ [⟨z.1, some (e.nd, z.2), e.w ++ [z.2]⟩])[i]? = some b := fun {i b} hb => by
      rw [List.getElem?_append_left (List.getElem?_eq_some_iff.mp hb).1]; exact hb
    have lw : (e.w ++ [z.2]).length = e.w.length + 1 := by rw [List.length_append]; rfl
    refine ⟨?_, old h.hd, fun b hb => ?_, fun i b hb => ?_, fun i j a b hij ha hb => ?_, old h.at_, fun b hb => ?_, fun j b hj hb z' hz' => ?_⟩
    · rw [List.map_append, List.nodup_append]
      exact ⟨h.nd, by simp, fun x hx y hy => by rw [show y = z.1 by simpa using hy]; rintro rfl; exact c hx⟩
    · rcases List.mem_append.mp hb with hb | hb
      · exact h.path b hb
      · rw [List.mem_singleton.mp hb]
        exact .snoc (h.path e (List.mem_of_getElem? h.at_)) hz
    · rcases get hb with ⟨l, hb⟩ | ⟨rfl, rfl⟩
      · rcases h.ptr i b hb with x | ⟨j, c', l', h1, h2, h3, h4⟩
        · exact .inl x
        · exact .inr ⟨j, c', l', h1, old h2, h3, h4⟩
      · exact .inr ⟨n, e, z.2, hn, old h.at_, rfl, rfl⟩
    · rcases get ha with ⟨l, ha⟩ | ⟨rfl, rfl⟩
      · rcases get hb with ⟨l2, hb⟩ | ⟨rfl, rfl⟩
        · exact h.mono i j a b hij ha hb
        · rw [lw]; exact h.le1 a (List.mem_of_getElem? ha)
      · rcases get hb with ⟨l2, hb⟩ | ⟨rfl, rfl⟩
        · omega
        · exact Nat.le_refl _
    · rcases List.mem_append.mp hb with hb | hb
      · exact h.le1 b hb
      · rw [List.mem_singleton.mp hb, lw]; exact Nat.le_refl _
    · rcases get hb with ⟨l, hb⟩ | ⟨rfl, rfl⟩
      · obtain ⟨c', h1, h2⟩ := h.done j b hj hb z' hz'
        exact ⟨c', List.mem_append_left _ h1, h2⟩
      · omega
theorem BMid.fold {n : Nat} {e : BE ν lb} : ∀ {zs : List (ν × lb)} {E : List (BE ν lb)}, BMid succ s0 n e E → (∀ z ∈ zs, z ∈ succ e.nd) → BMid succ s0 n e (bfG e zs E)
  | [], _, h, _ => h
  | z :: zs, _, h, hz => BMid.fold (zs := zs) (h.add (hz z (by simp))) fun x hx => hz x (List.mem_cons_of_mem _ hx)
/-- before the node at n is visited -/
structure BOk (succ : ν → List (ν × lb)) (s0 : ν) (n : Nat) (E : List (BE ν lb)) : Prop where
  nd : (E.map BE.nd).Nodup
  hd : E[0]? = some ⟨s0, none, []⟩
  path : ∀ b ∈ E, Pth succ s0 b.w b.nd
  ptr : ∀ (i : Nat) (b : BE ν lb), E[i]? = some b → (b.o = none ∧ b.w = []) ∨ ∃ (j : Nat) (c : BE ν lb) (l : lb), j < i ∧ E[j]? = some c ∧ b.o = some (c.nd, l) ∧ b.w = c.w ++ [l]
  mono : ∀ (i j : Nat) (a b : BE ν lb), i ≤ j → E[i]? = some a → E[j]? = some b → a.w.length ≤ b.w.length
  le1 : ∀ (e : BE ν lb), E[n]? = some e → ∀ b ∈ E, b.w.length ≤ e.w.length + 1
  done : ∀ (j : Nat) (b : BE ν lb), j < n → E[j]? = some b → ∀ z ∈ succ b.nd, ∃ c ∈ E, c.nd = z.1 ∧ c.w.length ≤ b.w.length + 1
theorem BMid.next {n : Nat} {e : BE ν lb} {E : List (BE ν lb)} (h : BMid succ s0 n e E) (hz : ∀ z ∈ succ e.nd, z.1 ∈ E.map BE.nd) : BOk succ s0 (n + 1) E := by
  refine ⟨h.nd, h.hd, h.path, h.ptr, h.mono, fun b hb c hc => ?_, fun j b hj hb z hz' => ?_⟩
  · have := h.mono n (n + 1) e b (by omega) h.at_ hb
    have := h.le1 c hc
    omega
  · rcases Nat.lt_succ_iff_lt_or_eq.mp hj with hj | rfl
    · exact h.done j b hj hb z hz'
    · rw [h.at_] at hb
      have := Option.some.inj hb
      subst this
      obtain ⟨c, hc, e1⟩ := List.mem_map.mp (hz z hz')
      exact ⟨c, hc, e1, h.le1 c hc⟩
theorem BOk.start : BOk succ s0 0 (bfN succ s0 0) := by
  have one : ∀ {i : Nat} {b : BE ν lb}, ([⟨s0, none, []⟩] : List (BE ν lb))[i]? = some b → b = ⟨s0, none, []⟩ := fun {i b} h => by
    have := List.mem_of_getElem? h
    exact List.mem_singleton.mp this
  refine ⟨by simp [bfN], rfl, fun b hb => ?_, fun i b hb => ?_, fun i j a b _ ha hb => ?_, fun e he b hb => ?_, fun j b hj => absurd hj (Nat.not_lt_zero _)⟩
  · rw [List.mem_singleton.mp hb]; exact .nil
  · rw [one hb]; exact .inl ⟨rfl, rfl⟩
  · rw [one ha, one hb]; exact Nat.le_refl _
  · rw [List.mem_singleton.mp hb]; exact Nat.zero_le _
/-- when it ends all is found -/
theorem BOk.all {n : Nat} {E : List (BE ν lb)} (h : BOk succ s0 n E) (hn : E.length ≤ n) {u : List lb} {x : ν} (p : Pth succ s0 u x) : ∃ (i : Nat) (b : BE ν lb), i < n ∧ E[i]? = some b ∧ b.nd = x := by
  induction p with
  | nil => exact ⟨0, _, Nat.lt_of_lt_of_le (List.getElem?_eq_some_iff.mp h.hd).1 hn, h.hd, rfl⟩
  | @snoc u x y l p hl ih =>
    obtain ⟨i, b, h1, h2, rfl⟩ := ih
    obtain ⟨c, hc, e1, _⟩ := h.done i b h1 h2 (y, l) hl
    obtain ⟨j, hj, rfl⟩ := List.getElem_of_mem hc
    exact ⟨j, _, by omega, List.getElem?_eq_getElem hj, e1⟩
end
end My
namespace My
/-! ### faults of closure -/
abbrev CLb := Int × Int
/-- pairs of letters that may be swapped -/
structure PrOk (B : Au) (P : List CLb) : Prop where
  ok : ∀ z ∈ P, (0 ≤ z.1 ∧ z.1 < (B.L : Int)) ∧ (0 ≤ z.2 ∧ z.2 < (B.L : Int))
  sym : ∀ a b, (a, b) ∈ P → (b, a) ∈ P
/-! what paths say -/
theorem LetOk.app {B : Au} {u v : List Int} (h : LetOk B u) (h2 : LetOk B v) : LetOk B (u ++ v) := fun a ha => by
  rcases List.mem_append.mp ha with ha | ha
  · exact h a ha
  · exact h2 a ha
theorem LetOk.one {B : Au} {a : Nat} (h : a < B.L) : LetOk B [(a : Int)] := fun b hb => by rw [List.mem_singleton.mp hb]; omega
/-! the other way: a fault is found -/
def ClsP (B : Au) (P : List CLb) : Prop := ∀ s, B.In s → ∀ z ∈ P, nxA B (nxA B s z.1.toNat) z.2.toNat = nxA B (nxA B s z.2.toNat) z.1.toNat
noncomputable instance {B : Au} {P : List CLb} : Decidable (ClsP B P) := Classical.propDecidable _
/-! ### the law's closed automata: sides side by side -/
def TupOk (Ss : List (List (List Int))) (f : List Int) : Prop := f.length = Ss.length ∧ ∀ k, k < Ss.length → 0 ≤ f.getD k 0 ∧ f.getD k 0 < (((Ss.getD k []).length : Nat) : Int)
def addN (Fd : List (List Int)) (x : List Int) : List (List Int) := if x ∈ Fd then Fd else Fd ++ [x]
theorem addN_nd {Fd : List (List Int)} {x : List Int} (h : Fd.Nodup) : (addN Fd x).Nodup := by
  unfold addN
  split
  · exact h
  · rename_i c
    rw [List.nodup_append]
    exact ⟨h, by simp, fun a ha b hb => by rw [List.mem_singleton.mp hb]; rintro rfl; exact c ha⟩
theorem addN_has {Fd : List (List Int)} {x : List Int} : x ∈ addN Fd x := by
  unfold addN
  split
  · assumption
  · simp
theorem addN_of {Fd : List (List Int)} {x y : List Int} (h : y ∈ addN Fd x) : y = x ∨ y ∈ Fd := by
  unfold addN at h
  split at h
  · exact .inr h
  · rcases List.mem_append.mp h with h | h
    · exact .inr h
    · exact .inl (List.mem_singleton.mp h)
theorem addN_pre {Fd : List (List Int)} {x : List Int} : ∃ M, addN Fd x = Fd ++ M := by
  unfold addN
  split
  · exact ⟨[], by simp⟩
  · exact ⟨_, rfl⟩
theorem tup_few {Ss : List (List (List Int))} {Fd : List (List Int)} (h2 : Ss.length ≤ 2) (h3 : ∀ S ∈ Ss, S.length ≤ 3) (nd : Fd.Nodup) (ok : ∀ f ∈ Fd, TupOk Ss f) : Fd.length ≤ 9 := by
  have l1 : ∀ f ∈ Fd, ∀ q ∈ f, 0 ≤ q ∧ q < ((3 : Nat) : Int) := fun f hf q hq => by
    obtain ⟨k, hk, rfl⟩ := List.getElem_of_mem hq
    obtain ⟨e, b⟩ := ok f hf
    have := b k (by omega)
    rw [List.getD_eq_getElem?_getD, List.getElem?_eq_getElem hk] at this
    have b2 : (Ss.getD k []).length ≤ 3 := by
      rw [List.getD_eq_getElem?_getD, List.getElem?_eq_getElem (by omega)]
      exact h3 _ (List.getElem_mem _)
    have h1 : 0 ≤ f[k] := this.1
    have h2 : f[k] < (((Ss.getD k []).length : Nat) : Int) := this.2
    omega
  have nd2 := nodup_mapOn (f := encS 3) nd fun x hx y hy e => encS_inj ((ok x hx).1.trans (ok y hy).1.symm) (l1 x hx) (l1 y hy) e
  have := nodup_le nd2 (m := List.range (3 ^ Ss.length)) fun x hx => by
    obtain ⟨s, hs, rfl⟩ := List.mem_map.mp hx
    have := encS_lt (l1 s hs)
    rw [(ok s hs).1] at this
    exact List.mem_range.mpr this
  rw [List.length_map, List.length_range] at this
  rcases (show Ss.length = 0 ∨ Ss.length = 1 ∨ Ss.length = 2 by omega) with e | e | e <;> rw [e] at this <;> omega
theorem map_getD {α β : Type} {l : List α} {d : α} {f : α → β} : l.map f = (List.range l.length).map fun i => f (l.getD i d) := by
  apply List.ext_getElem
  · simp
  · intro i h1 h2
    rw [List.getElem_map, List.getElem_map, List.getElem_range, List.getD_eq_getElem?_getD, List.getElem?_eq_getElem (by simpa using h1)]; rfl
theorem getD_map_range {n k : Nat} {f : Nat → Int} (h : k < n) : ((List.range n).map f).getD k 0 = f k := by
  rw [List.getD_eq_getElem?_getD, List.getElem?_map, List.getElem?_range h]; rfl
/-! unlike places -/
end My
namespace My
/-! ### numbers of words where equivalent ones count as one: by the letters that can come last -/
/-- a letter that can come last -/
def mxL (ls : Lets) (w : List Int) (a : Int) : Bool := rdy ls w.reverse a
theorem WordOk.rev {ls : Lets} {w : List Int} (h : WordOk ls w) : WordOk ls w.reverse := fun x hx => h x (List.mem_reverse.mp hx)
theorem at_rev {ls : Lets} {p : Int} {w : List Int} : at_ ls p w.reverse = (at_ ls p w).reverse := by unfold at_; rw [List.filter_reverse]
theorem Alk.rev {ls : Lets} {k : Int} {u v : List Int} (h : Alk ls k u v) : Alk ls k u.reverse v.reverse := fun p h0 h1 => by rw [at_rev, at_rev, h p h0 h1]
theorem Alk.app {ls : Lets} {k : Int} {u v x y : List Int} (h : Alk ls k u v) (h2 : Alk ls k x y) : Alk ls k (u ++ x) (v ++ y) := fun p h0 h1 => by rw [at_append, at_append, h p h0 h1, h2 p h0 h1]
theorem Alk.mx {k : Int} {ls : Lets} (A : AlphaOk k ls) {u v : List Int} (h : Alk ls k u v) {a : Int} (ha : 0 ≤ a ∧ a < (ls.length : Int)) : mxL ls u a = mxL ls v a := h.rev.rdy A ha
/-! #### the groups, and their signs -/
/-! #### sums -/
end My
namespace My
/-! ### what is_below, view and newest say -/
noncomputable def bel (d : Nat → Nat → Bool) (i k : Nat) : Bool := @decide (Bel d i k) (Classical.propDecidable _)
theorem bel_iff {d : Nat → Nat → Bool} {i k : Nat} : bel d i k = true ↔ Bel d i k := by
  unfold bel
  exact @decide_eq_true_iff _ (Classical.propDecidable _)
/-- event e is in the view of the place -/
noncomputable def inView (ls : Lets) (w : List Int) (p : Int) (e : Nat) : Bool := (List.range w.length).any fun k => decide (p ∈ pl ls (w.getD k 0)) && bel (dep ls w) e k
theorem inView_iff {ls : Lets} {w : List Int} {p : Int} {e : Nat} : inView ls w p e = true ↔ ∃ k, k < w.length ∧ p ∈ pl ls (w.getD k 0) ∧ Bel (dep ls w) e k := by
  unfold inView
  rw [List.any_eq_true]
  constructor
  · rintro ⟨k, hk, h⟩
    rw [Bool.and_eq_true, decide_eq_true_iff, bel_iff] at h
    exact ⟨k, List.mem_range.mp hk, h.1, h.2⟩
  · rintro ⟨k, hk, h1, h2⟩
    exact ⟨k, List.mem_range.mpr hk, by rw [Bool.and_eq_true, decide_eq_true_iff, bel_iff]; exact ⟨h1, h2⟩⟩
/-- two letters that share a place -/
theorem dep_iff {ls : Lets} {w : List Int} {j k : Nat} : dep ls w j k = true ↔ ∃ p, p ∈ pl ls (w.getD j 0) ∧ p ∈ pl ls (w.getD k 0) := by
  unfold dep free
  rw [Bool.not_eq_true', not_disj]
end My
namespace My
/-! ### what places know of letters -/
theorem dep_app {ls : Lets} {w v : List Int} {j k : Nat} (hj : j < w.length) (hk : k < w.length) : dep ls (w ++ v) j k = dep ls w j k := by
  unfold dep
  rw [List.getD_eq_getElem?_getD, List.getElem?_append_left hj, List.getD_eq_getElem?_getD, List.getElem?_append_left hk, List.getD_eq_getElem?_getD, List.getD_eq_getElem?_getD]
theorem bel_app {ls : Lets} {w v : List Int} : ∀ {k e : Nat}, k < w.length → (Bel (dep ls (w ++ v)) e k ↔ Bel (dep ls w) e k) := by
  intro k
  induction k using Nat.strongRecOn with
  | ind k ih =>
    intro e hk
    rw [Bel.last, Bel.last (d := dep ls w)]
    constructor
    · rintro (h | ⟨j, h1, h2, h3⟩)
      · exact .inl h
      · exact .inr ⟨j, h1, by rw [dep_app (by omega) hk] at h2; exact h2, (ih j h1 (by omega)).mp h3⟩
    · rintro (h | ⟨j, h1, h2, h3⟩)
      · exact .inl h
      · exact .inr ⟨j, h1, by rw [dep_app (by omega) hk]; exact h2, (ih j h1 (by omega)).mpr h3⟩
theorem getD_app {w v : List Int} {e : Nat} (h : e < w.length) : (w ++ v).getD e 0 = w.getD e 0 := by
  rw [List.getD_eq_getElem?_getD, List.getElem?_append_left h, List.getD_eq_getElem?_getD]
theorem getD_last {w : List Int} {x : Int} : (w ++ [x]).getD w.length 0 = x := by simp [List.getD_eq_getElem?_getD]
theorem view_out {ls : Lets} {w : List Int} {x p : Int} (hp : p ∉ pl ls x) {e : Nat} (he : e ≤ w.length) : inView ls (w ++ [x]) p e = true ↔ e < w.length ∧ inView ls w p e = true := by
  rw [inView_iff, inView_iff]
  constructor
  · rintro ⟨k, h1, h2, h3⟩
    rw [List.length_append, List.length_singleton] at h1
    have hk : k < w.length := by
      rcases Nat.lt_or_ge k w.length with h | h
      · exact h
      · have : k = w.length := by omega
        subst this
        rw [getD_last] at h2
        exact absurd h2 hp
    have := h3.le
    exact ⟨by omega, k, hk, by rw [getD_app hk] at h2; exact h2, (bel_app hk).mp h3⟩
  · rintro ⟨h0, k, h1, h2, h3⟩
    exact ⟨k, by rw [List.length_append]; omega, by rw [getD_app h1]; exact h2, (bel_app h1).mpr h3⟩
theorem view_in {ls : Lets} {w : List Int} {x p : Int} (hp : p ∈ pl ls x) {e : Nat} (he : e < w.length) : inView ls (w ++ [x]) p e = true ↔ ∃ q ∈ pl ls x, inView ls w q e = true := by
  rw [inView_iff]
  constructor
  · rintro ⟨k, h1, h2, h3⟩
    rw [List.length_append, List.length_singleton] at h1
    rcases Nat.lt_or_ge k w.length with hk | h
    · exact ⟨p, hp, inView_iff.mpr ⟨k, hk, by rw [getD_app hk] at h2; exact h2, (bel_app hk).mp h3⟩⟩
    · have : k = w.length := by omega
      subst this
      rcases Bel.last.mp h3 with z | ⟨j, j1, j2, j3⟩
      · omega
      · obtain ⟨q, q1, q2⟩ := dep_iff.mp j2
        rw [getD_last] at q2
        rw [getD_app j1] at q1
        exact ⟨q, q2, inView_iff.mpr ⟨j, j1, q1, (bel_app j1).mp j3⟩⟩
  · rintro ⟨q, hq, h⟩
    obtain ⟨j, j1, j2, j3⟩ := inView_iff.mp h
    refine ⟨w.length, by rw [List.length_append]; simp, by rw [getD_last]; exact hp, .step ((bel_app j1).mpr j3) j1 (dep_iff.mpr ⟨q, by rw [getD_app j1]; exact j2, by rw [getD_last]; exact hq⟩)⟩
theorem view_last {ls : Lets} {w : List Int} {x p : Int} (hp : p ∈ pl ls x) : inView ls (w ++ [x]) p w.length = true :=
  inView_iff.mpr ⟨w.length, by rw [List.length_append]; simp, by rw [getD_last]; exact hp, .refl _⟩
/-! clocks -/
end My
namespace My
open Hq
/-! ### facts about words, by views -/
inductive Fact where
  | cnt (l t : Int)
  | neg (f : Fact)
  | both (f g : Fact)
  | kn (p : Int) (f : Fact)
  | com (f : Fact)
def Fact.dep : Fact → Nat
  | .cnt _ _ => 1
  | .neg f => f.dep + 1
  | .both f g => max f.dep g.dep + 1
  | .kn _ f => f.dep + 1
  | .com f => f.dep + 1
/-- its places are there -/
def Fact.ok (k : Int) : Fact → Prop
  | .cnt _ _ => True
  | .neg f => f.ok k
  | .both f g => f.ok k ∧ g.ok k
  | .kn p f => (0 ≤ p ∧ p < k) ∧ f.ok k
  | .com f => f.ok k
end My
namespace My
open Hq
/-! ### the greatest event of a kind; claims about events -/
open Classical in
noncomputable def mx (P : Nat → Prop) : Nat → Int
  | 0 => -1
  | n + 1 => if P n then (n : Int) else mx P n
theorem mx_rng {P : Nat → Prop} : ∀ {n : Nat}, -1 ≤ mx P n ∧ mx P n < (n : Int)
  | 0 => by simp [mx]
  | n + 1 => by
    have := mx_rng (P := P) (n := n)
    unfold mx
    split <;> omega
theorem mx_yes {P : Nat → Prop} {n : Nat} (h : P n) : mx P (n + 1) = (n : Int) := by unfold mx; rw [if_pos h]
theorem mx_skip {P : Nat → Prop} {n : Nat} (h : ¬ P n) : mx P (n + 1) = mx P n := by
  conv => lhs; unfold mx
  rw [if_neg h]
theorem mx_ge {P : Nat → Prop} : ∀ {n e : Nat}, e < n → P e → (e : Int) ≤ mx P n
  | n + 1, e, h, p => by
    unfold mx
    split
    · omega
    · rcases Nat.lt_succ_iff_lt_or_eq.mp h with h | rfl
      · exact mx_ge h p
      · contradiction
theorem mx_in {P : Nat → Prop} : ∀ {n e : Nat}, mx P n = (e : Int) → e < n ∧ P e
  | 0, e, h => by unfold mx at h; omega
  | n + 1, e, h => by
    unfold mx at h
    split at h
    · have : n = e := by omega
      subst this
      exact ⟨by omega, by assumption⟩
    · have := mx_in h
      exact ⟨by omega, this.2⟩
theorem mx_of {P : Nat → Prop} {n e : Nat} (h1 : e < n) (h2 : P e) (h3 : ∀ e', e' < n → P e' → e' ≤ e) : mx P n = (e : Int) := by
  have a := mx_ge h1 h2
  obtain ⟨m, hm⟩ := Int.eq_ofNat_of_zero_le (show 0 ≤ mx P n by omega)
  obtain ⟨b, c⟩ := mx_in hm
  have := h3 m b c
  omega
theorem mx_no {P : Nat → Prop} {n : Nat} (h : ∀ e, e < n → ¬ P e) : mx P n = -1 := by
  have := mx_rng (P := P) (n := n)
  rcases (by omega : mx P n < 0 ∨ 0 ≤ mx P n) with z | z
  · omega
  · obtain ⟨m, hm⟩ := Int.eq_ofNat_of_zero_le z
    obtain ⟨b, c⟩ := mx_in hm
    exact absurd c (h m b)
theorem mx_cong {P Q : Nat → Prop} : ∀ {n : Nat}, (∀ e, e < n → (P e ↔ Q e)) → mx P n = mx Q n
  | 0, _ => rfl
  | n + 1, h => by
    unfold mx
    rw [mx_cong (n := n) fun e he => h e (by omega)]
    have := h n (by omega)
    split <;> split <;> first | rfl | (exfalso; simp_all)
theorem mx_or {ι : Type} {P : ι → Nat → Prop} {l : List ι} {n : Nat} {m : Int} (h1 : m ∈ l.map fun i => mx (P i) n) (h2 : ∀ y ∈ l.map (fun i => mx (P i) n), y ≤ m) : mx (fun e => ∃ i ∈ l, P i e) n = m := by
  obtain ⟨i, hi, rfl⟩ := List.mem_map.mp h1
  have hr := mx_rng (P := P i) (n := n)
  have up : ∀ j ∈ l, ∀ e, e < n → P j e → (e : Int) ≤ mx (P i) n := fun j hj e he hp => by
    have := mx_ge he hp
    have := h2 _ (List.mem_map.mpr ⟨j, hj, rfl⟩)
    omega
  rcases (by omega : mx (P i) n < 0 ∨ 0 ≤ mx (P i) n) with z | z
  · rw [mx_no]
    · omega
    · rintro e he ⟨j, hj, hp⟩
      have := up j hj e he hp
      omega
  · obtain ⟨m, hm⟩ := Int.eq_ofNat_of_zero_le z
    obtain ⟨b, c⟩ := mx_in hm
    rw [hm]
    refine mx_of b ⟨i, hi, c⟩ ?_
    rintro e he ⟨j, hj, hp⟩
    have := up j hj e he hp
    omega
theorem Bel.trans {d : Nat → Nat → Bool} {i j k : Nat} (h : Bel d i j) (h2 : Bel d j k) : Bel d i k := by
  induction h2 with
  | refl => exact h
  | step _ l e ih => exact .step ih l e
theorem dep_comm {ls : Lets} {w : List Int} {j k : Nat} : dep ls w j k = dep ls w k j := by unfold dep; rw [free_comm]
/-- the newest event at q strictly below event k -/
noncomputable def nwk (ls : Lets) (w : List Int) (q : Int) (k : Nat) : Int := mx (fun e => Bel (dep ls w) e k ∧ q ∈ pl ls (w.getD e 0)) k
/-- the newest event at q in the view of p -/
noncomputable def vw (ls : Lets) (w : List Int) (q p : Int) : Int := mx (fun e => inView ls w p e = true ∧ q ∈ pl ls (w.getD e 0)) w.length
theorem nwk_view {ls : Lets} {u v : List Int} {x q : Int} : nwk ls (u ++ x :: v) q u.length = mx (fun e => ∃ p ∈ pl ls x, inView ls u p e = true ∧ q ∈ pl ls (u.getD e 0)) u.length := by
  have e0 : u ++ x :: v = (u ++ [x]) ++ v := by simp
  refine mx_cong fun e he => ?_
  rw [show (u ++ x :: v).getD e 0 = u.getD e 0 from getD_app he]
  have : Bel (dep ls (u ++ x :: v)) e u.length ↔ ∃ p ∈ pl ls x, inView ls u p e = true := by
    rw [e0, bel_app (by simp)]
    constructor
    · intro h
      rcases Bel.last.mp h with z | ⟨j, j1, j2, j3⟩
      · omega
      · obtain ⟨p, p1, p2⟩ := dep_iff.mp j2
        rw [getD_last] at p2
        exact ⟨p, p2, inView_iff.mpr ⟨j, j1, by rw [getD_app j1] at p1; exact p1, (bel_app j1).mp j3⟩⟩
    · rintro ⟨p, hp, h⟩
      obtain ⟨j, j1, j2, j3⟩ := inView_iff.mp h
      exact .step ((bel_app j1).mpr j3) j1 (dep_iff.mpr ⟨p, by rw [getD_app j1]; exact j2, by rw [getD_last]; exact hp⟩)
  rw [this]
  constructor
  · rintro ⟨⟨p, h1, h2⟩, h3⟩; exact ⟨p, h1, h2, h3⟩
  · rintro ⟨p, h1, h2, h3⟩; exact ⟨⟨p, h1, h2⟩, h3⟩
theorem nwk_max {ls : Lets} {u v : List Int} {x q m : Int} (h1 : m ∈ (pl ls x).map fun p => vw ls u q p) (h2 : ∀ y ∈ (pl ls x).map (fun p => vw ls u q p), y ≤ m) : nwk ls (u ++ x :: v) q u.length = m := by
  rw [nwk_view]
  exact mx_or h1 h2
theorem vw_out {ls : Lets} {u : List Int} {x q p : Int} (hp : p ∉ pl ls x) : vw ls (u ++ [x]) q p = vw ls u q p := by
  unfold vw
  rw [List.length_append, List.length_singleton]
  rw [mx_skip fun z => by have := (view_out hp (Nat.le_refl _)).mp z.1; omega]
  refine mx_cong fun e he => ?_
  rw [getD_app he, view_out hp (by omega)]
  exact ⟨fun z => ⟨z.1.2, z.2⟩, fun z => ⟨⟨he, z.1⟩, z.2⟩⟩
theorem vw_in {ls : Lets} {u v : List Int} {x q p : Int} (hp : p ∈ pl ls x) : vw ls (u ++ [x]) q p = if q ∈ pl ls x then (u.length : Int) else nwk ls (u ++ x :: v) q u.length := by
  unfold vw
  rw [List.length_append, List.length_singleton]
  have vl := view_last hp (w := u)
  by_cases c : q ∈ pl ls x
  · rw [mx_yes ⟨vl, by rw [getD_last]; exact c⟩, if_pos c]
  · rw [mx_skip fun z => c (by have := z.2; rw [getD_last] at this; exact this), if_neg c, nwk_view]
    refine mx_cong fun e he => ?_
    rw [getD_app he, view_in hp he]
    constructor
    · rintro ⟨⟨p, h1, h2⟩, h3⟩; exact ⟨p, h1, h2, h3⟩
    · rintro ⟨p, h1, h2, h3⟩; exact ⟨⟨p, h1, h2⟩, h3⟩
inductive Clm where
  | letter (l : Int)
  | neg (c : Clm)
  | once (c : Clm)
  | known (p : Int) (c : Clm)
  | both (c d : Clm)
  | chain (c d : Clm)
deriving DecidableEq
def Clm.dep : Clm → Nat
  | .letter _ => 1
  | .neg c => c.dep + 1
  | .once c => c.dep + 1
  | .known _ c => c.dep + 1
  | .both c d => max c.dep d.dep + 1
  | .chain c d => max c.dep d.dep + 1
def Clm.ok (k : Int) : Clm → Prop
  | .letter _ => True
  | .neg c => c.ok k
  | .once c => c.ok k
  | .known p c => (0 ≤ p ∧ p < k) ∧ c.ok k
  | .both c d => c.ok k ∧ d.ok k
  | .chain c d => c.ok k ∧ d.ok k
inductive ChW (ls : Lets) (w : List Int) (f g : Nat → Prop) : Nat → Prop
  | now {k} : f k → ChW ls w f g k
  | prev {k j : Nat} {p : Int} : g k → p ∈ pl ls (w.getD k 0) → nwk ls w p k = (j : Int) → ChW ls w f g j → ChW ls w f g k
/-- words of which events answer one another -/
structure Iso (ls : Lets) (w w' : List Int) (π σ : Nat → Nat) : Prop where
  len : w'.length = w.length
  a : ∀ k, k < w.length → π k < w.length ∧ σ (π k) = k ∧ w'.getD (π k) 0 = w.getD k 0 ∧ occ w' (π k) = occ w k
  b : ∀ k, k < w.length → σ k < w.length ∧ π (σ k) = k
  o : ∀ j k, j < k → k < w.length → dep ls w j k = true → π j < π k
theorem Iso.dep {ls w w' π σ} (I : Iso ls w w' π σ) {j k : Nat} (hj : j < w.length) (hk : k < w.length) : dep ls w' (π j) (π k) = dep ls w j k := by
  unfold My.dep; rw [(I.a j hj).2.2.1, (I.a k hk).2.2.1]
theorem Iso.symm {ls w w' π σ} (I : Iso ls w w' π σ) : Iso ls w' w σ π where
  len := I.len.symm
  a := fun k hk => by
    rw [I.len] at hk ⊢
    obtain ⟨h1, h2⟩ := I.b k hk
    obtain ⟨_, _, h3, h4⟩ := I.a _ h1
    rw [h2] at h3 h4
    exact ⟨h1, h2, h3.symm, h4.symm⟩
  b := fun k hk => by
    rw [I.len] at hk ⊢
    obtain ⟨h1, h2, _⟩ := I.a k hk
    exact ⟨h1, h2⟩
  o := fun j k hjk hk hd => by
    rw [I.len] at hk
    obtain ⟨j1, j2⟩ := I.b j (by omega)
    obtain ⟨k1, k2⟩ := I.b k hk
    rcases Nat.lt_trichotomy (σ j) (σ k) with h | h | h
    · exact h
    · have := congrArg π h; omega
    · have := I.o _ _ h j1 (by
        rw [← I.dep k1 j1, j2, k2, dep_comm]; exact hd)
      omega
theorem Iso.bel {ls w w' π σ} (I : Iso ls w w' π σ) {j k : Nat} (hk : k < w.length) (h : Bel (My.dep ls w) j k) : Bel (My.dep ls w') (π j) (π k) := by
  induction h with
  | refl => exact .refl _
  | @step j k b l d ih => exact .step (ih (by omega)) (I.o _ _ l hk d) (by rw [I.dep (by omega) hk]; exact d)
theorem Iso.nwk {ls w w' π σ} (I : Iso ls w w' π σ) {j k : Nat} {q : Int} (hk : k < w.length) (h : nwk ls w q k = (j : Int)) : nwk ls w' q (π k) = (π j : Nat) := by
  obtain ⟨h1, h2, h3⟩ := mx_in h
  obtain ⟨ka, kb, kc, _⟩ := I.a k hk
  obtain ⟨ja, jb, jc, _⟩ := I.a j (by omega)
  have bj := I.bel hk h2
  refine mx_of ?_ ⟨bj, by rw [jc]; exact h3⟩ ?_
  · rcases Nat.eq_or_lt_of_le bj.le with e | e
    · rw [e] at jb; omega
    · exact e
  · rintro e he ⟨b, hq⟩
    have el : e < w.length := by omega
    have b2 := I.symm.bel (by rw [I.len]; exact ka) b
    rw [kb] at b2
    obtain ⟨e1, e2⟩ := I.b e el
    obtain ⟨_, _, ec, _⟩ := I.a (σ e) e1
    rw [e2] at ec
    have lt : σ e < k := by
      rcases Nat.eq_or_lt_of_le b2.le with z | z
      · rw [z] at e2; omega
      · exact z
    have := mx_ge (P := fun e => Bel (My.dep ls w) e k ∧ q ∈ pl ls (w.getD e 0)) lt ⟨b2, by rw [← ec]; exact hq⟩
    have h' : mx (fun e => Bel (My.dep ls w) e k ∧ q ∈ pl ls (w.getD e 0)) k = (j : Int) := h
    rw [h'] at this
    rcases Nat.eq_or_lt_of_le (show σ e ≤ j by omega) with z | z
    · rw [z] at e2; omega
    · have := I.o _ _ z (by omega) (dep_iff.mpr ⟨q, by rw [← ec]; exact hq, h3⟩)
      omega
theorem Iso.chain {ls w w' π σ} (I : Iso ls w w' π σ) {f g f' g' : Nat → Prop} (hf : ∀ k, k < w.length → f k → f' (π k)) (hg : ∀ k, k < w.length → g k → g' (π k)) {k : Nat} (hk : k < w.length) (h : ChW ls w f g k) : ChW ls w' f' g' (π k) := by
  induction h with
  | now h => exact .now (hf _ hk h)
  | @prev k j p h1 h2 h3 _ ih => exact .prev (hg _ hk h1) (by rw [(I.a k hk).2.2.1]; exact h2) (I.nwk hk h3) (ih (by have := (mx_in h3).1; omega))
theorem Iso.refl {ls : Lets} {w : List Int} : Iso ls w w id id := ⟨rfl, fun k hk => ⟨hk, rfl, rfl, rfl⟩, fun k hk => ⟨hk, rfl⟩, fun _ _ h _ _ => h⟩
end My
namespace My
open Hq
/-! ### gossip: newest events of newest events, and labels that are used again -/
section
variable {ls : Lets} {w : List Int}
/-- downward closed sets of events -/
structure Dn (ls : Lets) (w : List Int) (D : Nat → Prop) : Prop where
  dn : ∀ i j, D j → Bel (dep ls w) i j → D i
  lt : ∀ j, D j → j < w.length
/-- the newest event at q in a set -/
noncomputable def nd (ls : Lets) (w : List Int) (D : Nat → Prop) (q : Int) : Int := mx (fun e => D e ∧ q ∈ pl ls (w.getD e 0)) w.length
theorem nd_in {D : Nat → Prop} {q : Int} {j : Nat} (h : nd ls w D q = (j : Int)) : D j ∧ q ∈ pl ls (w.getD j 0) ∧ j < w.length := ⟨(mx_in h).2.1, (mx_in h).2.2, (mx_in h).1⟩
theorem nd_ge {D : Nat → Prop} (hD : Dn ls w D) {q : Int} {j : Nat} (h : D j) (hq : q ∈ pl ls (w.getD j 0)) : (j : Int) ≤ nd ls w D q := mx_ge (hD.lt j h) ⟨h, hq⟩
theorem nd_nat {D : Nat → Prop} (hD : Dn ls w D) {q : Int} {j : Nat} (h : D j) (hq : q ∈ pl ls (w.getD j 0)) : ∃ m : Nat, nd ls w D q = (m : Int) ∧ j ≤ m := by
  have := nd_ge hD h hq
  obtain ⟨m, hm⟩ := Int.eq_ofNat_of_zero_le (show 0 ≤ nd ls w D q by omega)
  exact ⟨m, hm, by omega⟩
theorem nd_rng {D : Nat → Prop} {q : Int} : -1 ≤ nd ls w D q ∧ nd ls w D q < (w.length : Int) := mx_rng
theorem same_bel {q : Int} {i j : Nat} (hi : q ∈ pl ls (w.getD i 0)) (hj : q ∈ pl ls (w.getD j 0)) (h : i ≤ j) : Bel (dep ls w) i j := by
  rcases Nat.eq_or_lt_of_le h with rfl | h
  · exact .refl _
  · exact .step (.refl _) h (dep_iff.mpr ⟨q, hi, hj⟩)
theorem dn_bel {g : Nat} (hg : g < w.length) : Dn ls w fun e => Bel (dep ls w) e g := ⟨fun i j h b => b.trans h, fun j h => by have := h.le; omega⟩
theorem dn_view {p : Int} : Dn ls w fun e => inView ls w p e = true := ⟨fun i j h b => by
  obtain ⟨k, hk, hp, h⟩ := inView_iff.mp h
  exact inView_iff.mpr ⟨k, hk, hp, b.trans h⟩, fun j h => by
  obtain ⟨k, hk, hp, h⟩ := inView_iff.mp h
  have := h.le; omega⟩
/-- what leads out of a closed set passes one of its newest events -/
theorem nd_cross {D : Nat → Prop} (hD : Dn ls w D) {f g : Nat} (b : Bel (dep ls w) f g) (hf : D f) : D g ∨ ∃ (j : Int) (h : Nat), nd ls w D j = (h : Int) ∧ Bel (dep ls w) f h ∧ Bel (dep ls w) h g := by
  induction b with
  | refl => exact .inl hf
  | @step j k b l d ih =>
    rcases ih with ih | ⟨q, h, h1, h2, h3⟩
    · by_cases c : D k
      · exact .inl c
      · obtain ⟨q, q1, q2⟩ := dep_iff.mp d
        obtain ⟨m, hm, jm⟩ := nd_nat hD ih q1
        obtain ⟨dm, qm, _⟩ := nd_in hm
        refine .inr ⟨q, m, hm, b.trans (same_bel q1 qm jm), ?_⟩
        rcases Nat.lt_or_ge m k with h | h
        · exact same_bel qm q2 (by omega)
        · exact absurd (hD.dn k m dm (same_bel q2 qm h)) c
    · exact .inr ⟨q, h, h1, h2, .step h3 l d⟩
/-- the newest event at q below an event, or it -/
noncomputable def nb (ls : Lets) (w : List Int) (q m : Int) : Int := if m < 0 then -1 else nd ls w (fun e => Bel (dep ls w) e m.toNat) q
theorem nb_nat {q : Int} {m : Nat} : nb ls w q (m : Int) = nd ls w (fun e => Bel (dep ls w) e m) q := by
  unfold nb
  rw [if_neg (by omega), Int.toNat_natCast]
theorem nb_neg {q m : Int} (h : m < 0) : nb ls w q m = -1 := by unfold nb; rw [if_pos h]
theorem nb_rng {q m : Int} : -1 ≤ nb ls w q m ∧ nb ls w q m < (w.length : Int) ∨ (nb ls w q m = -1) := by
  unfold nb
  split
  · exact .inr rfl
  · exact .inl nd_rng
/-- it is told by what it is -/
theorem nd_is {D : Nat → Prop} (hD : Dn ls w D) {q : Int} {j : Nat} (h1 : D j) (h2 : q ∈ pl ls (w.getD j 0)) (h3 : ∀ i, D i → q ∈ pl ls (w.getD i 0) → i ≤ j) : nd ls w D q = (j : Int) := mx_of (hD.lt j h1) ⟨h1, h2⟩ fun e _ h => h3 e h.1 h.2
theorem nb_self {q : Int} {m : Nat} (hm : m < w.length) (h : q ∈ pl ls (w.getD m 0)) : nb ls w q (m : Int) = (m : Int) := by
  rw [nb_nat]
  exact nd_is (dn_bel hm) (.refl _) h fun i b _ => b.le
/-- between: if f is the newest at q of a set and h of the set is above f, it is the newest below h -/
theorem nb_mid {D : Nat → Prop} (hD : Dn ls w D) {q : Int} {f h : Nat} (hf : nd ls w D q = (f : Int)) (hh : D h) (b : Bel (dep ls w) f h) : nb ls w q (h : Int) = (f : Int) := by
  obtain ⟨df, qf, _⟩ := nd_in hf
  rw [nb_nat]
  refine nd_is (dn_bel (hD.lt h hh)) b qf fun i bi qi => ?_
  have := nd_ge hD (hD.dn i h hh bi) qi
  omega
/-- a view is what lies below its own last event -/
theorem view_own {p : Int} {e : Nat} (h : inView ls w p e = true) : ∃ g : Nat, vw ls w p p = (g : Int) ∧ Bel (dep ls w) e g ∧ inView ls w p g = true ∧ p ∈ pl ls (w.getD g 0) ∧ g < w.length := by
  obtain ⟨k, hk, hp, b⟩ := inView_iff.mp h
  have vk : inView ls w p k = true := inView_iff.mpr ⟨k, hk, hp, .refl _⟩
  obtain ⟨g, hg, kg⟩ := nd_nat (D := fun e => inView ls w p e = true) dn_view vk hp
  obtain ⟨d, q, l⟩ := nd_in hg
  exact ⟨g, hg, b.trans (same_bel hp q kg), d, q, l⟩
theorem own_view {p : Int} {g e : Nat} (hg : vw ls w p p = (g : Int)) (b : Bel (dep ls w) e g) : inView ls w p e = true := dn_view.dn e g (nd_in hg).1 b
/-- every event of a place is in its view -/
theorem at_view {p : Int} {e : Nat} (he : e < w.length) (h : p ∈ pl ls (w.getD e 0)) : inView ls w p e = true := inView_iff.mpr ⟨e, he, h, .refl _⟩
/-- the last event of a place, in another closed set, is its newest there -/
theorem own_newest {p : Int} {D : Nat → Prop} (hD : Dn ls w D) {g : Nat} (hg : vw ls w p p = (g : Int)) (h : D g) : nd ls w D p = (g : Int) := by
  obtain ⟨_, q, _⟩ := nd_in (D := fun e => inView ls w p e = true) hg
  refine nd_is hD h q fun i di qi => ?_
  have := nd_ge (D := fun e => inView ls w p e = true) dn_view (at_view (hD.lt i di) qi) qi
  have hg : nd ls w (fun e => inView ls w p e = true) p = (g : Int) := hg
  omega
/-- two steps away from a place -/
def Sec (ls : Lets) (w : List Int) (e : Nat) : Prop := ∃ x q r : Int, nb ls w r (vw ls w q x) = (e : Int)
theorem sec_prim {q x : Int} {e : Nat} (h : vw ls w q x = (e : Int)) : Sec ls w e := ⟨x, q, q, by
  obtain ⟨_, hq, hl⟩ := nd_in (D := fun e => inView ls w x e = true) h
  rw [h, nb_self hl hq]⟩
/-- an event two steps away that is in a view is three steps away there -/
theorem ter {x q r p : Int} {f : Nat} (h : nb ls w r (vw ls w q x) = (f : Int)) (hf : inView ls w p f = true) : ∃ q' r' s' : Int, nb ls w s' (nb ls w r' (vw ls w q' p)) = (f : Int) := by
  have gn : 0 ≤ vw ls w q x := Int.not_lt.mp fun c => by rw [nb_neg c] at h; omega
  obtain ⟨g, hg⟩ := Int.eq_ofNat_of_zero_le gn
  rw [hg, nb_nat] at h
  obtain ⟨vg, qg, lg⟩ := nd_in (D := fun e => inView ls w x e = true) hg
  obtain ⟨bf, rf, lf⟩ := nd_in h
  rcases nd_cross (D := fun e => inView ls w p e = true) dn_view bf hf with vpg | ⟨j, h0, hj, b1, b2⟩
  · obtain ⟨gx, e1, e2, e3, e4, e5⟩ := view_own vg
    rcases nd_cross (D := fun e => inView ls w p e = true) dn_view e2 vpg with vgx | ⟨j, h0, hj, b1, b2⟩
    · have := own_newest (D := fun e => inView ls w p e = true) dn_view e1 vgx
      refine ⟨x, q, r, ?_⟩
      rw [show vw ls w x p = (gx : Int) from this, nb_mid (D := fun e => inView ls w x e = true) dn_view hg e3 e2, nb_nat]
      exact h
    · refine ⟨j, q, r, ?_⟩
      rw [show vw ls w j p = (h0 : Int) from hj, nb_mid (D := fun e => inView ls w x e = true) dn_view hg (own_view e1 b2) b1, nb_nat]
      exact h
  · refine ⟨j, r, r, ?_⟩
    rw [show vw ls w j p = (h0 : Int) from hj, nb_mid (D := fun e => Bel (dep ls w) e g) (dn_bel lg) h b2 b1, nb_self lf rf]
/-- common knowledge of two views passes a newest event of both -/
theorem common {p1 p2 q : Int} {e : Nat} (h : vw ls w q p1 = (e : Int)) (h2 : inView ls w p2 e = true) : ∃ (o y : Int) (m : Nat), vw ls w o p1 = (m : Int) ∧ vw ls w y p2 = (m : Int) ∧ nb ls w q (m : Int) = (e : Int) := by
  obtain ⟨v1, qe, le⟩ := nd_in (D := fun e => inView ls w p1 e = true) h
  obtain ⟨g1, a1, a2, a3, a4, a5⟩ := view_own v1
  obtain ⟨g2, b1, b2, b3, b4, b5⟩ := view_own h2
  -- the greatest common event above e
  have ge0 : (e : Int) ≤ mx (fun h => Bel (dep ls w) e h ∧ inView ls w p1 h = true ∧ inView ls w p2 h = true) w.length := mx_ge le ⟨.refl _, v1, h2⟩
  obtain ⟨m, hm⟩ := Int.eq_ofNat_of_zero_le (show 0 ≤ mx (fun h => Bel (dep ls w) e h ∧ inView ls w p1 h = true ∧ inView ls w p2 h = true) w.length by omega)
  obtain ⟨lm, em, m1, m2⟩ := mx_in hm
  have max : ∀ h0 : Nat, Bel (dep ls w) m h0 → inView ls w p1 h0 = true → inView ls w p2 h0 = true → h0 = m := fun h0 c1 c2 c3 => by
    have : (h0 : Int) ≤ mx (fun h => Bel (dep ls w) e h ∧ inView ls w p1 h = true ∧ inView ls w p2 h = true) w.length := mx_ge ((dn_view (p := p1)).lt h0 c2) ⟨em.trans c1, c2, c3⟩
    have := c1.le
    omega
  obtain ⟨g1', c1, c2, c3, _⟩ := view_own m1
  have : g1' = g1 := by rw [a1] at c1; omega
  subst this
  obtain ⟨g2', d1, d2, d3, _⟩ := view_own m2
  have : g2' = g2 := by rw [b1] at d1; omega
  subst this
  rcases nd_cross (D := fun e => inView ls w p2 e = true) dn_view c2 m2 with z | ⟨j, h0, hj, x1, x2⟩
  · exact ⟨p1, p1, g1', a1, own_newest (D := fun e => inView ls w p2 e = true) dn_view a1 z, nb_mid (D := fun e => inView ls w p1 e = true) dn_view h a3 a2⟩
  · have hm0 : h0 = m := max h0 x1 (own_view a1 x2) (nd_in hj).1
    subst hm0
    rcases nd_cross (D := fun e => inView ls w p1 e = true) dn_view d2 m1 with z | ⟨j', h1, hj', y1, y2⟩
    · exact ⟨p2, p2, g2', own_newest (D := fun e => inView ls w p1 e = true) dn_view b1 z, b1, nb_mid (D := fun e => inView ls w p1 e = true) dn_view h z b2⟩
    · have hm1 : h1 = h0 := max h1 y1 (nd_in hj').1 (own_view b1 y2)
      subst hm1
      exact ⟨j', j, h1, hj', hj, nb_mid (D := fun e => inView ls w p1 e = true) dn_view h m1 em⟩
end
end My
namespace My
open Hq
/-! ### labels of events, tables of labels -/
section
variable {ls : Lets} {w lam : List Int}
theorem list_max : ∀ {l : List Int}, l ≠ [] → ∃ m ∈ l, ∀ y ∈ l, y ≤ m
  | [a], _ => ⟨a, List.mem_cons_self, fun y hy => by rw [List.mem_singleton.mp hy]; omega⟩
  | a :: b :: l, _ => by
    obtain ⟨m, hm, ub⟩ := list_max (l := b :: l) (by simp)
    rcases Int.lt_or_le a m with h | h
    · exact ⟨m, List.mem_cons_of_mem _ hm, fun y hy => (List.mem_cons.mp hy).elim (fun e => by omega) (ub y)⟩
    · exact ⟨a, List.mem_cons_self, fun y hy => (List.mem_cons.mp hy).elim (fun e => by omega) fun h' => by have := ub y h'; omega⟩
/-- old events know what they knew -/
theorem nb_old {q a : Int} {m : Nat} (hm : m < w.length) : nb ls (w ++ [a]) q (m : Int) = nb ls w q (m : Int) := by
  rw [nb_nat, nb_nat]
  unfold nd
  rw [List.length_append, List.length_singleton, mx_skip fun z => by have := z.1.le; omega]
  exact mx_cong fun e he => by
    show Bel (dep ls (w ++ [a])) e m ∧ _ ↔ Bel (dep ls w) e m ∧ _
    rw [bel_app hm, getD_app he]
theorem nb_oldI {q a m : Int} (hm : m < (w.length : Int)) : nb ls (w ++ [a]) q m = nb ls w q m := by
  rcases Int.lt_or_le m 0 with h | h
  · rw [nb_neg h, nb_neg h]
  · obtain ⟨n, rfl⟩ := Int.eq_ofNat_of_zero_le h
    exact nb_old (by omega)
/-- the newest at q of the places of a letter -/
noncomputable def mq (ls : Lets) (w : List Int) (a q : Int) : Int := nwk ls (w ++ [a]) q w.length
theorem mq_is {a q m : Int} (h1 : m ∈ (pl ls a).map fun y => vw ls w q y) (h2 : ∀ y ∈ (pl ls a).map (fun y => vw ls w q y), y ≤ m) : mq ls w a q = m := nwk_max (v := []) h1 h2
theorem mq_ex {a q : Int} (h : pl ls a ≠ []) : ∃ y ∈ pl ls a, mq ls w a q = vw ls w q y ∧ ∀ y' ∈ pl ls a, vw ls w q y' ≤ vw ls w q y := by
  obtain ⟨m, hm, ub⟩ := list_max (l := (pl ls a).map fun y => vw ls w q y) (by simpa using h)
  obtain ⟨y, hy, rfl⟩ := List.mem_map.mp hm
  exact ⟨y, hy, mq_is hm ub, fun y' hy' => ub _ (List.mem_map.mpr ⟨y', hy', rfl⟩)⟩
theorem mq_lt {a q : Int} (h : pl ls a ≠ []) : mq ls w a q < (w.length : Int) := by
  obtain ⟨y, _, e, _⟩ := mq_ex (w := w) (q := q) h
  rw [e]
  exact (nd_rng (D := fun e => inView ls w y e = true)).2
/-- the new event -/
theorem nb_new {a q : Int} : nb ls (w ++ [a]) q (w.length : Int) = if q ∈ pl ls a then (w.length : Int) else mq ls w a q := by
  have hl : w.length < (w ++ [a]).length := by simp
  by_cases c : q ∈ pl ls a
  · rw [if_pos c]
    exact nb_self hl (by rw [getD_last]; exact c)
  · rw [if_neg c, nb_nat]
    unfold nd
    rw [List.length_append, List.length_singleton, mx_skip fun z => c (by have := z.2; rw [getD_last] at this; exact this)]
    rfl
theorem vw_new {a q x : Int} (hx : x ∈ pl ls a) : vw ls (w ++ [a]) q x = nb ls (w ++ [a]) q (w.length : Int) := by
  rw [nb_new]
  exact vw_in (v := []) hx
theorem vw_lt {q x : Int} : vw ls w q x < (w.length : Int) := (nd_rng (D := fun e => inView ls w x e = true)).2
/-- what is two steps away behind a new event -/
theorem sec_step {k : Int} (A : AlphaOk k ls) {a : Int} (ha : 0 ≤ a ∧ a < (ls.length : Int)) {f : Nat} (h : Sec ls (w ++ [a]) f) (hf : f ≠ w.length) :
    (f < w.length ∧ Sec ls w f) ∧ ((w.getD f 0 = a) → ∃ p ∈ pl ls a, ∃ q r s : Int, nb ls w s (nb ls w r (vw ls w q p)) = (f : Int)) := by
  have pne := (A.pl_ok ha).1
  obtain ⟨x, q, r, h⟩ := h
  have lf : f < (w ++ [a]).length := by
    rcases nb_rng (ls := ls) (w := w ++ [a]) (q := r) (m := vw ls (w ++ [a]) q x) with z | z <;> omega
  have lf : f < w.length := by rw [List.length_append, List.length_singleton] at lf; omega
  have prim : ∀ {q y : Int}, y ∈ pl ls a → vw ls w q y = (f : Int) → (f < w.length ∧ Sec ls w f) ∧ ((w.getD f 0 = a) → ∃ p ∈ pl ls a, ∃ q r s : Int, nb ls w s (nb ls w r (vw ls w q p)) = (f : Int)) := fun {q y} hy e => by
    obtain ⟨_, qf, _⟩ := nd_in (D := fun e => inView ls w y e = true) e
    exact ⟨⟨lf, sec_prim e⟩, fun _ => ⟨y, hy, q, q, q, by rw [e, nb_self lf qf, nb_self lf qf]⟩⟩
  by_cases hx : x ∈ pl ls a
  · rw [vw_new hx, nb_new] at h
    by_cases hq : q ∈ pl ls a
    · rw [if_pos hq, nb_new] at h
      by_cases hr : r ∈ pl ls a
      · rw [if_pos hr] at h; omega
      · rw [if_neg hr] at h
        obtain ⟨y, hy, e, _⟩ := mq_ex (w := w) (q := r) pne
        rw [e] at h
        exact prim hy h
    · rw [if_neg hq, nb_oldI (mq_lt pne)] at h
      obtain ⟨y, hy, e, _⟩ := mq_ex (w := w) (q := q) pne
      rw [e] at h
      refine ⟨⟨lf, ⟨y, q, r, h⟩⟩, fun _ => ⟨y, hy, q, q, r, ?_⟩⟩
      have gn : 0 ≤ vw ls w q y := Int.not_lt.mp fun c => by rw [nb_neg c] at h; omega
      obtain ⟨g, hg⟩ := Int.eq_ofNat_of_zero_le gn
      obtain ⟨_, qg, lg⟩ := nd_in (D := fun e => inView ls w y e = true) hg
      rw [hg, nb_self lg qg, ← hg]
      exact h
  · rw [vw_out hx, nb_oldI vw_lt] at h
    refine ⟨⟨lf, ⟨x, q, r, h⟩⟩, fun e => ?_⟩
    obtain ⟨p, hp⟩ : ∃ p, p ∈ pl ls a := List.exists_mem_of_ne_nil _ pne
    obtain ⟨q', r', s', z⟩ := ter h (at_view lf (by rw [e]; exact hp))
    exact ⟨p, hp, q', r', s', z⟩
/-- a label, 0 for none -/
def lb (lam : List Int) (m : Int) : Int := if m < 0 then 0 else lam.getD m.toNat 0
theorem lb_nat {m : Nat} : lb lam (m : Int) = lam.getD m 0 := by unfold lb; rw [if_neg (by omega), Int.toNat_natCast]
/-- the labels are told apart where it matters -/
structure LbOk (ls : Lets) (w lam : List Int) : Prop where
  len : lam.length = w.length
  res : ∀ e, e < w.length → 1 ≤ lam.getD e 0 ∧ (lam.getD e 0 - 1) % (ls.length : Int) = w.getD e 0
  uq : ∀ e f, Sec ls w e → Sec ls w f → lam.getD e 0 = lam.getD f 0 → e = f
theorem lb_nil : LbOk ls [] [] := ⟨rfl, fun e h => by simp at h, fun e f ⟨x, q, r, h⟩ => by
  rcases nb_rng (ls := ls) (w := []) (q := r) (m := vw ls [] q x) with z | z
  · have := z.2; simp at this; omega
  · omega⟩
/-- an entry of a table -/
noncomputable def ent (ls : Lets) (w lam : List Int) (q r s p : Int) : Int := lb lam (nb ls w s (nb ls w r (vw ls w q p)))
theorem lb_app {m c : Int} (h : lam.length = w.length) (hm : m < (w.length : Int)) : lb (lam ++ [c]) m = lb lam m := by
  unfold lb
  by_cases h0 : m < 0
  · rw [if_pos h0, if_pos h0]
  · rw [if_neg h0, if_neg h0, getD_app (by omega)]
theorem nb_lt {q m : Int} : nb ls w q m < (w.length : Int) ∨ nb ls w q m = -1 := by
  rcases nb_rng (ls := ls) (w := w) (q := q) (m := m) with h | h
  · exact .inl h.2
  · exact .inr h
theorem nb_ltI {q m : Int} : nb ls w q m < (w.length : Int) := by rcases nb_lt (ls := ls) (w := w) (q := q) (m := m) with h | h <;> omega
theorem LbOk.step {k : Int} (A : AlphaOk k ls) {a c : Int} (ha : 0 ≤ a ∧ a < (ls.length : Int)) (hw : WordOk ls w) (L : LbOk ls w lam) (h1 : 1 ≤ c) (hc : (c - 1) % (ls.length : Int) = a)
    (fresh : ∀ p ∈ pl ls a, ∀ q r s : Int, (0 ≤ q ∧ q < k) → (0 ≤ r ∧ r < k) → (0 ≤ s ∧ s < k) → ent ls w lam q r s p ≠ c) : LbOk ls (w ++ [a]) (lam ++ [c]) := by
  have gl : (lam ++ [c]).getD w.length 0 = c := by rw [← L.len]; exact getD_last
  have old : ∀ {e : Nat}, e < w.length → (lam ++ [c]).getD e 0 = lam.getD e 0 := fun {e} h => getD_app (by rw [L.len]; exact h)
  have inr : ∀ {q : Int} {e : Nat}, e < w.length → q ∈ pl ls (w.getD e 0) → 0 ≤ q ∧ q < k := fun {q e} he hq => by
    have hx := hw (w.getD e 0) (by rw [List.getD_eq_getElem?_getD, List.getElem?_eq_getElem he]; exact List.getElem_mem he)
    exact (A.ok _ (pl_mem hx.1 hx.2)).2.2 q hq
  have new : ∀ {f : Nat}, Sec ls (w ++ [a]) f → f ≠ w.length → lam.getD f 0 ≠ c := fun {f} hf ne e => by
    obtain ⟨⟨lf, _⟩, z⟩ := sec_step A ha hf ne
    have := (L.res f lf).2
    rw [e, hc] at this
    obtain ⟨p, hp, q, r, s, h⟩ := z this.symm
    -- the three places are there
    have g2 : 0 ≤ nb ls w r (vw ls w q p) := Int.not_lt.mp fun c => by rw [nb_neg c] at h; omega
    obtain ⟨m2, e2⟩ := Int.eq_ofNat_of_zero_le g2
    have g1 : 0 ≤ vw ls w q p := Int.not_lt.mp fun c => by rw [nb_neg c] at e2; omega
    obtain ⟨m1, e1⟩ := Int.eq_ofNat_of_zero_le g1
    have i1 := nd_in (D := fun e => inView ls w p e = true) e1
    have e2' := e2
    rw [e1, nb_nat] at e2'
    have i2 := nd_in e2'
    have h' := h
    rw [e2, nb_nat] at h'
    have i3 := nd_in h'
    refine fresh p hp q r s (inr i1.2.2 i1.2.1) (inr i2.2.2 i2.2.1) (inr i3.2.2 i3.2.1) ?_
    unfold ent
    rw [h, lb_nat, e]
  refine ⟨by rw [List.length_append, List.length_append, L.len]; rfl, fun e he => ?_, fun e f he hf eq => ?_⟩
  · rw [List.length_append, List.length_singleton] at he
    rcases Nat.lt_succ_iff_lt_or_eq.mp he with h | rfl
    · rw [old h, getD_app h]; exact L.res e h
    · rw [gl, getD_last]; exact ⟨h1, hc⟩
  · by_cases ce : e = w.length
    · by_cases cf : f = w.length
      · rw [ce, cf]
      · obtain ⟨⟨lf, _⟩, _⟩ := sec_step A ha hf cf
        rw [ce, gl, old lf] at eq
        exact absurd eq.symm (new hf cf)
    · obtain ⟨⟨le, se⟩, _⟩ := sec_step A ha he ce
      by_cases cf : f = w.length
      · rw [cf, gl, old le] at eq
        exact absurd eq (new he ce)
      · obtain ⟨⟨lf, sf⟩, _⟩ := sec_step A ha hf cf
        rw [old le, old lf] at eq
        exact L.uq e f se sf eq
/-- the tables of places that were not there stay -/
theorem ent_out {a c q r s p : Int} (hl : lam.length = w.length) (hp : p ∉ pl ls a) : ent ls (w ++ [a]) (lam ++ [c]) q r s p = ent ls w lam q r s p := by
  unfold ent
  rw [vw_out hp, nb_oldI vw_lt, nb_oldI nb_ltI, lb_app hl nb_ltI]
theorem nb_vw {q p : Int} : nb ls w q (vw ls w q p) = vw ls w q p := by
  rcases Int.lt_or_le (vw ls w q p) 0 with h | h
  · rw [nb_neg h]
    have : -1 ≤ vw ls w q p := (nd_rng (D := fun e => inView ls w p e = true)).1
    omega
  · obtain ⟨m, hm⟩ := Int.eq_ofNat_of_zero_le h
    obtain ⟨_, qm, lm⟩ := nd_in (D := fun e => inView ls w p e = true) hm
    rw [hm, nb_self lm qm]
/-- the table of the places that meet; y q is the place among them with the newest event of q -/
theorem ent_in {k : Int} (A : AlphaOk k ls) {a c q r s p : Int} (ha : 0 ≤ a ∧ a < (ls.length : Int)) (hl : lam.length = w.length) (hp : p ∈ pl ls a) {y : Int → Int} (hy : ∀ q, y q ∈ pl ls a ∧ ∀ y' ∈ pl ls a, vw ls w q y' ≤ vw ls w q (y q)) :
    ent ls (w ++ [a]) (lam ++ [c]) q r s p = if q ∈ pl ls a then (if r ∈ pl ls a then (if s ∈ pl ls a then c else ent ls w lam s s s (y s)) else ent ls w lam r r s (y r)) else ent ls w lam q r s (y q) := by
  have pne := (A.pl_ok ha).1
  have me : ∀ q, mq ls w a q = vw ls w q (y q) := fun q => mq_is (List.mem_map.mpr ⟨_, (hy q).1, rfl⟩) fun z hz => by
    obtain ⟨y', hy', rfl⟩ := List.mem_map.mp hz
    exact (hy q).2 y' hy'
  unfold ent
  rw [vw_new hp, nb_new]
  by_cases hq : q ∈ pl ls a
  · rw [if_pos hq, if_pos hq, nb_new]
    by_cases hr : r ∈ pl ls a
    · rw [if_pos hr, if_pos hr, nb_new]
      by_cases hs : s ∈ pl ls a
      · rw [if_pos hs, if_pos hs, ← hl, lb_nat]; exact getD_last
      · rw [if_neg hs, if_neg hs, me, lb_app hl vw_lt, nb_vw, nb_vw]
    · rw [if_neg hr, if_neg hr, me, nb_oldI vw_lt, lb_app hl nb_ltI, nb_vw]
  · rw [if_neg hq, if_neg hq, me, nb_oldI vw_lt, nb_oldI nb_ltI, lb_app hl nb_ltI]
/-- labels tell newest events of a place in two views apart -/
theorem lb_vw (L : LbOk ls w lam) {q p1 p2 : Int} : lb lam (vw ls w q p1) = lb lam (vw ls w q p2) ↔ vw ls w q p1 = vw ls w q p2 := by
  constructor
  · intro h
    have r1 : -1 ≤ vw ls w q p1 ∧ vw ls w q p1 < w.length := nd_rng (D := fun e => inView ls w p1 e = true)
    have r2 : -1 ≤ vw ls w q p2 ∧ vw ls w q p2 < w.length := nd_rng (D := fun e => inView ls w p2 e = true)
    unfold lb at h
    by_cases c1 : vw ls w q p1 < 0
    · by_cases c2 : vw ls w q p2 < 0
      · omega
      · rw [if_pos c1, if_neg c2] at h
        have := (L.res (vw ls w q p2).toNat (by omega)).1
        omega
    · by_cases c2 : vw ls w q p2 < 0
      · rw [if_neg c1, if_pos c2] at h
        have := (L.res (vw ls w q p1).toNat (by omega)).1
        omega
      · rw [if_neg c1, if_neg c2] at h
        have := L.uq _ _ (sec_prim (x := p1) (q := q) (e := (vw ls w q p1).toNat) (by omega)) (sec_prim (x := p2) (q := q) (e := (vw ls w q p2).toNat) (by omega)) h
        omega
  · intro h; rw [h]
theorem lb_zero (L : LbOk ls w lam) {q p : Int} : lb lam (vw ls w q p) = 0 ↔ vw ls w q p = -1 := by
  have r1 : -1 ≤ vw ls w q p ∧ vw ls w q p < w.length := nd_rng (D := fun e => inView ls w p e = true)
  unfold lb
  by_cases c : vw ls w q p < 0
  · rw [if_pos c]; omega
  · rw [if_neg c]
    have := (L.res (vw ls w q p).toNat (by omega)).1
    omega
/-- what _is_known looks for -/
theorem known_iff {k : Int} (A : AlphaOk k ls) (hw : WordOk ls w) (L : LbOk ls w lam) {q p1 p2 : Int} {e : Nat} (he : vw ls w q p1 = (e : Int)) :
    (∃ o : Int, (0 ≤ o ∧ o < k) ∧ lb lam (vw ls w o p1) ≠ 0 ∧ (∃ y : Int, (0 ≤ y ∧ y < k) ∧ lb lam (vw ls w y p2) = lb lam (vw ls w o p1)) ∧ lb lam (nb ls w q (vw ls w o p1)) = lb lam (vw ls w q p1)) ↔ inView ls w p2 e = true := by
  constructor
  · rintro ⟨o, _, h1, ⟨y, _, h2⟩, h3⟩
    have n1 : vw ls w o p1 ≠ -1 := fun c => h1 ((lb_zero L).mpr c)
    have r1 : -1 ≤ vw ls w o p1 := (nd_rng (D := fun e => inView ls w p1 e = true)).1
    obtain ⟨m, hm⟩ := Int.eq_ofNat_of_zero_le (show 0 ≤ vw ls w o p1 by omega)
    have n2 : vw ls w y p2 ≠ -1 := fun c => h1 (by rw [← h2]; exact (lb_zero L).mpr c)
    have r2 : -1 ≤ vw ls w y p2 := (nd_rng (D := fun e => inView ls w p2 e = true)).1
    obtain ⟨m2, hm2⟩ := Int.eq_ofNat_of_zero_le (show 0 ≤ vw ls w y p2 by omega)
    have mm : m2 = m := L.uq _ _ (sec_prim hm2) (sec_prim hm) (by rw [hm, hm2, lb_nat, lb_nat] at h2; exact h2)
    subst mm
    have v2 := (nd_in (D := fun e => inView ls w p2 e = true) hm2).1
    rw [he, hm, lb_nat] at h3
    obtain ⟨_, qe, le⟩ := nd_in (D := fun e => inView ls w p1 e = true) he
    have r3 : 0 ≤ nb ls w q (m2 : Int) := Int.not_lt.mp fun c => by
      unfold lb at h3
      rw [if_pos c] at h3
      have := (L.res e le).1
      omega
    obtain ⟨m3, hm3⟩ := Int.eq_ofNat_of_zero_le r3
    have e3 : m3 = e := L.uq _ _ ⟨p1, o, q, by rw [hm]; exact hm3⟩ (sec_prim he) (by rw [hm3, lb_nat] at h3; exact h3)
    subst e3
    rw [nb_nat] at hm3
    exact dn_view.dn _ _ v2 (nd_in hm3).1
  · intro h
    obtain ⟨o, y, m, h1, h2, h3⟩ := common he h
    have inr : ∀ {q : Int} {e : Nat}, e < w.length → q ∈ pl ls (w.getD e 0) → 0 ≤ q ∧ q < k := fun {q e} he hq => by
      have hx := hw (w.getD e 0) (by rw [List.getD_eq_getElem?_getD, List.getElem?_eq_getElem he]; exact List.getElem_mem he)
      exact (A.ok _ (pl_mem hx.1 hx.2)).2.2 q hq
    obtain ⟨_, i1, l1⟩ := nd_in (D := fun e => inView ls w p1 e = true) h1
    obtain ⟨_, i2, l2⟩ := nd_in (D := fun e => inView ls w p2 e = true) h2
    refine ⟨o, inr l1 i1, fun c => ?_, ⟨y, inr l2 i2, by rw [h1, h2]⟩, by rw [h1, h3, he]⟩
    rw [h1, lb_nat] at c
    have := (L.res m l1).1
    omega
/-- and what it comes to -/
theorem known_lt {q p1 p2 : Int} {e : Nat} (he : vw ls w q p1 = (e : Int)) : inView ls w p2 e = true ↔ vw ls w q p1 ≤ vw ls w q p2 := by
  obtain ⟨_, qe, le⟩ := nd_in (D := fun e => inView ls w p1 e = true) he
  constructor
  · intro h
    rw [he]
    exact nd_ge (D := fun e => inView ls w p2 e = true) dn_view h qe
  · intro h
    obtain ⟨m, hm⟩ := Int.eq_ofNat_of_zero_le (show 0 ≤ vw ls w q p2 by omega)
    obtain ⟨vm, qm, _⟩ := nd_in (D := fun e => inView ls w p2 e = true) hm
    exact dn_view.dn e m vm (same_bel qe qm (by omega))
end
end My
namespace My
open Hq
/-! ### machines: what one set of events adds to others -/
section
variable {ls : Lets} {w : List Int}
/-- D is what is below g, and g is the newest event of x in U -/
structure Gn (ls : Lets) (w : List Int) (U D : Nat → Prop) (g : Nat) (x : Int) : Prop where
  eq : ∀ e, D e ↔ Bel (dep ls w) e g
  nw : nd ls w U x = (g : Int)
theorem Gn.in {U D : Nat → Prop} {g : Nat} {x : Int} (h : Gn ls w U D g x) : D g := (h.eq g).mpr (.refl _)
theorem Gn.dn {U D : Nat → Prop} {g : Nat} {x : Int} (h : Gn ls w U D g x) : Dn ls w D := ⟨fun i j hj b => (h.eq i).mpr (b.trans ((h.eq j).mp hj)), fun j hj => by
  have := (nd_in h.nw).2.2
  have := ((h.eq j).mp hj).le
  omega⟩
theorem Gn.sub {U D : Nat → Prop} (hU : Dn ls w U) {g : Nat} {x : Int} (h : Gn ls w U D g x) : ∀ e, D e → U e := fun e he => hU.dn e g (nd_in h.nw).1 ((h.eq e).mp he)
/-- where g is, it is the newest event of x -/
theorem Gn.top {U D D' : Nat → Prop} (hU : Dn ls w U) {g : Nat} {x : Int} (h : Gn ls w U D g x) (hD' : Dn ls w D') (sub : ∀ e, D' e → U e) (hg : D' g) : nd ls w D' x = (g : Int) :=
  nd_is hD' hg (nd_in h.nw).2.1 fun i hi qi => by
    have := nd_ge hU (sub i hi) qi
    rw [h.nw] at this
    omega
/-- what two of them share is below a newest event of both -/
theorem shared {U D1 D2 : Nat → Prop} (hU : Dn ls w U) {g1 g2 : Nat} {x1 x2 : Int} (h1 : Gn ls w U D1 g1 x1) (h2 : Gn ls w U D2 g2 x2) {e : Nat} (e1 : D1 e) (e2 : D2 e) :
    ∃ (o y : Int) (m : Nat), nd ls w D1 o = (m : Int) ∧ nd ls w D2 y = (m : Int) ∧ Bel (dep ls w) e m := by
  have le : e < w.length := h1.dn.lt e e1
  have ge0 : (e : Int) ≤ mx (fun h => Bel (dep ls w) e h ∧ D1 h ∧ D2 h) w.length := mx_ge le ⟨.refl _, e1, e2⟩
  obtain ⟨m, hm⟩ := Int.eq_ofNat_of_zero_le (show 0 ≤ mx (fun h => Bel (dep ls w) e h ∧ D1 h ∧ D2 h) w.length by omega)
  obtain ⟨lm, em, m1, m2⟩ := mx_in hm
  have max : ∀ h0 : Nat, Bel (dep ls w) m h0 → D1 h0 → D2 h0 → h0 = m := fun h0 c1 c2 c3 => by
    have : (h0 : Int) ≤ mx (fun h => Bel (dep ls w) e h ∧ D1 h ∧ D2 h) w.length := mx_ge (h1.dn.lt h0 c2) ⟨em.trans c1, c2, c3⟩
    have := c1.le
    omega
  have b1 := (h1.eq m).mp m1
  have b2 := (h2.eq m).mp m2
  rcases nd_cross h2.dn b1 m2 with z | ⟨j, h0, hj, y1, y2⟩
  · exact ⟨x1, x1, g1, h1.top hU h1.dn (h1.sub hU) h1.in, h1.top hU h2.dn (h2.sub hU) z, em.trans b1⟩
  · have hm0 : h0 = m := max h0 y1 ((h1.eq h0).mpr y2) (nd_in hj).1
    subst hm0
    rcases nd_cross h1.dn b2 m1 with z | ⟨j', h3, hj', z1, z2⟩
    · exact ⟨x2, x2, g2, h2.top hU h1.dn (h1.sub hU) z, h2.top hU h2.dn (h2.sub hU) h2.in, em.trans b2⟩
    · have hm1 : h3 = h0 := max h3 z1 (nd_in hj').1 ((h2.eq h3).mpr z2)
      subst hm1
      exact ⟨j', j, h3, hj', hj, em⟩
/-- the view of a place at which something has happened -/
theorem gn_view {U : Nat → Prop} (hU : Dn ls w U) {p : Int} {g : Nat} (hg : vw ls w p p = (g : Int)) (hs : U g) : Gn ls w U (fun e => inView ls w p e = true) g p := ⟨fun e => ⟨fun h => by
  obtain ⟨g', h1, h2, _⟩ := view_own h
  have : g' = g := by omega
  subst this
  exact h2, fun h => own_view hg h⟩, own_newest hU hg hs⟩
/-- what is below the newest event of a place -/
theorem gn_bel {U : Nat → Prop} {q : Int} {g : Nat} (hg : nd ls w U q = (g : Int)) : Gn ls w U (fun e => Bel (dep ls w) e g) g q := ⟨fun e => Iff.rfl, hg⟩
/-! ### words of sets of events -/
def sub (w : List Int) (X : Nat → Bool) (n : Nat) : List Int := ((List.range n).filter X).map fun e => w.getD e 0
theorem sub_succ {X : Nat → Bool} {n : Nat} : sub w X (n + 1) = sub w X n ++ if X n then [w.getD n 0] else [] := by
  unfold sub
  rw [List.range_succ, List.filter_append, List.map_append]
  congr 1
  by_cases h : X n = true
  · rw [if_pos h, List.filter_cons_of_pos h]; rfl
  · rw [if_neg h, List.filter_cons_of_neg h]; rfl
theorem sub_mem {X : Nat → Bool} {n : Nat} {b : Int} (h : b ∈ sub w X n) : ∃ e, e < n ∧ X e = true ∧ b = w.getD e 0 := by
  unfold sub at h
  obtain ⟨e, he, rfl⟩ := List.mem_map.mp h
  obtain ⟨h1, h2⟩ := List.mem_filter.mp he
  exact ⟨e, List.mem_range.mp h1, h2, rfl⟩
theorem sub_wok (hw : WordOk ls w) {X : Nat → Bool} {n : Nat} (hn : n ≤ w.length) : WordOk ls (sub w X n) := fun b hb => by
  obtain ⟨e, he, _, rfl⟩ := sub_mem hb
  have : e < w.length := by omega
  rw [List.getD_eq_getElem?_getD, List.getElem?_eq_getElem this]
  exact hw _ (List.getElem_mem this)
theorem sub_cong {X Y : Nat → Bool} {n : Nat} (h : ∀ e, e < n → X e = Y e) : sub w X n = sub w Y n := by
  unfold sub
  rw [List.filter_congr fun e he => h e (List.mem_range.mp he)]
theorem sub_none {X : Nat → Bool} {n : Nat} (h : ∀ e, e < n → X e = false) : sub w X n = [] := by
  unfold sub
  rw [List.filter_eq_nil_iff.mpr fun e he => by rw [h e (List.mem_range.mp he)]; decide]; rfl
theorem sub_old {X : Nat → Bool} {n : Nat} {a : Int} (hn : n ≤ w.length) : sub (w ++ [a]) X n = sub w X n := by
  unfold sub
  refine List.map_congr_left fun e he => ?_
  have := List.mem_range.mp (List.mem_filter.mp he).1
  rw [getD_app (by omega)]
theorem Swp.app {u v t : List Int} (h : Swp ls u v) : Swp ls (u ++ t) (v ++ t) := by
  induction h with
  | refl => exact .refl _
  | @step x y a b h f ih =>
    rw [List.append_assoc] at ih ⊢
    exact .step ih f
/-- first one part, then the rest -/
theorem sub_join {X1 X2 : Nat → Bool} : ∀ {n : Nat}, (∀ e, e < n → ¬ (X1 e = true ∧ X2 e = true)) → (∀ e f, e < f → f < n → X2 e = true → X1 f = true → free ls (w.getD e 0) (w.getD f 0) = true) → Swp ls (sub w (fun e => X1 e || X2 e) n) (sub w X1 n ++ sub w X2 n)
  | 0, _, _ => .refl _
  | n + 1, h1, h2 => by
    have ih := sub_join (n := n) (fun e he => h1 e (by omega)) (fun e f h hf => h2 e f h (by omega))
    rw [sub_succ, sub_succ, sub_succ]
    by_cases c1 : X1 n = true
    · have c2 : X2 n = false := by
        cases h : X2 n with
        | false => rfl
        | true => exact absurd ⟨c1, h⟩ (h1 n (by omega))
      rw [if_pos (by simp [c1]), if_pos c1, c2, if_neg (by decide), List.append_nil]
      have t := ih.app (t := [w.getD n 0])
      rw [List.append_assoc] at t
      have t2 := Swp.trans1 (u := sub w X1 n) (r := sub w X2 n) (a := w.getD n 0) (v := []) t fun b hb => by
        obtain ⟨e, he, x, rfl⟩ := sub_mem hb
        exact h2 e n he (by omega) x c1
      rw [List.append_nil] at t2
      rw [List.append_assoc]
      exact t2
    · have c1 : X1 n = false := by simpa using c1
      by_cases c2 : X2 n = true
      · rw [if_pos (by simp [c2]), if_pos c2, c1, if_neg (by decide), List.append_nil, ← List.append_assoc]
        exact ih.app
      · have c2 : X2 n = false := by simpa using c2
        rw [c1, c2]
        simpa using ih
/-! ### which newest events of a view are in sets that are known by their labels -/
structure Fam (ls : Lets) (w lam : List Int) (k : Int) (U : Nat → Prop) (F : (Nat → Prop) → Prop) (L : List Int) : Prop where
  gn : ∀ D, F D → ∀ e, D e → ∃ g x, Gn ls w U D g x
  sec : ∀ D, F D → ∀ (r : Int) (e : Nat), nd ls w D r = (e : Int) → Sec ls w e
  lab : ∀ z, z ≠ 0 → (z ∈ L ↔ ∃ D, F D ∧ ∃ r : Int, (0 ≤ r ∧ r < k) ∧ z = lb lam (nd ls w D r))
theorem pick {k : Int} (A : AlphaOk k ls) (hw : WordOk ls w) {lam : List Int} (Lb : LbOk ls w lam) {U : Nat → Prop} (hU : Dn ls w U) {F : (Nat → Prop) → Prop} {L : List Int} (h : Fam ls w lam k U F L) {p : Int} (hp : ∀ e, inView ls w p e = true → U e) {e : Nat} (he : inView ls w p e = true) :
    (∃ D, F D ∧ D e) ↔ ∃ r : Int, (0 ≤ r ∧ r < k) ∧ lb lam (vw ls w r p) ≠ 0 ∧ lb lam (vw ls w r p) ∈ L ∧ ∃ g : Nat, vw ls w r p = (g : Int) ∧ Bel (dep ls w) e g := by
  have inr : ∀ {q : Int} {e : Nat}, e < w.length → q ∈ pl ls (w.getD e 0) → 0 ≤ q ∧ q < k := fun {q e} he hq => by
    have hx := hw (w.getD e 0) (by rw [List.getD_eq_getElem?_getD, List.getElem?_eq_getElem he]; exact List.getElem_mem he)
    exact (A.ok _ (pl_mem hx.1 hx.2)).2.2 q hq
  constructor
  · rintro ⟨D, hF, hD⟩
    obtain ⟨g, x, gn⟩ := h.gn D hF e hD
    obtain ⟨g1, a1, a2, a3, a4, a5⟩ := view_own he
    obtain ⟨o, y, m, h1, h2, h3⟩ := shared hU (gn_view hU a1 (hp g1 a3)) gn he hD
    obtain ⟨_, om, lm⟩ := nd_in h1
    obtain ⟨_, ym, _⟩ := nd_in h2
    have nz : lb lam (m : Int) ≠ 0 := fun c => by
      rw [lb_nat] at c
      have := (Lb.res m lm).1
      omega
    have v1 : vw ls w o p = (m : Int) := h1
    refine ⟨o, inr lm om, by rw [v1]; exact nz, ?_, m, v1, h3⟩
    rw [v1]
    exact (h.lab _ nz).mpr ⟨D, hF, y, inr lm ym, by rw [h2]⟩
  · rintro ⟨r, _, nz, hL, g, hg, b⟩
    obtain ⟨D, hF, r', _, hz⟩ := (h.lab _ nz).mp hL
    refine ⟨D, hF, ?_⟩
    rw [hg] at hz nz
    have n0 : 0 ≤ nd ls w D r' := Int.not_lt.mp fun c => by
      rw [hz] at nz
      unfold lb at nz
      rw [if_pos c] at nz
      exact nz rfl
    obtain ⟨m, hm⟩ := Int.eq_ofNat_of_zero_le n0
    have eq : g = m := Lb.uq _ _ (sec_prim hg) (h.sec D hF r' m hm) (by rw [hm, lb_nat, lb_nat] at hz; exact hz)
    subst eq
    obtain ⟨dg, _, _⟩ := nd_in hm
    obtain ⟨g2, x2, gn⟩ := h.gn D hF g dg
    exact gn.dn.dn e g dg b
/-! ### turns -/
/-- letters that do not meet commute -/
def Cmt (B : Au) (ls : Lets) : Prop := ∀ s, B.In s → ∀ a b : Int, (0 ≤ a ∧ a < (ls.length : Int)) → (0 ≤ b ∧ b < (ls.length : Int)) → free ls a b = true → nxA B (nxA B s a.toNat) b.toNat = nxA B (nxA B s b.toNat) a.toNat
/-- equivalent words lead from each state to the same one -/
theorem swp_runS {B : Au} (O : B.Ok) (hL : B.L = ls.length) (c : Cmt B ls) {s : Int} (hs : B.In s) {u v : List Int} (h : Swp ls u v) (hu : WordOk ls u) : runA B s u = runA B s v := by
  induction h with
  | refl => rfl
  | @step x y a b h hf ih =>
    rw [ih]
    have hw := (h.word hu).1
    have wx : LetOk B x := fun d hd => by rw [hL]; exact hw d (List.mem_append_left _ hd)
    have ha := hw a (List.mem_append_right _ List.mem_cons_self)
    have hb := hw b (List.mem_append_right _ (List.mem_cons_of_mem _ List.mem_cons_self))
    rw [runA_app, runA_app]
    show runA B (nxA B (nxA B (runA B s x) a.toNat) b.toNat) y = runA B (nxA B (nxA B (runA B s x) b.toNat) a.toNat) y
    rw [c _ (runA_in O hs wx) a b ha hb hf]
theorem run_join {B : Au} (O : B.Ok) (hL : B.L = ls.length) (c : Cmt B ls) {s : Int} (hs : B.In s) (hw : WordOk ls w) {X1 X2 : Nat → Bool} (h1 : ∀ e, e < w.length → ¬ (X1 e = true ∧ X2 e = true)) (h2 : ∀ e f, e < f → f < w.length → X2 e = true → X1 f = true → free ls (w.getD e 0) (w.getD f 0) = true) :
    runA B (runA B s (sub w X1 w.length)) (sub w X2 w.length) = runA B s (sub w (fun e => X1 e || X2 e) w.length) := by
  rw [← runA_app]
  exact (swp_runS O hL c hs (sub_join h1 h2) (sub_wok hw (Nat.le_refl _))).symm
open Classical in
/-- the events of a set that are in no set of a family -/
noncomputable def out (V : Nat → Prop) (G : Nat → Prop) (e : Nat) : Bool := decide (V e ∧ ¬ G e)
theorem out_iff {V G : Nat → Prop} {e : Nat} : out V G e = true ↔ V e ∧ ¬ G e := by unfold out; simp
/-- view by view, without what an earlier one has -/
theorem run_views {B : Au} (O : B.Ok) (hL : B.L = ls.length) (c : Cmt B ls) {s : Int} (hs : B.In s) (hw : WordOk ls w) {D0 W V : Nat → Prop} (hWd : Dn ls w W) (hVd : Dn ls w V) (h0 : Dn ls w D0) :
    runA B (runA B s (sub w (out W D0) w.length)) (sub w (out V fun e => D0 e ∨ W e) w.length) = runA B s (sub w (out (fun e => W e ∨ V e) D0) w.length) := by
  rw [run_join O hL c hs hw]
  · congr 1
    refine sub_cong fun e he => ?_
    rw [Bool.eq_iff_iff, Bool.or_eq_true, out_iff, out_iff, out_iff]
    constructor
    · rintro (⟨h1, h2⟩ | ⟨h1, h2⟩)
      · exact ⟨.inl h1, h2⟩
      · exact ⟨.inr h1, fun h => h2 (.inl h)⟩
    · rintro ⟨h1, h2⟩
      by_cases c : W e
      · exact .inl ⟨c, h2⟩
      · rcases h1 with h1 | h1
        · exact absurd h1 c
        · exact .inr ⟨h1, fun h => by rcases h with h | h; exact h2 h; exact c h⟩
  · rintro e he ⟨h1, h2⟩
    exact (out_iff.mp h2).2 (.inr (out_iff.mp h1).1)
  · intro e f hef hf h1 h2
    cases hd : free ls (w.getD e 0) (w.getD f 0) with
    | true => rfl
    | false =>
      refine absurd (hWd.dn e f (out_iff.mp h2).1 (.step (.refl _) hef ?_)) fun h => (out_iff.mp h1).2 (.inr h)
      unfold dep
      rw [hd]; rfl
theorem out_cong {V G G' : Nat → Prop} (h : ∀ e, V e → (G e ↔ G' e)) : out V G = out V G' := by
  funext e
  rw [Bool.eq_iff_iff, out_iff, out_iff]
  exact ⟨fun ⟨a, b⟩ => ⟨a, fun z => b ((h e a).mpr z)⟩, fun ⟨a, b⟩ => ⟨a, fun z => b ((h e a).mp z)⟩⟩
/-- below the newest event, in a view, of a place of a set -/
def bey (ls : Lets) (w : List Int) (p : Int) (C : Int → Prop) (e : Nat) : Prop := ∃ q, C q ∧ ∃ g : Nat, vw ls w q p = (g : Int) ∧ Bel (dep ls w) e g
/-- the turn of a set of places at a place -/
noncomputable def trn (B : Au) (ls : Lets) (w : List Int) (p : Int) (C : Int → Prop) (s : Int) : Int := runA B s (sub w (out (fun e => inView ls w p e = true) (bey ls w p C)) w.length)
/-- a place of the new event is in the set: nothing is left -/
theorem trn_still {B : Au} {a p q : Int} {C : Int → Prop} (hp : p ∈ pl ls a) (hq : q ∈ pl ls a) (hC : C q) {s : Int} : trn B ls (w ++ [a]) p C s = s := by
  unfold trn
  rw [sub_none]
  · rfl
  · intro e he
    refine Bool.eq_false_iff.mpr fun h => ?_
    obtain ⟨h1, h2⟩ := out_iff.mp h
    refine h2 ⟨q, hC, w.length, ?_, ?_⟩
    · rw [vw_new hp, nb_new, if_pos hq]
    · obtain ⟨g, b1, b2, _⟩ := view_own h1
      rw [vw_new hp, nb_new, if_pos hp] at b1
      rw [show w.length = g by omega]
      exact b2
/-- it meets the others: the new event is the last one -/
theorem trn_meet {B : Au} {a p : Int} {C : Int → Prop} (hp : p ∈ pl ls a) (hC : ∀ q, C q → q ∉ pl ls a) {s : Int} : trn B ls (w ++ [a]) p C s = nxA B (runA B s (sub w (out (fun e => ∃ y ∈ pl ls a, inView ls w y e = true) fun e => ∃ q, C q ∧ ∃ g : Nat, mq ls w a q = (g : Int) ∧ Bel (dep ls w) e g) w.length)) a.toNat := by
  have mql : ∀ {q : Int} {g : Nat}, mq ls w a q = (g : Int) → g < w.length := fun {q g} h => by
    have := mq_lt (ls := ls) (w := w) (a := a) (q := q) (List.ne_nil_of_mem hp)
    omega
  have bq : ∀ {q : Int}, q ∉ pl ls a → vw ls (w ++ [a]) q p = mq ls w a q := fun hq => by rw [vw_new hp, nb_new, if_neg hq]
  unfold trn
  rw [List.length_append, List.length_singleton, sub_succ, if_pos, sub_old (Nat.le_refl _), getD_last, runA_snoc]
  · congr 2
    refine sub_cong fun e he => ?_
    rw [Bool.eq_iff_iff, out_iff, out_iff, view_in hp he]
    refine and_congr Iff.rfl (not_congr ?_)
    constructor
    · rintro ⟨q, hq, g, h1, h2⟩
      rw [bq (hC q hq)] at h1
      exact ⟨q, hq, g, h1, (bel_app (mql h1)).mp h2⟩
    · rintro ⟨q, hq, g, h1, h2⟩
      exact ⟨q, hq, g, by rw [bq (hC q hq)]; exact h1, (bel_app (mql h1)).mpr h2⟩
  · refine out_iff.mpr ⟨view_last hp, ?_⟩
    rintro ⟨q, hq, g, h1, h2⟩
    rw [bq (hC q hq)] at h1
    have := h2.le
    have := mql h1
    omega
/-- the turns of the other places stay -/
theorem trn_out {B : Au} {a p : Int} {C : Int → Prop} (hp : p ∉ pl ls a) {s : Int} : trn B ls (w ++ [a]) p C s = trn B ls w p C s := by
  have vl : ∀ {q : Int} {g : Nat}, vw ls w q p = (g : Int) → g < w.length := fun {q g} h => (nd_in (D := fun e => inView ls w p e = true) h).2.2
  unfold trn
  rw [List.length_append, List.length_singleton, sub_succ, if_neg, List.append_nil, sub_old (Nat.le_refl _)]
  · congr 1
    refine sub_cong fun e he => ?_
    rw [Bool.eq_iff_iff, out_iff, out_iff, view_out hp (Nat.le_of_lt he)]
    refine and_congr ⟨fun h => h.2, fun h => ⟨he, h⟩⟩ (not_congr ?_)
    constructor
    · rintro ⟨q, hq, g, h1, h2⟩
      rw [vw_out hp] at h1
      exact ⟨q, hq, g, h1, (bel_app (vl h1)).mp h2⟩
    · rintro ⟨q, hq, g, h1, h2⟩
      exact ⟨q, hq, g, by rw [vw_out hp]; exact h1, (bel_app (vl h1)).mpr h2⟩
  · intro h
    have := ((view_out hp (Nat.le_refl _)).mp (out_iff.mp h).1).1
    omega
/-- all views together are all events -/
theorem views_all {k : Int} (A : AlphaOk k ls) (hw : WordOk ls w) {e : Nat} (he : e < w.length) : ∃ p : Int, (0 ≤ p ∧ p < k) ∧ inView ls w p e = true := by
  have hx := hw (w.getD e 0) (by rw [List.getD_eq_getElem?_getD, List.getElem?_eq_getElem he]; exact List.getElem_mem he)
  obtain ⟨ne, _, r⟩ := A.ok _ (pl_mem hx.1 hx.2)
  obtain ⟨p, hp⟩ := List.exists_mem_of_ne_nil _ ne
  exact ⟨p, r p hp, at_view he hp⟩
theorem sub_all {X : Nat → Bool} (h : ∀ e, e < w.length → X e = true) : sub w X w.length = w := by
  unfold sub
  rw [List.filter_eq_self.mpr fun e he => h e (List.mem_range.mp he)]
  refine List.ext_getElem (by simp) fun i h1 h2 => ?_
  rw [List.getElem_map, List.getElem_range, List.getD_eq_getElem?_getD, List.getElem?_eq_getElem h2]; rfl
end
end My
namespace My
open Hq
/-! ### the tables as lists -/
/-- rows of one length, one behind the other -/
def blk {α : Type} (n : Nat) (f : Nat → List α) : List α := (List.range n).flatMap f
theorem blk_succ {α : Type} {n : Nat} {f : Nat → List α} : blk (n + 1) f = blk n f ++ f n := by unfold blk; rw [List.range_succ, List.flatMap_append]; simp
theorem blk_len {α : Type} {m : Nat} {f : Nat → List α} : ∀ {n : Nat}, (∀ i, i < n → (f i).length = m) → (blk n f).length = n * m
  | 0, _ => by simp [blk]
  | n + 1, h => by
    rw [blk_succ, List.length_append, blk_len fun i hi => h i (by omega), h n (by omega), Nat.succ_mul]
theorem blk_drop {α : Type} {m : Nat} {f : Nat → List α} : ∀ {n : Nat}, (∀ i, i < n → (f i).length = m) → ∀ i, i < n → ((blk n f).drop (i * m)).take m = f i
  | n + 1, h, i, hi => by
    have hn := fun j (hj : j < n) => h j (by omega)
    have bl := blk_len hn
    rw [blk_succ]
    rcases Nat.lt_succ_iff_lt_or_eq.mp hi with c | rfl
    · have le : i * m + m ≤ n * m := by rw [← Nat.succ_mul]; exact Nat.mul_le_mul_right m c
      rw [List.drop_append_of_le_length (by omega), List.take_append_of_le_length (by rw [List.length_drop]; omega), blk_drop hn i c]
    · rw [← bl, List.drop_left, List.take_of_length_le (by rw [h i (by omega)]; exact Nat.le_refl _)]
theorem blk_mem {α : Type} {f : Nat → List α} {n : Nat} {x : α} : x ∈ blk n f ↔ ∃ i, i < n ∧ x ∈ f i := by
  unfold blk
  rw [List.mem_flatMap]
  exact ⟨fun ⟨i, h1, h2⟩ => ⟨i, List.mem_range.mp h1, h2⟩, fun ⟨i, h1, h2⟩ => ⟨i, List.mem_range.mpr h1, h2⟩⟩
theorem blk_cong {α : Type} {f g : Nat → List α} {n : Nat} (h : ∀ i, i < n → f i = g i) : blk n f = blk n g := by
  induction n with
  | zero => rfl
  | succ n ih => rw [blk_succ, blk_succ, ih fun i hi => h i (by omega), h n (by omega)]
section
variable {ls : Lets} {w lam : List Int}
noncomputable def trow (ls : Lets) (w lam : List Int) (k : Nat) (p : Int) (q r : Nat) : List Int := (List.range k).map fun s : Nat => ent ls w lam q r s p
noncomputable def tpage (ls : Lets) (w lam : List Int) (k : Nat) (p : Int) (q : Nat) : List Int := blk k (trow ls w lam k p q)
noncomputable def tab (ls : Lets) (w lam : List Int) (k : Nat) (p : Int) : List Int := blk k (tpage ls w lam k p)
theorem trow_len {k : Nat} {p : Int} {q r : Nat} : (trow ls w lam k p q r).length = k := by unfold trow; simp
theorem tpage_len {k : Nat} {p : Int} {q : Nat} : (tpage ls w lam k p q).length = k * k := blk_len fun i _ => trow_len
theorem tab_len {k : Nat} {p : Int} : (tab ls w lam k p).length = k * (k * k) := blk_len fun i _ => tpage_len
theorem tab_page {k q : Nat} {p : Int} (hq : q < k) : ((tab ls w lam k p).drop (q * (k * k))).take (k * k) = tpage ls w lam k p q := blk_drop (fun i _ => tpage_len) q hq
theorem tbl_row {k q r : Nat} {p : Int} (hq : q < k) (hr : r < k) : ((tab ls w lam k p).drop ((q * k + r) * k)).take k = trow ls w lam k p q r := by
  have h1 := tab_page (ls := ls) (w := w) (lam := lam) (p := p) hq
  have h2 := blk_drop (f := trow ls w lam k p q) (n := k) (m := k) (fun i _ => trow_len) r hr
  have h2 : ((tpage ls w lam k p q).drop (r * k)).take k = trow ls w lam k p q r := h2
  rw [← h1, List.drop_take, List.take_take, List.drop_drop, Nat.min_eq_left] at h2
  · rw [← h2]
    congr 2
    rw [Nat.add_mul, Nat.mul_assoc]
  · have : r * k + k ≤ k * k := by rw [← Nat.succ_mul]; exact Nat.mul_le_mul_right k hr
    omega
theorem tab_get {k q r s : Nat} {p : Int} (hq : q < k) (hr : r < k) (hs : s < k) : (tab ls w lam k p)[(q * k + r) * k + s]? = some (ent ls w lam q r s p) := by
  have h := tbl_row (ls := ls) (w := w) (lam := lam) (p := p) hq hr
  have e : ((tab ls w lam k p).drop ((q * k + r) * k))[s]? = (trow ls w lam k p q r)[s]? := by rw [← h, List.getElem?_take_of_lt hs]
  rw [List.getElem?_drop] at e
  rw [e]
  unfold trow
  rw [List.getElem?_map, List.getElem?_range hs]; rfl
theorem tab_mem {k : Nat} {p x : Int} : x ∈ tab ls w lam k p ↔ ∃ q r s : Nat, q < k ∧ r < k ∧ s < k ∧ x = ent ls w lam q r s p := by
  unfold tab
  rw [blk_mem]
  constructor
  · rintro ⟨q, hq, h⟩
    obtain ⟨r, hr, h⟩ := blk_mem.mp h
    obtain ⟨s, hs, rfl⟩ := List.mem_map.mp h
    exact ⟨q, r, s, hq, hr, List.mem_range.mp hs, rfl⟩
  · rintro ⟨q, r, s, hq, hr, hs, rfl⟩
    exact ⟨q, hq, blk_mem.mpr ⟨r, hr, List.mem_map.mpr ⟨s, List.mem_range.mpr hs, rfl⟩⟩⟩
theorem ent_nil {q r s p : Int} : ent ls [] [] q r s p = 0 := by
  have : nb ls [] s (nb ls [] r (vw ls [] q p)) = -1 := by
    rcases nb_rng (ls := ls) (w := []) (q := s) (m := nb ls [] r (vw ls [] q p)) with z | z
    · have := z.2; simp at this; omega
    · exact z
  unfold ent lb
  rw [this]; rfl
theorem tab_nil {k : Nat} {p : Int} : tab ls [] [] k p = List.replicate (k * (k * k)) 0 := by
  refine List.eq_replicate_iff.mpr ⟨tab_len, fun x hx => ?_⟩
  obtain ⟨q, r, s, _, _, _, rfl⟩ := tab_mem.mp hx
  exact ent_nil
/-- the known label, the known row -/
theorem ent_prim {q s p : Int} : ent ls w lam q q s p = lb lam (nb ls w s (vw ls w q p)) := by unfold ent; rw [nb_vw]
theorem ent_prim2 {q p : Int} : ent ls w lam q q q p = lb lam (vw ls w q p) := by rw [ent_prim, nb_vw]
/-- a bound for all labels -/
structure LbB (lam : List Int) (B : Int) : Prop where
  b : ∀ x ∈ lam, 0 ≤ x ∧ x ≤ B
/-- what compare comes to -/
noncomputable def cmpV (ls : Lets) (w : List Int) (q p1 p2 : Int) : Int := if vw ls w q p1 = vw ls w q p2 then 0 else if vw ls w q p1 < vw ls w q p2 then -1 else 1
/-- pages and rows that are put together anew -/
def newRow (k : Nat) (P : List Int) (c : Int) (f : Nat → Int) : List Int := (List.range k).map fun s : Nat => if (s : Int) ∈ P then c else f s
theorem tab_new {k : Int} (A : AlphaOk k ls) {a c p : Int} (ha : 0 ≤ a ∧ a < (ls.length : Int)) (hl : lam.length = w.length) (hp : p ∈ pl ls a) {y : Int → Int} (hy : ∀ q, y q ∈ pl ls a ∧ ∀ y' ∈ pl ls a, vw ls w q y' ≤ vw ls w q (y q)) :
    tab ls (w ++ [a]) (lam ++ [c]) k.toNat p = blk k.toNat fun q => if (q : Int) ∈ pl ls a then (blk k.toNat fun r => if (r : Int) ∈ pl ls a then newRow k.toNat (pl ls a) c (fun s => ent ls w lam s s s (y s)) else trow ls w lam k.toNat (y r) r r) else tpage ls w lam k.toNat (y q) q := by
  unfold tab
  refine blk_cong fun q _ => ?_
  by_cases hq : (q : Int) ∈ pl ls a
  · rw [if_pos hq]
    unfold tpage
    refine blk_cong fun r _ => ?_
    by_cases hr : (r : Int) ∈ pl ls a
    · rw [if_pos hr]
      unfold trow newRow
      refine List.map_congr_left fun s _ => ?_
      rw [ent_in A ha hl hp hy, if_pos hq, if_pos hr]
    · rw [if_neg hr]
      unfold trow
      refine List.map_congr_left fun s _ => ?_
      rw [ent_in A ha hl hp hy, if_pos hq, if_neg hr]
  · rw [if_neg hq]
    unfold tpage
    refine blk_cong fun r _ => ?_
    unfold trow
    refine List.map_congr_left fun s _ => ?_
    rw [ent_in A ha hl hp hy, if_neg hq]
theorem tab_out {k : Nat} {a c p : Int} (hl : lam.length = w.length) (hp : p ∉ pl ls a) : tab ls (w ++ [a]) (lam ++ [c]) k p = tab ls w lam k p := by
  unfold tab
  refine blk_cong fun q _ => ?_
  unfold tpage
  refine blk_cong fun r _ => ?_
  unfold trow
  exact List.map_congr_left fun s _ => ent_out hl hp
/-- a label that stands in no table -/
theorem few_labels {l : List Int} {L x0 : Int} (hL : 1 ≤ L) : ∃ n : Nat, n ≤ l.length ∧ x0 + (n : Int) * L ∉ l ∧ ∀ m : Nat, m < n → x0 + (m : Int) * L ∈ l := by
  have ex : ∃ n : Nat, n ≤ l.length ∧ x0 + (n : Int) * L ∉ l := Classical.byContradiction fun h => by
    have all : ∀ n ∈ (List.range (l.length + 1)).map (fun n : Nat => x0 + (n : Int) * L), n ∈ l := fun x hx => by
      obtain ⟨n, hn, rfl⟩ := List.mem_map.mp hx
      have := List.mem_range.mp hn
      exact Classical.byContradiction fun c => h ⟨n, by omega, c⟩
    have nd : ((List.range (l.length + 1)).map fun n : Nat => x0 + (n : Int) * L).Nodup := by
      refine (List.nodup_range).map _ ?_ 
      intro a b hab e
      have : (a : Int) * L = (b : Int) * L := by omega
      have := Int.eq_of_mul_eq_mul_right (by omega) this
      omega
    have := nodup_le nd all
    simp at this
    omega
  have key : ∀ N : Nat, (∃ n, n ≤ N ∧ x0 + (n : Int) * L ∉ l) → ∃ n, n ≤ N ∧ x0 + (n : Int) * L ∉ l ∧ ∀ m : Nat, m < n → x0 + (m : Int) * L ∈ l := by
    intro N
    induction N with
    | zero => rintro ⟨n, hn, h⟩; exact ⟨n, hn, h, fun m hm => by omega⟩
    | succ N ih =>
      rintro ⟨n, hn, h⟩
      by_cases c : ∃ n, n ≤ N ∧ x0 + (n : Int) * L ∉ l
      · obtain ⟨n, h1, h2, h3⟩ := ih c
        exact ⟨n, by omega, h2, h3⟩
      · refine ⟨n, hn, h, fun m hm => Classical.byContradiction fun z => c ⟨m, by omega, z⟩⟩
  exact key _ ex
end
end My
namespace My
open Hq
/-! ### view by view: the labels tell what is left -/
section
variable {ls : Lets} {w lam : List Int}
/-- the events in the views of some places -/
def Uv (ls : Lets) (w ys : List Int) (e : Nat) : Prop := ∃ y ∈ ys, inView ls w y e = true
theorem uv_dn {ys : List Int} : Dn ls w (Uv ls w ys) := ⟨fun i j ⟨y, hy, h⟩ b => ⟨y, hy, dn_view.dn i j h b⟩, fun j ⟨y, _, h⟩ => (dn_view (p := y)).lt j h⟩
/-- below the newest event, in these views, of a place of a set -/
def Dq (ls : Lets) (w ys : List Int) (C : Int → Prop) (e : Nat) : Prop := ∃ q, C q ∧ ∃ g : Nat, nd ls w (Uv ls w ys) q = (g : Int) ∧ Bel (dep ls w) e g
theorem dq_dn {ys : List Int} {C : Int → Prop} : Dn ls w (Dq ls w ys C) := ⟨fun i j ⟨q, hq, g, h1, h2⟩ b => ⟨q, hq, g, h1, b.trans h2⟩, fun j ⟨q, _, g, h1, h2⟩ => by
  have := (nd_in h1).2.2
  have := h2.le
  omega⟩
theorem nd_uv {ys : List Int} {q : Int} {g : Nat} (h : nd ls w (Uv ls w ys) q = (g : Int)) : ∃ y ∈ ys, vw ls w q y = (g : Int) := by
  obtain ⟨⟨y, hy, hv⟩, hq, lg⟩ := nd_in h
  refine ⟨y, hy, ?_⟩
  exact nd_is (D := fun e => inView ls w y e = true) dn_view hv hq fun i hi qi => by
    have := nd_ge uv_dn (show Uv ls w ys i from ⟨y, hy, hi⟩) qi
    rw [h] at this
    omega
/-- the sets that are dealt with before the view of the i-th place -/
def Fm (ls : Lets) (w ys : List Int) (C : Int → Prop) (i : Nat) (D : Nat → Prop) : Prop :=
  (∃ q, C q ∧ ∃ g : Nat, nd ls w (Uv ls w ys) q = (g : Int) ∧ D = fun e => Bel (dep ls w) e g) ∨ ∃ y ∈ ys.take i, D = fun e => inView ls w y e = true
theorem fm_iff {ys : List Int} {C : Int → Prop} {i e : Nat} : (∃ D, Fm ls w ys C i D ∧ D e) ↔ Dq ls w ys C e ∨ Uv ls w (ys.take i) e := by
  constructor
  · rintro ⟨D, ⟨q, hq, g, h1, rfl⟩ | ⟨y, hy, rfl⟩, h⟩
    · exact .inl ⟨q, hq, g, h1, h⟩
    · exact .inr ⟨y, hy, h⟩
  · rintro (⟨q, hq, g, h1, h2⟩ | ⟨y, hy, h⟩)
    · exact ⟨_, .inl ⟨q, hq, g, h1, rfl⟩, h2⟩
    · exact ⟨_, .inr ⟨y, hy, rfl⟩, h⟩
/-- the labels that the program has then -/
structure Lbs (ls : Lets) (w lam ys : List Int) (k : Int) (C : Int → Prop) (i : Nat) (L : List Int) : Prop where
  m : ∀ z, z ≠ 0 → (z ∈ L ↔ (∃ q, C q ∧ ∃ r : Int, (0 ≤ r ∧ r < k) ∧ z = lb lam (nb ls w r (nd ls w (Uv ls w ys) q))) ∨ ∃ y ∈ ys.take i, ∃ r : Int, (0 ≤ r ∧ r < k) ∧ z = lb lam (vw ls w r y))
theorem fam {k : Int} {ys : List Int} {C : Int → Prop} {i : Nat} {L : List Int} (h : Lbs ls w lam ys k C i L) : Fam ls w lam k (Uv ls w ys) (Fm ls w ys C i) L where
  gn := by
    rintro D (⟨q, hq, g, h1, rfl⟩ | ⟨y, hy, rfl⟩) e he
    · exact ⟨g, q, gn_bel h1⟩
    · obtain ⟨g, a1, a2, a3, _⟩ := view_own he
      exact ⟨g, y, gn_view uv_dn a1 ⟨y, List.mem_of_mem_take hy, a3⟩⟩
  sec := by
    rintro D (⟨q, hq, g, h1, rfl⟩ | ⟨y, hy, rfl⟩) r e he
    · obtain ⟨y, _, hv⟩ := nd_uv h1
      exact ⟨y, q, r, by rw [hv, nb_nat]; exact he⟩
    · exact sec_prim (x := y) (q := r) he
  lab := fun z hz => by
    rw [h.m z hz]
    constructor
    · rintro (⟨q, hq, r, hr, e⟩ | ⟨y, hy, r, hr, e⟩)
      · have n0 : 0 ≤ nd ls w (Uv ls w ys) q := Int.not_lt.mp fun c => by
          rw [nb_neg c] at e
          exact hz e
        obtain ⟨g, hg⟩ := Int.eq_ofNat_of_zero_le n0
        exact ⟨_, .inl ⟨q, hq, g, hg, rfl⟩, r, hr, by rw [e, hg, nb_nat]⟩
      · exact ⟨_, .inr ⟨y, hy, rfl⟩, r, hr, e⟩
    · rintro ⟨D, ⟨q, hq, g, h1, rfl⟩ | ⟨y, hy, rfl⟩, r, hr, e⟩
      · exact .inl ⟨q, hq, r, hr, by rw [e, h1, nb_nat]⟩
      · exact .inr ⟨y, hy, r, hr, e⟩
/-- the places whose newest events in a view have their labels among them -/
def Chl (ls : Lets) (w lam : List Int) (k : Int) (L : List Int) (y r : Int) : Prop := (0 ≤ r ∧ r < k) ∧ lb lam (vw ls w r y) ≠ 0 ∧ lb lam (vw ls w r y) ∈ L
/-- the turn of these places is the word of what is left of the view -/
theorem trn_left {k : Int} (A : AlphaOk k ls) (hw : WordOk ls w) (Lb : LbOk ls w lam) {ys : List Int} {C : Int → Prop} {i : Nat} {L : List Int} (h : Lbs ls w lam ys k C i L) {y : Int} (hy : ys[i]? = some y) {B : Au} {s : Int} :
    trn B ls w y (Chl ls w lam k L y) s = runA B s (sub w (out (fun e => inView ls w y e = true) fun e => Dq ls w ys C e ∨ Uv ls w (ys.take i) e) w.length) := by
  unfold trn
  rw [out_cong (G' := fun e => Dq ls w ys C e ∨ Uv ls w (ys.take i) e)]
  intro e he
  rw [← fm_iff, pick A hw Lb uv_dn (fam h) (fun e he => ⟨y, List.mem_of_getElem? hy, he⟩) he]
  unfold bey Chl
  constructor
  · rintro ⟨r, ⟨hr, h1, h2⟩, g, h3, h4⟩; exact ⟨r, hr, h1, h2, g, h3, h4⟩
  · rintro ⟨r, hr, h1, h2, g, h3, h4⟩; exact ⟨r, ⟨hr, h1, h2⟩, g, h3, h4⟩
/-- one view more -/
theorem run_one {B : Au} (O : B.Ok) (hL : B.L = ls.length) (c : Cmt B ls) {k : Int} (A : AlphaOk k ls) (hw : WordOk ls w) (Lb : LbOk ls w lam) {ys : List Int} {C : Int → Prop} {i : Nat} {L : List Int} (h : Lbs ls w lam ys k C i L) {y : Int} (hy : ys[i]? = some y) {s : Int} (hs : B.In s) :
    trn B ls w y (Chl ls w lam k L y) (runA B s (sub w (out (Uv ls w (ys.take i)) (Dq ls w ys C)) w.length)) = runA B s (sub w (out (Uv ls w (ys.take (i + 1))) (Dq ls w ys C)) w.length) := by
  rw [trn_left A hw Lb h hy, run_views O hL c hs hw uv_dn dn_view dq_dn]
  congr 1
  refine sub_cong fun e _ => ?_
  rw [Bool.eq_iff_iff, out_iff, out_iff]
  refine and_congr ?_ Iff.rfl
  have tk : ys.take (i + 1) = ys.take i ++ [y] := by rw [List.take_add_one, hy]; rfl
  unfold Uv
  rw [tk]
  constructor
  · rintro (⟨y', h1, h2⟩ | h)
    · exact ⟨y', List.mem_append_left _ h1, h2⟩
    · exact ⟨y, List.mem_append_right _ List.mem_cons_self, h⟩
  · rintro ⟨y', h1, h2⟩
    rcases List.mem_append.mp h1 with h1 | h1
    · exact .inl ⟨y', h1, h2⟩
    · rw [List.mem_singleton.mp h1] at h2; exact .inr h2
theorem run_zero {B : Au} {ys : List Int} {C : Int → Prop} {s : Int} : runA B s (sub w (out (Uv ls w (ys.take 0)) (Dq ls w ys C)) w.length) = s := by
  rw [sub_none]
  · rfl
  · intro e _
    refine Bool.eq_false_iff.mpr fun h => ?_
    obtain ⟨⟨y, hy, _⟩, _⟩ := out_iff.mp h
    rw [List.take_zero] at hy
    cases hy
/-- the newest event of q in the views of the places that meet -/
theorem mq_nd {a q : Int} : mq ls w a q = nd ls w (Uv ls w (pl ls a)) q := by
  unfold mq nd Uv
  rw [nwk_view (v := [])]
  exact mx_cong fun e _ => ⟨fun ⟨p, h1, h2, h3⟩ => ⟨⟨p, h1, h2⟩, h3⟩, fun ⟨⟨p, h1, h2⟩, h3⟩ => ⟨p, h1, h2, h3⟩⟩
end
end My
namespace My
open Hq PySem
/-! ### the states of machines -/
section
variable {ls : Lets} {w lam : List Int} {B : Au}
/-- the places whose bits a number has -/
def Bt (k m : Nat) (q : Int) : Prop := (0 ≤ q ∧ q < (k : Int)) ∧ m.testBit q.toNat = true
/-- the turn of a set of places, state by state -/
noncomputable def tun (B : Au) (ls : Lets) (w : List Int) (p : Int) (C : Int → Prop) : List Int := (List.range B.R.length).map fun s : Nat => trn B ls w p C (s : Int)
theorem tun_len {p : Int} {C : Int → Prop} : (tun B ls w p C).length = B.R.length := by unfold tun; simp
theorem tun_at {p : Int} {C : Int → Prop} {s : Int} (hs : B.In s) : ((tun B ls w p C).map PyData.int)[s.toNat]? = some (.int (trn B ls w p C s)) := by
  obtain ⟨h0, h1⟩ := hs
  unfold tun
  rw [List.getElem?_map, List.getElem?_map, List.getElem?_range (by omega)]
  show some (PyData.int (trn B ls w p C ((s.toNat : Nat) : Int))) = _
  rw [Int.toNat_of_nonneg h0]
theorem tun_cong {p : Int} {C C' : Int → Prop} (h : ∀ q, C q ↔ C' q) : tun B ls w p C = tun B ls w p C' := by
  rw [show C = C' from funext fun q => propext (h q)]
/-- the state of a place -/
noncomputable def mac (B : Au) (ls : Lets) (w lam : List Int) (k : Nat) (p : Int) : List Int := tab ls w lam k p ++ blk (2 ^ k) fun m => tun B ls w p (Bt k m)
theorem mac_len {k : Nat} {p : Int} : (mac B ls w lam k p).length = k * (k * k) + 2 ^ k * B.R.length := by
  unfold mac
  rw [List.length_append, tab_len, blk_len fun i _ => tun_len]
theorem mac_tab {k : Nat} {p : Int} : (mac B ls w lam k p).take (k * (k * k)) = tab ls w lam k p := by
  unfold mac
  rw [← tab_len (ls := ls) (w := w) (lam := lam) (k := k) (p := p), List.take_left]
theorem mac_turn {k m : Nat} {p : Int} (hm : m < 2 ^ k) : ((mac B ls w lam k p).drop (k * (k * k) + m * B.R.length)).take B.R.length = tun B ls w p (Bt k m) := by
  unfold mac
  rw [← List.drop_drop, ← tab_len (ls := ls) (w := w) (lam := lam) (k := k) (p := p), List.drop_left, blk_drop (fun i _ => tun_len) m hm]
theorem tun_still {a p q : Int} {C : Int → Prop} (hp : p ∈ pl ls a) (hq : q ∈ pl ls a) (hC : C q) : tun B ls (w ++ [a]) p C = (List.range B.R.length).map fun s : Nat => (s : Int) := by
  unfold tun
  exact List.map_congr_left fun s _ => trn_still hp hq hC
theorem tun_nil {p : Int} {C : Int → Prop} : tun B ls [] p C = (List.range B.R.length).map fun s : Nat => (s : Int) := rfl
theorem tun_out {a p : Int} {C : Int → Prop} (hp : p ∉ pl ls a) : tun B ls (w ++ [a]) p C = tun B ls w p C := by
  unfold tun
  exact List.map_congr_left fun s _ => trn_out hp
theorem mac_out {k : Nat} {a c p : Int} (hl : lam.length = w.length) (hp : p ∉ pl ls a) : mac B ls (w ++ [a]) (lam ++ [c]) k p = mac B ls w lam k p := by
  unfold mac
  rw [tab_out hl hp]
  congr 1
  exact blk_cong fun m _ => tun_out hp
/-- the word of what the views of some places have, without what is below the newest events of a set of places -/
noncomputable def wrd (ls : Lets) (w ys : List Int) (C : Int → Prop) (i : Nat) : List Int := sub w (out (Uv ls w (ys.take i)) (Dq ls w ys C)) w.length
theorem wrd_ok (hw : WordOk ls w) {ys : List Int} {C : Int → Prop} {i : Nat} : WordOk ls (wrd ls w ys C i) := sub_wok hw (Nat.le_refl _)
/-- a meeting -/
theorem tun_meet {a p : Int} {C : Int → Prop} (hp : p ∈ pl ls a) (hC : ∀ q, C q → q ∉ pl ls a) : tun B ls (w ++ [a]) p C = (List.range B.R.length).map fun s : Nat => nxA B (runA B (s : Int) (wrd ls w (pl ls a) C (pl ls a).length)) a.toNat := by
  unfold tun wrd
  refine List.map_congr_left fun s _ => ?_
  rw [trn_meet hp hC, List.take_length]
  congr 2
  refine sub_cong fun e _ => ?_
  rw [Bool.eq_iff_iff, out_iff, out_iff]
  refine and_congr Iff.rfl (not_congr ?_)
  unfold Dq
  constructor
  · rintro ⟨q, hq, g, h1, h2⟩; exact ⟨q, hq, g, by rw [← mq_nd]; exact h1, h2⟩
  · rintro ⟨q, hq, g, h1, h2⟩; exact ⟨q, hq, g, by rw [mq_nd]; exact h1, h2⟩
/-- all views, nothing left out: the word itself -/
theorem wrd_all {k : Nat} (A : AlphaOk (k : Int) ls) (hw : WordOk ls w) {C : Int → Prop} (hC : ∀ q, ¬ C q) : wrd ls w ((List.range k).map fun q : Nat => (q : Int)) C k = w := by
  unfold wrd
  refine sub_all fun e he => out_iff.mpr ⟨?_, fun ⟨q, hq, _⟩ => hC q hq⟩
  obtain ⟨p, hp, hv⟩ := views_all A hw he
  refine ⟨p, ?_, hv⟩
  rw [List.take_of_length_le (by simp)]
  exact List.mem_map.mpr ⟨p.toNat, List.mem_range.mpr (by omega), by omega⟩
/-- one view more, from each state -/
theorem wrd_step (O : B.Ok) (hL : B.L = ls.length) (c : Cmt B ls) {k : Int} (A : AlphaOk k ls) (hw : WordOk ls w) (Lb : LbOk ls w lam) {ys : List Int} {C : Int → Prop} {i : Nat} {L : List Int} (h : Lbs ls w lam ys k C i L) {y : Int} (hy : ys[i]? = some y) {s : Int} (hs : B.In s) :
    trn B ls w y (Chl ls w lam k L y) (runA B s (wrd ls w ys C i)) = runA B s (wrd ls w ys C (i + 1)) := run_one O hL c A hw Lb h hy hs
theorem wrd_zero {ys : List Int} {C : Int → Prop} {s : Int} : runA B s (wrd ls w ys C 0) = s := run_zero
end
end My
namespace My
open Hq PySem
/-! ### the program's numbers of sets of places, and its lists of labels -/
section
variable {ls : Lets} {w lam : List Int} {B : Au}
/-- the number with the bits of some places -/
def bsN (f : Nat → Bool) : Nat → Nat
  | 0 => 0
  | n + 1 => if f n then bsN f n ||| 2 ^ n else bsN f n
theorem bsN_lt {f : Nat → Bool} : ∀ n, bsN f n < 2 ^ n
  | 0 => Nat.zero_lt_one
  | n + 1 => by
    have ih := bsN_lt (f := f) n
    have h2 : 2 ^ n < 2 ^ (n + 1) := Nat.pow_lt_pow_right (by decide) (Nat.lt_succ_self n)
    unfold bsN
    split
    · exact Nat.or_lt_two_pow (Nat.lt_trans ih h2) h2
    · exact Nat.lt_trans ih h2
theorem bsN_bit {f : Nat → Bool} {q : Nat} : ∀ n, (bsN f n).testBit q = (decide (q < n) && f q)
  | 0 => by simp [bsN]
  | n + 1 => by
    have ih := bsN_bit (f := f) (q := q) n
    unfold bsN
    by_cases e : q = n
    · subst e
      split
      · rename_i h; rw [Nat.testBit_or, ih, Nat.testBit_two_pow_self]; simp [h]
      · rename_i h; rw [ih]; simp [h]
    · have e2 : decide (q < n + 1) = decide (q < n) := decide_eq_decide.mpr (by omega)
      rw [e2]
      split
      · rw [Nat.testBit_or, ih, Nat.testBit_two_pow, show decide (n = q) = false from decide_eq_false (fun z : n = q => e z.symm), Bool.or_false]
      · exact ih
/-- the test of the places whose labels are among some -/
noncomputable def chB (ls : Lets) (w lam L : List Int) (y : Int) (q : Nat) : Bool := !decide (lb lam (vw ls w (q : Int) y) = 0) && decide (lb lam (vw ls w (q : Int) y) ∈ L)
theorem bt_chl {k : Nat} {L : List Int} {y q : Int} : Bt k (bsN (chB ls w lam L y) k) q ↔ Chl ls w lam (k : Int) L y q := by
  unfold Bt Chl
  refine and_congr_right fun h => ?_
  rw [bsN_bit]
  unfold chB
  rw [Bool.and_eq_true, Bool.and_eq_true, decide_eq_true_iff, decide_eq_true_iff, Int.toNat_of_nonneg h.1]
  constructor
  · rintro ⟨_, h1, h2⟩; exact ⟨by simpa using h1, h2⟩
  · rintro ⟨h1, h2⟩; exact ⟨by omega, by simpa using h1, h2⟩
theorem tun_chl {k : Nat} {L : List Int} {y : Int} : tun B ls w y (Bt k (bsN (chB ls w lam L y) k)) = tun B ls w y (Chl ls w lam (k : Int) L y) := tun_cong fun _ => bt_chl
theorem lbs_nil {ys : List Int} {k : Int} : Lbs ls w lam ys k (fun _ => False) 0 [] := ⟨fun z _ => ⟨fun h => absurd h List.not_mem_nil, fun h => by
  rcases h with ⟨_, h, _⟩ | ⟨y, hy, _⟩
  · exact h.elim
  · rw [List.take_zero] at hy; cases hy⟩⟩
/-- what the newest event of a place, where some meet, knows of all places -/
noncomputable def rowM (ls : Lets) (w lam : List Int) (k : Nat) (a : Int) (q : Nat) : List Int := (List.range k).map fun s : Nat => lb lam (nb ls w (s : Int) (mq ls w a (q : Int)))
theorem rowM_len {k : Nat} {a : Int} {q : Nat} : (rowM ls w lam k a q).length = k := by unfold rowM; simp
theorem rowM_of {k : Nat} {a y : Int} {q : Nat} (h : mq ls w a (q : Int) = vw ls w (q : Int) y) : trow ls w lam k y q q = rowM ls w lam k a q := by
  unfold trow rowM
  exact List.map_congr_left fun s _ => by rw [ent_prim, h]
/-- the rows of a set of places -/
noncomputable def knwM (ls : Lets) (w lam : List Int) (k : Nat) (a : Int) (m : Nat) : List (List Int) := ((List.range k).filter fun q => m.testBit q).map (rowM ls w lam k a)
theorem knwM_len {k : Nat} {a : Int} {m : Nat} : (knwM ls w lam k a m).length ≤ k := by
  unfold knwM
  rw [List.length_map]
  exact Nat.le_trans (List.length_filter_le _ _) (by rw [List.length_range]; exact Nat.le_refl _)
theorem knwM_row {k : Nat} {a : Int} {m : Nat} : ∀ r ∈ knwM ls w lam k a m, r.length = k := fun r hr => by
  obtain ⟨q, _, rfl⟩ := List.mem_map.mp hr
  exact rowM_len
theorem lbs_knw {k : Nat} {a : Int} {m : Nat} : Lbs ls w lam (pl ls a) (k : Int) (Bt k m) 0 (knwM ls w lam k a m).flatten := ⟨fun z _ => by
  rw [List.mem_flatten]
  constructor
  · rintro ⟨r, hr, hz⟩
    obtain ⟨q, hq, rfl⟩ := List.mem_map.mp hr
    obtain ⟨h1, h2⟩ := List.mem_filter.mp hq
    obtain ⟨s, hs, rfl⟩ := List.mem_map.mp hz
    have h1 := List.mem_range.mp h1
    have hs := List.mem_range.mp hs
    exact .inl ⟨(q : Int), ⟨⟨by omega, by omega⟩, by simpa using h2⟩, (s : Int), ⟨by omega, by omega⟩, by rw [← mq_nd]⟩
  · rintro (⟨q, ⟨h1, h2⟩, r, hr, e⟩ | ⟨y, hy, _⟩)
    · refine ⟨rowM ls w lam k a q.toNat, List.mem_map.mpr ⟨q.toNat, List.mem_filter.mpr ⟨List.mem_range.mpr (by omega), h2⟩, rfl⟩, List.mem_map.mpr ⟨r.toNat, List.mem_range.mpr (by omega), ?_⟩⟩
      rw [Int.toNat_of_nonneg hr.1, Int.toNat_of_nonneg h1.1, mq_nd, e]
    · rw [List.take_zero] at hy; cases hy⟩
theorem lbs_step {k : Nat} {ys L : List Int} {C : Int → Prop} {i : Nat} {y : Int} (h : Lbs ls w lam ys (k : Int) C i L) (hy : ys[i]? = some y) : Lbs ls w lam ys (k : Int) C (i + 1) (L ++ (List.range k).map fun q : Nat => ent ls w lam q q q y) := ⟨fun z hz => by
  have tk : ys.take (i + 1) = ys.take i ++ [y] := by rw [List.take_add_one, hy]; rfl
  rw [List.mem_append, h.m z hz, tk]
  constructor
  · rintro ((h | ⟨y', h1, h2⟩) | h)
    · exact .inl h
    · exact .inr ⟨y', List.mem_append_left _ h1, h2⟩
    · obtain ⟨q, hq, rfl⟩ := List.mem_map.mp h
      have hq := List.mem_range.mp hq
      exact .inr ⟨y, List.mem_append_right _ List.mem_cons_self, (q : Int), ⟨by omega, by omega⟩, ent_prim2⟩
  · rintro (h | ⟨y', h1, r, hr, e⟩)
    · exact .inl (.inl h)
    · rcases List.mem_append.mp h1 with h1 | h1
      · exact .inl (.inr ⟨y', h1, r, hr, e⟩)
      · rw [List.mem_singleton.mp h1] at e
        refine .inr (List.mem_map.mpr ⟨r.toNat, List.mem_range.mpr (by omega), ?_⟩)
        rw [ent_prim2, Int.toNat_of_nonneg hr.1, e]⟩
/-- the turns of the states of some places, view by view -/
noncomputable def trnW (B : Au) (ls : Lets) (w ys : List Int) (C : Int → Prop) (i : Nat) : List Int := (List.range B.R.length).map fun s : Nat => runA B (s : Int) (wrd ls w ys C i)
theorem trnW_len {ys : List Int} {C : Int → Prop} {i : Nat} : (trnW B ls w ys C i).length = B.R.length := by unfold trnW; simp
theorem trnW_zero {ys : List Int} {C : Int → Prop} : trnW B ls w ys C 0 = (List.range B.R.length).map fun s : Nat => (s : Int) := by
  unfold trnW
  exact List.map_congr_left fun s _ => wrd_zero
theorem trnW_in (O : B.Ok) (hL : B.L = ls.length) (hw : WordOk ls w) {ys : List Int} {C : Int → Prop} {i : Nat} : ∀ t ∈ trnW B ls w ys C i, B.In t := fun t ht => by
  obtain ⟨s, hs, rfl⟩ := List.mem_map.mp ht
  have hs := List.mem_range.mp hs
  exact runA_in O ⟨by omega, by omega⟩ fun a ha => by rw [hL]; exact wrd_ok hw a ha
theorem trnW_step (O : B.Ok) (hL : B.L = ls.length) (c : Cmt B ls) {k : Int} (A : AlphaOk k ls) (hw : WordOk ls w) (Lb : LbOk ls w lam) {ys : List Int} {C : Int → Prop} {i : Nat} {L : List Int} (h : Lbs ls w lam ys k C i L) {y : Int} (hy : ys[i]? = some y) :
    (trnW B ls w ys C i).map (fun t => trn B ls w y (Chl ls w lam k L y) t) = trnW B ls w ys C (i + 1) := by
  unfold trnW
  rw [List.map_map]
  refine List.map_congr_left fun s hs => ?_
  have hs := List.mem_range.mp hs
  exact wrd_step O hL c A hw Lb h hy ⟨by omega, by omega⟩
theorem tun_meetW {a p : Int} {C : Int → Prop} (hp : p ∈ pl ls a) (hC : ∀ q, C q → q ∉ pl ls a) : tun B ls (w ++ [a]) p C = (trnW B ls w (pl ls a) C (pl ls a).length).map fun t => nxA B t a.toNat := by
  rw [tun_meet hp hC]
  unfold trnW
  rw [List.map_map]; rfl
/-- what the machines say -/
theorem trnW_all {k : Nat} (A : AlphaOk (k : Int) ls) (hw : WordOk ls w) {C : Int → Prop} (hC : ∀ q, ¬ C q) {s : Int} (hs : B.In s) : (trnW B ls w ((List.range k).map fun q : Nat => (q : Int)) C k)[s.toNat]? = some (runA B s w) := by
  obtain ⟨h1, h2⟩ := hs
  unfold trnW
  rw [List.getElem?_map, List.getElem?_range (by omega), wrd_all A hw hC]
  show some (runA B ((s.toNat : Nat) : Int) w) = _
  rw [Int.toNat_of_nonneg h1]
theorem blk_constH {α : Type} {l : List α} : ∀ {n : Nat}, blk n (fun _ => l) = (List.replicate n l).flatten
  | 0 => rfl
  | n + 1 => by
    have ih := blk_constH (l := l) (n := n)
    rw [blk_succ, ih, List.replicate_succ', List.flatten_append]
    simp
theorem mac_nil {k : Nat} {p : Int} : mac B ls [] [] k p = List.replicate (k * (k * k)) 0 ++ (List.replicate (2 ^ k) ((List.range B.R.length).map fun s : Nat => (s : Int))).flatten := by
  unfold mac
  rw [tab_nil, blk_cong (g := fun _ => (List.range B.R.length).map fun s : Nat => (s : Int)) fun m _ => tun_nil]
  congr 1
  exact blk_constH
end
end My
namespace My
open Hq PySem
/-! ### automata of sides and counters: letters that do not meet commute -/
section
variable {ls : Lets}
theorem free_no {a b p : Int} (h : free ls a b = true) (h1 : p ∈ pl ls a) (h2 : p ∈ pl ls b) : False := by
  unfold free at h
  exact disj_iff.mp h p h1 h2
theorem nd_inj {α : Type} {l : List α} {x : α} {i j : Nat} (nd : l.Nodup) (h1 : l[i]? = some x) (h2 : l[j]? = some x) : i = j := by
  obtain ⟨a1, b1⟩ := List.getElem?_eq_some_iff.mp h1
  obtain ⟨a2, b2⟩ := List.getElem?_eq_some_iff.mp h2
  have pw := List.pairwise_iff_getElem.mp (List.nodup_iff_pairwise_ne.mp nd)
  rcases Nat.lt_trichotomy i j with h | h | h
  · exact absurd (b1.trans b2.symm) (pw i j a1 a2 h)
  · exact h
  · exact absurd (b2.trans b1.symm) (pw j i a2 a1 h)
def sx (S : List (List Int)) (x : Int) (a : Nat) : Int := (S.getD x.toNat []).getD a 0
def SdCm (ls : Lets) (S : List (List Int)) : Prop := ∀ x : Int, 0 ≤ x ∧ x < (S.length : Int) → ∀ a b : Nat, a < ls.length → b < ls.length → free ls (a : Int) (b : Int) = true → sx S (sx S x a) b = sx S (sx S x b) a
def afT (Ss : List (List (List Int))) (f : List Int) (a : Nat) : List Int := (List.range Ss.length).map fun k : Nat => sx (Ss.getD k []) (f.getD k 0) a
theorem afT_at {Ss : List (List (List Int))} {f : List Int} {a k : Nat} (h : k < Ss.length) : (afT Ss f a).getD k 0 = sx (Ss.getD k []) (f.getD k 0) a := getD_map_range h
theorem afT_cm {Ss : List (List (List Int))} {f : List Int} (hf : TupOk Ss f) (hS : ∀ S ∈ Ss, SdCm ls S) {a b : Nat} (ha : a < ls.length) (hb : b < ls.length) (h : free ls (a : Int) (b : Int) = true) : afT Ss (afT Ss f a) b = afT Ss (afT Ss f b) a := by
  unfold afT
  refine List.map_congr_left fun k hk => ?_
  have hk := List.mem_range.mp hk
  have e1 := afT_at (f := f) (a := a) hk
  have e2 := afT_at (f := f) (a := b) hk
  unfold afT at e1 e2
  rw [e1, e2]
  have hm : Ss.getD k [] ∈ Ss := by rw [List.getD_eq_getElem?_getD, List.getElem?_eq_getElem hk]; exact List.getElem_mem hk
  exact hS _ hm _ (hf.2 k hk) a b ha hb h
/-- rows in which letters that are not at a place leave each state -/
theorem side_cm {S : List (List Int)} {p : Int} (hS : ∀ r ∈ S, ∀ x ∈ r, 0 ≤ x ∧ x < (S.length : Int)) (hL : ∀ r ∈ S, r.length = ls.length) (h : ∀ (i : Nat) (r : List Int), S[i]? = some r → ∀ a : Nat, a < ls.length → p ∉ ls.getD a [] → r.getD a 0 = (i : Int)) : SdCm ls S := by
  intro x hx a b ha hb hf
  have key : ∀ (x : Int) (a : Nat), 0 ≤ x ∧ x < (S.length : Int) → a < ls.length → p ∉ ls.getD a [] → sx S x a = x := fun x a hx ha hp => by
    have hl : x.toNat < S.length := by omega
    unfold sx
    rw [List.getD_eq_getElem?_getD (l := S), List.getElem?_eq_getElem hl]
    show S[x.toNat].getD a 0 = x
    rw [h x.toNat _ (List.getElem?_eq_getElem hl) a ha hp]
    omega
  have inr : ∀ (x : Int) (a : Nat), 0 ≤ x ∧ x < (S.length : Int) → a < ls.length → 0 ≤ sx S x a ∧ sx S x a < (S.length : Int) := fun x a hx ha => by
    have hl : x.toNat < S.length := by omega
    unfold sx
    rw [List.getD_eq_getElem?_getD (l := S), List.getElem?_eq_getElem hl]
    have hm := List.getElem_mem hl
    have l2 := hL _ hm
    refine hS _ hm _ ?_
    show S[x.toNat].getD a 0 ∈ S[x.toNat]
    rw [List.getD_eq_getElem?_getD, List.getElem?_eq_getElem (by omega)]
    exact List.getElem_mem _
  by_cases c : p ∈ ls.getD a []
  · have c2 : p ∉ ls.getD b [] := fun z => by
      have : free ls (a : Int) (b : Int) = false := by
        refine Bool.eq_false_iff.mpr fun hh => ?_
        exact free_no hh (p := p) (by unfold pl; rw [Int.toNat_natCast]; exact c) (by unfold pl; rw [Int.toNat_natCast]; exact z)
      rw [this] at hf; cases hf
    rw [key _ b (inr x a hx ha) hb c2, key x b hx hb c2]
  · rw [key x a hx ha c, key _ a (inr x b hx hb) ha c]
theorem count_cm {n : Nat} {sz : Nat} (h0 : 0 < sz) {st : List Int} (hn : n = ls.length) : SdCm ls ((List.range sz).map fun k : Nat => (List.range n).map fun c : Nat => ((k : Int) + st.getD c 0) % (sz : Int)) := by
  intro x hx a b ha hb _
  rw [List.length_map, List.length_range] at hx
  have key : ∀ (x : Int) (a : Nat), 0 ≤ x ∧ x < (sz : Int) → a < ls.length → sx ((List.range sz).map fun k : Nat => (List.range n).map fun c : Nat => ((k : Int) + st.getD c 0) % (sz : Int)) x a = (x + st.getD a 0) % (sz : Int) := fun x a hx ha => by
    unfold sx
    rw [List.getD_eq_getElem?_getD (i := x.toNat), List.getElem?_map, List.getElem?_range (by omega)]
    show ((List.range n).map _).getD a 0 = _
    rw [getD_map_range (by omega), Int.toNat_of_nonneg hx.1]
  have r := fun x : Int => (⟨Int.emod_nonneg x (by omega), Int.emod_lt_of_pos x (by omega)⟩ : 0 ≤ x % (sz : Int) ∧ x % (sz : Int) < (sz : Int))
  rw [key x a hx ha, key x b hx hb, key _ b (r _) hb, key _ a (r _) ha, Int.emod_add_emod, Int.emod_add_emod]
  congr 1
  omega
/-- the automaton of the found tuples -/
theorem found_cm {A : Au} {Ss : List (List (List Int))} {Fd : List (List Int)} (O : A.Ok) (hL : A.L = ls.length) (nd : Fd.Nodup) (fl : A.R.length = Fd.length) (fok : ∀ f ∈ Fd, TupOk Ss f) (hS : ∀ S ∈ Ss, SdCm ls S)
    (h : ∀ (i : Nat) (r : List Int), A.R[i]? = some r → ∃ f, Fd[i]? = some f ∧ ∀ a : Nat, a < ls.length → Fd[(r.getD a 0).toNat]? = some (afT Ss f a)) : Cmt A ls := by
  intro s hs a b ha hb hf
  have step : ∀ {s : Int} {f : List Int} {a : Nat}, A.In s → Fd[s.toNat]? = some f → a < ls.length → Fd[(nxA A s a).toNat]? = some (afT Ss f a) := fun {s f a} hs hf ha => by
    obtain ⟨f', h1, h2⟩ := h _ _ (Au.row_at hs)
    rw [hf] at h1
    cases h1
    exact h2 a ha
  obtain ⟨f, hfs⟩ : ∃ f, Fd[s.toNat]? = some f := ⟨_, List.getElem?_eq_getElem (by have := hs.1; have := hs.2; omega)⟩
  have a1 : a.toNat < ls.length := by omega
  have b1 : b.toNat < ls.length := by omega
  have sa := nxA_in O hs (a := a.toNat) (by omega)
  have sb := nxA_in O hs (a := b.toNat) (by omega)
  have e1 := step sa (step hs hfs a1) b1
  have e2 := step sb (step hs hfs b1) a1
  rw [← afT_cm (fok f (List.mem_of_getElem? hfs)) hS a1 b1 (by rw [Int.toNat_of_nonneg ha.1, Int.toNat_of_nonneg hb.1]; exact hf)] at e2
  have i1 := nxA_in O sa (a := b.toNat) (by omega)
  have i2 := nxA_in O sb (a := a.toNat) (by omega)
  have := nd_inj nd e1 e2
  have := i1.1
  have := i2.1
  omega
/-- what commutes in an automaton commutes in its least one -/
theorem cmt_min {A : Au} (O : A.Ok) (hL : A.L = ls.length) (c : Cmt A ls) : Cmt (minA A) ls := by
  intro s hs a b ha hb hf
  have MO := mok O
  have ML : (minA A).L = A.L := rfl
  have i1 := nxA_in MO (nxA_in MO hs (a := a.toNat) (by omega)) (a := b.toNat) (by omega)
  have i2 := nxA_in MO (nxA_in MO hs (a := b.toNat) (by omega)) (a := a.toNat) (by omega)
  refine min_apart O i1 i2 fun k => ?_
  rw [min_eqn O k i1 i2]
  have la : LetOk A [a, b] := fun x hx => by
    rw [hL]
    rcases List.mem_cons.mp hx with rfl | hx
    · exact ha
    · rw [List.mem_singleton.mp hx]; exact hb
  have lb : LetOk A [b, a] := fun x hx => by
    rw [hL]
    rcases List.mem_cons.mp hx with rfl | hx
    · exact hb
    · rw [List.mem_singleton.mp hx]; exact ha
  have r1 := min_run O hs la
  have r2 := min_run O hs lb
  have e : runA A (cAt A s) [a, b] = runA A (cAt A s) [b, a] := c _ (cAt_in O hs) a b ha hb hf
  rw [← e] at r2
  exact (r1 k).trans (r2 k).symm
end
end My
namespace My
open PySem L2 Hq
/-! ### the text by places -/
def top (i : Nat) : Stmt := PySem.Challenge.pw_placewords_k24_players.main.body.getD i (.Pass ⟨0, 0, 0, 0⟩)
abbrev s_mask_of : Stmt := top 8
abbrev s_Alphabet_init : Stmt := inClass (top 12) 0
abbrev s__check_letter : Stmt := top 13
abbrev s_independent : Stmt := top 14
abbrev s_independent_pairs : Stmt := top 15
abbrev s_ready_letters : Stmt := top 17
abbrev s_is_ready : Stmt := top 18
abbrev s_moved_heads : Stmt := top 19
abbrev s_Automaton_init : Stmt := inClass (top 21) 0
abbrev s__check_states : Stmt := top 22
abbrev s_final_marks : Stmt := top 23
abbrev s_least : Stmt := top 24
abbrev s__reached_states : Stmt := top 25
abbrev s_state_classes : Stmt := top 26
abbrev s_is_closed : Stmt := top 28
abbrev s_empty_table : Stmt := top 30
abbrev s_known_row : Stmt := top 31
abbrev s_known_label : Stmt := top 32
abbrev s_known_labels : Stmt := top 33
abbrev s_compare_tables : Stmt := top 34
abbrev s__is_known : Stmt := top 35
abbrev s_best_views : Stmt := top 36
abbrev s_met_table : Stmt := top 37
abbrev s__new_label : Stmt := top 38
abbrev s_Machines_init : Stmt := inClass (top 41) 0
abbrev s_Machines_start : Stmt := inClass (top 41) 1
abbrev s_Machines_meet : Stmt := inClass (top 41) 2
abbrev s_Machines_accepts : Stmt := inClass (top 41) 3
abbrev s_Machines__table : Stmt := inClass (top 41) 4
abbrev s_Machines__newest_rows : Stmt := inClass (top 41) 5
abbrev s_Machines__turn_beyond : Stmt := inClass (top 41) 6
abbrev s_Machines__turn_of : Stmt := inClass (top 41) 7
abbrev s_states_behind : Stmt := top 42
abbrev s_Player_init : Stmt := inClass (top 44) 0
abbrev s_Player_ready : Stmt := inClass (top 44) 1
abbrev s_Player_happen : Stmt := inClass (top 44) 2
abbrev s_Player_is_done : Stmt := inClass (top 44) 3
abbrev s_Player_is_stuck : Stmt := inClass (top 44) 4
abbrev s_Player_accepts : Stmt := inClass (top 44) 5
abbrev s_Player_happened : Stmt := inClass (top 44) 6
abbrev s__law_draws : Stmt := top 46
abbrev s__law_take : Stmt := top 47
abbrev s__law_alphabet : Stmt := top 48
abbrev s__law_word : Stmt := top 49
abbrev s__law_place : Stmt := top 50
abbrev s__law_run : Stmt := top 51
abbrev s__law_takes : Stmt := top 52
abbrev s__law_side : Stmt := top 53
abbrev s__law_counter : Stmt := top 54
abbrev s__law_closed_automaton : Stmt := top 55
abbrev s__law_made : Stmt := top 56
abbrev s__law_queues : Stmt := top 57
abbrev s__law_ready : Stmt := top 58
abbrev s__law_happens : Stmt := top 59
abbrev s__law_changed : Stmt := top 60
abbrev s_law : Stmt := top 61
set_option maxHeartbeats 0 in
structure Txt (K : PySem.W.Frag) (mg : Str → Option Value) where
  f_mask_of : Addr
  d_mask_of : FuncData
  F_mask_of : Fun K "mask_of" "mask_of" s_mask_of f_mask_of d_mask_of
  m_mask_of : mg "mask_of" = some (.ref f_mask_of)
  b_mask_of : Binds K d_mask_of ["bits"] []
  f_Alphabet_init : Addr
  d_Alphabet_init : FuncData
  F_Alphabet_init : Fun K "__init__" "Alphabet.__init__" s_Alphabet_init f_Alphabet_init d_Alphabet_init
  b_Alphabet_init : Binds K d_Alphabet_init ["self", "places", "letters"] []
  f__check_letter : Addr
  d__check_letter : FuncData
  F__check_letter : Fun K "_check_letter" "_check_letter" s__check_letter f__check_letter d__check_letter
  m__check_letter : mg "_check_letter" = some (.ref f__check_letter)
  b__check_letter : Binds K d__check_letter ["places", "row"] []
  f_independent : Addr
  d_independent : FuncData
  F_independent : Fun K "independent" "independent" s_independent f_independent d_independent
  m_independent : mg "independent" = some (.ref f_independent)
  b_independent : Binds K d_independent ["alphabet", "first", "second"] []
  f_independent_pairs : Addr
  d_independent_pairs : FuncData
  F_independent_pairs : Fun K "independent_pairs" "independent_pairs" s_independent_pairs f_independent_pairs d_independent_pairs
  m_independent_pairs : mg "independent_pairs" = some (.ref f_independent_pairs)
  b_independent_pairs : Binds K d_independent_pairs ["alphabet"] []
  f_ready_letters : Addr
  d_ready_letters : FuncData
  F_ready_letters : Fun K "ready_letters" "ready_letters" s_ready_letters f_ready_letters d_ready_letters
  m_ready_letters : mg "ready_letters" = some (.ref f_ready_letters)
  b_ready_letters : Binds K d_ready_letters ["alphabet", "queues", "heads"] []
  f_is_ready : Addr
  d_is_ready : FuncData
  F_is_ready : Fun K "is_ready" "is_ready" s_is_ready f_is_ready d_is_ready
  m_is_ready : mg "is_ready" = some (.ref f_is_ready)
  b_is_ready : Binds K d_is_ready ["alphabet", "queues", "heads", "letter"] []
  f_moved_heads : Addr
  d_moved_heads : FuncData
  F_moved_heads : Fun K "moved_heads" "moved_heads" s_moved_heads f_moved_heads d_moved_heads
  m_moved_heads : mg "moved_heads" = some (.ref f_moved_heads)
  b_moved_heads : Binds K d_moved_heads ["alphabet", "heads", "letter"] []
  f_Automaton_init : Addr
  d_Automaton_init : FuncData
  F_Automaton_init : Fun K "__init__" "Automaton.__init__" s_Automaton_init f_Automaton_init d_Automaton_init
  b_Automaton_init : Binds K d_Automaton_init ["self", "letters", "start", "finals", "rows"] []
  f__check_states : Addr
  d__check_states : FuncData
  F__check_states : Fun K "_check_states" "_check_states" s__check_states f__check_states d__check_states
  m__check_states : mg "_check_states" = some (.ref f__check_states)
  b__check_states : Binds K d__check_states ["many", "states"] []
  f_final_marks : Addr
  d_final_marks : FuncData
  F_final_marks : Fun K "final_marks" "final_marks" s_final_marks f_final_marks d_final_marks
  m_final_marks : mg "final_marks" = some (.ref f_final_marks)
  b_final_marks : Binds K d_final_marks ["automaton"] []
  f_least : Addr
  d_least : FuncData
  F_least : Fun K "least" "least" s_least f_least d_least
  m_least : mg "least" = some (.ref f_least)
  b_least : Binds K d_least ["automaton"] []
  f__reached_states : Addr
  d__reached_states : FuncData
  F__reached_states : Fun K "_reached_states" "_reached_states" s__reached_states f__reached_states d__reached_states
  m__reached_states : mg "_reached_states" = some (.ref f__reached_states)
  b__reached_states : Binds K d__reached_states ["automaton"] []
  f_state_classes : Addr
  d_state_classes : FuncData
  F_state_classes : Fun K "state_classes" "state_classes" s_state_classes f_state_classes d_state_classes
  m_state_classes : mg "state_classes" = some (.ref f_state_classes)
  b_state_classes : Binds K d_state_classes ["automaton", "states", "letters"] []
  f_is_closed : Addr
  d_is_closed : FuncData
  F_is_closed : Fun K "is_closed" "is_closed" s_is_closed f_is_closed d_is_closed
  m_is_closed : mg "is_closed" = some (.ref f_is_closed)
  b_is_closed : Binds K d_is_closed ["alphabet", "automaton"] []
  f_empty_table : Addr
  d_empty_table : FuncData
  F_empty_table : Fun K "empty_table" "empty_table" s_empty_table f_empty_table d_empty_table
  m_empty_table : mg "empty_table" = some (.ref f_empty_table)
  b_empty_table : Binds K d_empty_table ["many"] []
  f_known_row : Addr
  d_known_row : FuncData
  F_known_row : Fun K "known_row" "known_row" s_known_row f_known_row d_known_row
  m_known_row : mg "known_row" = some (.ref f_known_row)
  b_known_row : Binds K d_known_row ["many", "table", "place"] []
  f_known_label : Addr
  d_known_label : FuncData
  F_known_label : Fun K "known_label" "known_label" s_known_label f_known_label d_known_label
  m_known_label : mg "known_label" = some (.ref f_known_label)
  b_known_label : Binds K d_known_label ["many", "table", "place"] []
  f_known_labels : Addr
  d_known_labels : FuncData
  F_known_labels : Fun K "known_labels" "known_labels" s_known_labels f_known_labels d_known_labels
  m_known_labels : mg "known_labels" = some (.ref f_known_labels)
  b_known_labels : Binds K d_known_labels ["many", "table"] []
  f_compare_tables : Addr
  d_compare_tables : FuncData
  F_compare_tables : Fun K "compare_tables" "compare_tables" s_compare_tables f_compare_tables d_compare_tables
  m_compare_tables : mg "compare_tables" = some (.ref f_compare_tables)
  b_compare_tables : Binds K d_compare_tables ["many", "first", "second", "place"] []
  f__is_known : Addr
  d__is_known : FuncData
  F__is_known : Fun K "_is_known" "_is_known" s__is_known f__is_known d__is_known
  m__is_known : mg "_is_known" = some (.ref f__is_known)
  b__is_known : Binds K d__is_known ["many", "first", "second", "place"] []
  f_best_views : Addr
  d_best_views : FuncData
  F_best_views : Fun K "best_views" "best_views" s_best_views f_best_views d_best_views
  m_best_views : mg "best_views" = some (.ref f_best_views)
  b_best_views : Binds K d_best_views ["many", "tables"] []
  f_met_table : Addr
  d_met_table : FuncData
  F_met_table : Fun K "met_table" "met_table" s_met_table f_met_table d_met_table
  m_met_table : mg "met_table" = some (.ref f_met_table)
  b_met_table : Binds K d_met_table ["alphabet", "letter", "tables"] []
  f__new_label : Addr
  d__new_label : FuncData
  F__new_label : Fun K "_new_label" "_new_label" s__new_label f__new_label d__new_label
  m__new_label : mg "_new_label" = some (.ref f__new_label)
  b__new_label : Binds K d__new_label ["letters", "letter", "tables"] []
  f_Machines_init : Addr
  d_Machines_init : FuncData
  F_Machines_init : Fun K "__init__" "Machines.__init__" s_Machines_init f_Machines_init d_Machines_init
  b_Machines_init : Binds K d_Machines_init ["self", "alphabet", "automaton"] []
  f_Machines_start : Addr
  d_Machines_start : FuncData
  F_Machines_start : Fun K "start" "Machines.start" s_Machines_start f_Machines_start d_Machines_start
  b_Machines_start : Binds K d_Machines_start ["self"] []
  f_Machines_meet : Addr
  d_Machines_meet : FuncData
  F_Machines_meet : Fun K "meet" "Machines.meet" s_Machines_meet f_Machines_meet d_Machines_meet
  b_Machines_meet : Binds K d_Machines_meet ["self", "letter", "states"] []
  f_Machines_accepts : Addr
  d_Machines_accepts : FuncData
  F_Machines_accepts : Fun K "accepts" "Machines.accepts" s_Machines_accepts f_Machines_accepts d_Machines_accepts
  b_Machines_accepts : Binds K d_Machines_accepts ["self", "states"] []
  f_Machines__table : Addr
  d_Machines__table : FuncData
  F_Machines__table : Fun K "_table" "Machines._table" s_Machines__table f_Machines__table d_Machines__table
  b_Machines__table : Binds K d_Machines__table ["self", "state"] []
  f_Machines__newest_rows : Addr
  d_Machines__newest_rows : FuncData
  F_Machines__newest_rows : Fun K "_newest_rows" "Machines._newest_rows" s_Machines__newest_rows f_Machines__newest_rows d_Machines__newest_rows
  b_Machines__newest_rows : Binds K d_Machines__newest_rows ["self", "tables"] []
  f_Machines__turn_beyond : Addr
  d_Machines__turn_beyond : FuncData
  F_Machines__turn_beyond : Fun K "_turn_beyond" "Machines._turn_beyond" s_Machines__turn_beyond f_Machines__turn_beyond d_Machines__turn_beyond
  b_Machines__turn_beyond : Binds K d_Machines__turn_beyond ["self", "states", "rows"] []
  f_Machines__turn_of : Addr
  d_Machines__turn_of : FuncData
  F_Machines__turn_of : Fun K "_turn_of" "Machines._turn_of" s_Machines__turn_of f_Machines__turn_of d_Machines__turn_of
  b_Machines__turn_of : Binds K d_Machines__turn_of ["self", "state", "chosen"] []
  f_states_behind : Addr
  d_states_behind : FuncData
  F_states_behind : Fun K "states_behind" "states_behind" s_states_behind f_states_behind d_states_behind
  m_states_behind : mg "states_behind" = some (.ref f_states_behind)
  b_states_behind : Binds K d_states_behind ["machines", "alphabet", "states", "letter"] []
  f_Player_init : Addr
  d_Player_init : FuncData
  F_Player_init : Fun K "__init__" "Player.__init__" s_Player_init f_Player_init d_Player_init
  b_Player_init : Binds K d_Player_init ["self", "alphabet", "machines", "queues"] []
  f_Player_ready : Addr
  d_Player_ready : FuncData
  F_Player_ready : Fun K "ready" "Player.ready" s_Player_ready f_Player_ready d_Player_ready
  b_Player_ready : Binds K d_Player_ready ["self"] []
  f_Player_happen : Addr
  d_Player_happen : FuncData
  F_Player_happen : Fun K "happen" "Player.happen" s_Player_happen f_Player_happen d_Player_happen
  b_Player_happen : Binds K d_Player_happen ["self", "letter"] []
  f_Player_is_done : Addr
  d_Player_is_done : FuncData
  F_Player_is_done : Fun K "is_done" "Player.is_done" s_Player_is_done f_Player_is_done d_Player_is_done
  b_Player_is_done : Binds K d_Player_is_done ["self"] []
  f_Player_is_stuck : Addr
  d_Player_is_stuck : FuncData
  F_Player_is_stuck : Fun K "is_stuck" "Player.is_stuck" s_Player_is_stuck f_Player_is_stuck d_Player_is_stuck
  b_Player_is_stuck : Binds K d_Player_is_stuck ["self"] []
  f_Player_accepts : Addr
  d_Player_accepts : FuncData
  F_Player_accepts : Fun K "accepts" "Player.accepts" s_Player_accepts f_Player_accepts d_Player_accepts
  b_Player_accepts : Binds K d_Player_accepts ["self"] []
  f_Player_happened : Addr
  d_Player_happened : FuncData
  F_Player_happened : Fun K "happened" "Player.happened" s_Player_happened f_Player_happened d_Player_happened
  b_Player_happened : Binds K d_Player_happened ["self"] []
  f__law_draws : Addr
  d__law_draws : FuncData
  F__law_draws : Fun K "_law_draws" "_law_draws" s__law_draws f__law_draws d__law_draws
  m__law_draws : mg "_law_draws" = some (.ref f__law_draws)
  b__law_draws : Binds K d__law_draws ["script", "count"] []
  f__law_take : Addr
  d__law_take : FuncData
  F__law_take : Fun K "_law_take" "_law_take" s__law_take f__law_take d__law_take
  m__law_take : mg "_law_take" = some (.ref f__law_take)
  b__law_take : Binds K d__law_take ["draws", "limit"] []
  f__law_alphabet : Addr
  d__law_alphabet : FuncData
  F__law_alphabet : Fun K "_law_alphabet" "_law_alphabet" s__law_alphabet f__law_alphabet d__law_alphabet
  m__law_alphabet : mg "_law_alphabet" = some (.ref f__law_alphabet)
  b__law_alphabet : Binds K d__law_alphabet ["draws", "places", "most"] []
  f__law_word : Addr
  d__law_word : FuncData
  F__law_word : Fun K "_law_word" "_law_word" s__law_word f__law_word d__law_word
  m__law_word : mg "_law_word" = some (.ref f__law_word)
  b__law_word : Binds K d__law_word ["draws", "letters", "most"] []
  f__law_place : Addr
  d__law_place : FuncData
  F__law_place : Fun K "_law_place" "_law_place" s__law_place f__law_place d__law_place
  m__law_place : mg "_law_place" = some (.ref f__law_place)
  b__law_place : Binds K d__law_place ["letters", "word", "place"] []
  f__law_run : Addr
  d__law_run : FuncData
  F__law_run : Fun K "_law_run" "_law_run" s__law_run f__law_run d__law_run
  m__law_run : mg "_law_run" = some (.ref f__law_run)
  b__law_run : Binds K d__law_run ["automaton", "word"] []
  f__law_takes : Addr
  d__law_takes : FuncData
  F__law_takes : Fun K "_law_takes" "_law_takes" s__law_takes f__law_takes d__law_takes
  m__law_takes : mg "_law_takes" = some (.ref f__law_takes)
  b__law_takes : Binds K d__law_takes ["automaton", "word"] []
  f__law_side : Addr
  d__law_side : FuncData
  F__law_side : Fun K "_law_side" "_law_side" s__law_side f__law_side d__law_side
  m__law_side : mg "_law_side" = some (.ref f__law_side)
  b__law_side : Binds K d__law_side ["draws", "letters", "place", "most"] []
  f__law_counter : Addr
  d__law_counter : FuncData
  F__law_counter : Fun K "_law_counter" "_law_counter" s__law_counter f__law_counter d__law_counter
  m__law_counter : mg "_law_counter" = some (.ref f__law_counter)
  b__law_counter : Binds K d__law_counter ["draws", "letters"] []
  f__law_closed_automaton : Addr
  d__law_closed_automaton : FuncData
  F__law_closed_automaton : Fun K "_law_closed_automaton" "_law_closed_automaton" s__law_closed_automaton f__law_closed_automaton d__law_closed_automaton
  m__law_closed_automaton : mg "_law_closed_automaton" = some (.ref f__law_closed_automaton)
  b__law_closed_automaton : Binds K d__law_closed_automaton ["draws", "count", "letters", "most"] []
  f__law_made : Addr
  d__law_made : FuncData
  F__law_made : Fun K "_law_made" "_law_made" s__law_made f__law_made d__law_made
  m__law_made : mg "_law_made" = some (.ref f__law_made)
  b__law_made : Binds K d__law_made ["letters", "automaton"] []
  f__law_queues : Addr
  d__law_queues : FuncData
  F__law_queues : Fun K "_law_queues" "_law_queues" s__law_queues f__law_queues d__law_queues
  m__law_queues : mg "_law_queues" = some (.ref f__law_queues)
  b__law_queues : Binds K d__law_queues ["count", "letters", "word"] []
  f__law_ready : Addr
  d__law_ready : FuncData
  F__law_ready : Fun K "_law_ready" "_law_ready" s__law_ready f__law_ready d__law_ready
  m__law_ready : mg "_law_ready" = some (.ref f__law_ready)
  b__law_ready : Binds K d__law_ready ["letters", "queues", "heads"] []
  f__law_happens : Addr
  d__law_happens : FuncData
  F__law_happens : Fun K "_law_happens" "_law_happens" s__law_happens f__law_happens d__law_happens
  m__law_happens : mg "_law_happens" = some (.ref f__law_happens)
  b__law_happens : Binds K d__law_happens ["player", "letter"] []
  f__law_changed : Addr
  d__law_changed : FuncData
  F__law_changed : Fun K "_law_changed" "_law_changed" s__law_changed f__law_changed d__law_changed
  m__law_changed : mg "_law_changed" = some (.ref f__law_changed)
  b__law_changed : Binds K d__law_changed ["draws", "letters", "queues"] []
  f_law : Addr
  d_law : FuncData
  F_law : Fun K "law" "law" s_law f_law d_law
  m_law : mg "law" = some (.ref f_law)
  b_law : Binds K d_law ["script"] []
  c_Alphabet : Addr
  mc_Alphabet : mg "Alphabet" = some (.ref c_Alphabet)
  mk_Alphabet : PySem.W.makesIn K c_Alphabet = true
  in_Alphabet : PySem.W.findIn K (.ref c_Alphabet) "__init__" = some (some (.ref f_Alphabet_init))
  if_Alphabet : PySem.W.isFn K (.ref f_Alphabet_init) = true
  kc_Alphabet : PySem.W.keepIn K (.ref c_Alphabet) = true
  cl_Alphabet : Cls K c_Alphabet
  na_Alphabet_places : NoAttr K c_Alphabet "places"
  na_Alphabet_letters : NoAttr K c_Alphabet "letters"
  c_Automaton : Addr
  mc_Automaton : mg "Automaton" = some (.ref c_Automaton)
  mk_Automaton : PySem.W.makesIn K c_Automaton = true
  in_Automaton : PySem.W.findIn K (.ref c_Automaton) "__init__" = some (some (.ref f_Automaton_init))
  if_Automaton : PySem.W.isFn K (.ref f_Automaton_init) = true
  kc_Automaton : PySem.W.keepIn K (.ref c_Automaton) = true
  cl_Automaton : Cls K c_Automaton
  na_Automaton_letters : NoAttr K c_Automaton "letters"
  na_Automaton_start : NoAttr K c_Automaton "start"
  na_Automaton_finals : NoAttr K c_Automaton "finals"
  na_Automaton_rows : NoAttr K c_Automaton "rows"
  c_Machines : Addr
  mc_Machines : mg "Machines" = some (.ref c_Machines)
  mk_Machines : PySem.W.makesIn K c_Machines = true
  in_Machines : PySem.W.findIn K (.ref c_Machines) "__init__" = some (some (.ref f_Machines_init))
  if_Machines : PySem.W.isFn K (.ref f_Machines_init) = true
  kc_Machines : PySem.W.keepIn K (.ref c_Machines) = true
  cl_Machines : Cls K c_Machines
  na_Machines_alphabet : NoAttr K c_Machines "alphabet"
  na_Machines_automaton : NoAttr K c_Machines "automaton"
  na_Machines_size : NoAttr K c_Machines "size"
  c_Player : Addr
  mc_Player : mg "Player" = some (.ref c_Player)
  mk_Player : PySem.W.makesIn K c_Player = true
  in_Player : PySem.W.findIn K (.ref c_Player) "__init__" = some (some (.ref f_Player_init))
  if_Player : PySem.W.isFn K (.ref f_Player_init) = true
  kc_Player : PySem.W.keepIn K (.ref c_Player) = true
  cl_Player : Cls K c_Player
  na_Player_alphabet : NoAttr K c_Player "alphabet"
  na_Player_machines : NoAttr K c_Player "machines"
  na_Player_queues : NoAttr K c_Player "queues"
  na_Player_heads : NoAttr K c_Player "heads"
  na_Player_held : NoAttr K c_Player "held"
  na_Player_taken : NoAttr K c_Player "taken"
  c_InvalidAutomaton : Addr
  mc_InvalidAutomaton : mg "InvalidAutomaton" = some (.ref c_InvalidAutomaton)
  x_InvalidAutomaton : PySem.W.excIn K c_InvalidAutomaton [.type "ValueError", .type "Exception", .type "BaseException", .type "object"] "ValueError.__new__" = true
  k_InvalidAutomaton : PySem.W.keepIn K (.ref c_InvalidAutomaton) = true
  b_InvalidAutomaton : PySem.W.subIn K (.ref c_InvalidAutomaton) (.type "BaseException") = some true
  t_InvalidAutomaton : PySem.W.typeIn K (.ref c_InvalidAutomaton) = some (.type "type")
  e_InvalidAutomaton : PySem.W.exmOne K (.ref c_InvalidAutomaton) (.ref c_InvalidAutomaton) = some true
  c_NotClosed : Addr
  mc_NotClosed : mg "NotClosed" = some (.ref c_NotClosed)
  x_NotClosed : PySem.W.excIn K c_NotClosed [.type "ValueError", .type "Exception", .type "BaseException", .type "object"] "ValueError.__new__" = true
  k_NotClosed : PySem.W.keepIn K (.ref c_NotClosed) = true
  b_NotClosed : PySem.W.subIn K (.ref c_NotClosed) (.type "BaseException") = some true
  t_NotClosed : PySem.W.typeIn K (.ref c_NotClosed) = some (.type "type")
  e_NotClosed : PySem.W.exmOne K (.ref c_NotClosed) (.ref c_NotClosed) = some true
  c_TooLarge : Addr
  mc_TooLarge : mg "TooLarge" = some (.ref c_TooLarge)
  x_TooLarge : PySem.W.excIn K c_TooLarge [.type "ValueError", .type "Exception", .type "BaseException", .type "object"] "ValueError.__new__" = true
  k_TooLarge : PySem.W.keepIn K (.ref c_TooLarge) = true
  b_TooLarge : PySem.W.subIn K (.ref c_TooLarge) (.type "BaseException") = some true
  t_TooLarge : PySem.W.typeIn K (.ref c_TooLarge) = some (.type "type")
  e_TooLarge : PySem.W.exmOne K (.ref c_TooLarge) (.ref c_TooLarge) = some true
  c_NotReady : Addr
  mc_NotReady : mg "NotReady" = some (.ref c_NotReady)
  x_NotReady : PySem.W.excIn K c_NotReady [.type "ValueError", .type "Exception", .type "BaseException", .type "object"] "ValueError.__new__" = true
  k_NotReady : PySem.W.keepIn K (.ref c_NotReady) = true
  b_NotReady : PySem.W.subIn K (.ref c_NotReady) (.type "BaseException") = some true
  t_NotReady : PySem.W.typeIn K (.ref c_NotReady) = some (.type "type")
  e_NotReady : PySem.W.exmOne K (.ref c_NotReady) (.ref c_NotReady) = some true
  me_Machines_start : Meth K c_Machines "start" f_Machines_start
  me_Machines_meet : Meth K c_Machines "meet" f_Machines_meet
  me_Machines_accepts : Meth K c_Machines "accepts" f_Machines_accepts
  me_Machines__table : Meth K c_Machines "_table" f_Machines__table
  me_Machines__newest_rows : Meth K c_Machines "_newest_rows" f_Machines__newest_rows
  me_Machines__turn_beyond : Meth K c_Machines "_turn_beyond" f_Machines__turn_beyond
  me_Machines__turn_of : Meth K c_Machines "_turn_of" f_Machines__turn_of
  me_Player_ready : Meth K c_Player "ready" f_Player_ready
  me_Player_happen : Meth K c_Player "happen" f_Player_happen
  me_Player_is_done : Meth K c_Player "is_done" f_Player_is_done
  me_Player_is_stuck : Meth K c_Player "is_stuck" f_Player_is_stuck
  me_Player_accepts : Meth K c_Player "accepts" f_Player_accepts
  me_Player_happened : Meth K c_Player "happened" f_Player_happened
  z_any : mg "any" = none
  z_enumerate : mg "enumerate" = none
  z_int : mg "int" = none
  z_len : mg "len" = none
  z_list : mg "list" = none
  z_range : mg "range" = none
  z_set : mg "set" = none
  z_sorted : mg "sorted" = none
  z_tuple : mg "tuple" = none
  z_zip : mg "zip" = none
  t_MOST_LETTERS : Tok
  v_MOST_LETTERS : mg "MOST_LETTERS" = some (.int 6 t_MOST_LETTERS)
  t_MOST_PLACES : Tok
  v_MOST_PLACES : mg "MOST_PLACES" = some (.int 4 t_MOST_PLACES)
  t_MOST_STATES : Tok
  v_MOST_STATES : mg "MOST_STATES" = some (.int 40 t_MOST_STATES)
local macro_rules | `(tactic| trivial) => `(tactic| omega)
theorem pin_le {K : PySem.W.Frag} {lo hi x : Int} (h : lo ≤ x ∧ x < hi) : (D K (.int x)).le (PIn K lo hi) := MP.le_trans (PAn.in h) (PEx.in (R := fun x : Int => PAn (lo ≤ x ∧ x < hi) (D K (.int x))) x)
end My
namespace My
open PySem L2 Hq
local macro_rules | `(tactic| trivial) => `(tactic| omega)
section
variable {P : Program} {wo : World} {K : PySem.W.Frag} {mg : Str → Option Value} {base : Heap}
/-! ### _law_take -/
theorem sc__law_take : FnScope ["draws", "limit"] ["draws", "limit"] (defScope s__law_take) := ⟨rfl, rfl, rfl, by decide +kernel, rfl, by decide +kernel, by decide +kernel⟩
def sp__law_take (T : Txt K mg) : Sp := fun vs H Q _ => ∃ (d : Addr) (n : Int), 0 < n ∧ Prom [Own d, D K (.int n)] [(d, MDr K)] (PIn K 0 n) [(d, MDr K)] vs H Q
theorem sp__law_take_len {T : Txt K mg} {vs H Q E} (h : sp__law_take T vs H Q E) : vs.length = 2 := by obtain ⟨d, n, _, h⟩ := h; exact h.len
set_option maxHeartbeats 4000000 in
theorem ok__law_take (T : Txt K mg) : FnOk P wo K mg base CX0 1 T.f__law_take T.d__law_take ["draws", "limit"] (sp__law_take T) := by
  have nd := (sc__law_take).nd
  refine T.F__law_take.ok sc__law_take (fun vs H Q E h => (sp__law_take_len h)) (fun cdv A outer s H vs Q E hr h => ?_)
  obtain ⟨d, n, hn, F, w, p, k⟩ := h
  refine ⟨_, (pss_cons (ps_if (pt_cmpR op_eq (pe_callB (c_len (K := K) rfl) (by rfl) T.z_len PySem.boot_len (pa_cons (pv 0) pa_nil)) pe_int (nomark _)) (pss_one (ps_ret pe_int)) pss_nil)
    (pss_one (ps_ret (pe_op op_mod (pe_callTy call_int1 (by rfl) T.z_int (by decide +kernel) (pa_cons (pe_bm0 PySem.F.plainAttrs_list PySem.F.slot_list_pop PySem.F.type_list_pop mt_pop (pv 0)) pa_nil)) (pv 1))))), ?_⟩
  refine go_start w p (Γ := [some (Own d), some (D K (.int n))]) rfl ?_
  refine nx_exM (j := 0) rfl fun ns => nx_anM (j := 0) rfl fun hl => ?_
  show Nx _ _ [(d, MInts K ns)] _
  have k2 : ∀ ns' : List Int, ns'.length ≤ 1000 → Rt ⟨F, H, keys [(d, MDr K)]⟩ [(d, MInts K ns')] (PIn K 0 n) Q := fun ns' h => Rt.to (j := 0) (O' := MDr K) k rfl (fun F o q => ⟨ns', h, q⟩) rfl
  refine (q_if (et_test (ev_op (ev_cb (ea_cons (ev_var rfl) ea_nil) (rc_lenO (j := 0) rfl)) (ev_int (K := K)) rv_eqI)) (fun _ => go_ret Le.refl (ev_int (K := K)) (Rt.weak (pin_le (by omega)) (k2 ns hl))) fun hz => go_next ?_)
  have hz : ns ≠ [] := by intro e; subst e; simp at hz
  have hlast : (ns.map fun n => D K (.int n))[(ns.map fun n => D K (.int n)).length - 1]? = some (D K (.int (ns.getLast hz))) := by rw [List.length_map, List.getElem?_map, ← List.getLast?_eq_getElem?, List.getLast?_eq_some_getLast hz]; rfl
  have hd : (ns.map fun n => D K (.int n)).dropLast = ns.dropLast.map fun n => D K (.int n) := by rw [List.map_dropLast]
  refine go_ret Le.refl (ev_op (ev_cb (ea_cons (ev_pop (j := 0) (ev_var rfl) rfl hlast) ea_nil) rc_int) (ev_var rfl) (rv_ic (by trivial))) (Rt.weak (pin_le ⟨Int.emod_nonneg _ (by omega), Int.emod_lt_of_pos _ hn⟩) ?_)
  rw [hd]
  exact k2 _ (by rw [List.length_dropLast]; omega)
theorem use__law_take {T : Txt K mg} {tr : TA} {Γ : Gm} {M M1 : Ms} {d : Addr} {n : Int} {j : Nat} {X : XK} (h : EvA tr Γ M [Own d, D K (.int n)] M1) (hn : 0 < n) (e : M1[j]? = some (d, MDr K)) : Ev (tCall (sp__law_take T) [] X tr) Γ M (PIn K 0 n) M1 :=
  call1 h e fun vs H Q z => ⟨d, n, hn, z⟩
/-! ### _law_draws -/
theorem sc__law_draws : FnScope ["script", "count", "cells", "found", "mixed", "k", "j", "cell", "again"] ["script", "count"] (defScope s__law_draws) := ⟨rfl, rfl, rfl, by decide +kernel, rfl, by decide +kernel, by decide +kernel⟩
def sp__law_draws (T : Txt K mg) : Sp := fun vs H Q _ => ∃ (ns : List Int) (c : Int), 0 ≤ c ∧ c ≤ 1000 ∧ ns.length ≤ 1000 ∧ PromN [PLi K (ns.map fun n => D K (.int n)), D K (.int c)] [] (MDr K) [] vs H Q
theorem sp__law_draws_len {T : Txt K mg} {vs H Q E} (h : sp__law_draws T vs H Q E) : vs.length = 2 := by obtain ⟨_, _, _, _, _, h⟩ := h; exact h.len
set_option maxHeartbeats 4000000 in
theorem ok__law_draws (T : Txt K mg) : FnOk P wo K mg base CX0 1 T.f__law_draws T.d__law_draws ["script", "count"] (sp__law_draws T) := by
  have nd := (sc__law_draws).nd
  refine T.F__law_draws.ok sc__law_draws (fun vs H Q E h => (sp__law_draws_len h)) (fun cdv A outer s H vs Q E hr h => ?_)
  obtain ⟨ns, cnt, c0, c1, nl, F, w, p, k⟩ := h
  refine ⟨_, (pss_cons (ps_set (i := 2) nd rfl (Or.inl rfl) (pe_callTy (c_list (K := K) rfl) (by rfl) T.z_list (by decide +kernel) (pa_cons (pv 0) pa_nil)))
    (Evl.pss_cut (ps_if (pt_cmpR op_eq (pe_callB (c_len (K := K) rfl) (by rfl) T.z_len PySem.boot_len (pa_cons (pv 2) pa_nil)) pe_int (nomark _)) (pss_one (ps_set (i := 2) nd rfl (Or.inl rfl) (pe_lst (pa_cons pe_int pa_nil)))) pss_nil)
    (pss_cons (ps_set (i := 3) nd rfl (Or.inl rfl) (pe_lst pa_nil))
    (pss_cons (ps_set (i := 4) nd rfl (Or.inl rfl) pe_int)
    (pss_cons (ps_for PassesOwn.never rfl (pi_range1 (by rfl) T.z_range (pa_cons (pv 1) pa_nil)) (pg_name (i := 5) nd rfl (by first | exact Or.inl rfl | exact Or.inr rfl))
     (pss_cons (ps_set (i := 6) nd rfl (Or.inl rfl) (pe_op op_mod (pv 5) (pe_callB (c_len (K := K) rfl) (by rfl) T.z_len PySem.boot_len (pa_cons (pv 2) pa_nil))))
     (pss_cons (ps_set (i := 7) nd rfl (Or.inl rfl) (pe_ix (c_ix (K := K) rfl) (pv 2) (pv 6) (fun _ _ => rfl)))
     (pss_cons (ps_set (i := 4) nd rfl (Or.inl rfl) (pe_op op_mod (pe_callTy call_int1 (by rfl) T.z_int (by decide +kernel) (pa_cons (pe_op op_add (pe_op op_add (pe_op op_add (pe_op op_mul (pv 4) pe_int) (pe_op op_mul (pe_op op_mod (pe_callTy call_int1 (by rfl) T.z_int (by decide +kernel) (pa_cons (pv 7) pa_nil)) pe_int) pe_int)) (pe_op op_mul (pv 5) pe_int)) pe_int) pa_nil)) pe_int))
     (pss_cons (ps_set (i := 8) nd rfl (Or.inl rfl) (pe_op op_mod (pe_callTy call_int1 (by rfl) T.z_int (by decide +kernel) (pa_cons (pe_op op_add (pe_op op_add (pe_op op_mul (pv 4) (pv 4)) (pe_op op_mul pe_int (pv 4))) (pv 5)) pa_nil)) pe_int))
     (pss_one (ps_if (pt_cmpR op_ge (pv 7) (pe_op op_pow pe_int pe_int) (nomark _)) (pss_cons (ps_expr (pe_bm PySem.F.plainAttrs_list PySem.F.slot_list_append PySem.F.type_list_append mt_append (pv 3) (pa_cons (pe_op op_mod (pe_callTy call_int1 (by rfl) T.z_int (by decide +kernel) (pa_cons (pv 7) pa_nil)) pe_int) pa_nil)))
      (pss_one (ps_asg (pe_op op_fdiv (pv 7) pe_int) (pg_sub (pv 2) (pv 6) set_list)))) (pss_one (ps_expr (pe_bm PySem.F.plainAttrs_list PySem.F.slot_list_append PySem.F.type_list_append mt_append (pv 3) (pa_cons (pe_op op_mod (pe_callTy call_int1 (by rfl) T.z_int (by decide +kernel) (pa_cons (pv 8) pa_nil)) pe_int) pa_nil)))))))))))
    (pss_cons (ps_expr (pe_bm0 PySem.F.plainAttrs_list PySem.F.slot_list_reverse PySem.F.type_list_reverse mt_reverse (pv 3)))
    (pss_one (ps_ret (pv 3))))))))), ?_⟩
  refine go_start w p (Γ := [some (PLi K (ns.map fun n => D K (.int n))), some (D K (.int cnt)), none, none, none, none, none, none, none]) rfl ?_
  refine (q_asgN (evn_cb (ea_cons (ev_var rfl) ea_nil) rcn_listL) fun c hc => ?_)
  show Nx _ _ [(c, MInts K ns)] _
  refine go_cut (fun Γ M => ∃ (c : Addr) (cs : List Int), Γ = [some (PLi K (ns.map fun n => D K (.int n))), some (D K (.int cnt)), some (Own c), none, none, none, none, none, none] ∧ M = [(c, MInts K cs)] ∧ cs ≠ [] ∧ cs.length ≤ 1000) ?_ ?rest
  · refine go_if (et_test (ev_op (ev_cb (ea_cons (ev_var rfl) ea_nil) (rc_lenO (j := 0) rfl)) (ev_int (K := K)) rv_eqI)) (fun _ => ?_) fun hz => go_next (JA.of ⟨c, ns, rfl, rfl, by intro e; subst e; simp at hz, nl⟩)
    refine go_asgN (evn_lst (ea_cons (ev_int (K := K)) ea_nil) (by simp)) fun c2 h2 => ?_
    exact nx_drop (List.Sublist.cons₂ _ (List.nil_sublist _)) (JA.of ⟨c2, [7], rfl, rfl, by decide, by decide⟩)
  case rest =>
    rintro _ _ ⟨c, cs, rfl, rfl, hne, hlen⟩
    have lpos : 0 < cs.length := List.length_pos_iff.mpr hne
    refine (q_asgN (evn_lst ea_nil (by decide)) fun f hf => ?_)
    show Nx _ _ [(f, MInts K []), (c, MInts K cs)] _
    refine (q_asg (ev_int (K := K)) ?_)
    refine (q_forR (ea_cons (ev_var rfl) ea_nil) (by omega) (by omega) (fun n Γ M => ∃ (zs fs : List Int) (m : Int) (g5 g6 g7 g8 : Option MP), Γ = [some (PLi K (ns.map fun n => D K (.int n))), some (D K (.int cnt)), some (Own c), some (Own f), some (D K (.int m)), g5, g6, g7, g8] ∧
      M = [(f, MInts K fs), (c, MInts K zs)] ∧ zs.length = cs.length ∧ fs.length = n ∧ 0 ≤ m ∧ m < 2147483647) ⟨cs, [], 12345, none, none, none, none, rfl, rfl, rfl, rfl, by decide, by decide⟩ ?_ ?_)
    · rintro n hn _ _ ⟨zs, fs, m, g5, g6, g7, g8, rfl, rfl, hz, hfl, m0, m1⟩
      show Nx _ [some (PLi K (ns.map fun n => D K (.int n))), some (D K (.int cnt)), some (Own c), some (Own f), some (D K (.int m)), some (D K (.int n)), g6, g7, g8] _ _
      have hL : ((zs.map fun n => D K (.int n)).length : Int) = (cs.length : Int) := by rw [List.length_map, hz]
      have hj0 : 0 ≤ (n : Int) % ((zs.map fun n => D K (.int n)).length : Int) := Int.emod_nonneg _ (by omega)
      have hj1 : (n : Int) % ((zs.map fun n => D K (.int n)).length : Int) < zs.length := by rw [hL, ← hz]; exact Int.emod_lt_of_pos _ (by omega)
      refine (q_asg (ev_op (ev_var rfl) (ev_cb (ea_cons (ev_var rfl) ea_nil) (rc_lenO (j := 1) rfl)) (rv_ic (show (0 : Int) < _ by omega))) ?_)
      generalize (n : Int) % ((zs.map fun n => D K (.int n)).length : Int) = jj at hj0 hj1
      obtain ⟨jn, rfl⟩ := Int.eq_ofNat_of_zero_le hj0
      have hjn : jn < zs.length := by omega
      refine (q_asg (ev_op (ev_var rfl) (ev_var rfl) (rv_ixO (j := 1) rfl (by omega) (show (zs.map fun n => D K (.int n))[((jn : Int)).toNat]? = some (D K (.int zs[jn])) by rw [Int.toNat_natCast, List.getElem?_map, List.getElem?_eq_getElem hjn]; rfl))) ?_)
      refine (q_asg (ev_op (ev_cb (ea_cons (ev_op (ev_op (ev_op (ev_op (ev_var rfl) (ev_int (K := K)) (rv_ic (.inr ⟨by decide, by decide⟩))) (ev_op (ev_op (ev_cb (ea_cons (ev_var rfl) ea_nil) rc_int) (ev_int (K := K)) (rv_ic (by trivial))) (ev_int (K := K)) (rv_ic (.inr ⟨by decide, by decide⟩))) rv_i0) (ev_op (ev_var rfl) (ev_int (K := K)) (rv_ic (.inr ⟨by decide, by decide⟩))) rv_i0) (ev_int (K := K)) rv_i0) ea_nil) rc_int) (ev_int (K := K)) (rv_ic (by trivial))) ?_)
      refine (q_asg (ev_op (ev_cb (ea_cons (ev_op (ev_op (ev_op (ev_var rfl) (ev_var rfl) (rv_ic (.inl ⟨?_, ?_⟩))) (ev_op (ev_int (K := K)) (ev_var rfl) (rv_ic (.inl ⟨by decide, by decide⟩))) rv_i0) (ev_var rfl) rv_i0) ea_nil) rc_int) (ev_int (K := K)) (rv_ic (by trivial))) ?_)
      · have := Int.emod_nonneg (m * 48271 + zs[jn] % 1000003 * 69621 + (n : Int) * 7919 + 11) (by decide : (2147483647 : Int) ≠ 0)
        exact Int.lt_of_lt_of_le (by decide) this
      · have := Int.emod_lt_of_pos (m * 48271 + zs[jn] % 1000003 * 69621 + (n : Int) * 7919 + 11) (by decide : (0 : Int) < 2147483647)
        exact Int.lt_trans this (by decide)
      have fin : ∀ (zs' fs' : List Int) (m' : Int) (g5 g6 g7 g8 : Option MP) (Γ : Gm) (M : Ms), Γ = [some (PLi K (ns.map fun n => D K (.int n))), some (D K (.int cnt)), some (Own c), some (Own f), some (D K (.int m')), g5, g6, g7, g8] → M = [(f, MInts K fs'), (c, MInts K zs')] → zs'.length = cs.length → fs'.length = n + 1 → 0 ≤ m' → m' < 2147483647 → Nx ⟨F, H, keys []⟩ Γ M (JA ⟨F, H, keys []⟩ fun Γ M => ∃ (zs fs : List Int) (m : Int) (g5 g6 g7 g8 : Option MP), Γ = [some (PLi K (ns.map fun n => D K (.int n))), some (D K (.int cnt)), some (Own c), some (Own f), some (D K (.int m)), g5, g6, g7, g8] ∧
        M = [(f, MInts K fs), (c, MInts K zs)] ∧ zs.length = cs.length ∧ fs.length = n + 1 ∧ 0 ≤ m ∧ m < 2147483647) := fun zs' fs' m' g5 g6 g7 g8 Γ M e1 e2 e3 e4 e5 e6 => JA.of ⟨zs', fs', m', g5, g6, g7, g8, e1, e2, e3, e4, e5, e6⟩
      have mm0 := Int.emod_nonneg (m * 48271 + zs[jn] % 1000003 * 69621 + (n : Int) * 7919 + 11) (by decide : (2147483647 : Int) ≠ 0)
      have mm1 := Int.emod_lt_of_pos (m * 48271 + zs[jn] % 1000003 * 69621 + (n : Int) * 7919 + 11) (by decide : (0 : Int) < 2147483647)
      refine go_if (et_test (ev_op (ev_var rfl) (ev_op (ev_int (K := K)) (ev_int (K := K)) (rv_ic ⟨by decide, by decide, by decide⟩)) rv_b0)) (fun _ => ?_) fun _ => ?_
      · refine (q_app (j := 0) (ev_var rfl) (ev_op (ev_cb (ea_cons (ev_var rfl) ea_nil) rc_int) (ev_int (K := K)) (rv_ic (by trivial))) rfl rfl (by rw [List.length_map]; omega) ?_)
        refine go_setL (j := 1) (ev_op (ev_var rfl) (ev_int (K := K)) (rv_ic ⟨by decide, by decide⟩)) (ev_var rfl) (ev_var rfl) rfl (by omega) (by rw [List.length_map]; omega) ?_
        exact fin (zs.set jn (zs[jn] / 1000)) (fs ++ [zs[jn] % 1000]) _ _ _ _ _ _ _ rfl (by simp [MInts, List.map_set]) (by rw [List.length_set]; exact hz) (by rw [List.length_append, hfl]; rfl) mm0 mm1
      · refine go_app (j := 0) (ev_var rfl) (ev_op (ev_cb (ea_cons (ev_var rfl) ea_nil) rc_int) (ev_int (K := K)) (rv_ic (by trivial))) rfl rfl (by rw [List.length_map]; omega) ?_
        exact fin zs (fs ++ [_]) _ _ _ _ _ _ _ rfl (by simp [MInts]; rfl) hz (by rw [List.length_append, hfl]; rfl) mm0 mm1
    · rintro _ _ ⟨zs, fs, m, g5, g6, g7, g8, rfl, rfl, hz, hfl, m0, m1⟩
      refine (q_rev (j := 0) (ev_var rfl) rfl ?_)
      refine nx_drop (List.Sublist.cons₂ _ (List.nil_sublist _)) ?_
      refine go_retO Le.refl (ev_var rfl) hf rfl (RtN.to k fun F o h => ⟨fs.reverse, by rw [List.length_reverse]; omega, ?_⟩)
      rw [← List.map_reverse] at h
      exact h
theorem use__law_draws {T : Txt K mg} {tr : TA} {Γ : Gm} {M M1 : Ms} {ns : List Int} {c : Int} {X : XK} (h : EvA tr Γ M [PLi K (ns.map fun n => D K (.int n)), D K (.int c)] M1) (h0 : 0 ≤ c) (h1 : c ≤ 1000) (h2 : ns.length ≤ 1000) : EvN (tCall (sp__law_draws T) [] X tr) Γ M (MDr K) M1 :=
  calln0 h fun vs H Q z => ⟨ns, c, h0, h1, h2, z⟩
/-! ### _check_letter -/
theorem sc__check_letter : FnScope ["places", "row", "place", "index"] ["places", "row"] (defScope s__check_letter) := ⟨rfl, rfl, rfl, by decide +kernel, rfl, by decide +kernel, by decide +kernel⟩
def sp__check_letter (T : Txt K mg) : Sp := fun vs H Q _ => ∃ (k : Int) (l : List Int), (l ≠ [] ∧ l.Pairwise (· < ·) ∧ (∀ x ∈ l, 0 ≤ x ∧ x < k) ∧ l.length ≤ 1000) ∧ Prom [D K (.int k), D K (dT l)] [] (D K .none) [] vs H Q
theorem sp__check_letter_len {T : Txt K mg} {vs H Q E} (h : sp__check_letter T vs H Q E) : vs.length = 2 := by obtain ⟨_, _, _, h⟩ := h; exact h.len
set_option maxHeartbeats 4000000 in
theorem ok__check_letter (T : Txt K mg) : FnOk P wo K mg base CX0 1 T.f__check_letter T.d__check_letter ["places", "row"] (sp__check_letter T) := by
  have nd := (sc__check_letter).nd
  refine T.F__check_letter.ok sc__check_letter (fun vs H Q E h => (sp__check_letter_len h)) (fun cdv A outer s H vs Q E hr h => ?_)
  obtain ⟨n, l, ⟨h1, h2, h3, h4⟩, F, w, p, k⟩ := h
  refine ⟨_, (pss_cons (ps_if (pt_cmpR op_eq (pe_callB (c_len (K := K) rfl) (by rfl) T.z_len PySem.boot_len (pa_cons (pv 1) pa_nil)) pe_int (nomark _)) (pss_one ps_never) pss_nil)
    (pss_cons (ps_for PassesOwn.never rfl (pi_tupK (K := K) rfl (pv 1)) (pg_name (i := 2) nd rfl (by first | exact Or.inl rfl | exact Or.inr rfl))
     (pss_one (ps_if (pt_not (pt_chain op_le op_lt pe_int (pv 2) (pv 0))) (pss_one ps_never) pss_nil)))
    (pss_one (ps_for PassesOwn.never rfl (pi_range2 (by rfl) T.z_range (pa_cons pe_int (pa_cons (pe_callB (c_len (K := K) rfl) (by rfl) T.z_len PySem.boot_len (pa_cons (pv 1) pa_nil)) pa_nil))) (pg_name (i := 3) nd rfl (by first | exact Or.inl rfl | exact Or.inr rfl))
     (pss_one (ps_if (pt_cmpR op_ge (pe_ix (c_ix (K := K) rfl) (pv 1) (pe_op op_sub (pv 3) pe_int) (fun _ _ => rfl)) (pe_ix (c_ix (K := K) rfl) (pv 1) (pv 3) (fun _ _ => rfl)) (nomark _)) (pss_one ps_never) pss_nil)))))), ?_⟩
  refine go_start w p (Γ := [some (D K (.int n)), some (D K (dT l)), none, none]) rfl ?_
  have hlen : 0 < l.length := List.length_pos_iff.mpr h1
  have evlen : ∀ {Γ : Gm}, Γ[1]? = some (some (D K (dT l))) → Ev (tCB (fun xs H Q => ∃ p ys, xs = [.ref p] ∧ (SqL K H p ys ∨ SqT K H p ys) ∧ Q (.int ys.length) H) (tCons (tVar 1) tNil)) Γ [] (D K (.int l.length)) [] := fun e => by
    have := ev_cb (ea_cons (ev_var e) ea_nil) (rc_lenDT (K := K) (ds := l.map PyData.int) (M := []))
    rw [List.length_map] at this
    exact this
  refine (q_if (et_test (ev_op (evlen rfl) (ev_int (K := K)) rv_eqI)) (fun hz => absurd hz (by simp; omega)) fun _ => go_next ?_)
  refine (q_forT ((ev_var rfl).weak le_dT) (fun _ Γ M => ∃ g2 g3 : Option MP, Γ = [some (D K (.int n)), some (D K (dT l)), g2, g3] ∧ M = []) ⟨none, none, rfl, rfl⟩ ?_ ?_)
  · rintro E' hE i P hP _ _ ⟨g2, g3, rfl, rfl⟩
    rw [List.getElem?_map] at hP
    obtain ⟨x, hx, rfl⟩ := Option.map_eq_some_iff.mp hP
    have hr := h3 x (List.mem_of_getElem? hx)
    refine go_if (et_not (et_test (ev_chain (ev_int (K := K)) (ev_var rfl) rv_b0 (fun _ => (ev_var rfl)) rv_b0))) (fun hz => absurd hz (by simp; omega)) fun _ => go_next (JA.of ⟨_, _, rfl, rfl⟩)
  · rintro _ _ ⟨g2, g3, rfl, rfl⟩
    refine go_forR2 (ea_cons (ev_int (K := K)) (ea_cons (evlen rfl) ea_nil)) (by omega) (fun _ Γ M => ∃ g2 g3 : Option MP, Γ = [some (D K (.int n)), some (D K (dT l)), g2, g3] ∧ M = []) ⟨g2, g3, rfl, rfl⟩ ?_ ?_
    · rintro i hi _ _ ⟨g2, g3, rfl, rfl⟩
      have a1 : i + 1 < l.length := by omega
      have e1 : (l.map PyData.int)[((1 + (i : Int)) - 1).toNat]? = some (.int l[i]) := by
        rw [show ((1 + (i : Int)) - 1).toNat = i by omega, List.getElem?_map, List.getElem?_eq_getElem (by omega)]; rfl
      have e2 : (l.map PyData.int)[(1 + (i : Int)).toNat]? = some (.int l[i + 1]) := by
        rw [show (1 + (i : Int)).toNat = i + 1 by omega, List.getElem?_map, List.getElem?_eq_getElem a1]; rfl
      have lt : l[i] < l[i + 1] := List.pairwise_iff_getElem.mp h2 i (i + 1) (by omega) a1 (by omega)
      refine go_if (et_test (ev_op (ev_op (ev_var rfl) (ev_op (ev_var rfl) (ev_int (K := K)) rv_i0) (rv_ixDT (by omega) e1)) (ev_op (ev_var rfl) (ev_var rfl) (rv_ixDT (by omega) e2)) rv_b0)) (fun hz => absurd hz (by simp; omega)) fun _ => go_next (JA.of ⟨_, _, rfl, rfl⟩)
    · rintro _ _ ⟨g2, g3, rfl, rfl⟩
      exact fun σ H' ⟨F', a, b⟩ => k .non F' H' a .non
theorem use__check_letter {T : Txt K mg} {tr : TA} {Γ : Gm} {M M1 : Ms} {k : Int} {l : List Int} {X : XK} (h : EvA tr Γ M [D K (.int k), D K (dT l)] M1) (hl : l ≠ [] ∧ l.Pairwise (· < ·) ∧ (∀ x ∈ l, 0 ≤ x ∧ x < k) ∧ l.length ≤ 1000) : Ev (tCall (sp__check_letter T) [] X tr) Γ M (D K .none) M1 :=
  call0 h fun vs H Q z => ⟨k, l, hl, z⟩
/-! ### Alphabet.__init__ -/
theorem sc_Alphabet_init : FnScope ["self", "places", "letters", "rows", "row"] ["self", "places", "letters"] (defScope s_Alphabet_init) := ⟨rfl, rfl, rfl, by decide +kernel, rfl, by decide +kernel, by decide +kernel⟩
abbrev alF (K : PySem.W.Frag) (k : Int) (ls : Lets) : List (Str × MP) := [("letters", D K (dTT ls)), ("places", D K (.int k))]
/-- an alphabet that stands -/
abbrev PAl (T : Txt K mg) (k : Int) (ls : Lets) : MP := PIns T.c_Alphabet (alF K k ls)
def sp_Alphabet_init (T : Txt K mg) : Sp := fun vs H Q _ => ∃ (x : Addr) (k : Int) (ls : Lets), AlphaOk k ls ∧ Prom [Own x, D K (.int k), PLi K (ls.map fun l => D K (dT l))] [(x, MIns T.c_Alphabet 0 [])] (D K .none) [(x, MIns T.c_Alphabet 2 (alF K k ls))] vs H Q
theorem sp_Alphabet_init_len {T : Txt K mg} {vs H Q E} (h : sp_Alphabet_init T vs H Q E) : vs.length = 3 := by obtain ⟨_, _, _, _, h⟩ := h; exact h.len
theorem pw_len {l : List Int} {k : Int} (h2 : l.Pairwise (· < ·)) (h3 : ∀ x ∈ l, 0 ≤ x ∧ x < k) (hk : 0 ≤ k) : (l.length : Int) ≤ k := by
  have key : ∀ (l : List Int) (lo : Int), l.Pairwise (· < ·) → (∀ x ∈ l, lo ≤ x ∧ x < k) → lo ≤ k → (l.length : Int) ≤ k - lo := by
    intro l
    induction l with
    | nil => intro lo _ _ h; simp; omega
    | cons a l ih =>
      intro lo h1 h2 h3
      have ha := h2 a List.mem_cons_self
      have := ih (a + 1) (List.pairwise_cons.mp h1).2 (fun x hx => ⟨(List.pairwise_cons.mp h1).1 x hx, (h2 x (List.mem_cons_of_mem _ hx)).2⟩) (by omega)
      rw [List.length_cons]; omega
  have := key l 0 h2 h3 hk
  omega
set_option maxHeartbeats 4000000 in
theorem ok_Alphabet_init (T : Txt K mg) : FnOk P wo K mg base CX0 2 T.f_Alphabet_init T.d_Alphabet_init ["self", "places", "letters"] (sp_Alphabet_init T) := by
  have nd := (sc_Alphabet_init).nd
  refine T.F_Alphabet_init.ok sc_Alphabet_init (fun vs H Q E h => (sp_Alphabet_init_len h)) (fun cdv A outer s H vs Q E hr h => ?_)
  obtain ⟨x, n, ls, ok, F, w, p, k⟩ := h
  refine ⟨_, (pss_cons (ps_set (i := 3) nd rfl (Or.inl rfl) (pe_callTy (c_tuple (K := K) rfl) (by rfl) T.z_tuple (by decide +kernel) (pa_cons (pe_lc (own := [("row", 4)]) (by rfl) nd (pi_listK (K := K) rfl (pv 2)) (blkOk_by (N := ["self", "places", "letters", "rows", "row"]) (sc := defScope s_Alphabet_init) (own := [("row", 4)]) (by decide +kernel)) (fun _ _ _ _ _ => pg_name (i := 4) nd rfl (by first | exact Or.inl rfl | exact Or.inr rfl)) (fun _ _ _ _ _ => pts_nil) (fun _ _ _ _ _ => (pe_callTy (c_tuple (K := K) rfl) (by rfl) T.z_tuple (by decide +kernel) (pa_cons (pv 4) pa_nil)))) pa_nil)))
    (pss_cons (ps_if (pt_not (pt_chain op_le op_le pe_int (pv 1) (pe_glob (v := .int 4) rfl T.v_MOST_PLACES ⟨_, rfl⟩))) (pss_one ps_never) pss_nil)
    (pss_cons (ps_if (pt_not (pt_chain op_le op_le pe_int (pe_callB (c_len (K := K) rfl) (by rfl) T.z_len PySem.boot_len (pa_cons (pv 3) pa_nil)) (pe_glob (v := .int 6) rfl T.v_MOST_LETTERS ⟨_, rfl⟩))) (pss_one ps_never) pss_nil)
    (pss_cons (ps_for PassesOwn.never rfl (pi_tupK (K := K) rfl (pv 3)) (pg_name (i := 4) nd rfl (by first | exact Or.inl rfl | exact Or.inr rfl))
     (pss_one (ps_expr (pe_call (ok__check_letter T) (hr.mono (by decide)) rfl T.m__check_letter T.F__check_letter.kp T.b__check_letter .nil pass0 (pa_cons (pv 1) (pa_cons (pv 4) pa_nil))))))
    (pss_cons (ps_fld (pv 0) (pv 1) rfl)
    (pss_one (ps_fld (pv 0) (pv 3) rfl))))))), ?_⟩
  refine go_start w p (Γ := [some (Own x), some (D K (.int n)), some (PLi K (ls.map fun l => D K (dT l))), none, none]) rfl ?_
  have okl : ∀ l ∈ ls, l ≠ [] ∧ l.Pairwise (· < ·) ∧ (∀ x ∈ l, 0 ≤ x ∧ x < n) ∧ l.length ≤ 1000 := fun l hl => by
    obtain ⟨h1, h2, h3⟩ := ok.ok l hl
    have := pw_len h2 h3 (by have := ok.k1; omega)
    have := ok.k4
    exact ⟨h1, h2, h3, by omega⟩
  have h1 := ok.k1; have h4 := ok.k4; have h5 := ok.l1; have h6 := ok.l6
  have lcomp := evn_lcL (K := K) (xs := ls) (R := fun l => D K (dT l)) (G := fun l => D K (dT l)) (i := 4) (M := [(x, MIns T.c_Alphabet 0 [])]) (M1 := [(x, MIns T.c_Alphabet 0 [])]) (Γ := [some (Own x), some (D K (.int n)), some (PLi K (ls.map fun l => D K (dT l))), none, none]) (fun _ => true) (ev_var (i := 2) rfl) (by omega) (fun _ _ => et_yes) (fun l _ _ => (ev_cb (ea_cons ((ev_var (i := 4) rfl).weak le_dT) ea_nil) rc_tupleT).weak dT_le)
  rw [filter_true] at lcomp
  refine (q_asg ((ev_cb (ea_cons (ev_newL lcomp) ea_nil) rc_tupleL).weak Tm_le) ?_)
  show Nx _ [some (Own x), some (D K (.int n)), some (PLi K (ls.map fun l => D K (dT l))), some (D K (dTT ls)), none] _ _
  refine (q_if (et_not (et_test (ev_chain (ev_int (K := K)) (ev_var rfl) rv_b0 (fun _ => (ev_int (K := K))) rv_b0))) (fun hz => absurd hz (by simp; omega)) fun _ => go_next ?_)
  refine (q_if (et_not (et_test (ev_chain (ev_int (K := K)) (ev_cb (ea_cons (ev_var rfl) ea_nil) (rc_lenDT (ds := ls.map dT))) rv_b0 (fun _ => (ev_int (K := K))) rv_b0))) (fun hz => absurd hz (by simp; omega)) fun _ => go_next ?_)
  refine (q_forT ((ev_var rfl).weak le_Tm) (fun _ Γ M => ∃ g4 : Option MP, Γ = [some (Own x), some (D K (.int n)), some (PLi K (ls.map fun l => D K (dT l))), some (D K (dTT ls)), g4] ∧ M = [(x, MIns T.c_Alphabet 0 [])]) ⟨none, rfl, rfl⟩ ?_ ?_)
  · rintro E' hE i P hP _ _ ⟨g4, rfl, rfl⟩
    rw [List.getElem?_map] at hP
    obtain ⟨l, hx, rfl⟩ := Option.map_eq_some_iff.mp hP
    exact go_drop (use__check_letter (ea_cons (ev_var rfl) (ea_cons (ev_var rfl) ea_nil)) (okl l (List.mem_of_getElem? hx))) (JA.of ⟨_, rfl, rfl⟩)
  · rintro _ _ ⟨g4, rfl, rfl⟩
    refine (q_fld (j := 0) (n := 0) (fps := []) (ev_var rfl) (ev_var rfl) rfl (by decide) (fun _ h => by cases h) T.cl_Alphabet T.na_Alphabet_places ?_)
    refine go_fld (j := 0) (n := 1) (ev_var rfl) (ev_var rfl) rfl (by decide) (fun g h => by rw [List.mem_singleton.mp h]; show ("places" : Str) ≠ "letters"; decide +kernel) T.cl_Alphabet T.na_Alphabet_letters ?_
    exact fun σ H' ⟨F', a, b⟩ => k .non F' H' a .non
theorem use_Alphabet {T : Txt K mg} {tr : TA} {Γ : Gm} {M M1 : Ms} {k : Int} {ls : Lets} {X : XK} (h : EvA tr Γ M [D K (.int k), PLi K (ls.map fun l => D K (dT l))] M1) (ok : AlphaOk k ls) : Ev (tMake T.c_Alphabet (sp_Alphabet_init T) [] X tr) Γ M (PAl T k ls) M1 :=
  (ev_fr (make0 h fun x vs H Q z => ⟨x, k, ls, ok, z⟩)).weak fr_Ins
/-! ### _law_alphabet -/
theorem sc__law_alphabet : FnScope ["draws", "places", "most", "count", "letters", "k", "size", "there", "j"] ["draws", "places", "most"] (defScope s__law_alphabet) := ⟨rfl, rfl, rfl, by decide +kernel, rfl, by decide +kernel, by decide +kernel⟩
abbrev PAb (K : PySem.W.Frag) (p m : Int) : MP := PEx fun x : Int × Lets => PAn (AlphaOk x.1 x.2 ∧ x.1 ≤ p ∧ (x.2.length : Int) ≤ m) (D K (.tuple [.int x.1, dLT x.2]))
def sp__law_alphabet (T : Txt K mg) : Sp := fun vs H Q _ => ∃ (d : Addr) (p m : Int), (0 < p ∧ p ≤ 4 ∧ 0 < m ∧ m ≤ 6) ∧ Prom [Own d, D K (.int p), D K (.int m)] [(d, MDr K)] (PAb K p m) [(d, MDr K)] vs H Q
theorem sp__law_alphabet_len {T : Txt K mg} {vs H Q E} (h : sp__law_alphabet T vs H Q E) : vs.length = 3 := by obtain ⟨_, _, _, _, h⟩ := h; exact h.len
theorem sorted_ok {c : Int} {ns xs : List Int} (h : ns.Pairwise (· < ·) ∧ ∀ k, k ∈ ns ↔ k ∈ xs) (hx : ∀ x ∈ xs, 0 ≤ x ∧ x < c) (h0 : 0 < xs.length) : ns ≠ [] ∧ ns.Pairwise (· < ·) ∧ ∀ x ∈ ns, 0 ≤ x ∧ x < c := by
  refine ⟨fun e => ?_, h.1, fun x hx2 => hx x ((h.2 x).mp hx2)⟩
  subst e
  obtain ⟨y, ys, e⟩ := List.exists_cons_of_length_pos h0
  have := (h.2 y).mpr (by rw [e]; exact List.mem_cons_self)
  cases this
set_option maxHeartbeats 4000000 in
theorem ok__law_alphabet (T : Txt K mg) : FnOk P wo K mg base CX0 2 T.f__law_alphabet T.d__law_alphabet ["draws", "places", "most"] (sp__law_alphabet T) := by
  have nd := (sc__law_alphabet).nd
  refine T.F__law_alphabet.ok sc__law_alphabet (fun vs H Q E h => (sp__law_alphabet_len h)) (fun cdv A outer s H vs Q E hr h => ?_)
  obtain ⟨d, p, m, ⟨p0, p4, m0, m6⟩, F, w, ps, k⟩ := h
  refine ⟨_, (pss_cons (ps_set (i := 3) nd rfl (Or.inr rfl) (pe_op op_add pe_int (pe_call (ok__law_take T) (hr.mono (by decide)) rfl T.m__law_take T.F__law_take.kp T.b__law_take .nil pass0 (pa_cons (pv 0) (pa_cons (pv 1) pa_nil)))))
    (pss_cons (ps_set (i := 4) nd rfl (Or.inl rfl) (pe_lst pa_nil))
    (pss_cons (ps_for PassesOwn.never rfl (pi_range1 (by rfl) T.z_range (pa_cons (pe_op op_add pe_int (pe_call (ok__law_take T) (hr.mono (by decide)) rfl T.m__law_take T.F__law_take.kp T.b__law_take .nil pass0 (pa_cons (pv 0) (pa_cons (pv 2) pa_nil)))) pa_nil)) (pg_name (i := 5) nd rfl (by first | exact Or.inl rfl | exact Or.inr rfl))
     (pss_cons (ps_set (i := 6) nd rfl (Or.inl rfl) (pe_ix (c_ix (K := K) rfl) (pe_lst (pa_cons pe_int (pa_cons pe_int (pa_cons pe_int (pa_cons pe_int (pa_cons pe_int (pa_cons pe_int pa_nil))))))) (pe_call (ok__law_take T) (hr.mono (by decide)) rfl T.m__law_take T.F__law_take.kp T.b__law_take .nil pass0 (pa_cons (pv 0) (pa_cons pe_int pa_nil))) (fun _ _ => rfl)))
     (pss_cons (ps_setLc (i := 7) (own := [("j", 8)]) (by rfl) nd rfl rfl (sw_true rfl rfl rfl (by decide +kernel)) (pi_range1 (by rfl) T.z_range (pa_cons (pv 6) pa_nil)) (blkOk_by (N := ["draws", "places", "most", "count", "letters", "k", "size", "there", "j"]) (sc := defScope s__law_alphabet) (own := [("j", 8)]) (by decide +kernel)) (fun _ _ _ _ _ => pg_name (i := 8) nd rfl (by first | exact Or.inl rfl | exact Or.inr rfl)) (fun _ _ _ _ _ => pts_nil) (fun _ _ _ _ _ => (pe_call (ok__law_take T) (hr.mono (by decide)) rfl T.m__law_take T.F__law_take.kp T.b__law_take .nil pass0 (pa_cons (pv 0) (pa_cons (pv 3) pa_nil)))))
     (pss_one (ps_expr (pe_bm PySem.F.plainAttrs_list PySem.F.slot_list_append PySem.F.type_list_append mt_append (pv 4) (pa_cons (pe_callTy (c_tuple (K := K) rfl) (by rfl) T.z_tuple (by decide +kernel) (pa_cons (pe_callB (c_sortedSet (w := wo) rfl rfl) (by rfl) T.z_sorted (by decide +kernel) (pa_cons (pe_callTy (c_set (K := K) (w := wo) rfl rfl rfl) (by rfl) T.z_set (by decide +kernel) (pa_cons (pv 7) pa_nil)) pa_nil)) pa_nil)) pa_nil)))))))
    (pss_one (ps_ret (pe_tup (pa_cons (pv 3) (pa_cons (pv 4) pa_nil)))))))), ?_⟩
  refine go_start w ps (Γ := [some (Own d), some (D K (.int p)), some (D K (.int m)), none, none, none, none, none, none]) rfl ?_
  refine (q_asg (ev_op (ev_int (K := K)) (use__law_take (ea_cons (ev_var rfl) (ea_cons (ev_var rfl) ea_nil)) p0 (j := 0) rfl) rv_addIn) (nx_ex (i := 3) rfl fun c => nx_an (i := 3) rfl fun hc => ?_))
  show Nx _ [some (Own d), some (D K (.int p)), some (D K (.int m)), some (D K (.int c)), none, none, none, none, none] _ _
  refine (q_asgN (evn_lst ea_nil (by decide)) fun l hl => ?_)
  refine (q_forRX (φ := fun z => 1 + 0 ≤ z ∧ z < 1 + m) (ev_op (ev_int (K := K)) (use__law_take (ea_cons (ev_var rfl) (ea_cons (ev_var rfl) ea_nil)) m0 (j := 1) rfl) rv_addIn) fun z hz tr' htr => ?_)
  refine (q_forR htr (by omega) (by omega) (fun n Γ M => ∃ (ls : Lets) (g5 g6 g7 g8 : Option MP), Γ = [some (Own d), some (D K (.int p)), some (D K (.int m)), some (D K (.int c)), some (Own l), g5, g6, g7, g8] ∧
    M = [(l, ML (ls.map fun x => D K (dT x))), (d, MDr K)] ∧ ls.length = n ∧ ∀ x ∈ ls, x ≠ [] ∧ x.Pairwise (· < ·) ∧ ∀ y ∈ x, 0 ≤ y ∧ y < c) ⟨[], none, none, none, none, rfl, rfl, rfl, fun _ h => by cases h⟩ ?_ ?_)
  · rintro n hn _ _ ⟨ls, g5, g6, g7, g8, rfl, rfl, hls, hok⟩
    show Nx _ [some (Own d), some (D K (.int p)), some (D K (.int m)), some (D K (.int c)), some (Own l), some (D K (.int n)), g6, g7, g8] _ _
    have pick : RV (rIx K) (PLi K [D K (.int 1), D K (.int 1), D K (.int 1), D K (.int 2), D K (.int 2), D K (.int 3)]) (PIn K 0 6) [(l, ML (ls.map fun x => D K (dT x))), (d, MDr K)] (PIn K 1 4) [(l, ML (ls.map fun x => D K (dT x))), (d, MDr K)] := RV.ex2 fun x => RV.an2 fun hx => by
      have : x = 0 ∨ x = 1 ∨ x = 2 ∨ x = 3 ∨ x = 4 ∨ x = 5 := by omega
      rcases this with rfl | rfl | rfl | rfl | rfl | rfl <;> exact (rv_ixL (by decide) rfl).weak (pin_le (by decide))
    refine (q_asg (ev_op (ev_newL (evn_lst (ea_cons (ev_int (K := K)) (ea_cons (ev_int (K := K)) (ea_cons (ev_int (K := K)) (ea_cons (ev_int (K := K)) (ea_cons (ev_int (K := K)) (ea_cons (ev_int (K := K)) ea_nil)))))) (by simp))) (use__law_take (ea_cons (ev_var rfl) (ea_cons (ev_int (K := K)) ea_nil)) (by decide) (j := 1) rfl) pick) (nx_ex (i := 6) rfl fun sz => nx_an (i := 6) rfl fun hsz => ?_))
    show Nx _ [some (Own d), some (D K (.int p)), some (D K (.int m)), some (D K (.int c)), some (Own l), some (D K (.int n)), some (D K (.int sz)), g7, g8] _ _
    have lc := evn_lcR (K := K) (z := sz) (i := 8) (G := fun _ => PIn K 0 c) (M := [(l, ML (ls.map fun x => D K (dT x))), (d, MDr K)]) (M1 := [(l, ML (ls.map fun x => D K (dT x))), (d, MDr K)]) (Γ := [some (Own d), some (D K (.int p)), some (D K (.int m)), some (D K (.int c)), some (Own l), some (D K (.int n)), some (D K (.int sz)), g7, g8]) (fun _ => true) (ea_cons (ev_var (i := 6) rfl) ea_nil) (by omega) (fun _ _ => et_yes)
      (fun _ _ _ => use__law_take (T := T) (X := E0) (ea_cons (ev_var (i := 0) rfl) (ea_cons (ev_var (i := 3) rfl) ea_nil)) (by omega) (j := 1) rfl)
    rw [filter_true, map_const, List.length_range] at lc
    refine (q_asgN (lc.weak ml_name) fun q hq => nx_exM (j := 0) rfl fun xs => nx_anM (j := 0) rfl fun hxs => ?_)
    show Nx _ [some (Own d), some (D K (.int p)), some (D K (.int m)), some (D K (.int c)), some (Own l), some (D K (.int n)), some (D K (.int sz)), some (Own q), g8] [(q, MInts K xs), (l, ML (ls.map fun x => D K (dT x))), (d, MDr K)] _
    refine go_app (j := 1) (ev_var rfl) (ev_tupOf (evn_sortedSet (ev_var (i := 7) rfl) (own_ints (j := 0) rfl) (by omega))) rfl rfl (by rw [List.length_map]; omega) (nx_lastM (j := 1) rfl fun ns hns => ?_)
    refine nx_drop (List.sublist_cons_self _ _) (JA.of ⟨ls ++ [ns], _, _, _, _, rfl, by simp, by rw [List.length_append, hls]; rfl, fun x hx => ?_⟩)
    rcases List.mem_append.mp hx with hx | hx
    · exact hok x hx
    · rw [List.mem_singleton.mp hx]
      exact sorted_ok hns (fun x hx => hxs.2 x hx) (by omega)
  · rintro _ _ ⟨ls, g5, g6, g7, g8, rfl, rfl, hls, hok⟩
    refine nx_freeze (K := K) (i := 4) 0 rfl hl rfl ?_
    show Nx _ [some (Own d), some (D K (.int p)), some (D K (.int m)), some (D K (.int c)), some (PLi K (ls.map fun x => D K (dT x))), g5, g6, g7, g8] [(d, MDr K)] _
    refine go_ret Le.refl (ev_tup (K := K) (ea_cons (ev_var (i := 3) rfl) (ea_cons (ev_var (i := 4) rfl) ea_nil)) (by simp)) (Rt.weak (MP.le_trans ?_ (MP.le_trans (PAn.in (φ := AlphaOk c ls ∧ c ≤ p ∧ (ls.length : Int) ≤ m) ⟨⟨by omega, by omega, by omega, by omega, hok⟩, by omega, by omega⟩) (PEx.in (R := fun x : Int × Lets => PAn (AlphaOk x.1 x.2 ∧ x.1 ≤ p ∧ (x.2.length : Int) ≤ m) (D K (.tuple [.int x.1, dLT x.2]))) (c, ls)))) k)
    rintro F v ⟨a, vs, e, s, h⟩
    obtain ⟨x, y, rfl, hx, hy⟩ := ps2 h
    subst e
    exact .tup s (.cons hx (.cons (Lm_le _ _ hy) .nil))
theorem use__law_alphabet {T : Txt K mg} {tr : TA} {Γ : Gm} {M M1 : Ms} {d : Addr} {p m : Int} {j : Nat} {X : XK} (h : EvA tr Γ M [Own d, D K (.int p), D K (.int m)] M1) (hn : 0 < p ∧ p ≤ 4 ∧ 0 < m ∧ m ≤ 6) (e : M1[j]? = some (d, MDr K)) : Ev (tCall (sp__law_alphabet T) [] X tr) Γ M (PAb K p m) M1 :=
  call1 h e fun vs H Q z => ⟨d, p, m, hn, z⟩
/-! ### _law_word -/
theorem sc__law_word : FnScope ["draws", "letters", "most", "k"] ["draws", "letters", "most"] (defScope s__law_word) := ⟨rfl, rfl, rfl, by decide +kernel, rfl, by decide +kernel, by decide +kernel⟩
abbrev PWd (K : PySem.W.Frag) (n m : Int) : MP := PEx fun w : List Int => PAn ((w.length : Int) ≤ m ∧ ∀ x ∈ w, 0 ≤ x ∧ x < n) (NT w)
def sp__law_word (T : Txt K mg) : Sp := fun vs H Q _ => ∃ (d : Addr) (n m : Int), (0 < n ∧ 0 ≤ m ∧ m ≤ 1000) ∧ Prom [Own d, D K (.int n), D K (.int m)] [(d, MDr K)] (PWd K n m) [(d, MDr K)] vs H Q
theorem sp__law_word_len {T : Txt K mg} {vs H Q E} (h : sp__law_word T vs H Q E) : vs.length = 3 := by obtain ⟨_, _, _, _, h⟩ := h; exact h.len
set_option maxHeartbeats 4000000 in
theorem ok__law_word (T : Txt K mg) : FnOk P wo K mg base CX0 2 T.f__law_word T.d__law_word ["draws", "letters", "most"] (sp__law_word T) := by
  have nd := (sc__law_word).nd
  refine T.F__law_word.ok sc__law_word (fun vs H Q E h => (sp__law_word_len h)) (fun cdv A outer s H vs Q E hr h => ?_)
  obtain ⟨d, n, m, ⟨n0, m0, m6⟩, F, w, ps, k⟩ := h
  refine ⟨_, (pss_one (ps_ret (pe_callTy (c_tuple (K := K) rfl) (by rfl) T.z_tuple (by decide +kernel) (pa_cons (pe_lc (own := [("k", 3)]) (by rfl) nd (pi_range1 (by rfl) T.z_range (pa_cons (pe_call (ok__law_take T) (hr.mono (by decide)) rfl T.m__law_take T.F__law_take.kp T.b__law_take .nil pass0 (pa_cons (pv 0) (pa_cons (pe_op op_add (pv 2) pe_int) pa_nil))) pa_nil)) (blkOk_by (N := ["draws", "letters", "most", "k"]) (sc := defScope s__law_word) (own := [("k", 3)]) (by decide +kernel)) (fun _ _ _ _ _ => pg_name (i := 3) nd rfl (by first | exact Or.inl rfl | exact Or.inr rfl)) (fun _ _ _ _ _ => pts_nil) (fun _ _ _ _ _ => (pe_call (ok__law_take T) (hr.mono (by decide)) rfl T.m__law_take T.F__law_take.kp T.b__law_take .nil pass0 (pa_cons (pv 0) (pa_cons (pv 1) pa_nil))))) pa_nil)))), ?_⟩
  refine go_start w ps (Γ := [some (Own d), some (D K (.int n)), some (D K (.int m)), none]) rfl ?_
  have inn : EvN _ [some (Own d), some (D K (.int n)), some (D K (.int m)), none] [(d, MDr K)] (MX fun xs : List Int => MA (((xs.length : Int) ≤ m) ∧ ∀ x ∈ xs, 0 ≤ x ∧ x < n) (MInts K xs)) [(d, MDr K)] := evn_lcRX (K := K) (φ := fun z => 0 ≤ z ∧ z < m + 1) (use__law_take (T := T) (X := E0) (j := 0) (ea_cons (ev_var (i := 0) rfl) (ea_cons (ev_op (ev_var (i := 2) rfl) (ev_int (K := K)) rv_i0) ea_nil)) (by omega) rfl) fun z hz => by
    have lc := evn_lcR (K := K) (z := z) (i := 3) (G := fun _ => PIn K 0 n) (M := [(d, MDr K)]) (M1 := [(d, MDr K)]) (Γ := [some (Own d), some (D K (.int n)), some (D K (.int m)), none]) (fun _ => true) (ea_cons (ev_int (K := K)) ea_nil) (by omega) (fun _ _ => et_yes)
      (fun _ _ _ => use__law_take (T := T) (X := E0) (ea_cons (ev_var (i := 0) rfl) (ea_cons (ev_var (i := 1) rfl) ea_nil)) n0 (j := 0) rfl)
    rw [filter_true, map_const, List.length_range] at lc
    exact (lc.weak ml_name).weak fun F o ⟨xs, h, q⟩ => ⟨xs, ⟨by omega, h.2⟩, q⟩
  refine go_ret Le.refl (ev_tupNOf inn) k
theorem use__law_word {T : Txt K mg} {tr : TA} {Γ : Gm} {M M1 : Ms} {d : Addr} {p m : Int} {j : Nat} {X : XK} (h : EvA tr Γ M [Own d, D K (.int p), D K (.int m)] M1) (hn : 0 < p ∧ 0 ≤ m ∧ m ≤ 1000) (e : M1[j]? = some (d, MDr K)) : Ev (tCall (sp__law_word T) [] X tr) Γ M (PWd K p m) M1 :=
  call1 h e fun vs H Q z => ⟨d, p, m, hn, z⟩
/-! ### _law_place -/
theorem sc__law_place : FnScope ["letters", "word", "place", "letter"] ["letters", "word", "place"] (defScope s__law_place) := ⟨rfl, rfl, rfl, by decide +kernel, rfl, by decide +kernel, by decide +kernel⟩
def sp__law_place (T : Txt K mg) : Sp := fun vs H Q _ => ∃ (ls : Lets) (w : List Int) (p : Int), (WordOk ls w ∧ w.length ≤ 1000) ∧ Prom [D K (dLT ls), D K (dT w), D K (.int p)] [] (D K (dT (at_ ls p w))) [] vs H Q
theorem sp__law_place_len {T : Txt K mg} {vs H Q E} (h : sp__law_place T vs H Q E) : vs.length = 3 := by obtain ⟨_, _, _, _, h⟩ := h; exact h.len
set_option maxHeartbeats 4000000 in
theorem ok__law_place (T : Txt K mg) : FnOk P wo K mg base CX0 1 T.f__law_place T.d__law_place ["letters", "word", "place"] (sp__law_place T) := by
  have nd := (sc__law_place).nd
  refine T.F__law_place.ok sc__law_place (fun vs H Q E h => (sp__law_place_len h)) (fun cdv A outer s H vs Q E hr h => ?_)
  obtain ⟨ls, wd, p, ⟨hw, hl⟩, F, w, ps, k⟩ := h
  refine ⟨_, (pss_one (ps_ret (pe_callTy (c_tuple (K := K) rfl) (by rfl) T.z_tuple (by decide +kernel) (pa_cons (pe_lc (own := [("letter", 3)]) (by rfl) nd (pi_tupK (K := K) rfl (pv 1)) (blkOk_by (N := ["letters", "word", "place", "letter"]) (sc := defScope s__law_place) (own := [("letter", 3)]) (by decide +kernel)) (fun _ _ _ _ _ => pg_name (i := 3) nd rfl (by first | exact Or.inl rfl | exact Or.inr rfl)) (fun _ _ _ _ _ => (pts_one (pt_cmpR (c_in (K := K) rfl) (pv 2) (pe_ix (c_ix (K := K) rfl) (pv 0) (pv 3) (fun _ _ => rfl)) (by rfl)))) (fun _ _ _ _ _ => (pv 3))) pa_nil)))), ?_⟩
  refine go_start w ps (Γ := [some (D K (dLT ls)), some (D K (dT wd)), some (D K (.int p)), none]) rfl ?_
  have lc := evn_lcT (K := K) (xs := wd) (R := fun x => D K (.int x)) (G := fun x => D K (.int x)) (i := 3) (M := []) (M1 := []) (Γ := [some (D K (dLT ls)), some (D K (dT wd)), some (D K (.int p)), none]) (fun a => decide (p ∈ pl ls a)) ((ev_var (i := 1) rfl).weak le_dT) (by omega)
    (fun x hx => et_test (ev_op (ev_var (i := 2) rfl) (ev_op (ev_var (i := 0) rfl) (ev_var (i := 3) rfl) (rv_ixDL (K := K) (ds := ls.map dT) (hw x hx).1 (by rw [List.getElem?_map, pl_get (hw x hx).1 (hw x hx).2]; rfl))) (rv_inT (neg := false)))) (fun x _ _ => ev_var (i := 3) rfl)
  exact go_ret Le.refl ((ev_cb (ea_cons (ev_newL lc) ea_nil) rc_tupleL).weak dT_le) k
theorem use__law_place {T : Txt K mg} {tr : TA} {Γ : Gm} {M M1 : Ms} {ls : Lets} {wd : List Int} {p : Int} {X : XK} (h : EvA tr Γ M [D K (dLT ls), D K (dT wd), D K (.int p)] M1) (hn : WordOk ls wd ∧ wd.length ≤ 1000) : Ev (tCall (sp__law_place T) [] X tr) Γ M (D K (dT (at_ ls p wd))) M1 :=
  call0 h fun vs H Q z => ⟨ls, wd, p, hn, z⟩
/-! ### independent -/
theorem sc_independent : FnScope ["alphabet", "first", "second", "others", "place"] ["alphabet", "first", "second"] (defScope s_independent) := ⟨rfl, rfl, rfl, by decide +kernel, rfl, by decide +kernel, by decide +kernel⟩
theorem ev_lets {T : Txt K mg} {Γ : Gm} {M M1 : Ms} {k : Int} {ls : Lets} {te ti : TE} {a : Int} (h : Ev te Γ M (PAl T k ls) M1) (hi : Ev ti Γ M1 (D K (.int a)) M1) (ha : 0 ≤ a ∧ a < (ls.length : Int)) : Ev (tOp (rIx K) (tFld K te "letters") ti) Γ M (D K (dT (pl ls a))) M1 :=
  ev_op (ev_fld (P := D K (dTT ls)) (fps := alF K k ls) h (by simp) T.cl_Alphabet T.na_Alphabet_letters) hi (rv_ixDT (K := K) (ds := ls.map dT) ha.1 (by rw [List.getElem?_map, pl_get ha.1 ha.2]; rfl))
theorem ev_places {T : Txt K mg} {Γ : Gm} {M M1 : Ms} {k : Int} {ls : Lets} {te : TE} (h : Ev te Γ M (PAl T k ls) M1) : Ev (tFld K te "places") Γ M (D K (.int k)) M1 :=
  ev_fld (P := D K (.int k)) (fps := alF K k ls) h (by simp) T.cl_Alphabet T.na_Alphabet_places
def sp_independent (T : Txt K mg) : Sp := fun vs H Q _ => ∃ (k : Int) (ls : Lets) (a b : Int), (AlphaOk k ls ∧ (0 ≤ a ∧ a < (ls.length : Int)) ∧ (0 ≤ b ∧ b < (ls.length : Int))) ∧ Prom [PAl T k ls, D K (.int a), D K (.int b)] [] (D K (.bool (free ls a b))) [] vs H Q
theorem sp_independent_len {T : Txt K mg} {vs H Q E} (h : sp_independent T vs H Q E) : vs.length = 3 := by obtain ⟨_, _, _, _, _, h⟩ := h; exact h.len
set_option maxHeartbeats 4000000 in
theorem ok_independent (T : Txt K mg) : FnOk P wo K mg base CX0 1 T.f_independent T.d_independent ["alphabet", "first", "second"] (sp_independent T) := by
  have nd := (sc_independent).nd
  refine T.F_independent.ok sc_independent (fun vs H Q E h => (sp_independent_len h)) (fun cdv A outer s H vs Q E hr h => ?_)
  obtain ⟨n, ls, a, b, ⟨A, ha, hb⟩, F, w, ps, k⟩ := h
  refine ⟨_, (pss_cons (ps_set (i := 3) nd rfl (Or.inl rfl) (pe_ix (c_ix (K := K) rfl) (c_fld (K := K) rfl (pv 0) rfl) (pv 2) (fun _ _ => rfl)))
    (pss_cons (ps_for PassesOwn.never rfl (pi_tupK (K := K) rfl (pe_ix (c_ix (K := K) rfl) (c_fld (K := K) rfl (pv 0) rfl) (pv 1) (fun _ _ => rfl))) (pg_name (i := 4) nd rfl (by first | exact Or.inl rfl | exact Or.inr rfl))
     (pss_one (ps_if (pt_cmpR (c_in (K := K) rfl) (pv 4) (pv 3) (by rfl)) (pss_one (ps_ret pe_bl)) pss_nil)))
    (pss_one (ps_ret pe_bl)))), ?_⟩
  refine go_start w ps (Γ := [some (PAl T n ls), some (D K (.int a)), some (D K (.int b)), none, none]) rfl ?_
  refine (q_asg (ev_lets (ev_var (i := 0) rfl) (ev_var (i := 2) rfl) hb) ?_)
  refine (q_forT ((ev_lets (ev_var (i := 0) rfl) (ev_var (i := 1) rfl) ha).weak le_dT) (fun i Γ M => ∃ g4 : Option MP, Γ = [some (PAl T n ls), some (D K (.int a)), some (D K (.int b)), some (D K (dT (pl ls b))), g4] ∧ M = [] ∧ ∀ x ∈ (pl ls a).take i, x ∉ pl ls b) ⟨none, rfl, rfl, by simp⟩ ?_ ?_)
  · rintro E' hE i P hP _ _ ⟨g4, rfl, rfl, hx⟩
    rw [List.getElem?_map] at hP
    obtain ⟨x, hxi, rfl⟩ := Option.map_eq_some_iff.mp hP
    refine go_if (et_test (ev_op (ev_var (i := 4) rfl) (ev_var (i := 3) rfl) (rv_inT (neg := false)))) (fun hz => ?_) fun hz => go_next (JA.of ⟨_, rfl, rfl, fun y hy => ?_⟩)
    · have e : free ls a b = false := not_disj.mpr ⟨x, List.mem_of_getElem? hxi, by simpa using hz.symm⟩
      rw [e] at k
      exact go_ret hE (ev_bl (K := K)) k
    · rw [List.take_add_one, hxi] at hy
      rcases List.mem_append.mp hy with hy | hy
      · exact hx y hy
      · have : y = x := by simpa using hy
        subst this
        simpa using hz
  · rintro _ _ ⟨g4, rfl, rfl, hx⟩
    rw [List.length_map, List.take_length] at hx
    have e : free ls a b = true := disj_iff.mpr hx
    rw [e] at k
    exact go_ret Le.refl (ev_bl (K := K)) k
theorem use_independent {T : Txt K mg} {tr : TA} {Γ : Gm} {M M1 : Ms} {k : Int} {ls : Lets} {a b : Int} {X : XK} (h : EvA tr Γ M [PAl T k ls, D K (.int a), D K (.int b)] M1) (hn : AlphaOk k ls ∧ (0 ≤ a ∧ a < (ls.length : Int)) ∧ (0 ≤ b ∧ b < (ls.length : Int))) : Ev (tCall (sp_independent T) [] X tr) Γ M (D K (.bool (free ls a b))) M1 :=
  call0 h fun vs H Q z => ⟨k, ls, a, b, hn, z⟩
end
end My
namespace My
open PySem L2 Hq
local macro_rules | `(tactic| trivial) => `(tactic| omega)
section
variable {P : Program} {wo : World} {K : PySem.W.Frag} {mg : Str → Option Value} {base : Heap}
/-! ### is_ready -/
theorem sc_is_ready : FnScope ["alphabet", "queues", "heads", "letter", "place", "head"] ["alphabet", "queues", "heads", "letter"] (defScope s_is_ready) := ⟨rfl, rfl, rfl, by decide +kernel, rfl, by decide +kernel, by decide +kernel⟩
/-- queues, as a list or a tuple of lists or tuples -/
def dQ (c b : Bool) (qs : Qs) : PyData := if c then .tuple (qs.map (dW b)) else .list (qs.map (dW b))
theorem rv_ixQ {M : Ms} {c b : Bool} {qs : Qs} {p : Int} (h0 : 0 ≤ p) (h : p.toNat < qs.length) : RV (rIx K) (D K (dQ c b qs)) (D K (.int p)) M (D K (dW b (qat qs p))) M := by
  have e : (qs.map (dW b))[p.toNat]? = some (dW b (qat qs p)) := by
    unfold qat
    rw [List.getElem?_map, List.getD_eq_getElem?_getD, List.getElem?_eq_getElem h]; rfl
  cases c with
  | true => exact rv_ixDT h0 e
  | false => exact rv_ixDL h0 e
theorem i_hs {hs : List Int} {p : Int} (h0 : 0 ≤ p) (h : p.toNat < hs.length) : (hs.map PyData.int)[p.toNat]? = some (.int (hs.getD p.toNat 0)) := by
  rw [List.getElem?_map, List.getElem?_eq_getElem h, List.getD_eq_getElem?_getD, List.getElem?_eq_getElem h]; rfl
def sp_is_ready (T : Txt K mg) : Sp := fun vs H Q _ => ∃ (k : Int) (ls : Lets) (qs : Qs) (hs : List Int) (a : Int) (c b : Bool), (AlphaOk k ls ∧ QOk k qs hs ∧ (0 ≤ a ∧ a < (ls.length : Int))) ∧ Prom [PAl T k ls, D K (dQ c b qs), D K (dT hs), D K (.int a)] [] (D K (.bool (rdyR ls (rq qs hs) a))) [] vs H Q
theorem sp_is_ready_len {T : Txt K mg} {vs H Q E} (h : sp_is_ready T vs H Q E) : vs.length = 4 := by obtain ⟨_, _, _, _, _, _, _, _, h⟩ := h; exact h.len
set_option maxHeartbeats 4000000 in
theorem ok_is_ready (T : Txt K mg) : FnOk P wo K mg base CX0 1 T.f_is_ready T.d_is_ready ["alphabet", "queues", "heads", "letter"] (sp_is_ready T) := by
  have nd := (sc_is_ready).nd
  refine T.F_is_ready.ok sc_is_ready (fun vs H Q E h => (sp_is_ready_len h)) (fun cdv A outer s H vs Q E hr h => ?_)
  obtain ⟨n, ls, qs, hs, a, c, b, ⟨A, hh, ha⟩, F, w, pp, k⟩ := h
  refine ⟨_, (pss_cons (ps_for PassesOwn.never rfl (pi_tupK (K := K) rfl (pe_ix (c_ix (K := K) rfl) (c_fld (K := K) rfl (pv 0) rfl) (pv 3) (fun _ _ => rfl))) (pg_name (i := 4) nd rfl (by first | exact Or.inl rfl | exact Or.inr rfl))
     (pss_cons (ps_set (i := 5) nd rfl (Or.inl rfl) (pe_ix (c_ix (K := K) rfl) (pv 2) (pv 4) (fun _ _ => rfl)))
     (pss_one (ps_if (PW.pt (pw_or (pt_cmpR op_ge (pv 5) (pe_callB (c_len (K := K) rfl) (by rfl) T.z_len PySem.boot_len (pa_cons (pe_ix (c_ix (K := K) rfl) (pv 1) (pv 4) (fun _ _ => rfl)) pa_nil)) (nomark _)) (pw_or1 (pt_cmpR op_ne (pe_ix (c_ix (K := K) rfl) (pe_ix (c_ix (K := K) rfl) (pv 1) (pv 4) (fun _ _ => rfl)) (pv 5) (fun _ _ => rfl)) (pv 3) (nomark _))))) (pss_one (ps_ret pe_bl)) pss_nil))))
    (pss_one (ps_ret pe_bl))), ?_⟩
  refine go_start w pp (Γ := [some (PAl T n ls), some (D K (dQ c b qs)), some (D K (dT hs)), some (D K (.int a)), none, none]) rfl ?_
  have pok := (A.pl_ok ha).2
  have hl := hh.hl; have ql := hh.ql
  refine (q_forT ((ev_lets (ev_var (i := 0) rfl) (ev_var (i := 3) rfl) ha).weak le_dT) (fun i Γ M => ∃ g4 g5 : Option MP, Γ = [some (PAl T n ls), some (D K (dQ c b qs)), some (D K (dT hs)), some (D K (.int a)), g4, g5] ∧ M = [] ∧ ∀ x ∈ (pl ls a).take i, (qat (rq qs hs) x).head? = some a) ⟨none, none, rfl, rfl, by simp⟩ ?_ ?_)
  · rintro E' hE i P hP _ _ ⟨g4, g5, rfl, rfl, hx⟩
    rw [List.getElem?_map] at hP
    obtain ⟨x, hxi, rfl⟩ := Option.map_eq_some_iff.mp hP
    have hxm := List.mem_of_getElem? hxi
    obtain ⟨x0, xk⟩ := pok x hxm
    obtain ⟨p, rfl⟩ := Int.eq_ofNat_of_zero_le x0
    have hp : p < qs.length := by omega
    have eq := qat_rq (hs := hs) hp
    have h0 := hh.h0 _ (getD_mem (hs := hs) (p := p) (by omega))
    dsimp only [List.set]
    refine (q_asg (ev_op (ev_var (i := 2) rfl) (ev_var (i := 4) rfl) (rv_ixDT (by omega) (i_hs (by omega) (by omega)))) ?_)
    rw [Int.toNat_natCast]
    generalize hs.getD p 0 = hd at *
    obtain ⟨m, rfl⟩ := Int.eq_ofNat_of_zero_le h0
    rw [Int.toNat_natCast] at eq
    dsimp only [List.set]
    have evq : Ev (tOp (rIx K) (tVar 1) (tVar 4)) [some (PAl T n ls), some (D K (dQ c b qs)), some (D K (dT hs)), some (D K (.int a)), some (D K (.int p)), some (D K (.int (m : Int)))] [] (D K (dW b (qat qs p))) [] := ev_op (ev_var (i := 1) rfl) (ev_var (i := 4) rfl) (rv_ixQ (by omega) (by omega))
    have tst := et_or (b := !decide ((qat qs p).getD m 0 = a)) (et_test (ev_op (ev_var (i := 5) rfl) (ev_lenW evq) (rv_b0 (g := fun i j => decide (i ≥ j))))) fun hn => et_test (ev_op (ev_op evq (ev_var (i := 5) rfl) (rv_ixW (x := (qat qs p).getD m 0) (by omega) (by
      have hn : m < (qat qs p).length := by simpa using hn
      rw [Int.toNat_natCast, List.getElem?_map, List.getElem?_eq_getElem hn, List.getD_eq_getElem?_getD, List.getElem?_eq_getElem hn]; rfl))) (ev_var (i := 3) rfl) rv_neI)
    have hq : (qat (rq qs hs) (p : Int)).head? = (qat qs p)[m]? := by rw [eq, List.head?_drop]
    refine go_if tst (fun hz => ?_) fun hz => go_next (JA.of ⟨_, _, rfl, rfl, fun y hy => ?_⟩)
    · have e : rdyR ls (rq qs hs) a = false := by
        rw [Bool.eq_false_iff]
        intro h
        have h2 := rdyR_iff.mp h p hxm
        rw [hq] at h2
        obtain ⟨h3, h4⟩ := List.getElem?_eq_some_iff.mp h2
        rw [List.getD_eq_getElem?_getD, h2] at hz
        simp at hz
        omega
      rw [e] at k
      exact go_ret hE (ev_bl (K := K)) k
    · rw [List.take_add_one, hxi] at hy
      rcases List.mem_append.mp hy with hy | hy
      · exact hx y hy
      · have : y = (p : Int) := by simpa using hy
        subst this
        rw [hq]
        have hz2 := hz.symm
        rw [Bool.or_eq_false_iff] at hz2
        obtain ⟨h1, h2⟩ := hz2
        have h1 : m < (qat qs p).length := by simpa using h1
        rw [List.getD_eq_getElem?_getD, List.getElem?_eq_getElem h1] at h2
        rw [List.getElem?_eq_getElem h1]
        simpa using h2
  · rintro _ _ ⟨g4, g5, rfl, rfl, hx⟩
    rw [List.length_map, List.take_length] at hx
    have e : rdyR ls (rq qs hs) a = true := rdyR_iff.mpr hx
    rw [e] at k
    exact go_ret Le.refl (ev_bl (K := K)) k
theorem use_is_ready {T : Txt K mg} {tr : TA} {Γ : Gm} {M M1 : Ms} {k : Int} {ls : Lets} {qs : Qs} {hs : List Int} {a : Int} {c b : Bool} {X : XK} (h : EvA tr Γ M [PAl T k ls, D K (dQ c b qs), D K (dT hs), D K (.int a)] M1) (hn : AlphaOk k ls ∧ QOk k qs hs ∧ (0 ≤ a ∧ a < (ls.length : Int))) : Ev (tCall (sp_is_ready T) [] X tr) Γ M (D K (.bool (rdyR ls (rq qs hs) a))) M1 :=
  call0 h fun vs H Q z => ⟨k, ls, qs, hs, a, c, b, hn, z⟩
/-! ### ready_letters -/
theorem sc_ready_letters : FnScope ["alphabet", "queues", "heads", "letter"] ["alphabet", "queues", "heads"] (defScope s_ready_letters) := ⟨rfl, rfl, rfl, by decide +kernel, rfl, by decide +kernel, by decide +kernel⟩
def sp_ready_letters (T : Txt K mg) : Sp := fun vs H Q _ => ∃ (k : Int) (ls : Lets) (qs : Qs) (hs : List Int) (c b : Bool), (AlphaOk k ls ∧ QOk k qs hs) ∧ Prom [PAl T k ls, D K (dQ c b qs), D K (dT hs)] [] (D K (dL (rdyRL ls (rq qs hs)))) [] vs H Q
theorem sp_ready_letters_len {T : Txt K mg} {vs H Q E} (h : sp_ready_letters T vs H Q E) : vs.length = 3 := by obtain ⟨_, _, _, _, _, _, _, h⟩ := h; exact h.len
set_option maxHeartbeats 4000000 in
theorem ok_ready_letters (T : Txt K mg) : FnOk P wo K mg base CX0 2 T.f_ready_letters T.d_ready_letters ["alphabet", "queues", "heads"] (sp_ready_letters T) := by
  have nd := (sc_ready_letters).nd
  refine T.F_ready_letters.ok sc_ready_letters (fun vs H Q E h => (sp_ready_letters_len h)) (fun cdv A outer s H vs Q E hr h => ?_)
  obtain ⟨n, ls, qs, hs, c, b, ⟨A, hh⟩, F, w, pp, k⟩ := h
  refine ⟨_, (pss_one (ps_ret (pe_lc (own := [("letter", 3)]) (by rfl) nd (pi_range1 (by rfl) T.z_range (pa_cons (pe_callB (c_len (K := K) rfl) (by rfl) T.z_len PySem.boot_len (pa_cons (c_fld (K := K) rfl (pv 0) rfl) pa_nil)) pa_nil)) (blkOk_by (N := ["alphabet", "queues", "heads", "letter"]) (sc := defScope s_ready_letters) (own := [("letter", 3)]) (by decide +kernel)) (fun _ _ _ _ _ => pg_name (i := 3) nd rfl (by first | exact Or.inl rfl | exact Or.inr rfl)) (fun _ _ _ _ _ => (pts_one (pt_val (pe_call (ok_is_ready T) (hr.mono (by decide)) rfl T.m_is_ready T.F_is_ready.kp T.b_is_ready .nil pass0 (pa_cons (pv 0) (pa_cons (pv 1) (pa_cons (pv 2) (pa_cons (pv 3) pa_nil)))))))) (fun _ _ _ _ _ => (pv 3))))), ?_⟩
  refine go_start w pp (Γ := [some (PAl T n ls), some (D K (dQ c b qs)), some (D K (dT hs)), none]) rfl ?_
  have l6 := A.l6
  have lc := evn_lcR (K := K) (z := (ls.length : Int)) (i := 3) (G := fun a : Nat => D K (.int (a : Int))) (M := []) (M1 := []) (Γ := [some (PAl T n ls), some (D K (dQ c b qs)), some (D K (dT hs)), none]) (fun a : Nat => rdyR ls (rq qs hs) a) (ea_cons (ev_lenMT (f := dT) (ev_fld (P := D K (dTT ls)) (fps := alF K n ls) (ev_var (i := 0) rfl) (by simp) T.cl_Alphabet T.na_Alphabet_letters)) ea_nil) (by omega)
    (fun a h => et_val (use_is_ready (T := T) (X := E0) (ea_cons (ev_var (i := 0) rfl) (ea_cons (ev_var (i := 1) rfl) (ea_cons (ev_var (i := 2) rfl) (ea_cons (ev_var (i := 3) rfl) ea_nil)))) ⟨A, hh, by omega, h⟩)) (fun a _ _ => ev_var (i := 3) rfl)
  rw [Int.toNat_natCast] at lc
  refine go_ret Le.refl (P := D K (dL (rdyRL ls (rq qs hs)))) ((ev_newL (K := K) lc).weak fun F v h => ?_) k
  have := Lm_le (K := K) (f := fun a : Nat => PyData.int (a : Int)) F v h
  unfold rdyRL dL
  rw [List.map_map]
  exact this
theorem use_ready_letters {T : Txt K mg} {tr : TA} {Γ : Gm} {M M1 : Ms} {k : Int} {ls : Lets} {qs : Qs} {hs : List Int} {c b : Bool} {X : XK} (h : EvA tr Γ M [PAl T k ls, D K (dQ c b qs), D K (dT hs)] M1) (hn : AlphaOk k ls ∧ QOk k qs hs) : Ev (tCall (sp_ready_letters T) [] X tr) Γ M (D K (dL (rdyRL ls (rq qs hs)))) M1 :=
  call0 h fun vs H Q z => ⟨k, ls, qs, hs, c, b, hn, z⟩
/-! ### moved_heads -/
theorem sc_moved_heads : FnScope ["alphabet", "heads", "letter", "places", "place", "head"] ["alphabet", "heads", "letter"] (defScope s_moved_heads) := ⟨rfl, rfl, rfl, by decide +kernel, rfl, by decide +kernel, by decide +kernel⟩
def sp_moved_heads (T : Txt K mg) : Sp := fun vs H Q _ => ∃ (k : Int) (ls : Lets) (hs : List Int) (a : Int), (hs.length ≤ 1000 ∧ (0 ≤ a ∧ a < (ls.length : Int))) ∧ Prom [PAl T k ls, D K (dT hs), D K (.int a)] [] (NT (mvH ls a hs)) [] vs H Q
theorem sp_moved_heads_len {T : Txt K mg} {vs H Q E} (h : sp_moved_heads T vs H Q E) : vs.length = 3 := by obtain ⟨_, _, _, _, _, h⟩ := h; exact h.len
set_option maxHeartbeats 4000000 in
theorem ok_moved_heads (T : Txt K mg) : FnOk P wo K mg base CX0 1 T.f_moved_heads T.d_moved_heads ["alphabet", "heads", "letter"] (sp_moved_heads T) := by
  have nd := (sc_moved_heads).nd
  refine T.F_moved_heads.ok sc_moved_heads (fun vs H Q E h => (sp_moved_heads_len h)) (fun cdv A outer s H vs Q E hr h => ?_)
  obtain ⟨n, ls, hs, a, ⟨hl, ha⟩, F, w, pp, k⟩ := h
  refine ⟨_, (pss_cons (ps_set (i := 3) nd rfl (Or.inr rfl) (pe_ix (c_ix (K := K) rfl) (c_fld (K := K) rfl (pv 0) rfl) (pv 2) (fun _ _ => rfl)))
    (pss_one (ps_ret (pe_callTy (c_tuple (K := K) rfl) (by rfl) T.z_tuple (by decide +kernel) (pa_cons (pe_lc (own := [("place", 4), ("head", 5)]) (by rfl) nd (pi_enumTK (K := K) rfl (by rfl) T.z_enumerate (pa_cons (pv 1) pa_nil)) (blkOk_by (N := ["alphabet", "heads", "letter", "places", "place", "head"]) (sc := defScope s_moved_heads) (own := [("place", 4), ("head", 5)]) (by decide +kernel)) (fun _ _ _ _ _ => pg_tupK (K := K) (n := 2) rfl (by rfl) (pgs_cons (pg_name (i := 4) nd rfl (by first | exact Or.inl rfl | exact Or.inr rfl)) (pgs_cons (pg_name (i := 5) nd rfl (by first | exact Or.inl rfl | exact Or.inr rfl)) pgs_nil))) (fun _ _ _ _ _ => pts_nil) (fun _ _ _ _ _ => (pe_op op_add (pv 5) (pe_ifExp (pt_cmpR (c_in (K := K) rfl) (pv 4) (pv 3) (by rfl)) pe_int pe_int)))) pa_nil))))), ?_⟩
  refine go_start w pp (Γ := [some (PAl T n ls), some (D K (dT hs)), some (D K (.int a)), none, none, none]) rfl ?_
  refine (q_asg (ev_lets (ev_var (i := 0) rfl) (ev_var (i := 2) rfl) ha) ?_)
  dsimp only [List.set]
  have lc := evn_lcEnumT (K := K) (xs := hs) (R := fun x => D K (.int x)) (i := 4) (j := 5) (G := fun z : Int × Nat => D K (.int (z.1 + if (z.2 : Int) ∈ pl ls a then 1 else 0))) (M := []) (M1 := []) (Γ := [some (PAl T n ls), some (D K (dT hs)), some (D K (.int a)), some (D K (dT (pl ls a))), none, none]) (fun _ => true) (by decide) ((ev_var (i := 1) rfl).weak le_dT) (by omega) (fun _ _ => et_yes)
    (fun z _ _ => ev_op (ev_var (i := 5) rfl) ((ev_if (P := D K (.int (if (z.2 : Int) ∈ pl ls a then 1 else 0))) (et_test (ev_op (ev_var (i := 4) rfl) (ev_var (i := 3) rfl) (rv_inT (neg := false)))) (fun h => (ev_int (K := K) (i := 1)).is (by rw [if_pos (by simpa using h)])) (fun h => (ev_int (K := K) (i := 0)).is (by rw [if_neg (by simpa using h)])))) (rv_i0 (g := fun i j => i + j)))
  rw [filter_true] at lc
  have lc2 := lc.is (O2 := MInts K (mvH ls a hs)) (by unfold mvH; rw [MInts, List.map_map]; rfl)
  exact go_ret Le.refl (ev_cb (ea_cons (ev_newL lc2) ea_nil) rc_tupleNL) k
theorem use_moved_heads {T : Txt K mg} {tr : TA} {Γ : Gm} {M M1 : Ms} {k : Int} {ls : Lets} {hs : List Int} {a : Int} {X : XK} (h : EvA tr Γ M [PAl T k ls, D K (dT hs), D K (.int a)] M1) (hn : hs.length ≤ 1000 ∧ (0 ≤ a ∧ a < (ls.length : Int))) : Ev (tCall (sp_moved_heads T) [] X tr) Γ M (NT (mvH ls a hs)) M1 :=
  call0 h fun vs H Q z => ⟨k, ls, hs, a, hn, z⟩
/-! ### _check_states -/
theorem sc__check_states : FnScope ["many", "states", "state"] ["many", "states"] (defScope s__check_states) := ⟨rfl, rfl, rfl, by decide +kernel, rfl, by decide +kernel, by decide +kernel⟩
def StOk (k : Int) (l : List Int) : Prop := ∀ x ∈ l, 0 ≤ x ∧ x < k
def sp__check_states (T : Txt K mg) : Sp := fun vs H Q X => ∃ (k : Int) (l : List Int), ∃ F, Wd F [] H ∧ Ps F vs [D K (.int k), D K (dL l)] ∧ (StOk k l → Rt ⟨F, H, keys []⟩ [] (D K .none) Q) ∧ (¬ StOk k l → RtE ⟨F, H, keys []⟩ [] T.c_InvalidAutomaton X)
theorem sp__check_states_len {T : Txt K mg} {vs H Q E} (h : sp__check_states T vs H Q E) : vs.length = 2 := by obtain ⟨_, _, F, _, p, _⟩ := h; exact paired_len p
theorem qs_callB {E : Ent} {M M1 : Ms} {Γ : Gm} {P : MP} {Cx : Addr} {tr : TA} {D1 : Ends} {tz : TS} {ps : List MP} {X : XK} {sp : Sp} {ok : Bool} (h : EvA tr Γ M ps M1) (hs : ∀ vs H Q X, (∃ F, Wd F [] H ∧ Ps F vs ps ∧ (ok = true → Rt ⟨F, H, keys []⟩ [] P Q) ∧ (ok = false → RtE ⟨F, H, keys []⟩ [] Cx X)) → sp vs H Q X)
    (k1 : ok = true → Nx E Γ M1 (tz D1)) (k2 : ok = false → RtE E M1 Cx X) : Nx E Γ M (tSeq (tDrop (tCall sp [] X tr)) tz D1) := q_callB (D1 := { D1 with nx := tz D1 }) h hs k1 k2
set_option maxHeartbeats 4000000 in
theorem ok__check_states (T : Txt K mg) : FnOk P wo K mg base (L2.CX P wo) 1 T.f__check_states T.d__check_states ["many", "states"] (sp__check_states T) := by
  have nd := (sc__check_states).nd
  refine T.F__check_states.okX sc__check_states (fun vs H Q E h => (sp__check_states_len h)) (fun cdv A outer s H vs Q E hr h => ?_)
  obtain ⟨n, l, F, w, p, k, kx⟩ := h
  refine ⟨_, (pss_one (ps_for (passes_of rfl) rfl (pi_listK (K := K) rfl (pv 1)) (pg_name (i := 2) nd rfl (by first | exact Or.inl rfl | exact Or.inr rfl))
     (pss_one (ps_if (pt_not (pt_chain op_le op_lt pe_int (pv 2) (pv 0))) (pss_one (ps_raise rfl (takes_of rfl rfl rfl rfl) (pmk_own PySem.F.excBase_ValueError T.x_InvalidAutomaton T.mc_InvalidAutomaton T.k_InvalidAutomaton (raises_own T.b_InvalidAutomaton T.t_InvalidAutomaton) (by exact rfl)))) pss_nil)))), ?_⟩
  refine go_start w p (Γ := [some (D K (.int n)), some (D K (dL l)), none]) rfl ?_
  refine (go_forL ((ev_var (i := 1) rfl).weak le_dL) (fun i Γ M => ∃ g2 : Option MP, Γ = [some (D K (.int n)), some (D K (dL l)), g2] ∧ M = [] ∧ ∀ x ∈ l.take i, 0 ≤ x ∧ x < n) ⟨none, rfl, rfl, fun x hx => by simp at hx⟩ ?_ ?_)
  · rintro E' hE i P hP _ _ ⟨g2, rfl, rfl, hp⟩
    rw [List.getElem?_map] at hP
    obtain ⟨x, hx, rfl⟩ := Option.map_eq_some_iff.mp hP
    refine go_if (et_not (et_test (ev_chain (ev_int (K := K)) (ev_var rfl) rv_b0 (fun _ => (ev_var rfl)) rv_b0))) (fun hz => go_raise (RtE.le hE (kx fun L => ?_))) fun hz => go_next (JA.of ⟨_, rfl, rfl, fun y hy => ?_⟩)
    · have := L x (List.mem_of_getElem? hx)
      simp at hz
      omega
    · rw [List.take_add_one, hx] at hy
      rcases List.mem_append.mp hy with hy | hy
      · exact hp y hy
      · have : y = x := by simpa using hy
        subst this
        simp at hz
        omega
  · rintro _ _ ⟨g2, rfl, rfl, hp⟩
    rw [List.length_map, List.take_length] at hp
    exact fun σ H' ⟨F', a, b⟩ => k hp .non F' H' a .non
/-! ### Automaton.__init__ -/
theorem sc_Automaton_init : FnScope ["self", "letters", "start", "finals", "rows", "index", "row"] ["self", "letters", "start", "finals", "rows"] (defScope s_Automaton_init) := ⟨rfl, rfl, rfl, by decide +kernel, rfl, by decide +kernel, by decide +kernel⟩
abbrev dLL (R : List (List Int)) : PyData := .list (R.map dL)
abbrev auF (K : PySem.W.Frag) (A : Au) : List (Str × MP) := [("rows", D K (dTT A.R)), ("finals", D K (dT A.F)), ("start", D K (.int A.s)), ("letters", D K (.int (A.L : Int)))]
/-- an automaton that stands -/
abbrev PAu (T : Txt K mg) (A : Au) : MP := PIns T.c_Automaton (auF K A)
abbrev auOf (n s : Int) (F : List Int) (R : List (List Int)) : Au := ⟨n.toNat, s, F, R⟩
def sp_Automaton_init (T : Txt K mg) : Sp := fun vs H Q X => ∃ (x : Addr) (n s : Int) (Fs : List Int) (R : List (List Int)), (Fs.length ≤ 1000 ∧ R.length ≤ 1000 ∧ ∀ r ∈ R, r.length ≤ 1000) ∧ ∃ F, Wd F [(x, MIns T.c_Automaton 0 [])] H ∧ Ps F vs [Own x, D K (.int n), D K (.int s), D K (dL Fs), D K (dLL R)] ∧
  ((auOf n s Fs R).Ok → Rt ⟨F, H, keys [(x, MIns T.c_Automaton 0 [])]⟩ [(x, MIns T.c_Automaton 4 (auF K (auOf n s Fs R)))] (D K .none) Q) ∧
  (¬ (auOf n s Fs R).Ok → RtE ⟨F, H, keys [(x, MIns T.c_Automaton 0 [])]⟩ [(x, MAny)] T.c_InvalidAutomaton X)
theorem sp_Automaton_init_len {T : Txt K mg} {vs H Q E} (h : sp_Automaton_init T vs H Q E) : vs.length = 5 := by obtain ⟨_, _, _, _, _, _, F, _, p, _⟩ := h; exact paired_len p
theorem pw_adj {l : List Int} (h : ∀ j, ∀ h : j + 1 < l.length, l[j] < l[j + 1]) : l.Pairwise (· < ·) := by
  have key : ∀ (d i : Nat) (h : i + d + 1 < l.length), l[i] < l[i + d + 1] := by
    intro d
    induction d with
    | zero => intro i hi; exact h i hi
    | succ d ih =>
      intro i hi
      exact Int.lt_trans (ih i (by omega)) (h (i + d + 1) (by omega))
  rw [List.pairwise_iff_getElem]
  intro i j hi hj hij
  have := key (j - i - 1) i (by omega)
  have e : i + (j - i - 1) + 1 = j := by omega
  simp only [e] at this
  exact this
theorem row_ix {A : Au} {q : Int} (h : A.In q) : (A.R.map dT)[q.toNat]? = some (dT (A.row q)) := by
  rw [List.getElem?_map, Au.row_at h]; rfl
theorem nx_ix {A : Au} (O : A.Ok) {q : Int} (h : A.In q) {a : Nat} (ha : a < A.L) : ((A.row q).map PyData.int)[a]? = some (.int (nxA A q a)) := by
  have l := (O.R _ (Au.row_mem h)).1
  unfold nxA
  rw [List.getElem?_map, List.getElem?_eq_getElem (by omega), List.getD_eq_getElem?_getD, List.getElem?_eq_getElem (by omega)]; rfl
theorem ev_row {T : Txt K mg} {Γ : Gm} {M : Ms} {A : Au} {ta tq : TE} {q : Int} (ha : Ev ta Γ M (PAu T A) M) (hq : Ev tq Γ M (D K (.int q)) M) (h : A.In q) : Ev (tOp (rIx K) (tFld K ta "rows") tq) Γ M (D K (dT (A.row q))) M :=
  ev_op (ev_fld (P := D K (dTT A.R)) (fps := auF K A) ha (by simp) T.cl_Automaton T.na_Automaton_rows) hq (rv_ixDT h.1 (row_ix h))
set_option maxHeartbeats 4000000 in
theorem ok_Automaton_init (T : Txt K mg) : FnOk P wo K mg base (L2.CX P wo) 2 T.f_Automaton_init T.d_Automaton_init ["self", "letters", "start", "finals", "rows"] (sp_Automaton_init T) := by
  have nd := (sc_Automaton_init).nd
  refine T.F_Automaton_init.okX sc_Automaton_init (fun vs H Q E h => (sp_Automaton_init_len h)) (fun cdv A outer s H vs Q E hr h => ?_)
  obtain ⟨x, n, s, Fs, R, ⟨hF, hR, hrr⟩, F, w, p, k, kx⟩ := h
  refine ⟨_, (pss_cons (ps_if (pt_cmpR op_lt (pv 1) pe_int (nomark _)) (pss_one (ps_raise rfl (takes_of rfl rfl rfl rfl) (pmk_own PySem.F.excBase_ValueError T.x_InvalidAutomaton T.mc_InvalidAutomaton T.k_InvalidAutomaton (raises_own T.b_InvalidAutomaton T.t_InvalidAutomaton) (by exact rfl)))) pss_nil)
    (pss_cons (ps_if (pt_cmpR op_eq (pe_callB (c_len (K := K) rfl) (by rfl) T.z_len PySem.boot_len (pa_cons (pv 4) pa_nil)) pe_int (nomark _)) (pss_one (ps_raise rfl (takes_of rfl rfl rfl rfl) (pmk_own PySem.F.excBase_ValueError T.x_InvalidAutomaton T.mc_InvalidAutomaton T.k_InvalidAutomaton (raises_own T.b_InvalidAutomaton T.t_InvalidAutomaton) (by exact rfl)))) pss_nil)
    (pss_cons (ps_expr (pe_call (ok__check_states T) (hr.mono (by decide)) rfl T.m__check_states T.F__check_states.kp T.b__check_states .nil (passes_call (E := E) (takes_of rfl rfl rfl rfl) fun _ _ _ _ h => h) (pa_cons (pe_callB (c_len (K := K) rfl) (by rfl) T.z_len PySem.boot_len (pa_cons (pv 4) pa_nil)) (pa_cons (pe_lst (pa_cons (pv 2) pa_nil)) pa_nil))))
    (pss_cons (ps_expr (pe_call (ok__check_states T) (hr.mono (by decide)) rfl T.m__check_states T.F__check_states.kp T.b__check_states .nil (passes_call (E := E) (takes_of rfl rfl rfl rfl) fun _ _ _ _ h => h) (pa_cons (pe_callB (c_len (K := K) rfl) (by rfl) T.z_len PySem.boot_len (pa_cons (pv 4) pa_nil)) (pa_cons (pv 3) pa_nil))))
    (pss_cons (ps_for (passes_of rfl) rfl (pi_range2 (by rfl) T.z_range (pa_cons pe_int (pa_cons (pe_callB (c_len (K := K) rfl) (by rfl) T.z_len PySem.boot_len (pa_cons (pv 3) pa_nil)) pa_nil))) (pg_name (i := 5) nd rfl (by first | exact Or.inl rfl | exact Or.inr rfl))
     (pss_one (ps_if (pt_cmpR op_ge (pe_ix (c_ix (K := K) rfl) (pv 3) (pe_op op_sub (pv 5) pe_int) (fun _ _ => rfl)) (pe_ix (c_ix (K := K) rfl) (pv 3) (pv 5) (fun _ _ => rfl)) (nomark _)) (pss_one (ps_raise rfl (takes_of rfl rfl rfl rfl) (pmk_own PySem.F.excBase_ValueError T.x_InvalidAutomaton T.mc_InvalidAutomaton T.k_InvalidAutomaton (raises_own T.b_InvalidAutomaton T.t_InvalidAutomaton) (by exact rfl)))) pss_nil)))
    (pss_cons (ps_for (passes_of rfl) rfl (pi_listK (K := K) rfl (pv 4)) (pg_name (i := 6) nd rfl (by first | exact Or.inl rfl | exact Or.inr rfl))
     (pss_cons (ps_if (pt_cmpR op_ne (pe_callB (c_len (K := K) rfl) (by rfl) T.z_len PySem.boot_len (pa_cons (pv 6) pa_nil)) (pv 1) (nomark _)) (pss_one (ps_raise rfl (takes_of rfl rfl rfl rfl) (pmk_own PySem.F.excBase_ValueError T.x_InvalidAutomaton T.mc_InvalidAutomaton T.k_InvalidAutomaton (raises_own T.b_InvalidAutomaton T.t_InvalidAutomaton) (by exact rfl)))) pss_nil)
     (pss_one (ps_expr (pe_call (ok__check_states T) (hr.mono (by decide)) rfl T.m__check_states T.F__check_states.kp T.b__check_states .nil (passes_call (E := E) (takes_of rfl rfl rfl rfl) fun _ _ _ _ h => h) (pa_cons (pe_callB (c_len (K := K) rfl) (by rfl) T.z_len PySem.boot_len (pa_cons (pv 4) pa_nil)) (pa_cons (pv 6) pa_nil)))))))
    (pss_cons (ps_fld (pv 0) (pv 1) rfl)
    (pss_cons (ps_fld (pv 0) (pv 2) rfl)
    (pss_cons (ps_fld (pv 0) (pe_callTy (c_tuple (K := K) rfl) (by rfl) T.z_tuple (by decide +kernel) (pa_cons (pv 3) pa_nil)) rfl)
    (pss_one (ps_fld (pv 0) (pe_callTy (c_tuple (K := K) rfl) (by rfl) T.z_tuple (by decide +kernel) (pa_cons (pe_lc (own := [("row", 6)]) (by rfl) nd (pi_listK (K := K) rfl (pv 4)) (blkOk_by (N := ["self", "letters", "start", "finals", "rows", "index", "row"]) (sc := defScope s_Automaton_init) (own := [("row", 6)]) (by decide +kernel)) (fun _ _ _ _ _ => pg_name (i := 6) nd rfl (by first | exact Or.inl rfl | exact Or.inr rfl)) (fun _ _ _ _ _ => pts_nil) (fun _ _ _ _ _ => (pe_callTy (c_tuple (K := K) rfl) (by rfl) T.z_tuple (by decide +kernel) (pa_cons (pv 6) pa_nil)))) pa_nil)) rfl))))))))))), ?_⟩
  refine go_start w p (Γ := [some (Own x), some (D K (.int n)), some (D K (.int s)), some (D K (dL Fs)), some (D K (dLL R)), none, none]) rfl ?_
  show Nx _ _ [(x, MIns T.c_Automaton 0 [])] _
  have elr : ∀ {Γ : Gm} {M : Ms}, Γ[4]? = some (some (D K (dLL R))) → Ev (tCB (rLn K) (tCons (tVar 4) tNil)) Γ M (D K (.int R.length)) M := fun e => ev_lenM (f := dL) (ev_var e)
  refine (q_if (et_test (ev_op (ev_var (i := 1) rfl) (ev_int (i := 1)) rv_b0)) (fun hz => ?_) fun hz => go_next ?_)
  · refine go_raise (kx fun A => ?_).any0
    have := A.L1
    have : 1 ≤ n.toNat := this
    simp at hz
    omega
  have hn : 1 ≤ n := by simp at hz; omega
  dsimp only
  refine (q_if (et_test (ev_op (elr rfl) (ev_int (i := 0)) rv_eqI)) (fun hz => ?_) fun hz => go_next ?_)
  · refine go_raise (kx fun A => ?_).any0
    obtain ⟨h1, h2⟩ := A.s
    have h2 : s < (R.length : Int) := h2
    have h1 : 0 ≤ s := h1
    simp at hz
    rw [hz] at h2
    simp at h2
    omega
  dsimp only
  letI : ∀ k l, Decidable (StOk k l) := fun _ _ => Classical.propDecidable _
  refine qs_callB (ok := decide (StOk R.length [s])) (Cx := T.c_InvalidAutomaton) (ps := [D K (.int R.length), D K (dL [s])]) (P := D K .none) (ea_cons (elr rfl) (ea_cons ((ev_newL (K := K) (evn_lst (ps := [D K (.int s)]) (ea_cons (ev_var (i := 2) rfl) ea_nil) (by simp))).weak (dL_le (l := [s]))) ea_nil)) (fun vs H Q X ⟨F, w, p, r1, r2⟩ => ⟨R.length, [s], F, w, p, fun h => r1 (decide_eq_true h), fun h => r2 (decide_eq_false h)⟩) (fun ok => ?_) fun no => ?_
  case refine_2 => exact (kx fun A => of_decide_eq_false no fun x hx => by rw [List.mem_singleton.mp hx]; exact A.s).any0
  have ok1 : 0 ≤ s ∧ s < (R.length : Int) := of_decide_eq_true ok s (by simp)
  refine qs_callB (ok := decide (StOk R.length Fs)) (Cx := T.c_InvalidAutomaton) (ps := [D K (.int R.length), D K (dL Fs)]) (P := D K .none) (ea_cons (elr rfl) (ea_cons (ev_var (i := 3) rfl) ea_nil)) (fun vs H Q X ⟨F, w, p, r1, r2⟩ => ⟨R.length, Fs, F, w, p, fun h => r1 (decide_eq_true h), fun h => r2 (decide_eq_false h)⟩) (fun ok => ?_) fun no => ?_
  case refine_2 => exact (kx fun A => of_decide_eq_false no fun x hx => A.F x hx).any0
  have ok2 : StOk R.length Fs := of_decide_eq_true ok
  refine (q_forR2 (lo := 1) (z := (Fs.length : Int)) (ea_cons (ev_int (i := 1)) (ea_cons (ev_lenM (f := PyData.int) (ev_var (i := 3) rfl)) ea_nil)) (by omega) (fun i Γ M => ∃ g5 : Option MP, Γ = [some (Own x), some (D K (.int n)), some (D K (.int s)), some (D K (dL Fs)), some (D K (dLL R)), g5, none] ∧ M = [(x, MIns T.c_Automaton 0 [])] ∧ ∀ j, j < i → ∀ h : j + 1 < Fs.length, Fs[j] < Fs[j + 1]) ⟨none, rfl, rfl, fun j hj => absurd hj (Nat.not_lt_zero _)⟩ ?_ ?_)
  · rintro i hi _ _ ⟨g5, rfl, rfl, hq⟩
    have a1 : i + 1 < Fs.length := by omega
    have e1 : (Fs.map PyData.int)[((1 + (i : Int)) - 1).toNat]? = some (.int Fs[i]) := by
      rw [show ((1 + (i : Int)) - 1).toNat = i by omega, List.getElem?_map, List.getElem?_eq_getElem (by omega)]; rfl
    have e2 : (Fs.map PyData.int)[(1 + (i : Int)).toNat]? = some (.int Fs[i + 1]) := by
      rw [show (1 + (i : Int)).toNat = i + 1 by omega, List.getElem?_map, List.getElem?_eq_getElem a1]; rfl
    refine go_if (et_test (ev_op (ev_op (ev_var (i := 3) rfl) (ev_op (ev_var (i := 5) rfl) (ev_int (i := 1)) rv_i0) (rv_ixDL (by omega) e1)) (ev_op (ev_var (i := 3) rfl) (ev_var (i := 5) rfl) (rv_ixDL (by omega) e2)) rv_b0)) (fun hz => go_raise (kx fun A => ?_).any0) fun hz => go_next (JA.of ⟨_, rfl, rfl, fun j hj h => ?_⟩)
    · have lt : Fs[i] < Fs[i + 1] := List.pairwise_iff_getElem.mp A.up i (i + 1) (by show i < Fs.length; omega) a1 (by omega)
      simp at hz
      omega
    · rcases Nat.lt_succ_iff_lt_or_eq.mp hj with hj | rfl
      · exact hq j hj h
      · simp at hz
        omega
  rintro _ _ ⟨g5, rfl, rfl, hq⟩
  have ok3 : Fs.Pairwise (· < ·) := pw_adj fun j h => hq j (by omega) h
  refine (q_forL ((ev_var (i := 4) rfl).weak (le_Lm (f := dL))) (fun i Γ M => ∃ g6 : Option MP, Γ = [some (Own x), some (D K (.int n)), some (D K (.int s)), some (D K (dL Fs)), some (D K (dLL R)), g5, g6] ∧ M = [(x, MIns T.c_Automaton 0 [])] ∧ ∀ r ∈ R.take i, (r.length : Int) = n ∧ StOk R.length r) ⟨none, rfl, rfl, fun l hl => by simp at hl⟩ ?_ ?_)
  · rintro E' hE i P hP _ _ ⟨g6, rfl, rfl, hp⟩
    rw [List.getElem?_map] at hP
    obtain ⟨r, hx, rfl⟩ := Option.map_eq_some_iff.mp hP
    have hm := List.mem_of_getElem? hx
    dsimp only [List.set]
    refine (q_if (et_test (ev_op (ev_lenM (f := PyData.int) (ev_var (i := 6) rfl)) (ev_var (i := 1) rfl) rv_neI)) (fun hz => ?_) fun hz => go_next ?_)
    · refine go_raise (RtE.le hE (kx fun A => ?_).any0)
      have := (A.R r hm).1
      have : r.length = n.toNat := this
      simp at hz
      omega
    have hl : (r.length : Int) = n := by simpa using hz
    dsimp only
    refine q_callB (ok := decide (StOk R.length r)) (Cx := T.c_InvalidAutomaton) (ps := [D K (.int R.length), D K (dL r)]) (P := D K .none) (ea_cons (elr rfl) (ea_cons (ev_var (i := 6) rfl) ea_nil)) (fun vs H Q X ⟨F, w, p, r1, r2⟩ => ⟨R.length, r, F, w, p, fun h => r1 (decide_eq_true h), fun h => r2 (decide_eq_false h)⟩) (fun ok => ?_) fun no => ?_
    · have ok := of_decide_eq_true ok
      refine JA.of ⟨_, rfl, rfl, fun y hy => ?_⟩
      rw [List.take_add_one, hx] at hy
      rcases List.mem_append.mp hy with hy | hy
      · exact hp y hy
      · have : y = r := by simpa using hy
        rw [this]; exact ⟨hl, ok⟩
    · have no := of_decide_eq_false no
      exact RtE.le hE (kx fun A => no fun x hx => (A.R r hm).2 x hx).any0
  rintro _ _ ⟨g6, rfl, rfl, hp⟩
  rw [List.length_map, List.take_length] at hp
  have A : (auOf n s Fs R).Ok := ⟨by show 1 ≤ n.toNat; omega, ok1, ok2, ok3, fun r h => ⟨by have := (hp r h).1; show r.length = n.toNat; omega, (hp r h).2⟩⟩
  refine (q_fld (j := 0) (n := 0) (fps := []) (P := D K (.int ((auOf n s Fs R).L : Int))) ((ev_var (i := 1) rfl).is (by show D K (.int n) = D K (.int (n.toNat : Int)); rw [Int.toNat_of_nonneg (by omega)])) (ev_var (i := 0) rfl) rfl (by decide) (fun _ h => by cases h) T.cl_Automaton T.na_Automaton_letters ?_)
  refine (q_fld (j := 0) (n := 1) (ev_var (i := 2) rfl) (ev_var (i := 0) rfl) rfl (by decide) (fun g h => by rw [List.mem_singleton.mp h]; show ("letters" : Str) ≠ "start"; decide +kernel) T.cl_Automaton T.na_Automaton_start ?_)
  refine (q_fld (j := 0) (n := 2) (P := D K (dT Fs)) ((ev_cb (ea_cons ((ev_var (i := 3) rfl).weak le_dL) ea_nil) rc_tupleL).weak dT_le) (ev_var (i := 0) rfl) rfl (by decide) (fun g h => by
    rcases List.mem_cons.mp h with rfl | h
    · show ("start" : Str) ≠ "finals"; decide +kernel
    · rw [List.mem_singleton.mp h]; show ("letters" : Str) ≠ "finals"; decide +kernel) T.cl_Automaton T.na_Automaton_finals ?_)
  have lc := evn_lcL (K := K) (xs := R) (R := fun l => D K (dL l)) (G := fun l => D K (dT l)) (i := 6) (M := [(x, MIns T.c_Automaton 3 [("finals", D K (dT Fs)), ("start", D K (.int s)), ("letters", D K (.int ((auOf n s Fs R).L : Int)))])]) (M1 := [(x, MIns T.c_Automaton 3 [("finals", D K (dT Fs)), ("start", D K (.int s)), ("letters", D K (.int ((auOf n s Fs R).L : Int)))])]) (Γ := [some (Own x), some (D K (.int n)), some (D K (.int s)), some (D K (dL Fs)), some (D K (dLL R)), g5, g6]) (fun _ => true) ((ev_var (i := 4) rfl).weak (le_Lm (f := dL))) (by omega) (fun _ _ => et_yes) (fun l _ _ => (ev_cb (ea_cons ((ev_var (i := 6) rfl).weak le_dL) ea_nil) rc_tupleL).weak dT_le)
  rw [filter_true] at lc
  refine go_fld (j := 0) (n := 3) (P := D K (dTT R)) ((ev_cb (ea_cons (ev_newL lc) ea_nil) rc_tupleL).weak (Tm_le (f := dT))) (ev_var (i := 0) rfl) rfl (by decide) (fun g h => by
    rcases List.mem_cons.mp h with rfl | h
    · show ("finals" : Str) ≠ "rows"; decide +kernel
    · rcases List.mem_cons.mp h with rfl | h
      · show ("start" : Str) ≠ "rows"; decide +kernel
      · rw [List.mem_singleton.mp h]; show ("letters" : Str) ≠ "rows"; decide +kernel) T.cl_Automaton T.na_Automaton_rows ?_
  exact fun σ H' ⟨F', a, b⟩ => k A .non F' H' a .non
theorem use_Automaton {T : Txt K mg} {tr : TA} {Γ : Gm} {M M1 : Ms} {A : Au} {X : XK} (h : EvA tr Γ M [D K (.int (A.L : Int)), D K (.int A.s), D K (dL A.F), D K (dLL A.R)] M1) (O : A.Ok) (b : A.F.length ≤ 1000 ∧ A.R.length ≤ 1000 ∧ A.L ≤ 1000) : Ev (tMake T.c_Automaton (sp_Automaton_init T) [] X tr) Γ M (PAu T A) M1 := by
  have e : auOf (A.L : Int) A.s A.F A.R = A := by show Au.mk ((A.L : Int)).toNat A.s A.F A.R = A; rw [Int.toNat_natCast]
  have := (ev_fr (make0 (C := T.c_Automaton) (sp := sp_Automaton_init T) (X := X) (O := MIns T.c_Automaton 4 (auF K (auOf (A.L : Int) A.s A.F A.R))) h fun x vs H Q ⟨F, w, p, r⟩ => ⟨x, (A.L : Int), A.s, A.F, A.R, ⟨b.1, b.2.1, fun r hr => by rw [(O.R r hr).1]; exact b.2.2⟩, F, w, p, fun _ => r, fun c => absurd (by rw [e]; exact O) c⟩)).weak fr_Ins
  rw [e] at this
  exact this
/-! ### final_marks -/
theorem sc_final_marks : FnScope ["automaton", "marks", "state"] ["automaton"] (defScope s_final_marks) := ⟨rfl, rfl, rfl, by decide +kernel, rfl, by decide +kernel, by decide +kernel⟩
theorem rgB_set {N b : Nat} {g : Nat → Bool} {c : Bool} : ((List.range N).map g).set b c = (List.range N).map fun j => if j = b then c else g j := by
  apply List.ext_getElem
  · simp
  · intro j h1 h2
    rw [List.getElem_set]
    by_cases e : b = j
    · subst e; simp
    · rw [if_neg e, List.getElem_map, List.getElem_map, List.getElem_range, if_neg fun z => e z.symm]
abbrev dBs (l : List Bool) : PyData := .list (l.map PyData.bool)
def mksA (A : Au) : List Bool := (List.range A.R.length).map fun i : Nat => decide ((i : Int) ∈ A.F)
theorem mks_ix {A : Au} {q : Int} (h : A.In q) : ((mksA A).map PyData.bool)[q.toNat]? = some (.bool (decide (q ∈ A.F))) := by
  obtain ⟨h1, h2⟩ := h
  unfold mksA
  rw [List.getElem?_map, List.getElem?_map, List.getElem?_eq_getElem (by rw [List.length_range]; omega), List.getElem_range]
  show some (PyData.bool (decide (((q.toNat : Nat) : Int) ∈ A.F))) = _
  rw [Int.toNat_of_nonneg h1]
def sp_final_marks (T : Txt K mg) : Sp := fun vs H Q _ => ∃ (A : Au), (A.Ok ∧ A.R.length ≤ 1000) ∧ Prom [PAu T A] [] (D K (dBs (mksA A))) [] vs H Q
theorem sp_final_marks_len {T : Txt K mg} {vs H Q E} (h : sp_final_marks T vs H Q E) : vs.length = 1 := by obtain ⟨_, _, h⟩ := h; exact h.len
set_option maxHeartbeats 4000000 in
theorem ok_final_marks (T : Txt K mg) : FnOk P wo K mg base CX0 1 T.f_final_marks T.d_final_marks ["automaton"] (sp_final_marks T) := by
  have nd := (sc_final_marks).nd
  refine T.F_final_marks.ok sc_final_marks (fun vs H Q E h => (sp_final_marks_len h)) (fun cdv A outer s H vs Q E hr h => ?_)
  obtain ⟨A, ⟨O, hN⟩, F, w, ps, k⟩ := h
  refine ⟨_, (pss_cons (ps_set (i := 1) nd rfl (Or.inl rfl) (pe_op op_rep (pe_lst (pa_cons pe_bl pa_nil)) (pe_callB (c_len (K := K) rfl) (by rfl) T.z_len PySem.boot_len (pa_cons (c_fld (K := K) rfl (pv 0) rfl) pa_nil))))
    (pss_cons (ps_for PassesOwn.never rfl (pi_tupK (K := K) rfl (c_fld (K := K) rfl (pv 0) rfl)) (pg_name (i := 2) nd rfl (by first | exact Or.inl rfl | exact Or.inr rfl))
     (pss_one (ps_asg pe_bl (pg_sub (pv 1) (pv 2) set_list))))
    (pss_one (ps_ret (pv 1))))), ?_⟩
  refine go_start w ps (Γ := [some (PAu T A), none, none]) rfl ?_
  have rp := evn_rep (K := K) (P := D K (.bool false)) (z := (A.R.length : Int)) (M := []) (M1 := []) (Γ := [some (PAu T A), none, none]) (evn_lst (ps := [D K (.bool false)]) (ea_cons (ev_bl (K := K)) ea_nil) (by simp)) (fun M => ev_lenMT (f := dT) (ev_fld (P := D K (dTT A.R)) (fps := auF K A) (ev_var (i := 0) rfl) (by simp) T.cl_Automaton T.na_Automaton_rows)) (by omega)
  rw [Int.toNat_natCast] at rp
  refine (q_asgN rp fun q hq => ?_)
  clear rp
  dsimp only [List.set]
  refine (q_forT ((ev_fld (P := D K (dT A.F)) (fps := auF K A) (ev_var (i := 0) rfl) (by simp) T.cl_Automaton T.na_Automaton_finals).weak le_dT) (fun i Γ M => ∃ g2 : Option MP, Γ = [some (PAu T A), some (Own q), g2] ∧ M = [(q, ML (((List.range A.R.length).map fun i2 : Nat => decide ((i2 : Int) ∈ A.F.take i)).map fun b => D K (.bool b)))]) ⟨none, rfl, ?_⟩ ?_ ?_)
  · congr 3
    apply List.ext_getElem
    · simp
    · intro i h1 h2; simp
  · rintro E' hE i P hP _ _ ⟨g2, rfl, rfl⟩
    rw [List.getElem?_map] at hP
    obtain ⟨x, hx, rfl⟩ := Option.map_eq_some_iff.mp hP
    obtain ⟨x1, x2⟩ := O.F x (List.mem_of_getElem? hx)
    dsimp only [List.set]
    refine go_setL (j := 0) (ev_bl (K := K)) (ev_var (i := 1) rfl) (ev_var (i := 2) rfl) rfl x1 (by rw [List.length_map, List.length_map, List.length_range]; omega) (JA.of ⟨_, rfl, ?_⟩)
    show [(q, ML ((((List.range A.R.length).map fun i2 : Nat => decide ((i2 : Int) ∈ A.F.take i)).map fun b => D K (.bool b)).set x.toNat (D K (.bool true))))] = _
    congr 3
    rw [← List.map_set, rgB_set]
    refine congrArg _ (List.map_congr_left fun j hj => ?_)
    have e : (j : Int) ∈ A.F.take (i + 1) ↔ (j : Int) ∈ A.F.take i ∨ (j : Int) = x := by rw [List.take_add_one, hx, Option.toList_some, List.mem_append, List.mem_singleton]
    by_cases c : j = x.toNat
    · rw [if_pos c]
      symm
      rw [decide_eq_true_iff, e]
      right; omega
    · rw [if_neg c, decide_eq_decide, e]
      exact ⟨.inl, fun h => h.elim id fun z => absurd (by omega) c⟩
  · rintro _ _ ⟨g2, rfl, rfl⟩
    rw [List.length_map, List.take_length]
    refine nx_freeze (K := K) (i := 1) 0 rfl hq rfl ?_
    dsimp only [List.set, List.eraseIdx]
    exact go_ret Le.refl (P := D K (dBs (mksA A))) ((ev_var (i := 1) rfl).weak (Lm_le (f := PyData.bool))) k
theorem use_final_marks {T : Txt K mg} {tr : TA} {Γ : Gm} {M M1 : Ms} {A : Au} {X : XK} (h : EvA tr Γ M [PAu T A] M1) (hn : A.Ok ∧ A.R.length ≤ 1000) : Ev (tCall (sp_final_marks T) [] X tr) Γ M (D K (dBs (mksA A))) M1 :=
  call0 h fun vs H Q z => ⟨A, hn, z⟩
/-! ### _reached_states -/
theorem sc__reached_states : FnScope ["automaton", "found", "seen", "at", "state"] ["automaton"] (defScope s__reached_states) := ⟨rfl, rfl, rfl, by decide +kernel, rfl, by decide +kernel, by decide +kernel⟩
def sp__reached_states (T : Txt K mg) : Sp := fun vs H Q _ => ∃ (A : Au), (A.Ok ∧ A.R.length ≤ 1000) ∧ Prom [PAu T A] [] (PEx fun S : List Int => PAn ((Clo A S ∧ A.s ∈ S) ∧ S.length ≤ A.R.length) (D K (dL S))) [] vs H Q
theorem sp__reached_states_len {T : Txt K mg} {vs H Q E} (h : sp__reached_states T vs H Q E) : vs.length = 1 := by obtain ⟨_, _, h⟩ := h; exact h.len
structure RcOk (A : Au) (fs ks : List Int) (t : Nat) : Prop where
  nd : fs.Nodup
  ins : ∀ x ∈ fs, A.In x
  st : A.s ∈ fs
  same : ∀ x, x ∈ ks ↔ x ∈ fs
  len : ks.length = fs.length
  done : ∀ i, i < t → ∀ q, fs[i]? = some q → ∀ x ∈ A.row q, x ∈ fs
  le : t ≤ fs.length
theorem RcOk.flen {A : Au} {fs ks : List Int} {t : Nat} (h : RcOk A fs ks t) : fs.length ≤ A.R.length := by
  have := nodup_le h.nd (m := (List.range A.R.length).map fun n : Nat => (n : Int)) fun x hx => by
    obtain ⟨h1, h2⟩ := h.ins x hx
    exact List.mem_map.mpr ⟨x.toNat, List.mem_range.mpr (by omega), by omega⟩
  rwa [List.length_map, List.length_range] at this
theorem RcOk.add {A : Au} {fs ks : List Int} {t : Nat} {x : Int} (h : RcOk A fs ks t) (hx : A.In x) (hn : x ∉ fs) : RcOk A (fs ++ [x]) (x :: ks) t := by
  refine ⟨?_, fun y hy => ?_, List.mem_append_left _ h.st, fun y => ?_, ?_, fun i hi q hq y hy => ?_, ?_⟩
  · rw [List.nodup_append]
    exact ⟨h.nd, by simp, fun a ha b hb => by rw [List.mem_singleton.mp hb]; rintro rfl; exact hn ha⟩
  · rcases List.mem_append.mp hy with hy | hy
    · exact h.ins y hy
    · rw [List.mem_singleton.mp hy]; exact hx
  · rw [List.mem_cons, List.mem_append, h.same, List.mem_singleton]
    exact ⟨fun h => h.symm, fun h => h.symm⟩
  · rw [List.length_cons, List.length_append, h.len]; rfl
  · have := h.le
    rw [List.getElem?_append_left (by omega)] at hq
    exact List.mem_append_left _ (h.done i hi q hq y hy)
  · have := h.le
    rw [List.length_append]; omega
theorem RcOk.done1 {A : Au} {fs ks : List Int} {t : Nat} {q : Int} (h : RcOk A fs ks t) (hq : fs[t]? = some q) (hx : ∀ x ∈ A.row q, x ∈ fs) : RcOk A fs ks (t + 1) :=
  ⟨h.nd, h.ins, h.st, h.same, h.len, fun i hi p hp => by
    by_cases c : i = t
    · rw [c, hq] at hp; rw [← Option.some.inj hp]; exact hx
    · exact h.done i (by omega) p hp, (List.getElem?_eq_some_iff.mp hq).1⟩
set_option maxHeartbeats 4000000 in
theorem ok__reached_states (T : Txt K mg) : FnOk P wo K mg base CX0 1 T.f__reached_states T.d__reached_states ["automaton"] (sp__reached_states T) := by
  have nd := (sc__reached_states).nd
  refine T.F__reached_states.ok sc__reached_states (fun vs H Q E h => (sp__reached_states_len h)) (fun cdv A outer s H vs Q E hr h => ?_)
  obtain ⟨A, ⟨O, hN⟩, F, w, ps, k⟩ := h
  refine ⟨_, (pss_cons (ps_set (i := 1) nd rfl (Or.inl rfl) (pe_lst (pa_cons (c_fld (K := K) rfl (pv 0) rfl) pa_nil)))
    (pss_cons (ps_set (i := 2) nd rfl (Or.inl rfl) (pe_disp (pps_cons (c_fld (K := K) rfl (pv 0) rfl) pe_bl pps_nil) (by rfl) (by rfl) (by simp) (by simp)))
    (pss_cons (ps_set (i := 3) nd rfl (Or.inl rfl) pe_int)
    (pss_cons (ps_while PassesOwn.never (pt_cmpR op_lt (pv 3) (pe_callB (c_len (K := K) rfl) (by rfl) T.z_len PySem.boot_len (pa_cons (pv 1) pa_nil)) (nomark _)) (pss_cons (ps_for PassesOwn.never rfl (pi_tupK (K := K) rfl (pe_ix (c_ix (K := K) rfl) (c_fld (K := K) rfl (pv 0) rfl) (pe_ix (c_ix (K := K) rfl) (pv 1) (pv 3) (fun _ _ => rfl)) (fun _ _ => rfl))) (pg_name (i := 4) nd rfl (by first | exact Or.inl rfl | exact Or.inr rfl))
      (pss_one (ps_if (pt_cmp (pc_dnotin (units1 hr) (pv 4) (pv 2))) (pss_cons (ps_dput (units1 hr) (pv 2) (pv 4) pe_bl rfl)
       (pss_one (ps_expr (pe_bm PySem.F.plainAttrs_list PySem.F.slot_list_append PySem.F.type_list_append mt_append (pv 1) (pa_cons (pv 4) pa_nil))))) pss_nil)))
     (pss_one (ps_aug (i := 3) nd rfl (Or.inl rfl) pe_int ip_add))))
    (pss_one (ps_ret (pv 1))))))), ?_⟩
  refine go_start w ps (Γ := [some (PAu T A), none, none, none, none]) rfl ?_
  have est : ∀ {Γ : Gm} {M : Ms}, Γ[0]? = some (some (PAu T A)) → Ev (tFld K (tVar 0) "start") Γ M (D K (.int A.s)) M := fun h => ev_fld (P := D K (.int A.s)) (fps := auF K A) (ev_var h) (by simp) T.cl_Automaton T.na_Automaton_start
  refine (q_asgN (evn_lst (ps := [D K (.int A.s)]) (ea_cons (est rfl) ea_nil) (by simp)) fun qf hqf => ?_)
  dsimp only [List.set]
  refine (q_asgN (evn_dispS (P := D K (.bool true)) (fun M => est rfl) (fun M => (ev_bl (K := K)))) fun qs hqs => ?_)
  dsimp only [List.set]
  refine (q_asg (ev_int (K := K) (i := 0)) ?_)
  dsimp only [List.set]
  refine (q_while (fun m Γ M => ∃ (fs ks : List Int) (t : Nat) (g4 : Option MP), Γ = [some (PAu T A), some (Own qf), some (Own qs), some (D K (.int (t : Int))), g4] ∧ M = [(qs, MSet ks), (qf, MInts K fs)] ∧ RcOk A fs ks t ∧ m = A.R.length + 1 - t) (A.R.length + 1) ⟨[A.s], [A.s], 0, none, rfl, rfl, ⟨by simp, fun x hx => by rw [List.mem_singleton.mp hx]; exact O.s, by simp, fun x => Iff.rfl, rfl, fun i hi => absurd hi (Nat.not_lt_zero _), by simp⟩, rfl⟩ ?_)
  rintro m _ _ ⟨fs, ks, t, g4, rfl, rfl, R, rfl⟩
  have tle := R.le
  have fle := R.flen
  refine ⟨_, _, et_test (ev_op (ev_var (i := 3) rfl) (ev_lenI (j := 1) (ev_var (i := 1) rfl) rfl) (rv_b0 (g := fun i j => decide (i < j)))), fun hz => ?_, fun hz => ?_⟩
  · have hz : t < fs.length := by simp at hz; omega
    obtain ⟨q, hq⟩ : ∃ q, fs[t]? = some q := ⟨_, List.getElem?_eq_getElem hz⟩
    have hin := R.ins q (List.mem_of_getElem? hq)
    refine (q_forT ((ev_row (ev_var (i := 0) rfl) (ev_op (ev_var (i := 1) rfl) (ev_var (i := 3) rfl) (rv_ixO (j := 1) (P := D K (.int q)) rfl (by omega) (by rw [Int.toNat_natCast, List.getElem?_map, hq]; rfl))) hin).weak le_dT) (fun i Γ M => ∃ (fs' ks' : List Int) (g4 : Option MP), Γ = [some (PAu T A), some (Own qf), some (Own qs), some (D K (.int (t : Int))), g4] ∧ M = [(qs, MSet ks'), (qf, MInts K fs')] ∧ RcOk A fs' ks' t ∧ fs'[t]? = some q ∧ ∀ x ∈ (A.row q).take i, x ∈ fs') ⟨fs, ks, _, rfl, rfl, R, hq, fun x hx => by simp at hx⟩ ?_ ?_)
    · rintro E' hE i P hP _ _ ⟨fs', ks', g4, rfl, rfl, R', hq', hx'⟩
      rw [List.getElem?_map] at hP
      obtain ⟨x, hx, rfl⟩ := Option.map_eq_some_iff.mp hP
      have xin := (O.R _ (Au.row_mem hin)).2 x (List.mem_of_getElem? hx)
      have fle' := R'.flen
      have kl := R'.len
      have tk : (A.row q).take (i + 1) = (A.row q).take i ++ [x] := by rw [List.take_add_one, hx]; rfl
      dsimp only [List.set]
      refine go_if (et_val (ev_dnotinS (j := 0) (ev_var (i := 4) rfl) (ev_var (i := 2) rfl) rfl)) (fun hz => ?_) fun hz => go_next (JA.of ⟨fs', ks', _, rfl, rfl, R', hq', fun y hy => ?_⟩)
      · have hz : x ∉ fs' := fun z => by rw [decide_eq_true ((R'.same x).mpr z)] at hz; cases hz
        refine (q_dputS (j := 0) (ev_bl (K := K)) (ev_var (i := 2) rfl) (ev_var (i := 4) rfl) rfl (by omega) ?_)
        refine go_app (j := 1) (ev_var (i := 1) rfl) (ev_var (i := 4) rfl) rfl rfl (by rw [List.length_map]; omega) (JA.of ⟨fs' ++ [x], x :: ks', _, rfl, ?_, R'.add xin hz, by rw [List.getElem?_append_left (List.getElem?_eq_some_iff.mp hq').1]; exact hq', fun y hy => ?_⟩)
        · show [(qs, MSet (x :: ks')), (qf, ML (fs'.map (fun n => D K (.int n)) ++ [D K (.int x)]))] = _
          rw [MInts, List.map_append]; rfl
        · rw [tk] at hy
          rcases List.mem_append.mp hy with hy | hy
          · exact List.mem_append_left _ (hx' y hy)
          · rw [List.mem_singleton.mp hy]; simp
      · rw [tk] at hy
        rcases List.mem_append.mp hy with hy | hy
        · exact hx' y hy
        · rw [List.mem_singleton.mp hy]
          refine Classical.byContradiction fun c => ?_
          rw [decide_eq_false (fun z => c ((R'.same x).mp z))] at hz
          cases hz
    · rintro _ _ ⟨fs', ks', g4, rfl, rfl, R', hq', hx'⟩
      rw [List.length_map, List.take_length] at hx'
      refine go_aug (x := (t : Int)) (y := 1) rfl (ev_int (K := K)) (JA.of ⟨_, by omega, fs', ks', t + 1, g4, rfl, rfl, R'.done1 hq' hx', rfl⟩)
  · have hz : fs.length = t := by simp at hz; omega
    refine nx_drop (List.sublist_cons_self _ _) ?_
    refine nx_freeze (K := K) (i := 1) 0 rfl hqf rfl ?_
    dsimp only [List.set, List.eraseIdx]
    refine go_ret Le.refl ((ev_var (i := 1) rfl).weak (MP.le_trans dL_le (MP.le_trans (PAn.in (φ := (Clo A fs ∧ A.s ∈ fs) ∧ fs.length ≤ A.R.length) ⟨⟨fun q hq => ?_, R.st⟩, fle⟩) (PEx.in (R := fun S : List Int => PAn ((Clo A S ∧ A.s ∈ S) ∧ S.length ≤ A.R.length) (D K (dL S))) fs)))) k
    obtain ⟨i, hi, rfl⟩ := List.getElem_of_mem hq
    exact ⟨R.ins _ hq, R.done i (by omega) _ (List.getElem?_eq_getElem hi)⟩
theorem use__reached_states {T : Txt K mg} {tr : TA} {Γ : Gm} {M M1 : Ms} {A : Au} {X : XK} (h : EvA tr Γ M [PAu T A] M1) (hn : A.Ok ∧ A.R.length ≤ 1000) : Ev (tCall (sp__reached_states T) [] X tr) Γ M (PEx fun S : List Int => PAn ((Clo A S ∧ A.s ∈ S) ∧ S.length ≤ A.R.length) (D K (dL S))) M1 :=
  call0 h fun vs H Q z => ⟨A, hn, z⟩
/-! ### state_classes -/
theorem sc_state_classes : FnScope ["automaton", "states", "letters", "marks", "classes", "many", "kinds", "following", "state", "row", "kind", "letter"] ["automaton", "states", "letters"] (defScope s_state_classes) := ⟨rfl, rfl, rfl, by decide +kernel, rfl, by decide +kernel, by decide +kernel⟩
abbrev MCls (A : Au) (S : List Int) (n : Nat) : MO := MX fun c : Int → Int => MA (LabI A S c) (MDO (fun x => if x ∈ S then some (c x) else none) n)
def sp_state_classes (T : Txt K mg) : Sp := fun vs H Q _ => ∃ (A : Au) (S : List Int), (A.Ok ∧ Clo A S ∧ S ≠ [] ∧ S.length ≤ 1000 ∧ A.R.length ≤ 1000 ∧ A.L ≤ 1000) ∧ PromN [PAu T A, D K (dL S), D K (dL ((List.range A.L).map fun i : Nat => (i : Int)))] [] (MCls A S 2000) [] vs H Q
theorem sp_state_classes_len {T : Txt K mg} {vs H Q E} (h : sp_state_classes T vs H Q E) : vs.length = 3 := by obtain ⟨_, _, _, h⟩ := h; exact h.len
def encK (k : Knd) : NestedKey := .tup [.num k.1, .tup (k.2.map .num)]
theorem num_inj {a b : List Int} (h : a.map NestedKey.num = b.map NestedKey.num) : a = b := (List.map_inj_right (fun _ _ e => by injection e)).mp h
theorem encK_inj {a b : Knd} (h : encK a = encK b) : a = b := by
  unfold encK at h
  injection h with h
  injection h with h1 h2
  injection h1 with h1
  injection h2 with h2 _
  injection h2 with h2
  exact Prod.ext h1 (num_inj h2)
theorem num_d : ∀ {l : List Int}, NestedKey.depthAll (l.map .num) ≤ 1
  | [] => by simp [NestedKey.depthAll]
  | x :: l => by
    have := num_d (l := l)
    simp only [List.map_cons, NestedKey.depthAll, NestedKey.depth]
    omega
theorem encK_d {k : Knd} : (encK k).depth ≤ 8 := by
  have := num_d (l := k.2)
  unfold encK
  simp only [NestedKey.depthAll, NestedKey.depth]
  omega
def LK (Ks : List Knd) : LN := Ks.zipIdx.map fun p => (encK p.1, (p.2 : Int))
theorem LK_len {Ks : List Knd} : (LK Ks).length = Ks.length := by unfold LK; rw [List.length_map, List.length_zipIdx]
theorem LK_app {Ks : List Knd} {k : Knd} : LK (Ks ++ [k]) = LK Ks ++ [(encK k, (Ks.length : Int))] := by
  unfold LK
  rw [List.zipIdx_append, List.map_append]; simp
theorem lkN_LK {Ks : List Knd} {k : Knd} : lkN (LK Ks) (encK k) = if k ∈ Ks then some ((ix Ks k : Nat) : Int) else none := by
  have key : ∀ (Ks : List Knd) (n : Nat), lkN ((Ks.zipIdx n).map fun p => (encK p.1, (p.2 : Int))) (encK k) = if k ∈ Ks then some ((n + ix Ks k : Nat) : Int) else none := by
    intro Ks
    induction Ks with
    | nil => intro n; rfl
    | cons a Ks ih =>
      intro n
      rw [List.zipIdx_cons, List.map_cons, lkN_cons, ih, ix_cons]
      by_cases c : a = k
      · subst c
        rw [if_pos rfl, if_pos rfl, if_pos List.mem_cons_self]; rfl
      · rw [if_neg (fun z => c (encK_inj z)), if_neg c]
        by_cases c2 : k ∈ Ks
        · rw [if_pos c2, if_pos (List.mem_cons_of_mem _ c2)]
          congr 2; omega
        · rw [if_neg c2, if_neg (fun z => by rcases List.mem_cons.mp z with z | z; exact c z.symm; exact c2 z)]
  have := key Ks 0
  rw [Nat.zero_add] at this
  exact this
structure RdOk (A : Au) (S : List Int) (kk many : Nat) (Ks : List Knd) : Prop where
  zero : kk = 0 → many = 0 ∧ Ks = []
  one : kk = 1 → many = 0
  succ : ∀ j, kk = j + 1 → Ks = ded (S.map (kd A (lcl A S j)))
  two : ∀ j, kk = j + 2 → many = nnl A S j
theorem RdOk.start {A : Au} {S : List Int} : RdOk A S 0 0 [] := ⟨fun _ => ⟨rfl, rfl⟩, fun _ => rfl, fun j h => by omega, fun j h => by omega⟩
theorem RdOk.len_le {A : Au} {S : List Int} {kk many : Nat} {Ks : List Knd} (R : RdOk A S kk many Ks) : Ks.length ≤ S.length := by
  cases kk with
  | zero => rw [(R.zero rfl).2]; exact Nat.zero_le _
  | succ j => rw [R.succ j rfl]; exact nnl_le (k := j)
theorem RdOk.next {A : Au} {S : List Int} {kk many : Nat} {Ks : List Knd} {cl : Int → Int} (R : RdOk A S kk many Ks) (h : cl = lcl A S kk) : RdOk A S (kk + 1) Ks.length (ded (S.map (kd A cl))) := by
  refine ⟨fun h => by omega, fun h => ?_, fun j hj => ?_, fun j hj => ?_⟩
  · rw [(R.zero (by omega)).2]; rfl
  · rw [h, show kk = j by omega]
  · rw [R.succ j (by omega)]; rfl
theorem RdOk.ge2 {A : Au} {S : List Int} {kk many : Nat} {Ks : List Knd} (R : RdOk A S kk many Ks) (h : many ≠ 0) : 2 ≤ kk := by
  refine Nat.le_of_not_lt fun c => ?_
  have : kk = 0 ∨ kk = 1 := by omega
  rcases this with e | e
  · exact h (R.zero e).1
  · exact h (R.one e)
theorem RdOk.pos {A : Au} {S : List Int} {kk many : Nat} {Ks : List Knd} (R : RdOk A S kk many Ks) (hS : 0 < S.length) : kk ≠ 0 → 1 ≤ Ks.length := by
  intro c
  obtain ⟨j, rfl⟩ : ∃ j, kk = j + 1 := ⟨kk - 1, by omega⟩
  rw [R.succ j rfl]
  obtain ⟨x, hx⟩ := List.exists_mem_of_length_pos hS
  exact List.length_pos_of_mem (kd_mem (A := A) (cl := lcl A S j) hx)
theorem mdo_le {g g' : Int → Option Int} {n n' : Nat} (h : n ≤ n') (e : ∀ x, g x = g' x) : ∀ F o, (MDO g n).p F o → (MDO g' n').p F o := fun F o ⟨kvs, h1, h2, h3⟩ => ⟨kvs, h1, Nat.le_trans h2 h, fun x => by rw [← e]; exact h3 x⟩
theorem nx_perm {E : Ent} {M M' : Ms} {Γ : Gm} {f : St → Hp → Prop} (p : M.Perm M') (h : Nx E Γ M' f) : Nx E Γ M f := fun σ H ⟨F, a, b⟩ => h σ H ⟨F, a.perm p, b⟩
theorem row_cl {K : PySem.W.Frag} {A : Au} {q : Int} {cl : Int → Int} (l : (A.row q).length = A.L) : (((List.range A.L).map fun i : Nat => (i : Int)).map fun a => D K (.int (cl (nxA A q a.toNat)))) = ((A.row q).map cl).map fun n => D K (.int n) := by
  rw [List.map_map, List.map_map]
  apply List.ext_getElem
  · rw [List.length_map, List.length_map, List.length_range, l]
  · intro i h1 h2
    rw [List.length_map, List.length_range] at h1
    rw [List.getElem_map, List.getElem_map, List.getElem_range]
    show D K (.int (cl (nxA A q ((i : Int)).toNat))) = D K (.int (cl _))
    rw [Int.toNat_natCast]
    unfold nxA
    rw [List.getD_eq_getElem?_getD, List.getElem?_eq_getElem (by omega)]; rfl
set_option maxHeartbeats 4000000 in
theorem ok_state_classes (T : Txt K mg) : FnOk P wo K mg base CX0 2 T.f_state_classes T.d_state_classes ["automaton", "states", "letters"] (sp_state_classes T) := by
  have nd := (sc_state_classes).nd
  refine T.F_state_classes.ok sc_state_classes (fun vs H Q E h => (sp_state_classes_len h)) (fun cdv A outer s H vs Q E hr h => ?_)
  obtain ⟨A, S, ⟨O, C, hS, hSl, hN, hL⟩, F, w, ps, k⟩ := h
  refine ⟨_, (pss_cons (ps_set (i := 3) nd rfl (Or.inr rfl) (pe_call (ok_final_marks T) (hr.mono (by decide)) rfl T.m_final_marks T.F_final_marks.kp T.b_final_marks .nil pass0 (pa_cons (pv 0) pa_nil)))
    (pss_cons (ps_set (i := 4) nd rfl (Or.inr rfl) (pe_dc (own := [("state", 8)]) (by rfl) nd (pi_listK (K := K) rfl (pv 1)) (blkOk_by (N := ["automaton", "states", "letters", "marks", "classes", "many", "kinds", "following", "state", "row", "kind", "letter"]) (sc := defScope s_state_classes) (own := [("state", 8)]) (by decide +kernel)) (fun _ _ _ _ _ => pg_name (i := 8) nd rfl (by first | exact Or.inl rfl | exact Or.inr rfl)) (fun _ _ _ _ _ => pts_nil) (fun _ _ _ _ _ => (pv 8)) (fun _ _ _ _ _ => (pe_ifExp (pt_val (pe_ix (c_ix (K := K) rfl) (pv 3) (pv 8) (fun _ _ => rfl))) pe_int pe_int))))
    (pss_cons (ps_set (i := 5) nd rfl (Or.inl rfl) pe_int)
    (pss_cons (ps_set (i := 6) nd rfl (Or.inl rfl) pe_dnewN)
    (pss_cons (ps_while PassesOwn.never (PW.pt (pw_or (pt_cmpR op_eq (pv 5) pe_int (nomark _)) (pw_or1 (pt_cmpR op_gt (pe_callB call_lenN (by rfl) T.z_len PySem.boot_len (pa_cons (pv 6) pa_nil)) (pv 5) (nomark _))))) (pss_cons (ps_set (i := 5) nd rfl (Or.inl rfl) (pe_callB call_lenN (by rfl) T.z_len PySem.boot_len (pa_cons (pv 6) pa_nil)))
     (pss_cons (ps_set (i := 6) nd rfl (Or.inl rfl) pe_dnewN)
     (pss_cons (ps_set (i := 7) nd rfl (Or.inl rfl) pe_dnewK)
     (pss_cons (ps_for PassesOwn.never rfl (pi_listK (K := K) rfl (pv 1)) (pg_name (i := 8) nd rfl (by first | exact Or.inl rfl | exact Or.inr rfl))
      (pss_cons (ps_set (i := 9) nd rfl (Or.inr rfl) (pe_ix (c_ix (K := K) rfl) (c_fld (K := K) rfl (pv 0) rfl) (pv 8) (fun _ _ => rfl)))
      (pss_cons (ps_set (i := 10) nd rfl (Or.inl rfl) (pe_tup (pa_cons (pe_dget (units1 hr) (pv 4) (pv 8) (fun _ _ => rfl)) (pa_cons (pe_callTy (c_tuple (K := K) rfl) (by rfl) T.z_tuple (by decide +kernel) (pa_cons (pe_lc (own := [("letter", 11)]) (by rfl) nd (pi_listK (K := K) rfl (pv 2)) (blkOk_by (N := ["automaton", "states", "letters", "marks", "classes", "many", "kinds", "following", "state", "row", "kind", "letter"]) (sc := defScope s_state_classes) (own := [("letter", 11)]) (by decide +kernel)) (fun _ _ _ _ _ => pg_name (i := 11) nd rfl (by first | exact Or.inl rfl | exact Or.inr rfl)) (fun _ _ _ _ _ => pts_nil) (fun _ _ _ _ _ => (pe_dget (units1 hr) (pv 4) (pe_ix (c_ix (K := K) rfl) (pv 9) (pv 11) (fun _ _ => rfl)) (fun _ _ => rfl)))) pa_nil)) pa_nil))))
      (Evl.pss_cut (ps_if (pt_cmp (pc_dnotinN (units8 hr) (pv 10) (pv 6))) (pss_one (ps_dputN (units8 hr) (pv 6) (pv 10) (pe_callB call_lenN (by rfl) T.z_len PySem.boot_len (pa_cons (pv 6) pa_nil)) rfl)) pss_nil)
      (pss_one (ps_dput (units1 hr) (pv 7) (pv 8) (pe_dgetN (units8 hr) (pv 6) (pv 10) (fun _ _ => rfl)) rfl))))))
     (pss_one (ps_set (i := 4) nd rfl (Or.inr rfl) (pv 7))))))))
    (pss_one (ps_ret (pv 4)))))))), ?_⟩
  refine go_start w ps (Γ := [some (PAu T A), some (D K (dL S)), some (D K (dL ((List.range A.L).map fun i : Nat => (i : Int)))), none, none, none, none, none, none, none, none, none]) rfl ?_
  refine (q_asg (use_final_marks (ea_cons (ev_var (i := 0) rfl) ea_nil) ⟨O, hN⟩) ?_)
  dsimp only [List.set]
  have dc := evn_dcV (K := K) (φ := fun xs => xs = S) (L := S) (n := S.length) (val := fin01 A) (i := 8) (M := []) (M1 := []) (Γ := [some (PAu T A), some (D K (dL S)), some (D K (dL ((List.range A.L).map fun i : Nat => (i : Int)))), some (D K (dBs (mksA A))), none, none, none, none, none, none, none, none]) (tv := tIf (tB (tOp (rIx K) (tVar 3) (tVar 8))) (tC (V.int 1)) (tC (V.int 0))) (((ev_var (i := 1) rfl).weak (le_dL (l := S))).weak (MP.le_trans (PAn.in (φ := S = S) rfl) (PEx.in (R := fun xs : List Int => PAn (xs = S) (PLi K (xs.map fun x => D K (.int x)))) S))) (fun xs h => by subst h; exact ⟨fun x => Iff.rfl, Nat.le_refl _⟩) (by omega) (by simp)
    (fun x hx M => (ev_if (b := decide (x ∈ A.F)) (et_val (ev_op (ev_var (i := 3) rfl) (ev_var (i := 8) rfl) (rv_ixDL (C x hx).1.1 (mks_ix (C x hx).1)))) (fun h => (ev_int (K := K) (i := 1)).is (by unfold fin01; rw [if_pos (of_decide_eq_true h)])) fun h => (ev_int (K := K) (i := 0)).is (by unfold fin01; rw [if_neg (of_decide_eq_false h)])))
  refine (q_asgN dc fun q4 hq4 => ?_)
  clear dc
  dsimp only [List.set]
  refine (q_asg (ev_int (K := K) (i := 0)) ?_)
  dsimp only [List.set]
  refine q_newDN (P := P) (w := wo) fun q6 hq6 => ?_
  dsimp only [List.set]
  have Spos : 0 < S.length := List.length_pos_iff.mpr hS
  refine (q_while (fun m Γ M => ∃ (kk many : Nat) (Ks : List Knd) (q4 q6 : Addr) (n : Nat) (g7 g8 g9 g10 : Option MP), Γ = [some (PAu T A), some (D K (dL S)), some (D K (dL ((List.range A.L).map fun i : Nat => (i : Int)))), some (D K (dBs (mksA A))), some (Own q4), some (D K (.int (many : Nat))), some (Own q6), g7, g8, g9, g10, none] ∧ M = [(q6, MDN P wo q6 (LK Ks)), (q4, MDO (fun x => if x ∈ S then some (lcl A S kk x) else none) n)] ∧ (⟨F, H, keys []⟩ : Ent).H q4 = none ∧ n ≤ 1000 ∧ RdOk A S kk many Ks ∧ m = S.length + 2 - many - min kk 1) (S.length + 2) ⟨0, 0, [], q4, q6, S.length, none, none, none, none, rfl, rfl, hq4, hSl, RdOk.start, by simp⟩ ?_)
  rintro m _ _ ⟨kk, many, Ks, q4, q6, n, g7, g8, g9, g10, rfl, rfl, hq4, hn, R, rfl⟩
  have Kle := R.len_le
  refine ⟨_, _, et_or (et_test (ev_op (ev_var (i := 5) rfl) (ev_int (K := K) (i := 0)) rv_eqI)) fun _ => et_test (K := K) (ev_op (ev_lenN (K := K) (P := P) (w := wo) (j := 0) (ev_var (i := 6) rfl) rfl) (ev_var (i := 5) rfl) (rv_b0 (g := fun i j => decide (i > j)))), fun hz => ?_, fun hz => ?_⟩
  · have hz : many = 0 ∨ many < Ks.length := by rw [LK_len] at hz; simp at hz; omega
    refine (q_asg (ev_lenN (K := K) (P := P) (w := wo) (j := 0) (ev_var (i := 6) rfl) rfl) ?_)
    rw [LK_len]
    dsimp only [List.set]
    refine q_newDN (P := P) (w := wo) fun q6p hq6p => ?_
    dsimp only [List.set]
    refine nx_drop (M' := [(q6p, MDN P wo q6p []), (q4, MDO (fun x => if x ∈ S then some (lcl A S kk x) else none) n)]) (.cons₂ _ (List.sublist_cons_self _ _)) ?_
    refine (q_asgN evn_dnewI fun q7 hq7 => ?_)
    dsimp only [List.set]
    have lab := lcl_lab O C kk
    obtain ⟨cl, hcl⟩ : ∃ cl, cl = lcl A S kk := ⟨_, rfl⟩
    rw [← hcl] at lab ⊢
    refine (q_forL ((ev_var (i := 1) rfl).weak le_dL) (fun i Γ M => ∃ (g8 g9 g10 : Option MP), Γ = [some (PAu T A), some (D K (dL S)), some (D K (dL ((List.range A.L).map fun i : Nat => (i : Int)))), some (D K (dBs (mksA A))), some (Own q4), some (D K (.int (Ks.length : Nat))), some (Own q6p), some (Own q7), g8, g9, g10, none] ∧ M = [(q7, MDO (fun x => if x ∈ S.take i then some ((ix (ded ((S.take i).map (kd A cl))) (kd A cl x) : Nat) : Int) else none) i), (q6p, MDN P wo q6p (LK (ded ((S.take i).map (kd A cl))))), (q4, MDO (fun x => if x ∈ S then some (cl x) else none) n)]) ⟨g8, g9, g10, rfl, by rw [List.take_zero]; simp [ded, LK]⟩ ?_ ?_)
    · rintro E' hE i Pm hPm _ _ ⟨g8, g9, g10, rfl, rfl⟩
      rw [List.getElem?_map] at hPm
      obtain ⟨q, hq, rfl⟩ := Option.map_eq_some_iff.mp hPm
      have qS := List.mem_of_getElem? hq
      have qin := (C q qS).1
      have il : i < S.length := (List.getElem?_eq_some_iff.mp hq).1
      have rl := (O.R _ (Au.row_mem qin)).1
      have tk : S.take (i + 1) = S.take i ++ [q] := by rw [List.take_add_one, hq]; rfl
      dsimp only [List.set]
      refine (q_asg (ev_row (ev_var (i := 0) rfl) (ev_var (i := 8) rfl) qin) ?_)
      dsimp only [List.set]
      have lc := evn_lcL (K := K) (xs := (List.range A.L).map fun i : Nat => (i : Int)) (R := fun x => D K (.int x)) (G := fun a => D K (.int (cl (nxA A q a.toNat)))) (i := 11) (M := [(q7, MDO (fun x => if x ∈ S.take i then some ((ix (ded ((S.take i).map (kd A cl))) (kd A cl x) : Nat) : Int) else none) i), (q6p, MDN P wo q6p (LK (ded ((S.take i).map (kd A cl))))), (q4, MDO (fun x => if x ∈ S then some (cl x) else none) n)]) (M1 := [(q7, MDO (fun x => if x ∈ S.take i then some ((ix (ded ((S.take i).map (kd A cl))) (kd A cl x) : Nat) : Int) else none) i), (q6p, MDN P wo q6p (LK (ded ((S.take i).map (kd A cl))))), (q4, MDO (fun x => if x ∈ S then some (cl x) else none) n)]) (Γ := [some (PAu T A), some (D K (dL S)), some (D K (dL ((List.range A.L).map fun i : Nat => (i : Int)))), some (D K (dBs (mksA A))), some (Own q4), some (D K (.int (Ks.length : Nat))), some (Own q6p), some (Own q7), some (D K (.int q)), some (D K (dT (A.row q))), g10, none]) (fun _ => true) ((ev_var (i := 2) rfl).weak le_dL) (by rw [List.length_map, List.length_range]; omega) (fun _ _ => et_yes)
        (fun a ha _ => by
          obtain ⟨an, han, rfl⟩ := List.mem_map.mp ha
          have han := List.mem_range.mp han
          rw [Int.toNat_natCast]
          have nS := C.next O qS han
          exact ev_dgetI (j := 2) (ev_var (i := 4) rfl) (ev_op (ev_var (i := 9) rfl) (ev_var (i := 11) rfl) (rv_ixDT (by omega) (by rw [Int.toNat_natCast]; exact nx_ix O qin han))) rfl (by rw [if_pos nS]))
      rw [filter_true, row_cl rl] at lc
      refine (q_asg (P := NKy (encK (kd A cl q))) (ev_tupK (ks := [.num (cl q), .tup (((A.row q).map cl).map .num)]) (ea_cons ((ev_dgetI (j := 2) (ev_var (i := 4) rfl) (ev_var (i := 8) rfl) rfl (by rw [if_pos qS])).weak nk_int) (ea_cons ((ev_cb (ea_cons (ev_newL (K := K) lc) ea_nil) rc_tupleNL).weak (MP.le_trans nk_T nk_y)) ea_nil)) (by simp)) ?_)
      clear lc
      dsimp only [List.set]
      have Kl : (ded ((S.take i).map (kd A cl))).length ≤ 1000 := by
        have := ded_le (l := (S.take i).map (kd A cl))
        rw [List.length_map, List.length_take] at this
        omega
      refine go_cut (fun Γ M => Γ = [some (PAu T A), some (D K (dL S)), some (D K (dL ((List.range A.L).map fun i : Nat => (i : Int)))), some (D K (dBs (mksA A))), some (Own q4), some (D K (.int (Ks.length : Nat))), some (Own q6p), some (Own q7), some (D K (.int q)), some (D K (dT (A.row q))), some (NKy (encK (kd A cl q))), none] ∧ M = [(q7, MDO (fun x => if x ∈ S.take i then some ((ix (ded ((S.take i).map (kd A cl))) (kd A cl x) : Nat) : Int) else none) i), (q6p, MDN P wo q6p (LK (ded ((S.take (i + 1)).map (kd A cl))))), (q4, MDO (fun x => if x ∈ S then some (cl x) else none) n)]) ?_ ?_
      · refine go_if (et_val (ev_dnotinN (K := K) (P := P) (w := wo) (j := 1) (key := encK (kd A cl q)) (ev_var (i := 10) rfl) (ev_var (i := 6) rfl) rfl encK_d)) (fun hz => ?_) fun hz => go_next (JA.of ⟨rfl, ?_⟩)
        · have hz : kd A cl q ∉ ded ((S.take i).map (kd A cl)) := fun z => by rw [lkN_LK, if_pos z] at hz; cases hz
          refine go_dputN (K := K) (P := P) (w := wo) (j := 1) (key := encK (kd A cl q)) (ev_lenN (K := K) (P := P) (w := wo) (j := 1) (ev_var (i := 6) rfl) rfl) (ev_var (i := 6) rfl) (ev_var (i := 10) rfl) rfl encK_d (by rw [LK_len]; omega) (JA.of ⟨rfl, ?_⟩)
          show [(q7, _), (q6p, MDN P wo q6p (ptN (LK (ded ((S.take i).map (kd A cl)))) (encK (kd A cl q)) ((LK (ded ((S.take i).map (kd A cl)))).length : Int))), (q4, _)] = _
          rw [ptN_new (by rw [lkN_LK, if_neg hz]), LK_len, tk, List.map_append]
          show _ = [(q7, _), (q6p, MDN P wo q6p (LK (ded ((S.take i).map (kd A cl) ++ [kd A cl q])))), (q4, _)]
          rw [ded_snoc, if_neg hz, LK_app]
        · have hz : kd A cl q ∈ ded ((S.take i).map (kd A cl)) := Classical.byContradiction fun z => by rw [lkN_LK, if_neg z] at hz; cases hz
          rw [tk, List.map_append]
          show _ = [(q7, _), (q6p, MDN P wo q6p (LK (ded ((S.take i).map (kd A cl) ++ [kd A cl q])))), (q4, _)]
          rw [ded_snoc, if_pos hz]
      rintro _ _ ⟨rfl, rfl⟩
      have kin : kd A cl q ∈ ded ((S.take (i + 1)).map (kd A cl)) := kd_mem (by rw [tk]; simp)
      refine go_dputI (j := 0) (v := ((ix (ded ((S.take (i + 1)).map (kd A cl))) (kd A cl q) : Nat) : Int)) (ev_dgetN (K := K) (P := P) (w := wo) (j := 1) (key := encK (kd A cl q)) (ev_var (i := 6) rfl) (ev_var (i := 10) rfl) rfl encK_d (by rw [lkN_LK, if_pos kin])) (ev_var (i := 7) rfl) (ev_var (i := 8) rfl) rfl (by omega) (JA.of ⟨_, _, _, rfl, ?_⟩)
      show [(q7, MDO (fun y => if y = q then some ((ix (ded ((S.take (i + 1)).map (kd A cl))) (kd A cl q) : Nat) : Int) else if y ∈ S.take i then some ((ix (ded ((S.take i).map (kd A cl))) (kd A cl y) : Nat) : Int) else none) (i + 1)), _, _] = _
      congr 3
      funext y
      by_cases c : y = q
      · subst c
        rw [if_pos rfl, if_pos (by rw [tk]; simp)]
      · rw [if_neg c]
        by_cases c2 : y ∈ S.take i
        · rw [if_pos c2, if_pos (by rw [tk]; exact List.mem_append_left _ c2), tk, List.map_append]
          show _ = some ((ix (ded ((S.take i).map (kd A cl) ++ [kd A cl q])) (kd A cl y) : Nat) : Int)
          rw [ded_idx (kd_mem c2)]
        · rw [if_neg c2, if_neg (by rw [tk]; simp [c, c2])]
    · rintro _ _ ⟨g8, g9, g10, rfl, rfl⟩
      rw [List.length_map, List.take_length]
      refine go_asg (ev_var (i := 7) rfl) ?_
      dsimp only [List.set]
      refine nx_drop (M' := [(q7, MDO (fun x => if x ∈ S then some ((ix (ded (S.map (kd A cl))) (kd A cl x) : Nat) : Int) else none) S.length), (q6p, MDN P wo q6p (LK (ded (S.map (kd A cl)))))]) (.cons₂ _ (.cons₂ _ (List.nil_sublist _))) ?_
      refine nx_perm (List.Perm.swap _ _ _) ?_
      refine JA.of ⟨_, ?_, kk + 1, Ks.length, _, q7, q6p, S.length, _, g8, g9, g10, rfl, ?_, hq7, hSl, R.next hcl, rfl⟩
      · have := R.pos Spos
        by_cases c : kk = 0
        · have := (R.zero c)
          rw [this.1, this.2, c]; simp
        · have := this c
          have k1 : min kk 1 = 1 := by omega
          have k2 : min (kk + 1) 1 = 1 := by omega
          rw [k1, k2]; omega
      · rw [hcl]; rfl
  · have hz : many ≠ 0 ∧ Ks.length ≤ many := by rw [LK_len] at hz; simp at hz; omega
    obtain ⟨j, rfl⟩ : ∃ j, kk = j + 2 := ⟨kk - 2, by have := R.ge2 hz.1; omega⟩
    have lab := lcl_inf O C (k := j) (m := j + 2) (by have e1 := R.two j rfl; have e2 := R.succ (j + 1) rfl; rw [e1, e2] at hz; exact hz.2) (by omega)
    refine nx_drop (M' := [(q4, _)]) (List.sublist_cons_self _ _) ?_
    exact go_retO (M2 := []) Le.refl (ev_var (i := 4) rfl) hq4 rfl (k.to fun F o h => ⟨lcl A S (j + 2), lab, mdo_le (by omega) (fun x => rfl) F o h⟩)
end
end My
namespace My
open PySem L2 Hq
local macro_rules | `(tactic| trivial) => `(tactic| omega)
section
variable {P : Program} {wo : World} {K : PySem.W.Frag} {mg : Str → Option Value} {base : Heap}
/-! ### least -/
theorem sc_least : FnScope ["automaton", "classes", "numbers", "chosen", "rows", "row", "state", "marks", "finals", "number"] ["automaton"] (defScope s_least) := ⟨rfl, rfl, rfl, by decide +kernel, rfl, by decide +kernel, by decide +kernel⟩
def sp_least (T : Txt K mg) : Sp := fun vs H Q _ => ∃ (A : Au), (A.Ok ∧ A.R.length ≤ 1000 ∧ A.L ≤ 1000) ∧ Prom [PAu T A] [] (PAu T (minA A)) [] vs H Q
theorem sp_least_len {T : Txt K mg} {vs H Q E} (h : sp_least T vs H Q E) : vs.length = 1 := by obtain ⟨_, _, h⟩ := h; exact h.len
theorem use_state_classesX {T : Txt K mg} {tr : TA} {Γ : Gm} {M M1 : Ms} {A : Au} {X : XK} (h : EvA tr Γ M [PAu T A, PEx fun S : List Int => PAn ((Clo A S ∧ A.s ∈ S) ∧ S.length ≤ A.R.length) (D K (dL S)), D K (dL ((List.range A.L).map fun i : Nat => (i : Int)))] M1) (hn : A.Ok ∧ A.R.length ≤ 1000 ∧ A.L ≤ 1000) : EvN (tCall (sp_state_classes T) [] X tr) Γ M (MX fun S : List Int => MA ((Clo A S ∧ A.s ∈ S) ∧ S.length ≤ A.R.length) (MCls A S 2000)) M1 :=
  calln0 h fun vs H Q ⟨F, w, p, kk⟩ => by
    cases p with
    | cons p1 t =>
      cases t with
      | cons p2 t2 =>
        obtain ⟨S, hS, p2⟩ := p2
        exact ⟨A, S, ⟨hn.1, hS.1.1, (fun z => by have := hS.1.2; rw [z] at this; cases this), by have := hS.2; omega, hn.2.1, hn.2.2⟩, F, w, .cons p1 (.cons p2 t2), kk.to fun F o h => ⟨S, hS, h⟩⟩
/-- the numbers of the labels -/
def gN (c : Int → Int) (C : List Int) : Int → Option Int := fun l => if l ∈ C.map c then some ((ix (C.map c) l : Nat) : Int) else none
theorem gN_some {c : Int → Int} {C : List Int} {l : Int} (h : l ∈ C.map c) : gN c C l = some ((ix (C.map c) l : Nat) : Int) := by unfold gN; rw [if_pos h]
theorem gN_none {c : Int → Int} {C : List Int} {l : Int} (h : l ∉ C.map c) : gN c C l = none := by unfold gN; rw [if_neg h]
theorem gN_one {c : Int → Int} {s : Int} : gN c [s] = fun y => if y = c s then some 0 else none := by
  funext y
  unfold gN
  rw [List.map_cons, List.map_nil]
  by_cases e : y = c s
  · rw [if_pos (by rw [e]; simp), if_pos e, ix_cons, if_pos e.symm]; rfl
  · rw [if_neg (by simpa using e), if_neg e]
theorem gN_add {c : Int → Int} {C : List Int} {t : Int} (h : c t ∉ C.map c) : (fun y => if y = c t then some ((C.length : Nat) : Int) else gN c C y) = gN c (C ++ [t]) := by
  funext y
  show (if y = c t then some ((C.length : Nat) : Int) else gN c C y) = _
  unfold gN
  rw [List.map_append]
  by_cases e : y = c t
  · subst e
    rw [if_pos rfl, if_pos (by simp)]
    show _ = some ((ix (C.map c ++ [c t]) (c t) : Nat) : Int)
    rw [ix_new h, List.length_map]
  · rw [if_neg e]
    by_cases m : y ∈ C.map c
    · rw [if_pos m, if_pos (List.mem_append_left _ m), ix_app m]
    · rw [if_neg m, if_neg (by rw [List.mem_append]; rintro (z | z); exact m z; exact e (by simpa using z))]
theorem zipIdx_rg {xs : List Int} : xs.zipIdx = (List.range xs.length).map fun e => (xs.getD e 0, e) := by
  apply List.ext_getElem
  · simp
  · intro i h1 h2
    simp at h1
    simp [h1]
theorem enum_fin {K : PySem.W.Frag} {A : Au} : (((CC A).zipIdx.filter fun z => decide (z.1 ∈ A.F)).map fun z => D K (.int z.2)) = (minA A).F.map fun n => D K (.int n) := by
  rw [zipIdx_rg, List.filter_map, List.map_map]
  show _ = List.map _ (List.map _ (List.filter _ (List.range (CC A).length)))
  rw [List.map_map]; rfl
set_option maxHeartbeats 4000000 in
theorem ok_least (T : Txt K mg) : FnOk P wo K mg base CX0 4 T.f_least T.d_least ["automaton"] (sp_least T) := by
  have nd := (sc_least).nd
  refine T.F_least.ok sc_least (fun vs H Q E h => (sp_least_len h)) (fun cdv A outer s H vs Q E hr h => ?_)
  obtain ⟨A, ⟨O, hN, hL⟩, F, w, ps, k⟩ := h
  refine ⟨_, (pss_cons (ps_set (i := 1) nd rfl (Or.inl rfl) (pe_call (ok_state_classes T) (hr.mono (by decide)) rfl T.m_state_classes T.F_state_classes.kp T.b_state_classes .nil pass0 (pa_cons (pv 0) (pa_cons (pe_call (ok__reached_states T) (hr.mono (by decide)) rfl T.m__reached_states T.F__reached_states.kp T.b__reached_states .nil pass0 (pa_cons (pv 0) pa_nil)) (pa_cons (pe_listRg rfl (by rfl) T.z_list (prg_1 (by rfl) T.z_range (c_fld (K := K) rfl (pv 0) rfl))) pa_nil)))))
    (pss_cons (ps_set (i := 2) nd rfl (Or.inl rfl) (pe_disp (pps_cons (pe_dget (units1 hr) (pv 1) (c_fld (K := K) rfl (pv 0) rfl) (fun _ _ => rfl)) pe_int pps_nil) (by rfl) (by rfl) (by simp) (by simp)))
    (pss_cons (ps_set (i := 3) nd rfl (Or.inl rfl) (pe_lst (pa_cons (c_fld (K := K) rfl (pv 0) rfl) pa_nil)))
    (pss_cons (ps_set (i := 4) nd rfl (Or.inl rfl) (pe_lst pa_nil))
    (pss_cons (ps_while PassesOwn.never (pt_cmpR op_lt (pe_callB (c_len (K := K) rfl) (by rfl) T.z_len PySem.boot_len (pa_cons (pv 4) pa_nil)) (pe_callB (c_len (K := K) rfl) (by rfl) T.z_len PySem.boot_len (pa_cons (pv 3) pa_nil)) (nomark _)) (pss_cons (ps_set (i := 5) nd rfl (Or.inl rfl) (pe_lst pa_nil))
     (pss_cons (ps_for PassesOwn.never rfl (pi_tupK (K := K) rfl (pe_ix (c_ix (K := K) rfl) (c_fld (K := K) rfl (pv 0) rfl) (pe_ix (c_ix (K := K) rfl) (pv 3) (pe_callB (c_len (K := K) rfl) (by rfl) T.z_len PySem.boot_len (pa_cons (pv 4) pa_nil)) (fun _ _ => rfl)) (fun _ _ => rfl))) (pg_name (i := 6) nd rfl (by first | exact Or.inl rfl | exact Or.inr rfl))
      (Evl.pss_cut (ps_if (pt_cmp (pc_dnotin (units1 hr) (pe_dget (units1 hr) (pv 1) (pv 6) (fun _ _ => rfl)) (pv 2))) (pss_cons (ps_dput (units1 hr) (pv 2) (pe_dget (units1 hr) (pv 1) (pv 6) (fun _ _ => rfl)) (pe_callB (c_len (K := K) rfl) (by rfl) T.z_len PySem.boot_len (pa_cons (pv 3) pa_nil)) rfl)
       (pss_one (ps_expr (pe_bm PySem.F.plainAttrs_list PySem.F.slot_list_append PySem.F.type_list_append mt_append (pv 3) (pa_cons (pv 6) pa_nil))))) pss_nil)
      (pss_one (ps_expr (pe_bm PySem.F.plainAttrs_list PySem.F.slot_list_append PySem.F.type_list_append mt_append (pv 5) (pa_cons (pe_dget (units1 hr) (pv 2) (pe_dget (units1 hr) (pv 1) (pv 6) (fun _ _ => rfl)) (fun _ _ => rfl)) pa_nil))))))
     (pss_one (ps_expr (pe_bm PySem.F.plainAttrs_list PySem.F.slot_list_append PySem.F.type_list_append mt_append (pv 4) (pa_cons (pv 5) pa_nil)))))))
    (pss_cons (ps_set (i := 7) nd rfl (Or.inr rfl) (pe_call (ok_final_marks T) (hr.mono (by decide)) rfl T.m_final_marks T.F_final_marks.kp T.b_final_marks .nil pass0 (pa_cons (pv 0) pa_nil)))
    (pss_cons (ps_setLc (i := 8) (own := [("number", 9), ("state", 6)]) (by rfl) nd rfl rfl (sw_true rfl rfl rfl (by decide +kernel)) (pi_enumK (K := K) rfl (by rfl) T.z_enumerate (pa_cons (pv 3) pa_nil)) (blkOk_by (N := ["automaton", "classes", "numbers", "chosen", "rows", "row", "state", "marks", "finals", "number"]) (sc := defScope s_least) (own := [("number", 9), ("state", 6)]) (by decide +kernel)) (fun _ _ _ _ _ => pg_tupK (K := K) (n := 2) rfl (by rfl) (pgs_cons (pg_name (i := 9) nd rfl (by first | exact Or.inl rfl | exact Or.inr rfl)) (pgs_cons (pg_name (i := 6) nd rfl (by first | exact Or.inl rfl | exact Or.inr rfl)) pgs_nil))) (fun _ _ _ _ _ => (pts_one (pt_val (pe_ix (c_ix (K := K) rfl) (pv 7) (pv 6) (fun _ _ => rfl))))) (fun _ _ _ _ _ => (pv 9)))
    (pss_one (ps_ret (pe_make ⟨T.mk_Automaton, T.in_Automaton, T.if_Automaton, T.kc_Automaton⟩ (ok_Automaton_init T) (hr.mono (by decide)) rfl T.mc_Automaton T.b_Automaton_init .nil passL (pa_cons (c_fld (K := K) rfl (pv 0) rfl) (pa_cons pe_int (pa_cons (pv 8) (pa_cons (pv 4) pa_nil)))))))))))))), ?_⟩
  refine go_start w ps (Γ := [some (PAu T A), none, none, none, none, none, none, none, none, none]) rfl ?_
  have est : ∀ {Γ : Gm} {M : Ms}, Γ[0]? = some (some (PAu T A)) → Ev (tFld K (tVar 0) "start") Γ M (D K (.int A.s)) M := fun h => ev_fld (P := D K (.int A.s)) (fps := auF K A) (ev_var h) (by simp) T.cl_Automaton T.na_Automaton_start
  have elt : ∀ {Γ : Gm} {M : Ms}, Γ[0]? = some (some (PAu T A)) → Ev (tFld K (tVar 0) "letters") Γ M (D K (.int (A.L : Int))) M := fun h => ev_fld (P := D K (.int (A.L : Int))) (fps := auF K A) (ev_var h) (by simp) T.cl_Automaton T.na_Automaton_letters
  refine (q_asgN (use_state_classesX (ea_cons (ev_var (i := 0) rfl) (ea_cons (use__reached_states (ea_cons (ev_var (i := 0) rfl) ea_nil) ⟨O, hN⟩) (ea_cons ((ev_newL (K := K) (evn_listRg (elt rfl) (by omega))).weak dL_le) ea_nil))) ⟨O, hN, hL⟩) fun q1 hq1 => nx_exM (j := 0) rfl fun S => nx_anM (j := 0) rfl fun hS => nx_exM (j := 0) rfl fun c => nx_anM (j := 0) rfl fun lab => ?_)
  obtain ⟨⟨C, hs⟩, hSl⟩ := hS
  dsimp only [List.set]
  refine (q_asgN (evn_dispI (x := c A.s) (v := 0) (fun r => ev_dgetI (j := 1) (ev_var (i := 1) rfl) (est rfl) rfl (by rw [if_pos hs])) (fun M => (ev_int (K := K)))) fun q2 hq2 => ?_)
  dsimp only [List.set]
  refine (q_asgN (evn_lst (ps := [D K (.int A.s)]) (ea_cons (est rfl) ea_nil) (by simp)) fun q3 hq3 => ?_)
  dsimp only [List.set]
  refine (q_asgN (evn_lst ea_nil (by decide)) fun q4 hq4 => ?_)
  dsimp only [List.set]
  have chs := cC_chs C hs
  have clen := cC_len C hs
  refine (q_while (fun m Γ M => ∃ (i : Nat) (g5 g6 : Option MP), Γ = [some (PAu T A), some (Own q1), some (Own q2), some (Own q3), some (Own q4), g5, g6, none, none, none] ∧ M = [(q4, ML (((cC A i).take i).map fun cc => D K (dL (mrow A cc)))), (q3, MInts K (cC A i)), (q2, MDO (gN c (cC A i)) (cC A i).length), (q1, MDO (fun x => if x ∈ S then some (c x) else none) 2000)] ∧ i ≤ (cC A i).length ∧ m = A.R.length + 1 - i) (A.R.length + 1) ⟨0, none, none, rfl, ?_, Nat.zero_le _, rfl⟩ ?_)
  · show [(q4, ML []), (q3, ML [D K (.int A.s)]), (q2, _), _] = [(q4, ML []), (q3, ML [D K (.int A.s)]), (q2, MDO (gN c [A.s]) 1), _]
    rw [gN_one]
  rintro m _ _ ⟨i, g5, g6, rfl, rfl, hi, rfl⟩
  have il := clen i
  have rl : (((cC A i).take i).map fun cc => D K (dL (mrow A cc))).length = i := by rw [List.length_map, List.length_take]; omega
  have elr : ∀ {Γ : Gm} {M : Ms} {j : Nat}, Γ[4]? = some (some (Own q4)) → M[j]? = some (q4, ML (((cC A i).take i).map fun cc => D K (dL (mrow A cc)))) → Ev (tCB (rLn K) (tCons (tVar 4) tNil)) Γ M (D K (.int (i : Int))) M := fun h1 h2 => (ev_cb (ea_cons (ev_var h1) ea_nil) (rc_lenO h2)).is (by rw [rl])
  refine ⟨_, _, et_test (ev_op (elr (j := 0) rfl rfl) (ev_lenI (j := 1) (ev_var (i := 3) rfl) rfl) (rv_b0 (g := fun i j => decide (i < j)))), fun hz => ?_, fun hz => ?_⟩
  · have hz : i < (cC A i).length := by simp at hz; omega
    obtain ⟨cc, hcc⟩ : ∃ cc, (cC A i)[i]? = some cc := ⟨_, List.getElem?_eq_getElem hz⟩
    have ccS := (chs i).sub cc (List.mem_of_getElem? hcc)
    obtain ⟨cin, crow⟩ := C cc ccS
    have nxt := cC_next hcc
    obtain ⟨Mp, pre⟩ := cC_pre (A := A) (i + 1) (A.R.length - (i + 1))
    rw [show i + 1 + (A.R.length - (i + 1)) = A.R.length by omega] at pre
    have pre : CC A = cC A (i + 1) ++ Mp := pre
    refine (q_asgN (evn_lst ea_nil (by decide)) fun q5 hq5 => ?_)
    dsimp only [List.set]
    refine (q_forT ((ev_row (ev_var (i := 0) rfl) (ev_op (ev_var (i := 3) rfl) (elr (j := 1) rfl rfl) (rv_ixO (j := 2) (P := D K (.int cc)) rfl (by omega) (by rw [Int.toNat_natCast, List.getElem?_map, hcc]; rfl))) cin).weak le_dT) (fun j Γ M => ∃ g6 : Option MP, Γ = [some (PAu T A), some (Own q1), some (Own q2), some (Own q3), some (Own q4), some (Own q5), g6, none, none, none] ∧ M = [(q5, MInts K (((A.row cc).take j).map fun t => (idc A (CC A) t : Int))), (q4, ML (((cC A i).take i).map fun cc => D K (dL (mrow A cc)))), (q3, MInts K (((A.row cc).take j).foldl (st1 A) (cC A i))), (q2, MDO (gN c (((A.row cc).take j).foldl (st1 A) (cC A i))) (((A.row cc).take j).foldl (st1 A) (cC A i)).length), (q1, MDO (fun x => if x ∈ S then some (c x) else none) 2000)]) ⟨g6, rfl, by rw [List.take_zero]; rfl⟩ ?_ ?_)
    · rintro E' hE j Pm hPm _ _ ⟨g6, rfl, rfl⟩
      rw [List.getElem?_map] at hPm
      obtain ⟨t, ht, rfl⟩ := Option.map_eq_some_iff.mp hPm
      have tS := crow t (List.mem_of_getElem? ht)
      have tk : (A.row cc).take (j + 1) = (A.row cc).take j ++ [t] := by rw [List.take_add_one, ht]; rfl
      have cj : Chs A S (((A.row cc).take j).foldl (st1 A) (cC A i)) := (chs i).fold fun x hx => crow x (List.mem_of_mem_take hx)
      have cl1 : ∀ d ∈ (((A.row cc).take j).foldl (st1 A) (cC A i)), c d = c t ↔ eqI A d t := fun d hd => lab d (cj.sub d hd) t tS
      have cj1 : Chs A S (st1 A (((A.row cc).take j).foldl (st1 A) (cC A i)) t) := cj.step tS
      have cl2 : ∀ d ∈ (st1 A (((A.row cc).take j).foldl (st1 A) (cC A i)) t), c d = c t ↔ eqI A d t := fun d hd => lab d (cj1.sub d hd) t tS
      have fs1 : ((A.row cc).take (j + 1)).foldl (st1 A) (cC A i) = (st1 A (((A.row cc).take j).foldl (st1 A) (cC A i)) t) := by rw [tk, List.foldl_append]; rfl
      have cl : (((A.row cc).take j).foldl (st1 A) (cC A i)).length ≤ A.R.length := by
        obtain ⟨M2, e2⟩ := fold_pre (A := A) (ts := (A.row cc).drop j) (C := (((A.row cc).take j).foldl (st1 A) (cC A i)))
        rw [← List.foldl_append, List.take_append_drop, ← nxt] at e2
        have := clen (i + 1)
        rw [e2, List.length_append] at this
        omega
      have ecl : ∀ {Γ : Gm} {M : Ms} {jj : Nat}, Γ[1]? = some (some (Own q1)) → Γ[6]? = some (some (D K (.int t))) → M[jj]? = some (q1, MDO (fun x => if x ∈ S then some (c x) else none) 2000) → Ev (tDGet (tVar 1) (tVar 6)) Γ M (D K (.int (c t))) M := fun h1 h2 h3 => ev_dgetI (ev_var h1) (ev_var h2) h3 (by rw [if_pos tS])
      dsimp only [List.set]
      refine go_cut (fun Γ M => Γ = [some (PAu T A), some (Own q1), some (Own q2), some (Own q3), some (Own q4), some (Own q5), some (D K (.int t)), none, none, none] ∧ M = [(q5, MInts K (((A.row cc).take j).map fun t => (idc A (CC A) t : Int))), (q4, ML (((cC A i).take i).map fun cc => D K (dL (mrow A cc)))), (q3, MInts K (st1 A (((A.row cc).take j).foldl (st1 A) (cC A i)) t)), (q2, MDO (gN c (st1 A (((A.row cc).take j).foldl (st1 A) (cC A i)) t)) (st1 A (((A.row cc).take j).foldl (st1 A) (cC A i)) t).length), (q1, MDO (fun x => if x ∈ S then some (c x) else none) 2000)]) ?_ ?_
      · refine go_if (et_val (ev_dnotinI (j := 3) (ecl (jj := 4) rfl rfl rfl) (ev_var (i := 2) rfl) rfl)) (fun hz => ?_) fun hz => go_next (JA.of ⟨rfl, ?_⟩)
        · have hz : ¬ ∃ d ∈ (((A.row cc).take j).foldl (st1 A) (cC A i)), eqI A d t := fun z => by rw [gN_some ((mem_cl cl1).mpr z)] at hz; cases hz
          have e1 : (st1 A (((A.row cc).take j).foldl (st1 A) (cC A i)) t) = (((A.row cc).take j).foldl (st1 A) (cC A i)) ++ [t] := st1_new hz
          refine (q_dputI (j := 3) (ev_lenI (j := 2) (ev_var (i := 3) rfl) rfl) (ev_var (i := 2) rfl) (ecl (jj := 4) rfl rfl rfl) rfl (by omega) ?_)
          refine go_app (j := 2) (ev_var (i := 3) rfl) (ev_var (i := 6) rfl) rfl rfl (by rw [List.length_map]; omega) (JA.of ⟨rfl, ?_⟩)
          show [_, _, (q3, ML ((((A.row cc).take j).foldl (st1 A) (cC A i)).map (fun n => D K (.int n)) ++ [D K (.int t)])), (q2, MDO (fun y => if y = c t then some (((((A.row cc).take j).foldl (st1 A) (cC A i)).length : Nat) : Int) else gN c (((A.row cc).take j).foldl (st1 A) (cC A i)) y) ((((A.row cc).take j).foldl (st1 A) (cC A i)).length + 1)), _] = _
          rw [gN_add (fun z => hz ((mem_cl cl1).mp z)), e1, show MInts K ((((A.row cc).take j).foldl (st1 A) (cC A i)) ++ [t]) = ML ((((A.row cc).take j).foldl (st1 A) (cC A i)).map (fun n => D K (.int n)) ++ [D K (.int t)]) by rw [MInts, List.map_append]; rfl, List.length_append]; rfl
        · have hz : ∃ d ∈ (((A.row cc).take j).foldl (st1 A) (cC A i)), eqI A d t := Classical.byContradiction fun z => by rw [gN_none (fun y => z ((mem_cl cl1).mp y))] at hz; cases hz
          have e1 : (st1 A (((A.row cc).take j).foldl (st1 A) (cC A i)) t) = (((A.row cc).take j).foldl (st1 A) (cC A i)) := st1_old hz
          rw [e1]
      rintro _ _ ⟨rfl, rfl⟩
      have has : ∃ d ∈ (st1 A (((A.row cc).take j).foldl (st1 A) (cC A i)) t), eqI A d t := st1_has
      have val : gN c (st1 A (((A.row cc).take j).foldl (st1 A) (cC A i)) t) (c t) = some ((idc A (CC A) t : Nat) : Int) := by
        rw [gN_some ((mem_cl cl2).mpr has), ix_idc cl2]
        obtain ⟨M2, e2⟩ := fold_pre (A := A) (ts := (A.row cc).drop (j + 1)) (C := (st1 A (((A.row cc).take j).foldl (st1 A) (cC A i)) t))
        rw [← fs1, ← List.foldl_append, List.take_append_drop, ← nxt] at e2
        rw [pre, e2, fs1, List.append_assoc, idc_app has]
      refine go_app (j := 0) (ev_var (i := 5) rfl) (ev_dgetI (j := 3) (ev_var (i := 2) rfl) (ecl (jj := 4) rfl rfl rfl) rfl val) rfl rfl (by
        have := (O.R _ (Au.row_mem cin)).1
        rw [List.length_map, List.length_map, List.length_take]; omega) (JA.of ⟨_, rfl, ?_⟩)
      rw [fs1]
      show [(q5, ML ((((A.row cc).take j).map fun t => (idc A (CC A) t : Int)).map (fun n => D K (.int n)) ++ [D K (.int (idc A (CC A) t : Int))])), _, _, _, _] = _
      have er : MInts K (((A.row cc).take (j + 1)).map fun t => (idc A (CC A) t : Int)) = ML ((((A.row cc).take j).map fun t => (idc A (CC A) t : Int)).map (fun n => D K (.int n)) ++ [D K (.int (idc A (CC A) t : Int))]) := by rw [tk, MInts, List.map_append, List.map_append]; rfl
      rw [er]
    · rintro _ _ ⟨g6, rfl, rfl⟩
      rw [List.length_map, List.take_length, ← nxt]
      refine nx_freeze (K := K) (i := 5) 0 rfl hq5 rfl ?_
      dsimp only [List.set, List.eraseIdx]
      refine go_app (j := 0) (P := D K (dL (mrow A cc))) (ev_var (i := 4) rfl) ((ev_var (i := 5) rfl).weak (dL_le (l := mrow A cc))) rfl rfl (by rw [rl]; omega) (JA.of ⟨_, by omega, i + 1, _, g6, rfl, ?_, ?_, rfl⟩)
      · obtain ⟨M1, p1⟩ := cC_pre (A := A) i 1
        have e : (cC A (i + 1)).take (i + 1) = (cC A i).take i ++ [cc] := by
          rw [p1, List.take_append_of_le_length (by omega), List.take_add_one, hcc]; rfl
        rw [e, List.map_append]; rfl
      · obtain ⟨M1, p1⟩ := cC_pre (A := A) i 1
        rw [p1, List.length_append]; omega
  · have hz : (cC A i).length ≤ i := by simp at hz; omega
    have e := CC_eq C hs hz
    have tk : (cC A i).take i = CC A := by rw [e]; exact List.take_of_length_le (by rw [← e]; exact hz)
    rw [tk, e]
    have ccl : (CC A).length ≤ A.R.length := by rw [← e]; exact il
    refine (q_asg (use_final_marks (ea_cons (ev_var (i := 0) rfl) ea_nil) ⟨O, hN⟩) ?_)
    dsimp only [List.set]
    refine nx_freeze (K := K) (i := 3) 1 rfl hq3 rfl ?_
    dsimp only [List.set, List.eraseIdx]
    refine nx_freeze (K := K) (i := 4) 0 rfl hq4 rfl ?_
    dsimp only [List.set, List.eraseIdx]
    refine nx_drop (List.nil_sublist _) ?_
    have lc := evn_lcEnumL (K := K) (xs := CC A) (R := fun x => D K (.int x)) (G := fun z => D K (.int z.2)) (i := 9) (j := 6) (M := []) (M1 := []) (Γ := [some (PAu T A), some (Own q1), some (Own q2), some (PLi K ((CC A).map fun n => D K (.int n))), some (PLi K ((CC A).map fun cc => D K (dL (mrow A cc)))), g5, g6, some (D K (dBs (mksA A))), none, none]) (fun z => decide (z.1 ∈ A.F)) (by decide) (ev_var (i := 3) rfl) (by omega) (fun z hz => by
      have hz : z.1 ∈ CC A := by
        rw [zipIdx_rg] at hz
        obtain ⟨e, he, rfl⟩ := List.mem_map.mp hz
        have he := List.mem_range.mp he
        show (CC A).getD e 0 ∈ CC A
        rw [List.getD_eq_getElem?_getD, List.getElem?_eq_getElem he]
        exact List.getElem_mem he
      have zin := (C z.1 ((chs A.R.length).sub z.1 hz)).1
      exact et_val (ev_op (ev_var (i := 7) rfl) (ev_var (i := 6) rfl) (rv_ixDL zin.1 (mks_ix zin)))) (fun z _ _ => ev_var (i := 9) rfl)
    rw [enum_fin] at lc
    refine (q_asg (P := D K (dL (minA A).F)) ((ev_newL (K := K) lc).weak (dL_le (l := (minA A).F))) ?_)
    clear lc
    dsimp only [List.set]
    have eR : dLL (minA A).R = .list ((CC A).map fun cc => dL (mrow A cc)) := by
      show PyData.list (((CC A).map (mrow A)).map dL) = _
      rw [List.map_map]; rfl
    exact go_ret Le.refl (use_Automaton (A := minA A) (ea_cons (elt rfl) (ea_cons (ev_int) (ea_cons (ev_var (i := 8) rfl) (ea_cons (by rw [eR]; exact (ev_var (i := 4) rfl).weak (Lm_le (f := fun cc => dL (mrow A cc)))) ea_nil)))) (minA_ok O C hs) ⟨by
      show (List.map _ (List.filter _ (List.range (CC A).length))).length ≤ 1000
      rw [List.length_map]
      exact Nat.le_trans (List.length_filter_le _ _) (by rw [List.length_range]; omega), by show ((CC A).map _).length ≤ 1000; rw [List.length_map]; omega, hL⟩) k
theorem use_least {T : Txt K mg} {tr : TA} {Γ : Gm} {M M1 : Ms} {A : Au} {X : XK} (h : EvA tr Γ M [PAu T A] M1) (hn : A.Ok ∧ A.R.length ≤ 1000 ∧ A.L ≤ 1000) : Ev (tCall (sp_least T) [] X tr) Γ M (PAu T (minA A)) M1 :=
  call0 h fun vs H Q z => ⟨A, hn, z⟩
/-! ### _law_run -/
theorem sc__law_run : FnScope ["automaton", "word", "state", "letter"] ["automaton", "word"] (defScope s__law_run) := ⟨rfl, rfl, rfl, by decide +kernel, rfl, by decide +kernel, by decide +kernel⟩
/-- the law's automaton as data -/
abbrev dAu (A : Au) : PyData := .tuple [.int A.s, dL A.F, dLL A.R]
def sp__law_run (T : Txt K mg) : Sp := fun vs H Q _ => ∃ (A : Au) (w : List Int), (A.Ok ∧ LetOk A w ∧ w.length ≤ 1000) ∧ Prom [D K (dAu A), D K (dL w)] [] (D K (.int (runA A A.s w))) [] vs H Q
theorem sp__law_run_len {T : Txt K mg} {vs H Q E} (h : sp__law_run T vs H Q E) : vs.length = 2 := by obtain ⟨_, _, _, h⟩ := h; exact h.len
theorem row_ixL {A : Au} {q : Int} (h : A.In q) : (A.R.map dL)[q.toNat]? = some (dL (A.row q)) := by
  rw [List.getElem?_map, Au.row_at h]; rfl
set_option maxHeartbeats 4000000 in
theorem ok__law_run (T : Txt K mg) : FnOk P wo K mg base CX0 1 T.f__law_run T.d__law_run ["automaton", "word"] (sp__law_run T) := by
  have nd := (sc__law_run).nd
  refine T.F__law_run.ok sc__law_run (fun vs H Q E h => (sp__law_run_len h)) (fun cdv A outer s H vs Q E hr h => ?_)
  obtain ⟨A, w, ⟨O, hw, hl⟩, F, wd, ps, k⟩ := h
  refine ⟨_, (pss_cons (ps_set (i := 2) nd rfl (Or.inl rfl) (pe_ix (c_ix (K := K) rfl) (pv 0) pe_int (fun _ _ => rfl)))
    (pss_cons (ps_for PassesOwn.never rfl (pi_listK (K := K) rfl (pv 1)) (pg_name (i := 3) nd rfl (by first | exact Or.inl rfl | exact Or.inr rfl))
     (pss_one (ps_set (i := 2) nd rfl (Or.inl rfl) (pe_ix (c_ix (K := K) rfl) (pe_ix (c_ix (K := K) rfl) (pe_ix (c_ix (K := K) rfl) (pv 0) pe_int (fun _ _ => rfl)) (pv 2) (fun _ _ => rfl)) (pv 3) (fun _ _ => rfl)))))
    (pss_one (ps_ret (pv 2))))), ?_⟩
  refine go_start wd ps (Γ := [some (D K (dAu A)), some (D K (dL w)), none, none]) rfl ?_
  refine (q_asg (P := D K (.int A.s)) (ev_op (ev_var (i := 0) rfl) (ev_int (K := K) (i := 0)) (rv_ixDT (by omega) rfl)) ?_)
  dsimp only [List.set]
  refine (q_forL ((ev_var (i := 1) rfl).weak le_dL) (fun j Γ M => ∃ (g3 : Option MP), Γ = [some (D K (dAu A)), some (D K (dL w)), some (D K (.int (runA A A.s (w.take j)))), g3] ∧ M = []) ⟨none, rfl, rfl⟩ ?_ ?_)
  · rintro E2 hE2 j Pm hPm _ _ ⟨g3, rfl, rfl⟩
    rw [List.getElem?_map] at hPm
    obtain ⟨a, ha, rfl⟩ := Option.map_eq_some_iff.mp hPm
    have ha2 := hw a (List.mem_of_getElem? ha)
    have hin := runA_in O O.s (w := w.take j) fun b hb => hw b (List.mem_of_mem_take hb)
    dsimp only [List.set]
    refine go_asg (P := D K (.int (runA A A.s (w.take (j + 1))))) ((ev_op (ev_op (ev_op (ev_var (i := 0) rfl) (ev_int (K := K) (i := 2)) (rv_ixDT (d := dLL A.R) (by omega) rfl)) (ev_var (i := 2) rfl) (rv_ixDL hin.1 (row_ixL hin))) (ev_var (i := 3) rfl) (rv_ixDL (by omega) (nx_ix O hin (by omega)))).is ?_) (JA.of ⟨_, rfl, rfl⟩)
    rw [List.take_add_one, ha, Option.toList_some, runA_snoc]
  · rintro _ _ ⟨g3, rfl, rfl⟩
    rw [List.length_map, List.take_length]
    exact go_ret Le.refl (ev_var (i := 2) rfl) k
theorem use__law_run {T : Txt K mg} {tr : TA} {Γ : Gm} {M M1 : Ms} {A : Au} {w : List Int} {X : XK} (h : EvA tr Γ M [D K (dAu A), D K (dL w)] M1) (hn : A.Ok ∧ LetOk A w ∧ w.length ≤ 1000) : Ev (tCall (sp__law_run T) [] X tr) Γ M (D K (.int (runA A A.s w))) M1 :=
  call0 h fun vs H Q z => ⟨A, w, hn, z⟩
/-! ### _law_takes -/
theorem sc__law_takes : FnScope ["automaton", "word"] ["automaton", "word"] (defScope s__law_takes) := ⟨rfl, rfl, rfl, by decide +kernel, rfl, by decide +kernel, by decide +kernel⟩
def sp__law_takes (T : Txt K mg) : Sp := fun vs H Q _ => ∃ (q : Addr) (A : Au) (w : List Int), (A.Ok ∧ LetOk A w ∧ w.length ≤ 1000) ∧ Prom [D K (dAu A), Own q] [(q, MInts K w)] (D K (.bool (decide (runA A A.s w ∈ A.F)))) [(q, MInts K w)] vs H Q
theorem sp__law_takes_len {T : Txt K mg} {vs H Q E} (h : sp__law_takes T vs H Q E) : vs.length = 2 := by obtain ⟨_, _, _, _, h⟩ := h; exact h.len
set_option maxHeartbeats 4000000 in
theorem ok__law_takes (T : Txt K mg) : FnOk P wo K mg base CX0 2 T.f__law_takes T.d__law_takes ["automaton", "word"] (sp__law_takes T) := by
  have nd := (sc__law_takes).nd
  refine T.F__law_takes.ok sc__law_takes (fun vs H Q E h => (sp__law_takes_len h)) (fun cdv A outer s H vs Q E hr h => ?_)
  obtain ⟨q, A, w, hn, F, wd, ps, k⟩ := h
  refine ⟨_, (pss_one (ps_ret (pe_cmpR (c_in (K := K) rfl) (pe_call (ok__law_run T) (hr.mono (by decide)) rfl T.m__law_run T.F__law_run.kp T.b__law_run .nil pass0 (pa_cons (pv 0) (pa_cons (pv 1) pa_nil))) (pe_ix (c_ix (K := K) rfl) (pv 0) pe_int (fun _ _ => rfl)) (by rfl)))), ?_⟩
  refine go_start wd ps (Γ := [some (D K (dAu A)), some (Own q)]) rfl ?_
  show Nx _ _ [(q, MInts K w)] _
  exact go_ret Le.refl (ev_borrow1 (i := 1) rfl pure_bool (ev_op (use__law_run (ea_cons (ev_var (i := 0) rfl) (ea_cons (ev_var (i := 1) rfl) ea_nil)) hn) (ev_op (ev_var (i := 0) rfl) (ev_int (K := K) (i := 1)) (rv_ixDT (d := dL A.F) (by omega) rfl)) (rv_inL (ns := A.F) (neg := false)))) k
theorem use__law_takes {T : Txt K mg} {tr : TA} {Γ : Gm} {M M1 : Ms} {q : Addr} {A : Au} {w : List Int} {j : Nat} {X : XK} (h : EvA tr Γ M [D K (dAu A), Own q] M1) (hn : A.Ok ∧ LetOk A w ∧ w.length ≤ 1000) (e : M1[j]? = some (q, MInts K w)) : Ev (tCall (sp__law_takes T) [] X tr) Γ M (D K (.bool (decide (runA A A.s w ∈ A.F)))) M1 :=
  call1 h e fun vs H Q z => ⟨q, A, w, hn, z⟩
/-! ### _law_made -/
theorem sc__law_made : FnScope ["letters", "automaton", "row"] ["letters", "automaton"] (defScope s__law_made) := ⟨rfl, rfl, rfl, by decide +kernel, rfl, by decide +kernel, by decide +kernel⟩
def sp__law_made (T : Txt K mg) : Sp := fun vs H Q _ => ∃ (A : Au) (ls : List (List Int)), (A.Ok ∧ A.R.length ≤ 1000 ∧ A.L ≤ 1000 ∧ A.F.length ≤ 1000 ∧ ls.length = A.L) ∧ Prom [D K (dLT ls), D K (dAu A)] [] (PAu T A) [] vs H Q
theorem sp__law_made_len {T : Txt K mg} {vs H Q E} (h : sp__law_made T vs H Q E) : vs.length = 2 := by obtain ⟨_, _, _, h⟩ := h; exact h.len
set_option maxHeartbeats 4000000 in
theorem ok__law_made (T : Txt K mg) : FnOk P wo K mg base CX0 4 T.f__law_made T.d__law_made ["letters", "automaton"] (sp__law_made T) := by
  have nd := (sc__law_made).nd
  refine T.F__law_made.ok sc__law_made (fun vs H Q E h => (sp__law_made_len h)) (fun cdv A outer s H vs Q E hr h => ?_)
  obtain ⟨A, ls, ⟨O, hN, hL, hF, hd⟩, F, w, ps, k⟩ := h
  refine ⟨_, (pss_one (ps_ret (pe_make ⟨T.mk_Automaton, T.in_Automaton, T.if_Automaton, T.kc_Automaton⟩ (ok_Automaton_init T) (hr.mono (by decide)) rfl T.mc_Automaton T.b_Automaton_init .nil passL (pa_cons (pe_callB (c_len (K := K) rfl) (by rfl) T.z_len PySem.boot_len (pa_cons (pv 0) pa_nil)) (pa_cons (pe_ix (c_ix (K := K) rfl) (pv 1) pe_int (fun _ _ => rfl)) (pa_cons (pe_callTy (c_list (K := K) rfl) (by rfl) T.z_list (by decide +kernel) (pa_cons (pe_ix (c_ix (K := K) rfl) (pv 1) pe_int (fun _ _ => rfl)) pa_nil)) (pa_cons (pe_lc (own := [("row", 2)]) (by rfl) nd (pi_listK (K := K) rfl (pe_ix (c_ix (K := K) rfl) (pv 1) pe_int (fun _ _ => rfl))) (blkOk_by (N := ["letters", "automaton", "row"]) (sc := defScope s__law_made) (own := [("row", 2)]) (by decide +kernel)) (fun _ _ _ _ _ => pg_name (i := 2) nd rfl (by first | exact Or.inl rfl | exact Or.inr rfl)) (fun _ _ _ _ _ => pts_nil) (fun _ _ _ _ _ => (pe_callTy (c_list (K := K) rfl) (by rfl) T.z_list (by decide +kernel) (pa_cons (pv 2) pa_nil)))) pa_nil))))))), ?_⟩
  refine go_start w ps (Γ := [some (D K (dLT ls)), some (D K (dAu A)), none]) rfl ?_
  have eA : auOf (A.L : Int) A.s A.F A.R = A := by show Au.mk ((A.L : Int)).toNat A.s A.F A.R = A; rw [Int.toNat_natCast]
  have lc := evn_lcL (K := K) (xs := A.R) (R := fun l => D K (dL l)) (G := fun l => D K (dL l)) (i := 2) (M := []) (M1 := []) (Γ := [some (D K (dLT ls)), some (D K (dAu A)), none]) (t := tYes) (te := tCB (rList K) (tCons (tVar 2) tNil)) (fun _ => true) ((ev_op (ev_var (i := 1) rfl) (ev_int (K := K) (i := 2)) (rv_ixDT (d := dLL A.R) (by omega) rfl)).weak (le_Lm (f := dL))) (by omega) (fun _ _ => et_yes) (fun l _ _ => (ev_newL (K := K) (evn_cb (ea_cons ((ev_var (i := 2) rfl).weak le_dL) ea_nil) rcn_listL)).weak dL_le)
  rw [filter_true] at lc
  exact go_ret Le.refl ((ev_fr (make0 (K := K) (C := T.c_Automaton) (sp := sp_Automaton_init T) (O := MIns T.c_Automaton 4 (auF K A)) (ps := [D K (.int (A.L : Int)), D K (.int A.s), D K (dL A.F), D K (dLL A.R)]) (ea_cons ((ev_lenM (f := dT) (ev_var (i := 0) rfl)).is (by rw [hd])) (ea_cons (ev_op (ev_var (i := 1) rfl) (ev_int (K := K) (i := 0)) (rv_ixDT (d := .int A.s) (by omega) rfl)) (ea_cons ((ev_newL (K := K) (evn_cb (ea_cons ((ev_op (ev_var (i := 1) rfl) (ev_int (K := K) (i := 1)) (rv_ixDT (d := dL A.F) (by omega) rfl)).weak le_dL) ea_nil) rcn_listL)).weak dL_le) (ea_cons ((ev_newL (K := K) lc).weak (Lm_le (f := dL))) ea_nil)))) fun x vs H Q ⟨F, w, p, r⟩ => ⟨x, (A.L : Int), A.s, A.F, A.R, ⟨hF, hN, fun r hr => by rw [(O.R r hr).1]; exact hL⟩, F, w, p, fun _ => by rw [eA]; exact r, fun c => absurd (by rw [eA]; exact O) c⟩)).weak fr_Ins) k
theorem use__law_made {T : Txt K mg} {tr : TA} {Γ : Gm} {M M1 : Ms} {A : Au} {ls : List (List Int)} {X : XK} (h : EvA tr Γ M [D K (dLT ls), D K (dAu A)] M1) (hn : A.Ok ∧ A.R.length ≤ 1000 ∧ A.L ≤ 1000 ∧ A.F.length ≤ 1000 ∧ ls.length = A.L) : Ev (tCall (sp__law_made T) [] X tr) Γ M (PAu T A) M1 :=
  call0 h fun vs H Q z => ⟨A, ls, hn, z⟩
/-! ### independent_pairs -/
theorem sc_independent_pairs : FnScope ["alphabet", "many", "a", "b"] ["alphabet"] (defScope s_independent_pairs) := ⟨rfl, rfl, rfl, by decide +kernel, rfl, by decide +kernel, by decide +kernel⟩
/-- the pairs of letters that may be swapped -/
def prs (ls : Lets) : List CLb := (List.range ls.length).flatMap fun a : Nat => ((List.range ls.length).filter fun b : Nat => free ls (a : Int) (b : Int)).map fun b : Nat => ((a : Int), (b : Int))
abbrev dPrI (z : CLb) : PyData := dT [z.1, z.2]
theorem prs_mem {ls : Lets} {a b : Int} : (a, b) ∈ prs ls ↔ (0 ≤ a ∧ a < (ls.length : Int)) ∧ (0 ≤ b ∧ b < (ls.length : Int)) ∧ free ls a b = true := by
  unfold prs
  rw [List.mem_flatMap]
  constructor
  · rintro ⟨x, hx, h⟩
    obtain ⟨y, hy, e⟩ := List.mem_map.mp h
    cases e
    obtain ⟨h1, h2⟩ := List.mem_filter.mp hy
    have := List.mem_range.mp hx
    have := List.mem_range.mp h1
    exact ⟨by omega, by omega, h2⟩
  · rintro ⟨ha, hb, h⟩
    refine ⟨a.toNat, List.mem_range.mpr (by omega), List.mem_map.mpr ⟨b.toNat, List.mem_filter.mpr ⟨List.mem_range.mpr (by omega), ?_⟩, ?_⟩⟩
    · rw [Int.toNat_of_nonneg ha.1, Int.toNat_of_nonneg hb.1]; exact h
    · rw [Int.toNat_of_nonneg ha.1, Int.toNat_of_nonneg hb.1]
theorem prs_ok {ls : Lets} {B : Au} (h : B.L = ls.length) : PrOk B (prs ls) := by
  refine ⟨fun z hz => ?_, fun a b hz => ?_⟩
  · obtain ⟨a, b⟩ := z
    obtain ⟨h1, h2, _⟩ := prs_mem.mp hz
    show (0 ≤ a ∧ a < (B.L : Int)) ∧ (0 ≤ b ∧ b < (B.L : Int))
    rw [h]; exact ⟨h1, h2⟩
  · obtain ⟨h1, h2, h3⟩ := prs_mem.mp hz
    exact prs_mem.mpr ⟨h2, h1, by rw [free_comm]; exact h3⟩
def sp_independent_pairs (T : Txt K mg) : Sp := fun vs H Q _ => ∃ (k : Int) (ls : Lets), (AlphaOk k ls) ∧ Prom [PAl T k ls] [] (D K (.list ((prs ls).map dPrI))) [] vs H Q
theorem sp_independent_pairs_len {T : Txt K mg} {vs H Q E} (h : sp_independent_pairs T vs H Q E) : vs.length = 1 := by obtain ⟨_, _, _, h⟩ := h; exact h.len
set_option maxHeartbeats 4000000 in
theorem ok_independent_pairs (T : Txt K mg) : FnOk P wo K mg base CX0 2 T.f_independent_pairs T.d_independent_pairs ["alphabet"] (sp_independent_pairs T) := by
  have nd := (sc_independent_pairs).nd
  refine T.F_independent_pairs.ok sc_independent_pairs (fun vs H Q E h => (sp_independent_pairs_len h)) (fun cdv A outer s H vs Q E hr h => ?_)
  obtain ⟨n, ls, A, F, w, ps, k⟩ := h
  refine ⟨_, (pss_cons (ps_set (i := 1) nd rfl (Or.inr rfl) (pe_callB (c_len (K := K) rfl) (by rfl) T.z_len PySem.boot_len (pa_cons (c_fld (K := K) rfl (pv 0) rfl) pa_nil)))
    (pss_one (ps_ret (pe_lc2 (own := [("a", 2), ("b", 3)]) (vs1 := [3]) (by rfl) nd (pi_range1 (by rfl) T.z_range (pa_cons (pv 1) pa_nil)) (blkOk_by (N := ["alphabet", "many", "a", "b"]) (sc := defScope s_independent_pairs) (own := [("a", 2), ("b", 3)]) (by decide +kernel)) (by decide) (fun _ _ _ _ _ => pg_name (i := 2) nd rfl (by first | exact Or.inl rfl | exact Or.inr rfl)) (fun _ _ _ _ _ => pts_nil) (fun _ _ _ _ _ => (pi_range1 (by rfl) T.z_range (pa_cons (pv 1) pa_nil))) (fun _ _ _ _ _ => pg_name (i := 3) nd rfl (by first | exact Or.inl rfl | exact Or.inr rfl)) (fun _ _ _ _ _ => (pts_one (pt_val (pe_call (ok_independent T) (hr.mono (by decide)) rfl T.m_independent T.F_independent.kp T.b_independent .nil pass0 (pa_cons (pv 0) (pa_cons (pv 2) (pa_cons (pv 3) pa_nil))))))) (fun _ _ _ _ _ => (pe_tup (pa_cons (pv 2) (pa_cons (pv 3) pa_nil)))))))), ?_⟩
  refine go_start w ps (Γ := [some (PAl T n ls), none, none, none]) rfl ?_
  have L6 := A.l6
  refine (q_asg (P := D K (.int (ls.length : Int))) (ev_lenMT (f := dT) (ev_fld (P := D K (dTT ls)) (ev_var (i := 0) rfl) (by simp) T.cl_Alphabet T.na_Alphabet_letters)) ?_)
  dsimp only [List.set]
  have lc := evn_lc2R (K := K) (z := (ls.length : Int)) (z1 := (ls.length : Int)) (i := 2) (j := 3) (G := fun a b : Nat => D K (dPrI ((a : Int), (b : Int)))) (M := []) (M1 := []) (Γ := [some (PAl T n ls), some (D K (.int (ls.length : Int))), none, none]) (t0 := tYes) (fun a b => free ls (a : Int) (b : Int)) (by decide) (ea_cons (ev_var (i := 1) rfl) ea_nil) (by omega) (by omega) (fun _ _ _ => et_yes) (fun _ _ _ => ea_cons (ev_var (i := 1) rfl) ea_nil) (fun a b ha hb => et_val (use_independent (T := T) (X := E0) (ea_cons (ev_var (i := 0) rfl) (ea_cons (ev_var (i := 2) rfl) (ea_cons (ev_var (i := 3) rfl) ea_nil))) ⟨A, ⟨by omega, ha⟩, by omega, hb⟩)) (fun a b ha hb _ => (ev_tup (ps := [D K (.int (a : Int)), D K (.int (b : Int))]) (ea_cons (ev_var (i := 2) rfl) (ea_cons (ev_var (i := 3) rfl) ea_nil)) (by simp)).weak (dT_le (l := [(a : Int), (b : Int)])))
  rw [Int.toNat_natCast] at lc
  exact go_ret Le.refl ((ev_newL (K := K) (lc.is (O2 := ML ((prs ls).map fun z => D K (dPrI z))) (by unfold prs; rw [List.map_flatMap]; congr 2; funext a; rw [List.map_map]; rfl))).weak (Lm_le (f := dPrI))) k
theorem use_independent_pairs {T : Txt K mg} {tr : TA} {Γ : Gm} {M M1 : Ms} {k : Int} {ls : Lets} {X : XK} (h : EvA tr Γ M [PAl T k ls] M1) (hn : AlphaOk k ls) : Ev (tCall (sp_independent_pairs T) [] X tr) Γ M (D K (.list ((prs ls).map dPrI))) M1 :=
  call0 h fun vs H Q z => ⟨k, ls, hn, z⟩
/-! ### is_closed -/
theorem sc_is_closed : FnScope ["alphabet", "automaton", "rows", "a", "b", "row"] ["alphabet", "automaton"] (defScope s_is_closed) := ⟨rfl, rfl, rfl, by decide +kernel, rfl, by decide +kernel, by decide +kernel⟩
def sp_is_closed (T : Txt K mg) : Sp := fun vs H Q _ => ∃ (k : Int) (ls : Lets) (A : Au), (AlphaOk k ls ∧ A.Ok ∧ A.L = ls.length ∧ A.R.length ≤ 100) ∧ Prom [PAl T k ls, PAu T A] [] (D K (.bool (decide (ClsP (minA A) (prs ls))))) [] vs H Q
theorem sp_is_closed_len {T : Txt K mg} {vs H Q E} (h : sp_is_closed T vs H Q E) : vs.length = 2 := by obtain ⟨_, _, _, _, h⟩ := h; exact h.len
set_option maxHeartbeats 4000000 in
theorem ok_is_closed (T : Txt K mg) : FnOk P wo K mg base CX0 5 T.f_is_closed T.d_is_closed ["alphabet", "automaton"] (sp_is_closed T) := by
  have nd := (sc_is_closed).nd
  refine T.F_is_closed.ok sc_is_closed (fun vs H Q E h => (sp_is_closed_len h)) (fun cdv A outer s H vs Q E hr h => ?_)
  obtain ⟨n, ls, A, ⟨hA, O, hL, hN⟩, F, w, ps, k⟩ := h
  refine ⟨_, (pss_cons (ps_set (i := 2) nd rfl (Or.inl rfl) (c_fld (K := K) rfl (pe_call (ok_least T) (hr.mono (by decide)) rfl T.m_least T.F_least.kp T.b_least .nil pass0 (pa_cons (pv 1) pa_nil)) rfl))
    (pss_cons (ps_for PassesOwn.never rfl (pi_listK (K := K) rfl (pe_call (ok_independent_pairs T) (hr.mono (by decide)) rfl T.m_independent_pairs T.F_independent_pairs.kp T.b_independent_pairs .nil pass0 (pa_cons (pv 0) pa_nil))) (pg_tupK (K := K) (n := 2) rfl (by rfl) (pgs_cons (pg_name (i := 3) nd rfl (by first | exact Or.inl rfl | exact Or.inr rfl)) (pgs_cons (pg_name (i := 4) nd rfl (by first | exact Or.inl rfl | exact Or.inr rfl)) pgs_nil)))
     (pss_one (ps_for PassesOwn.never rfl (pi_tupK (K := K) rfl (pv 2)) (pg_name (i := 5) nd rfl (by first | exact Or.inl rfl | exact Or.inr rfl))
      (pss_one (ps_if (pt_cmpR op_ne (pe_ix (c_ix (K := K) rfl) (pe_ix (c_ix (K := K) rfl) (pv 2) (pe_ix (c_ix (K := K) rfl) (pv 5) (pv 3) (fun _ _ => rfl)) (fun _ _ => rfl)) (pv 4) (fun _ _ => rfl)) (pe_ix (c_ix (K := K) rfl) (pe_ix (c_ix (K := K) rfl) (pv 2) (pe_ix (c_ix (K := K) rfl) (pv 5) (pv 4) (fun _ _ => rfl)) (fun _ _ => rfl)) (pv 3) (fun _ _ => rfl)) (nomark _)) (pss_one (ps_ret pe_bl)) pss_nil)))))
    (pss_one (ps_ret pe_bl)))), ?_⟩
  refine go_start w ps (Γ := [some (PAl T n ls), some (PAu T A), none, none, none, none]) rfl ?_
  refine (q_asg (ev_fld (P := D K (dTT (minA A).R)) (fps := auF K (minA A)) (use_least (ea_cons (ev_var (i := 1) rfl) ea_nil) ⟨O, by omega, by have := hA.l6; omega⟩) (by simp) T.cl_Automaton T.na_Automaton_rows) ?_)
  dsimp only [List.set]
  have BL : (minA A).L = ls.length := hL
  have BO := mok O
  generalize minA A = B at *
  have hP := prs_ok BL
  refine (q_forLP (zs := prs ls) (RA := fun z => D K (.int z.1)) (RB := fun z => D K (.int z.2)) ((use_independent_pairs (ea_cons (ev_var (i := 0) rfl) ea_nil) hA).weak (le_pair (a := fun z : CLb => PyData.int z.1) (b := fun z : CLb => PyData.int z.2))) (fun j Γ M => ∃ (g3 g4 g5 : Option MP), Γ = [some (PAl T n ls), some (PAu T A), some (D K (dTT B.R)), g3, g4, g5] ∧ M = [] ∧ ∀ z ∈ (prs ls).take j, ∀ s : Nat, s < B.R.length → nxA B (nxA B (s : Int) z.1.toNat) z.2.toNat = nxA B (nxA B (s : Int) z.2.toNat) z.1.toNat) ⟨none, none, none, rfl, rfl, fun z hz => by simp at hz⟩ ?_ ?_)
  · rintro E' hE j z hz _ _ ⟨g3, g4, g5, rfl, rfl, hj⟩
    have zm := List.mem_of_getElem? hz
    obtain ⟨⟨a1, a2⟩, b1, b2⟩ := hP.ok z zm
    have tk : (prs ls).take (j + 1) = (prs ls).take j ++ [z] := by rw [List.take_add_one, hz]; rfl
    dsimp only [List.set]
    refine (go_forT ((ev_var (i := 2) rfl).weak (le_Tm (f := dT))) (fun s Γ M => ∃ (g5 : Option MP), Γ = [some (PAl T n ls), some (PAu T A), some (D K (dTT B.R)), some (D K (.int z.1)), some (D K (.int z.2)), g5] ∧ M = [] ∧ ∀ s' : Nat, s' < s → nxA B (nxA B (s' : Int) z.1.toNat) z.2.toNat = nxA B (nxA B (s' : Int) z.2.toNat) z.1.toNat) ⟨_, rfl, rfl, fun s' h => absurd h (Nat.not_lt_zero _)⟩ ?_ ?_)
    · rintro E2 hE2 s P hP2 _ _ ⟨g5, rfl, rfl, hs⟩
      rw [List.getElem?_map] at hP2
      obtain ⟨r, hr, rfl⟩ := Option.map_eq_some_iff.mp hP2
      have sl := (List.getElem?_eq_some_iff.mp hr).1
      have sin : B.In (s : Int) := ⟨by omega, by omega⟩
      have er : r = B.row (s : Int) := by
        have := Au.row_at sin
        rw [Int.toNat_natCast, hr] at this
        exact Option.some.inj this
      subst er
      have lr := (BO.R _ (Au.row_mem sin)).1
      dsimp only [List.set]
      have nx_ : ∀ {Γ : Gm} {M : Ms} {ta : TE} {a : Int}, Γ[5]? = some (some (D K (dT (B.row (s : Int))))) → Ev ta Γ M (D K (.int a)) M → 0 ≤ a → a < (B.L : Int) → Ev (tOp (rIx K) (tVar 5) ta) Γ M (D K (.int (nxA B (s : Int) a.toNat))) M := fun h ha h0 h1 => ev_op (ev_var h) ha (rv_ixDTd h0 (by rw [lr]; omega))
      have nx2 : ∀ {Γ : Gm} {M : Ms} {tq ta : TE} {y a : Int}, Γ[2]? = some (some (D K (dTT B.R))) → Ev tq Γ M (D K (.int y)) M → Ev ta Γ M (D K (.int a)) M → B.In y → 0 ≤ a → a < (B.L : Int) → Ev (tOp (rIx K) (tOp (rIx K) (tVar 2) tq) ta) Γ M (D K (.int (nxA B y a.toNat))) M := fun h hq ha hi h0 h1 => ev_op (ev_op (ev_var h) hq (rv_ixDT hi.1 (row_ix hi))) ha (rv_ixDTd h0 (by rw [(BO.R _ (Au.row_mem hi)).1]; omega))
      have i1 := nxA_in BO sin (a := z.1.toNat) (by omega)
      have i2 := nxA_in BO sin (a := z.2.toNat) (by omega)
      refine go_if (et_test (ev_op (nx2 rfl (nx_ rfl (ev_var (i := 3) rfl) a1 a2) (ev_var (i := 4) rfl) i1 b1 b2) (nx2 rfl (nx_ rfl (ev_var (i := 4) rfl) b1 b2) (ev_var (i := 3) rfl) i2 a1 a2) rv_neI)) (fun hz2 => ?_) fun hz2 => go_next (JA.of ⟨_, rfl, rfl, fun s' h' => ?_⟩)
      · have hz2 : nxA B (nxA B (s : Int) z.1.toNat) z.2.toNat ≠ nxA B (nxA B (s : Int) z.2.toNat) z.1.toNat := by simpa using hz2
        rw [decide_eq_false (fun c => hz2 (c (s : Int) sin z zm))] at k
        exact go_ret (Le.trans hE2 hE) (ev_bl (K := K)) k
      · have hz2 : nxA B (nxA B (s : Int) z.1.toNat) z.2.toNat = nxA B (nxA B (s : Int) z.2.toNat) z.1.toNat := by simpa using hz2
        rcases Nat.lt_succ_iff_lt_or_eq.mp h' with h | rfl
        · exact hs s' h
        · exact hz2
    · rintro _ _ ⟨g5, rfl, rfl, hs⟩
      rw [List.length_map] at hs
      refine JA.of ⟨_, _, _, rfl, rfl, fun y hy s h => ?_⟩
      rw [tk] at hy
      rcases List.mem_append.mp hy with hy | hy
      · exact hj y hy s h
      · rw [List.mem_singleton.mp hy]; exact hs s h
  · rintro _ _ ⟨g3, g4, g5, rfl, rfl, hj⟩
    rw [List.take_length] at hj
    rw [decide_eq_true (show ClsP B (prs ls) from fun s hs z hz => by
      have := hj z hz s.toNat (by obtain ⟨h1, h2⟩ := hs; omega)
      rw [Int.toNat_of_nonneg hs.1] at this
      exact this)] at k
    exact go_ret Le.refl (ev_bl (K := K)) k
theorem use_is_closed {T : Txt K mg} {tr : TA} {Γ : Gm} {M M1 : Ms} {k : Int} {ls : Lets} {A : Au} {X : XK} (h : EvA tr Γ M [PAl T k ls, PAu T A] M1) (hn : AlphaOk k ls ∧ A.Ok ∧ A.L = ls.length ∧ A.R.length ≤ 100) : Ev (tCall (sp_is_closed T) [] X tr) Γ M (D K (.bool (decide (ClsP (minA A) (prs ls))))) M1 :=
  call0 h fun vs H Q z => ⟨k, ls, A, hn, z⟩
/-! ### _law_side -/
theorem sc__law_side : FnScope ["draws", "letters", "place", "most", "size", "rows", "k", "row", "letter", "target"] ["draws", "letters", "place", "most"] (defScope s__law_side) := ⟨rfl, rfl, rfl, by decide +kernel, rfl, by decide +kernel, by decide +kernel⟩
/-- rows of states below m, a state for each of n letters -/
def SdOk (n : Nat) (m : Nat) (S : List (List Int)) : Prop := 1 ≤ S.length ∧ S.length ≤ m ∧ ∀ r ∈ S, r.length = n ∧ ∀ x ∈ r, 0 ≤ x ∧ x < (S.length : Int)
abbrev PSd (K : PySem.W.Frag) (ls : Lets) (m : Nat) : MP := PEx fun S : List (List Int) => PAn (SdOk ls.length m S ∧ SdCm ls S) (D K (dLL S))
def sp__law_side (T : Txt K mg) : Sp := fun vs H Q _ => ∃ (d : Addr) (ls : Lets) (p : Int) (m : Nat), (1 ≤ m ∧ m ≤ 10 ∧ ls.length ≤ 10 ∧ ∀ l ∈ ls, l.length ≤ 1000) ∧ Prom [Own d, D K (dLT ls), D K (.int p), D K (.int (m : Int))] [(d, MDr K)] (PSd K ls m) [(d, MDr K)] vs H Q
theorem sp__law_side_len {T : Txt K mg} {vs H Q E} (h : sp__law_side T vs H Q E) : vs.length = 4 := by obtain ⟨_, _, _, _, _, h⟩ := h; exact h.len
set_option maxHeartbeats 4000000 in
theorem ok__law_side (T : Txt K mg) : FnOk P wo K mg base CX0 2 T.f__law_side T.d__law_side ["draws", "letters", "place", "most"] (sp__law_side T) := by
  have nd := (sc__law_side).nd
  refine T.F__law_side.ok sc__law_side (fun vs H Q E h => (sp__law_side_len h)) (fun cdv A outer s H vs Q E hr h => ?_)
  obtain ⟨d, ls, p, m, ⟨m1, m2, hl, hll⟩, F, w, ps, k⟩ := h
  refine ⟨_, (pss_cons (ps_set (i := 4) nd rfl (Or.inl rfl) (pe_op op_add pe_int (pe_call (ok__law_take T) (hr.mono (by decide)) rfl T.m__law_take T.F__law_take.kp T.b__law_take .nil pass0 (pa_cons (pv 0) (pa_cons (pv 3) pa_nil)))))
    (pss_cons (ps_set (i := 5) nd rfl (Or.inl rfl) (pe_lst pa_nil))
    (pss_cons (ps_for PassesOwn.never rfl (pi_range1 (by rfl) T.z_range (pa_cons (pv 4) pa_nil)) (pg_name (i := 6) nd rfl (by first | exact Or.inl rfl | exact Or.inr rfl))
     (pss_cons (ps_set (i := 7) nd rfl (Or.inl rfl) (pe_lst pa_nil))
     (pss_cons (ps_for PassesOwn.never rfl (pi_range1 (by rfl) T.z_range (pa_cons (pe_callB (c_len (K := K) rfl) (by rfl) T.z_len PySem.boot_len (pa_cons (pv 1) pa_nil)) pa_nil)) (pg_name (i := 8) nd rfl (by first | exact Or.inl rfl | exact Or.inr rfl))
      (pss_cons (ps_set (i := 9) nd rfl (Or.inl rfl) (pv 6))
      (Evl.pss_cut (ps_if (pt_cmpR (c_in (K := K) rfl) (pv 2) (pe_ix (c_ix (K := K) rfl) (pv 1) (pv 8) (fun _ _ => rfl)) (by rfl)) (pss_one (ps_set (i := 9) nd rfl (Or.inl rfl) (pe_call (ok__law_take T) (hr.mono (by decide)) rfl T.m__law_take T.F__law_take.kp T.b__law_take .nil pass0 (pa_cons (pv 0) (pa_cons (pv 4) pa_nil))))) pss_nil)
      (pss_one (ps_expr (pe_bm PySem.F.plainAttrs_list PySem.F.slot_list_append PySem.F.type_list_append mt_append (pv 7) (pa_cons (pv 9) pa_nil)))))))
     (pss_one (ps_expr (pe_bm PySem.F.plainAttrs_list PySem.F.slot_list_append PySem.F.type_list_append mt_append (pv 5) (pa_cons (pv 7) pa_nil)))))))
    (pss_one (ps_ret (pv 5)))))), ?_⟩
  refine go_start w ps (Γ := [some (Own d), some (D K (dLT ls)), some (D K (.int p)), some (D K (.int (m : Int))), none, none, none, none, none, none]) rfl ?_
  refine (q_asg (ev_op (ev_int (K := K)) (use__law_take (ea_cons (ev_var rfl) (ea_cons (ev_var rfl) ea_nil)) (by omega) (j := 0) rfl) rv_addIn) (nx_ex (i := 4) rfl fun z => nx_an (i := 4) rfl fun hz => ?_))
  dsimp only [List.set]
  obtain ⟨sz, rfl⟩ := Int.eq_ofNat_of_zero_le (show 0 ≤ z by omega)
  refine (q_asgN (evn_lst (ps := []) ea_nil (by simp)) fun qr hqr => ?_)
  dsimp only [List.set]
  refine (q_forR (z := (sz : Int)) (ea_cons (ev_var (i := 4) rfl) ea_nil) (by omega) (by omega) (fun n Γ M => ∃ (S : List (List Int)) (g6 g7 g8 g9 : Option MP), Γ = [some (Own d), some (D K (dLT ls)), some (D K (.int p)), some (D K (.int (m : Int))), some (D K (.int (sz : Int))), some (Own qr), g6, g7, g8, g9] ∧ M = [(qr, ML (S.map fun l => D K (dL l))), (d, MDr K)] ∧ S.length = n ∧ (∀ r ∈ S, r.length = ls.length ∧ ∀ x ∈ r, 0 ≤ x ∧ x < (sz : Int)) ∧ ∀ (i : Nat) (r : List Int), S[i]? = some r → ∀ a : Nat, a < ls.length → p ∉ ls.getD a [] → r.getD a 0 = (i : Int)) ⟨[], none, none, none, none, rfl, rfl, rfl, (fun r hr => by cases hr), fun i r hr => by simp at hr⟩ ?_ ?_)
  · rintro n hn _ _ ⟨S, g6, g7, g8, g9, rfl, rfl, hS, hr, hfix⟩
    dsimp only [List.set]
    refine (q_asgN (evn_lst (ps := []) ea_nil (by simp)) fun qw hqw => ?_)
    dsimp only [List.set]
    refine (q_forR (z := (ls.length : Int)) (ea_cons (ev_lenM (f := dT) (ev_var (i := 1) rfl)) ea_nil) (by omega) (by omega) (fun j Γ M => ∃ (r : List Int) (g8 g9 : Option MP), Γ = [some (Own d), some (D K (dLT ls)), some (D K (.int p)), some (D K (.int (m : Int))), some (D K (.int (sz : Int))), some (Own qr), some (D K (.int (n : Int))), some (Own qw), g8, g9] ∧ M = [(qw, MInts K r), (qr, ML (S.map fun l => D K (dL l))), (d, MDr K)] ∧ r.length = j ∧ (∀ x ∈ r, 0 ≤ x ∧ x < (sz : Int)) ∧ ∀ a : Nat, a < j → p ∉ ls.getD a [] → r.getD a 0 = (n : Int)) ⟨[], _, _, rfl, rfl, rfl, (fun x hx => by cases hx), fun a ha => absurd ha (Nat.not_lt_zero _)⟩ ?_ ?_)
    · rintro j hj _ _ ⟨r, g8, g9, rfl, rfl, hj2, hx, hf2⟩
      dsimp only [List.set]
      refine (q_asg (ev_var (i := 6) rfl) ?_)
      dsimp only [List.set]
      have hl2 : ((ls.map dT)[((j : Int)).toNat]?) = some (dT (ls.getD j [])) := by
        rw [Int.toNat_natCast, List.getElem?_map, List.getD_eq_getElem?_getD, List.getElem?_eq_getElem (by omega)]; rfl
      refine go_cut (J := fun Γ M => ∃ t : Int, ((0 ≤ t ∧ t < (sz : Int)) ∧ (p ∉ ls.getD j [] → t = (n : Int))) ∧ Γ = [some (Own d), some (D K (dLT ls)), some (D K (.int p)), some (D K (.int (m : Int))), some (D K (.int (sz : Int))), some (Own qr), some (D K (.int (n : Int))), some (Own qw), some (D K (.int (j : Int))), some (D K (.int t))] ∧ M = [(qw, MInts K r), (qr, ML (S.map fun l => D K (dL l))), (d, MDr K)]) (go_if (et_test (ev_op (ev_var (i := 2) rfl) (ev_op (ev_var (i := 1) rfl) (ev_var (i := 8) rfl) (rv_ixDL (by omega) hl2)) (rv_inT (neg := false)))) (fun hz => ?_) fun _ => go_next (JA.of ⟨(n : Int), ⟨by omega, fun _ => rfl⟩, rfl, rfl⟩)) ?_
      · exact go_asg (use__law_take (n := (sz : Int)) (ea_cons (ev_var (i := 0) rfl) (ea_cons (ev_var (i := 4) rfl) ea_nil)) (by omega) (j := 2) rfl) (nx_ex (i := 9) rfl fun t => nx_an (i := 9) rfl fun ht => JA.of ⟨t, ⟨ht, fun c => absurd (by simpa using hz) c⟩, rfl, rfl⟩)
      rintro _ _ ⟨t, ⟨ht, htp⟩, rfl, rfl⟩
      refine go_app (j := 0) (ev_var (i := 7) rfl) (ev_var (i := 9) rfl) rfl rfl (by rw [List.length_map]; omega) (JA.of ⟨r ++ [t], _, _, rfl, ?_, by rw [List.length_append, hj2]; rfl, fun x hx2 => ?_, fun a ha hp => ?_⟩)
      · show [(qw, ML (r.map (fun n => D K (.int n)) ++ [D K (.int t)])), _, _] = _
        rw [show MInts K (r ++ [t]) = ML (r.map (fun n => D K (.int n)) ++ [D K (.int t)]) by rw [MInts, List.map_append]; rfl]
      · rcases List.mem_append.mp hx2 with h | h
        · exact hx x h
        · rw [List.mem_singleton.mp h]; exact ht
      · rcases Nat.lt_succ_iff_lt_or_eq.mp ha with h | h
        · rw [List.getD_eq_getElem?_getD, List.getElem?_append_left (by omega), ← List.getD_eq_getElem?_getD]; exact hf2 a h hp
        · subst h
          rw [List.getD_eq_getElem?_getD, List.getElem?_append_right (by omega), hj2, Nat.sub_self]
          exact htp hp
    · rintro _ _ ⟨r, g8, g9, rfl, rfl, hj2, hx, hf2⟩
      rw [Int.toNat_natCast] at hj2 hf2
      refine nx_freeze (K := K) (i := 7) 0 rfl hqw rfl ?_
      dsimp only [List.set, List.eraseIdx]
      refine go_app (j := 0) (P := D K (dL r)) (ev_var (i := 5) rfl) ((ev_var (i := 7) rfl).weak dL_le) rfl rfl (by rw [List.length_map]; omega) (JA.of ⟨S ++ [r], _, _, _, _, rfl, ?_, by rw [List.length_append, hS]; rfl, fun r2 h2 => ?_, fun i r2 h2 => ?_⟩)
      · show [(qr, ML (S.map (fun l => D K (dL l)) ++ [D K (dL r)])), _] = _
        rw [List.map_append]; rfl
      · rcases List.mem_append.mp h2 with h | h
        · exact hr r2 h
        · rw [List.mem_singleton.mp h]; exact ⟨hj2, hx⟩
      · rcases Nat.lt_or_ge i S.length with h | h
        · rw [List.getElem?_append_left h] at h2; exact hfix i r2 h2
        · rw [List.getElem?_append_right h] at h2
          obtain ⟨e1, e2⟩ := List.getElem?_eq_some_iff.mp h2
          have e1 : i - S.length < 1 := e1
          have e0 : i - S.length = 0 := by omega
          simp only [e0] at e2
          have e2 : r = r2 := e2
          subst e2
          intro a ha hp
          rw [hf2 a ha hp]; omega
  · rintro _ _ ⟨S, g6, g7, g8, g9, rfl, rfl, hS, hr, hfix⟩
    rw [Int.toNat_natCast] at hS
    have ok : SdOk ls.length m S := ⟨by omega, by omega, fun r h => by rw [hS]; exact hr r h⟩
    have cm : SdCm ls S := side_cm (p := p) (fun r h x hx => by rw [hS]; exact (hr r h).2 x hx) (fun r h => (hr r h).1) hfix
    refine nx_freeze (K := K) (i := 5) 0 rfl hqr rfl ?_
    dsimp only [List.set, List.eraseIdx]
    exact go_ret Le.refl ((ev_var (i := 5) rfl).weak (MP.le_trans (Lm_le (f := dL)) (MP.le_trans (PAn.in (φ := SdOk ls.length m S ∧ SdCm ls S) ⟨ok, cm⟩) (PEx.in (R := fun S : List (List Int) => PAn (SdOk ls.length m S ∧ SdCm ls S) (D K (dLL S))) S)))) k
theorem use__law_sideX {T : Txt K mg} {tr : TA} {Γ : Gm} {M M1 : Ms} {d : Addr} {ls : Lets} {lo hi : Int} {m : Nat} {j : Nat} {X : XK} (h : EvA tr Γ M [Own d, D K (dLT ls), PIn K lo hi, D K (.int (m : Int))] M1) (hn : 1 ≤ m ∧ m ≤ 10 ∧ ls.length ≤ 10 ∧ ∀ l ∈ ls, l.length ≤ 1000) (e : M1[j]? = some (d, MDr K)) : Ev (tCall (sp__law_side T) [] X tr) Γ M (PSd K ls m) M1 :=
  call1 h e fun vs H Q z => by
    obtain ⟨F, w, p, r⟩ := z
    cases p with
    | cons p1 p => cases p with
      | cons p2 p => cases p with
        | cons p3 p =>
          obtain ⟨x, hx, p3⟩ := p3
          exact ⟨d, ls, x, m, hn, F, w, .cons p1 (.cons p2 (.cons p3 p)), r⟩
/-! ### _law_counter -/
theorem sc__law_counter : FnScope ["draws", "letters", "size", "steps", "letter", "k"] ["draws", "letters"] (defScope s__law_counter) := ⟨rfl, rfl, rfl, by decide +kernel, rfl, by decide +kernel, by decide +kernel⟩
def sp__law_counter (T : Txt K mg) : Sp := fun vs H Q _ => ∃ (d : Addr) (ls : Lets), (ls.length ≤ 10) ∧ Prom [Own d, D K (dLT ls)] [(d, MDr K)] (PSd K ls 3) [(d, MDr K)] vs H Q
theorem sp__law_counter_len {T : Txt K mg} {vs H Q E} (h : sp__law_counter T vs H Q E) : vs.length = 2 := by obtain ⟨_, _, _, h⟩ := h; exact h.len
set_option maxHeartbeats 4000000 in
theorem ok__law_counter (T : Txt K mg) : FnOk P wo K mg base CX0 2 T.f__law_counter T.d__law_counter ["draws", "letters"] (sp__law_counter T) := by
  have nd := (sc__law_counter).nd
  refine T.F__law_counter.ok sc__law_counter (fun vs H Q E h => (sp__law_counter_len h)) (fun cdv A outer s H vs Q E hr h => ?_)
  obtain ⟨d, ls, hl, F, w, ps, k⟩ := h
  refine ⟨_, (pss_cons (ps_set (i := 2) nd rfl (Or.inr rfl) (pe_op op_add pe_int (pe_call (ok__law_take T) (hr.mono (by decide)) rfl T.m__law_take T.F__law_take.kp T.b__law_take .nil pass0 (pa_cons (pv 0) (pa_cons pe_int pa_nil)))))
    (pss_cons (ps_set (i := 3) nd rfl (Or.inr rfl) (pe_lc (own := [("letter", 4)]) (by rfl) nd (pi_listK (K := K) rfl (pv 1)) (blkOk_by (N := ["draws", "letters", "size", "steps", "letter", "k"]) (sc := defScope s__law_counter) (own := [("letter", 4)]) (by decide +kernel)) (fun _ _ _ _ _ => pg_name (i := 4) nd rfl (by first | exact Or.inl rfl | exact Or.inr rfl)) (fun _ _ _ _ _ => pts_nil) (fun _ _ _ _ _ => (pe_call (ok__law_take T) (hr.mono (by decide)) rfl T.m__law_take T.F__law_take.kp T.b__law_take .nil pass0 (pa_cons (pv 0) (pa_cons (pv 2) pa_nil))))))
    (pss_one (ps_ret (pe_lc (own := [("k", 5)]) (by rfl) nd (pi_range1 (by rfl) T.z_range (pa_cons (pv 2) pa_nil)) (blkOk_by (N := ["draws", "letters", "size", "steps", "letter", "k"]) (sc := defScope s__law_counter) (own := [("k", 5)]) (by decide +kernel)) (fun _ _ _ _ _ => pg_name (i := 5) nd rfl (by first | exact Or.inl rfl | exact Or.inr rfl)) (fun _ _ _ _ _ => pts_nil) (fun _ _ _ _ _ => (pe_lc (own := [("letter", 4)]) (by rfl) nd (pi_range1 (by rfl) T.z_range (pa_cons (pe_callB (c_len (K := K) rfl) (by rfl) T.z_len PySem.boot_len (pa_cons (pv 1) pa_nil)) pa_nil)) (blkOk_by (N := ["draws", "letters", "size", "steps", "letter", "k"]) (sc := (relS ({ kind := PySem.ScopeKind.function, names := [ (PySem.Str.ofString ".0", PySem.NameKind.local), (PySem.Str.ofString "k", PySem.NameKind.cell), (PySem.Str.ofString "range", PySem.NameKind.globalImplicit), (PySem.Str.ofString "len", PySem.NameKind.globalImplicit), (PySem.Str.ofString "letters", PySem.NameKind.free), (PySem.Str.ofString "size", PySem.NameKind.free), (PySem.Str.ofString "steps", PySem.NameKind.free)], isGenerator := false, isCoroutine := false, more := [] : PySem.Scope }) (defScope s__law_counter))) (own := [("letter", 4)]) (by decide +kernel)) (fun _ _ _ _ _ => pg_name (i := 4) nd rfl (by first | exact Or.inl rfl | exact Or.inr rfl)) (fun _ _ _ _ _ => pts_nil) (fun _ _ _ _ _ => (pe_op op_mod (pe_callTy call_int1 (by rfl) T.z_int (by decide +kernel) (pa_cons (pe_op op_add (pv 5) (pe_ix (c_ix (K := K) rfl) (pv 3) (pv 4) (fun _ _ => rfl))) pa_nil)) (pv 2)))))))))), ?_⟩
  refine go_start w ps (Γ := [some (Own d), some (D K (dLT ls)), none, none, none, none]) rfl ?_
  refine (q_asg (ev_op (ev_int (K := K)) (use__law_take (ea_cons (ev_var rfl) (ea_cons (ev_int (K := K)) ea_nil)) (by decide) (j := 0) rfl) rv_addIn) (nx_ex (i := 2) rfl fun z => nx_an (i := 2) rfl fun hz => ?_))
  dsimp only [List.set]
  obtain ⟨sz, rfl⟩ := Int.eq_ofNat_of_zero_le (show 0 ≤ z by omega)
  have lc := evn_lcL (K := K) (xs := ls) (R := fun l => D K (dT l)) (G := fun _ => PIn K 0 (sz : Int)) (i := 4) (M := [(d, MDr K)]) (M1 := [(d, MDr K)]) (Γ := [some (Own d), some (D K (dLT ls)), some (D K (.int (sz : Int))), none, none, none]) (t := tYes) (fun _ => true) ((ev_var (i := 1) rfl).weak (le_Lm (f := dT))) (by omega) (fun _ _ => et_yes) (fun l _ _ => use__law_take (T := T) (X := E0) (n := (sz : Int)) (ea_cons (ev_var (i := 0) rfl) (ea_cons (ev_var (i := 2) rfl) ea_nil)) (by omega) (j := 0) rfl)
  rw [filter_true, map_const] at lc
  refine (q_asg ((ev_fr (lc.weak ml_name)).weak (MP.le_trans fr_X (PEx.le fun x => MP.le_trans fr_A (PAn.le fun _ => fr_L (K := K))))) (nx_ex (i := 3) rfl fun st => nx_an (i := 3) rfl fun hst => ?_))
  clear lc
  dsimp only [List.set]
  obtain ⟨sl, sx⟩ := hst
  have lz : (0 : Int) < (sz : Int) := by omega
  let rowS : Nat → List Int := fun k => (List.range ls.length).map fun c : Nat => ((k : Int) + st.getD c 0) % (sz : Int)
  have inner : ∀ k : Nat, EvN (tLc (iRng1 (tCons (tCB (rLn K) (tCons (tVar 1) tNil)) tNil)) (gName 4) tYes (tOp (rI (fun x j => 0 < j) fun i j => V.int (i % j)) (tCB (fun xs H Q => (∃ i, xs = [V.int i] ∧ Q (V.int i) H) ∨ ∃ k, xs = [V.bl k] ∧ Q (V.int (if k = true then 1 else 0)) H) (tCons (tOp (rI0 fun i j => V.int (i + j)) (tVar 5) (tOp (rIx K) (tVar 3) (tVar 4))) tNil)) (tVar 2)) [4]) [some (Own d), some (D K (dLT ls)), some (D K (.int (sz : Int))), some (PLi K (st.map fun x => D K (.int x))), none, some (D K (.int (k : Int)))] [(d, MDr K)] (MInts K (rowS k)) [(d, MDr K)] := fun k => by
    have lc := evn_lcR (K := K) (z := (ls.length : Int)) (i := 4) (G := fun c : Nat => D K (.int (((k : Int) + st.getD c 0) % (sz : Int)))) (M := [(d, MDr K)]) (M1 := [(d, MDr K)]) (Γ := [some (Own d), some (D K (dLT ls)), some (D K (.int (sz : Int))), some (PLi K (st.map fun x => D K (.int x))), none, some (D K (.int (k : Int)))]) (t := tYes) (fun _ => true) (ea_cons (ev_lenM (f := dT) (ev_var (i := 1) rfl)) ea_nil) (by omega) (fun _ _ => et_yes) (fun c hc _ => ev_op (ev_cb (ea_cons (ev_op (ev_var (i := 5) rfl) (ev_op (ev_var (i := 3) rfl) (ev_var (i := 4) rfl) (rv_ixL (P := D K (.int (st.getD c 0))) (by omega) (by rw [Int.toNat_natCast, List.getElem?_map, List.getD_eq_getElem?_getD, List.getElem?_eq_getElem (by omega)]; rfl))) (rv_i0 (g := fun i j => i + j))) ea_nil) rc_int) (ev_var (i := 2) rfl) (rv_ic (C := fun _ j => 0 < j) (g := fun i j => i % j) lz))
    rw [filter_true, Int.toNat_natCast] at lc
    exact lc.is (by rw [MInts, List.map_map]; rfl)
  have outer := evn_lcR (K := K) (z := (sz : Int)) (i := 5) (G := fun k : Nat => D K (dL (rowS k))) (M := [(d, MDr K)]) (M1 := [(d, MDr K)]) (Γ := [some (Own d), some (D K (dLT ls)), some (D K (.int (sz : Int))), some (PLi K (st.map fun x => D K (.int x))), none, none]) (t := tYes) (fun _ => true) (ea_cons (ev_var (i := 2) rfl) ea_nil) (by omega) (fun _ _ => et_yes) (fun k hk _ => (ev_newL (K := K) (inner k)).weak dL_le)
  rw [filter_true, Int.toNat_natCast] at outer
  have ok : SdOk ls.length 3 ((List.range sz).map rowS) := by
    refine ⟨by rw [List.length_map, List.length_range]; omega, by rw [List.length_map, List.length_range]; omega, fun r hr => ?_⟩
    obtain ⟨k, hk, rfl⟩ := List.mem_map.mp hr
    refine ⟨by show ((List.range ls.length).map _).length = _; rw [List.length_map, List.length_range], fun x hx => ?_⟩
    obtain ⟨c, hc, rfl⟩ := List.mem_map.mp hx
    rw [List.length_map, List.length_range]
    exact ⟨Int.emod_nonneg _ (by omega), Int.emod_lt_of_pos _ lz⟩
  exact go_ret Le.refl (((ev_newL (K := K) (outer.is (O2 := ML (((List.range sz).map rowS).map fun l => D K (dL l))) (by rw [List.map_map]; rfl))).weak (Lm_le (f := dL))).weak (MP.le_trans (PAn.in (φ := SdOk ls.length 3 ((List.range sz).map rowS) ∧ SdCm ls ((List.range sz).map rowS)) ⟨ok, count_cm (by omega) rfl⟩) (PEx.in (R := fun S : List (List Int) => PAn (SdOk ls.length 3 S ∧ SdCm ls S) (D K (dLL S))) ((List.range sz).map rowS)))) k
theorem use__law_counter {T : Txt K mg} {tr : TA} {Γ : Gm} {M M1 : Ms} {d : Addr} {ls : Lets} {j : Nat} {X : XK} (h : EvA tr Γ M [Own d, D K (dLT ls)] M1) (hn : ls.length ≤ 10) (e : M1[j]? = some (d, MDr K)) : Ev (tCall (sp__law_counter T) [] X tr) Γ M (PSd K ls 3) M1 :=
  call1 h e fun vs H Q z => ⟨d, ls, hn, z⟩
end
end My
namespace My
open PySem L2 Hq
local macro_rules | `(tactic| trivial) => `(tactic| omega)
section
variable {P : Program} {wo : World} {K : PySem.W.Frag} {mg : Str → Option Value} {base : Heap}
/-! ### _law_closed_automaton -/
theorem sc__law_closed_automaton : FnScope ["draws", "count", "letters", "most", "sides", "k", "first", "found", "rows", "at", "row", "letter", "after", "finals", "side"] ["draws", "count", "letters", "most"] (defScope s__law_closed_automaton) := ⟨rfl, rfl, rfl, by decide +kernel, rfl, by decide +kernel, by decide +kernel⟩
abbrev PCa (K : PySem.W.Frag) (ls : Lets) : MP := PEx fun A : Au => PAn ((A.Ok ∧ A.L = ls.length ∧ A.R.length ≤ 9) ∧ Cmt A ls) (D K (dAu A))
def sp__law_closed_automaton (T : Txt K mg) : Sp := fun vs H Q _ => ∃ (d : Addr) (c : Int) (ls : Lets) (m : Nat), (1 ≤ c ∧ 1 ≤ m ∧ m ≤ 3 ∧ 1 ≤ ls.length ∧ ls.length ≤ 10 ∧ ∀ l ∈ ls, l.length ≤ 1000) ∧ Prom [Own d, D K (.int c), D K (dLT ls), D K (.int (m : Int))] [(d, MDr K)] (PCa K ls) [(d, MDr K)] vs H Q
theorem sp__law_closed_automaton_len {T : Txt K mg} {vs H Q E} (h : sp__law_closed_automaton T vs H Q E) : vs.length = 4 := by obtain ⟨_, _, _, _, _, h⟩ := h; exact h.len
set_option maxHeartbeats 4000000 in
theorem ok__law_closed_automaton (T : Txt K mg) : FnOk P wo K mg base CX0 3 T.f__law_closed_automaton T.d__law_closed_automaton ["draws", "count", "letters", "most"] (sp__law_closed_automaton T) := by
  have nd := (sc__law_closed_automaton).nd
  refine T.F__law_closed_automaton.ok sc__law_closed_automaton (fun vs H Q E h => (sp__law_closed_automaton_len h)) (fun cdv A outer s H vs Q E hr h => ?_)
  obtain ⟨d, c, ls, m, ⟨c1, m1, m3, l1, l2, hll⟩, F, w, ps, k⟩ := h
  refine ⟨_, (pss_cons (ps_set (i := 4) nd rfl (Or.inr rfl) (pe_lst pa_nil))
    (pss_cons (ps_for PassesOwn.never rfl (pi_range1 (by rfl) T.z_range (pa_cons (pe_op op_add pe_int (pe_call (ok__law_take T) (hr.mono (by decide)) rfl T.m__law_take T.F__law_take.kp T.b__law_take .nil pass0 (pa_cons (pv 0) (pa_cons pe_int pa_nil)))) pa_nil)) (pg_name (i := 5) nd rfl (by first | exact Or.inl rfl | exact Or.inr rfl))
     (pss_one (ps_if (pt_cmpR op_eq (pe_call (ok__law_take T) (hr.mono (by decide)) rfl T.m__law_take T.F__law_take.kp T.b__law_take .nil pass0 (pa_cons (pv 0) (pa_cons pe_int pa_nil))) pe_int (nomark _)) (pss_one (ps_expr (pe_bm PySem.F.plainAttrs_list PySem.F.slot_list_append PySem.F.type_list_append mt_append (pv 4) (pa_cons (pe_call (ok__law_counter T) (hr.mono (by decide)) rfl T.m__law_counter T.F__law_counter.kp T.b__law_counter .nil pass0 (pa_cons (pv 0) (pa_cons (pv 2) pa_nil))) pa_nil)))) (pss_one (ps_expr (pe_bm PySem.F.plainAttrs_list PySem.F.slot_list_append PySem.F.type_list_append mt_append (pv 4) (pa_cons (pe_call (ok__law_side T) (hr.mono (by decide)) rfl T.m__law_side T.F__law_side.kp T.b__law_side .nil pass0 (pa_cons (pv 0) (pa_cons (pv 2) (pa_cons (pe_call (ok__law_take T) (hr.mono (by decide)) rfl T.m__law_take T.F__law_take.kp T.b__law_take .nil pass0 (pa_cons (pv 0) (pa_cons (pv 1) pa_nil))) (pa_cons (pv 3) pa_nil))))) pa_nil)))))))
    (pss_cons (ps_set (i := 6) nd rfl (Or.inl rfl) (pe_callTy (c_tuple (K := K) rfl) (by rfl) T.z_tuple (by decide +kernel) (pa_cons (pe_lc (own := [("side", 14)]) (by rfl) nd (pi_listK (K := K) rfl (pv 4)) (blkOk_by (N := ["draws", "count", "letters", "most", "sides", "k", "first", "found", "rows", "at", "row", "letter", "after", "finals", "side"]) (sc := defScope s__law_closed_automaton) (own := [("side", 14)]) (by decide +kernel)) (fun _ _ _ _ _ => pg_name (i := 14) nd rfl (by first | exact Or.inl rfl | exact Or.inr rfl)) (fun _ _ _ _ _ => pts_nil) (fun _ _ _ _ _ => (pe_call (ok__law_take T) (hr.mono (by decide)) rfl T.m__law_take T.F__law_take.kp T.b__law_take .nil pass0 (pa_cons (pv 0) (pa_cons (pe_callB (c_len (K := K) rfl) (by rfl) T.z_len PySem.boot_len (pa_cons (pv 14) pa_nil)) pa_nil))))) pa_nil)))
    (pss_cons (ps_set (i := 7) nd rfl (Or.inr rfl) (pe_lst (pa_cons (pv 6) pa_nil)))
    (pss_cons (ps_set (i := 8) nd rfl (Or.inl rfl) (pe_lst pa_nil))
    (pss_cons (ps_for PassesOwn.never rfl (pi_range1 (by rfl) T.z_range (pa_cons pe_int pa_nil)) (pg_name (i := 9) nd rfl (by first | exact Or.inl rfl | exact Or.inr rfl))
     (pss_one (ps_if (pt_cmpR op_lt (pv 9) (pe_callB (c_len (K := K) rfl) (by rfl) T.z_len PySem.boot_len (pa_cons (pv 7) pa_nil)) (nomark _)) (pss_cons (ps_set (i := 10) nd rfl (Or.inl rfl) (pe_lst pa_nil))
      (pss_cons (ps_for PassesOwn.never rfl (pi_range1 (by rfl) T.z_range (pa_cons (pe_callB (c_len (K := K) rfl) (by rfl) T.z_len PySem.boot_len (pa_cons (pv 2) pa_nil)) pa_nil)) (pg_name (i := 11) nd rfl (by first | exact Or.inl rfl | exact Or.inr rfl))
       (pss_cons (ps_set (i := 12) nd rfl (Or.inl rfl) (pe_callTy (c_tuple (K := K) rfl) (by rfl) T.z_tuple (by decide +kernel) (pa_cons (pe_lc (own := [("k", 5)]) (by rfl) nd (pi_range1 (by rfl) T.z_range (pa_cons (pe_callB (c_len (K := K) rfl) (by rfl) T.z_len PySem.boot_len (pa_cons (pv 4) pa_nil)) pa_nil)) (blkOk_by (N := ["draws", "count", "letters", "most", "sides", "k", "first", "found", "rows", "at", "row", "letter", "after", "finals", "side"]) (sc := defScope s__law_closed_automaton) (own := [("k", 5)]) (by decide +kernel)) (fun _ _ _ _ _ => pg_name (i := 5) nd rfl (by first | exact Or.inl rfl | exact Or.inr rfl)) (fun _ _ _ _ _ => pts_nil) (fun _ _ _ _ _ => (pe_ix (c_ix (K := K) rfl) (pe_ix (c_ix (K := K) rfl) (pe_ix (c_ix (K := K) rfl) (pv 4) (pv 5) (fun _ _ => rfl)) (pe_ix (c_ix (K := K) rfl) (pe_ix (c_ix (K := K) rfl) (pv 7) (pv 9) (fun _ _ => rfl)) (pv 5) (fun _ _ => rfl)) (fun _ _ => rfl)) (pv 11) (fun _ _ => rfl)))) pa_nil)))
       (Evl.pss_cut (ps_if (pt_cmpR (c_notInD (K := K) rfl (units65 hr)) (pv 12) (pv 7) (by rfl)) (pss_one (ps_expr (pe_bm PySem.F.plainAttrs_list PySem.F.slot_list_append PySem.F.type_list_append mt_append (pv 7) (pa_cons (pv 12) pa_nil)))) pss_nil)
       (pss_one (ps_expr (pe_bm PySem.F.plainAttrs_list PySem.F.slot_list_append PySem.F.type_list_append mt_append (pv 10) (pa_cons (c_bm (K := K) rfl PySem.F.plainAttrs_list PySem.F.slot_list_index PySem.F.type_list_index (c_indexD (K := K) rfl (units65 hr)) (pv 7) (pa_cons (pv 12) pa_nil)) pa_nil)))))))
      (pss_one (ps_expr (pe_bm PySem.F.plainAttrs_list PySem.F.slot_list_append PySem.F.type_list_append mt_append (pv 8) (pa_cons (pv 10) pa_nil)))))) pss_nil)))
    (pss_cons (ps_setLc (i := 13) (own := [("k", 5)]) (by rfl) nd rfl rfl (sw_true rfl rfl rfl (by decide +kernel)) (pi_range1 (by rfl) T.z_range (pa_cons (pe_callB (c_len (K := K) rfl) (by rfl) T.z_len PySem.boot_len (pa_cons (pv 7) pa_nil)) pa_nil)) (blkOk_by (N := ["draws", "count", "letters", "most", "sides", "k", "first", "found", "rows", "at", "row", "letter", "after", "finals", "side"]) (sc := defScope s__law_closed_automaton) (own := [("k", 5)]) (by decide +kernel)) (fun _ _ _ _ _ => pg_name (i := 5) nd rfl (by first | exact Or.inl rfl | exact Or.inr rfl)) (fun _ _ _ _ _ => (pts_one (pt_cmpR op_eq (pe_call (ok__law_take T) (hr.mono (by decide)) rfl T.m__law_take T.F__law_take.kp T.b__law_take .nil pass0 (pa_cons (pv 0) (pa_cons pe_int pa_nil))) pe_int (nomark _)))) (fun _ _ _ _ _ => (pv 5)))
    (pss_one (ps_ret (pe_tup (pa_cons pe_int (pa_cons (pv 13) (pa_cons (pv 8) pa_nil))))))))))))), ?_⟩
  refine go_start w ps (Γ := [some (Own d), some (D K (.int c)), some (D K (dLT ls)), some (D K (.int (m : Int))), none, none, none, none, none, none, none, none, none, none, none]) rfl ?_
  refine (q_asgN (evn_lst (ps := []) ea_nil (by simp)) fun q4 hq4 => ?_)
  dsimp only [List.set]
  refine q_forRX (φ := fun z => 1 ≤ z ∧ z ≤ 2) ((ev_op (ev_int (K := K) (i := 1)) (use__law_take (n := 2) (ea_cons (ev_var (i := 0) rfl) (ea_cons (ev_int (K := K) (i := 2)) ea_nil)) (by decide) (j := 1) rfl) rv_addIn).weak (PEx.le fun z F v h => ⟨by have := h.1; omega, h.2⟩)) fun z hz tr' htr => ?_
  obtain ⟨zn, rfl⟩ := Int.eq_ofNat_of_zero_le (show 0 ≤ z by omega)
  refine (q_forR (z := (zn : Int)) htr (by omega) (by omega) (fun n Γ M => ∃ (Ss : List (List (List Int))) (g5 : Option MP), Γ = [some (Own d), some (D K (.int c)), some (D K (dLT ls)), some (D K (.int (m : Int))), some (Own q4), g5, none, none, none, none, none, none, none, none, none] ∧ M = [(q4, ML (Ss.map fun S => D K (dLL S))), (d, MDr K)] ∧ Ss.length = n ∧ ∀ S ∈ Ss, SdOk ls.length 3 S ∧ SdCm ls S) ⟨[], none, rfl, rfl, rfl, fun S hS => by cases hS⟩ ?_ ?_)
  · rintro n hn _ _ ⟨Ss, g5, rfl, rfl, hl3, hS⟩
    dsimp only [List.set]
    have nx : ∀ {E2 : Ent} {D2 : Ends} (S : List (List Int)), SdOk ls.length 3 S ∧ SdCm ls S → Nx E2 [some (Own d), some (D K (.int c)), some (D K (dLT ls)), some (D K (.int (m : Int))), some (Own q4), some (D K (.int (n : Int))), none, none, none, none, none, none, none, none, none] [(q4, ML (Ss.map (fun S => D K (dLL S)) ++ [D K (dLL S)])), (d, MDr K)] (JA E2 fun Γ M => ∃ (Ss : List (List (List Int))) (g5 : Option MP), Γ = [some (Own d), some (D K (.int c)), some (D K (dLT ls)), some (D K (.int (m : Int))), some (Own q4), g5, none, none, none, none, none, none, none, none, none] ∧ M = [(q4, ML (Ss.map fun S => D K (dLL S))), (d, MDr K)] ∧ Ss.length = n + 1 ∧ ∀ S ∈ Ss, SdOk ls.length 3 S ∧ SdCm ls S) := fun {E2 D2} S ok => JA.of ⟨Ss ++ [S], _, rfl, by rw [List.map_append]; rfl, by rw [List.length_append, hl3]; rfl, fun S2 h2 => by
      rcases List.mem_append.mp h2 with h | h
      · exact hS S2 h
      · rw [List.mem_singleton.mp h]; exact ok⟩
    refine go_if (et_testX (φ := fun _ => True) (ev_op (use__law_take (n := 4) (ea_cons (ev_var (i := 0) rfl) (ea_cons (ev_int (K := K) (i := 4)) ea_nil)) (by decide) (j := 1) rfl) (ev_int (K := K) (i := 0)) rv_eqX)) (fun _ => ?_) fun _ => ?_
    · exact go_appE (j := 0) (ev_var (i := 4) rfl) (use__law_counter (ea_cons (ev_var (i := 0) rfl) (ea_cons (ev_var (i := 2) rfl) ea_nil)) l2 (j := 1) rfl) rfl rfl (by rw [List.length_map]; omega) fun S ok => nx (D2 := { nx := fun _ _ => True, rt := Q }) S ok
    · exact go_appE (j := 0) (ev_var (i := 4) rfl) (use__law_sideX (ea_cons (ev_var (i := 0) rfl) (ea_cons (ev_var (i := 2) rfl) (ea_cons (use__law_take (n := c) (ea_cons (ev_var (i := 0) rfl) (ea_cons (ev_var (i := 1) rfl) ea_nil)) (by omega) (j := 1) rfl) (ea_cons (ev_var (i := 3) rfl) ea_nil)))) ⟨m1, by omega, l2, hll⟩ (j := 1) rfl) rfl rfl (by rw [List.length_map]; omega) fun S ok => nx (D2 := { nx := fun _ _ => True, rt := Q }) S ⟨⟨ok.1.1, Nat.le_trans ok.1.2.1 m3, ok.1.2.2⟩, ok.2⟩
  rintro _ _ ⟨Ss, g5, rfl, rfl, hl3, hS⟩
  rw [Int.toNat_natCast] at hl3
  refine nx_freeze (K := K) (i := 4) 0 rfl hq4 rfl ?_
  dsimp only [List.set, List.eraseIdx]
  have Sge : ∀ k, k < Ss.length → SdOk ls.length 3 (Ss.getD k []) := fun k hk => by
    rw [List.getD_eq_getElem?_getD, List.getElem?_eq_getElem hk]; exact (hS _ (List.getElem_mem hk)).1
  have few : ∀ {Fd : List (List Int)}, Fd.Nodup → (∀ f ∈ Fd, TupOk Ss f) → Fd.length ≤ 9 := fun nd ok => tup_few (by omega) (fun S h => (hS S h).1.2.1) nd ok
  have lc := evn_lcL (K := K) (xs := Ss) (R := fun S => D K (dLL S)) (G := fun S => PIn K 0 (S.length : Int)) (i := 14) (M := [(d, MDr K)]) (M1 := [(d, MDr K)]) (Γ := [some (Own d), some (D K (.int c)), some (D K (dLT ls)), some (D K (.int (m : Int))), some (PLi K (Ss.map fun S => D K (dLL S))), g5, none, none, none, none, none, none, none, none, none]) (t := tYes) (fun _ => true) (ev_var (i := 4) rfl) (by omega) (fun _ _ => et_yes) (fun S hS1 _ => use__law_take (T := T) (X := E0) (n := (S.length : Int)) (ea_cons (ev_var (i := 0) rfl) (ea_cons (ev_lenM (f := dL) (ev_var (i := 14) rfl)) ea_nil)) (by have := (hS S hS1).1.1; omega) (j := 0) rfl)
  rw [filter_true] at lc
  have lc := lc.is (O2 := ML ((List.range Ss.length).map fun i => PIn K 0 (((Ss.getD i []).length : Nat) : Int))) (congrArg ML (map_getD (d := []) (f := fun S : List (List Int) => PIn K 0 (S.length : Int))))
  refine (q_asg (ev_tupOf (lc.weak (ml_nameD (φ := fun i m => 0 ≤ m ∧ m < (((Ss.getD i []).length : Nat) : Int))))) (nx_ex (i := 6) rfl fun f0 => nx_an (i := 6) rfl fun hf0 => ?_))
  clear lc
  dsimp only [List.set]
  have f0k : TupOk Ss f0 := hf0
  refine (q_asgN (evn_lst (ps := [D K (dT f0)]) (ea_cons (ev_var (i := 6) rfl) ea_nil) (by simp)) fun q7 hq7 => ?_)
  dsimp only [List.set]
  refine (q_asgN (evn_lst (ps := []) ea_nil (by simp)) fun q8 hq8 => ?_)
  dsimp only [List.set]
  refine (q_forR (z := 40) (ea_cons (ev_int (K := K) (i := 40)) ea_nil) (by omega) (by omega) (fun n Γ M => ∃ (Fd R : List (List Int)) (g5 g9 g10 g11 g12 : Option MP), Γ = [some (Own d), some (D K (.int c)), some (D K (dLT ls)), some (D K (.int (m : Int))), some (PLi K (Ss.map fun S => D K (dLL S))), g5, some (D K (dT f0)), some (Own q7), some (Own q8), g9, g10, g11, g12, none, none] ∧ M = [(q8, ML (R.map fun l => D K (dL l))), (q7, ML (Fd.map fun l => D K (dT l))), (d, MDr K)] ∧ Fd.Nodup ∧ (∀ f ∈ Fd, TupOk Ss f) ∧ 0 < Fd.length ∧ R.length = min n Fd.length ∧ (∀ r ∈ R, r.length = ls.length ∧ ∀ x ∈ r, 0 ≤ x ∧ x < (Fd.length : Int)) ∧ ∀ (i : Nat) (r : List Int), R[i]? = some r → ∃ f, Fd[i]? = some f ∧ ∀ a : Nat, a < ls.length → Fd[(r.getD a 0).toNat]? = some (afT Ss f a)) ⟨[f0], [], g5, none, none, none, none, rfl, rfl, by simp, fun f hf => by rw [List.mem_singleton.mp hf]; exact f0k, by simp, by simp, (fun r hr => by cases hr), fun i r hr => by simp at hr⟩ ?_ ?_)
  · rintro n hn _ _ ⟨Fd, R, g5, g9, g10, g11, g12, rfl, rfl, nd, fok, pos, rl, rok, rst⟩
    have F9 := few nd fok
    dsimp only [List.set]
    refine go_if (et_test (ev_op (ev_var (i := 9) rfl) ((ev_cb (ea_cons (ev_var (i := 7) rfl) ea_nil) (rc_lenO (j := 1) rfl)).is (P' := D K (.int (Fd.length : Int))) (by rw [List.length_map])) (rv_b0 (g := fun i j => decide (i < j))))) (fun hz => ?_) fun hz => go_next (JA.of ⟨Fd, R, _, _, _, _, _, rfl, rfl, nd, fok, pos, ?_, rok, rst⟩)
    · have hz : n < Fd.length := by simp at hz; omega
      obtain ⟨f, hf⟩ : ∃ f, Fd[n]? = some f := ⟨_, List.getElem?_eq_getElem hz⟩
      have ft := fok f (List.mem_of_getElem? hf)
      refine (q_asgN (evn_lst (ps := []) ea_nil (by simp)) fun qw hqw => ?_)
      dsimp only [List.set]
      refine (q_forR (z := (ls.length : Int)) (ea_cons (ev_lenM (f := dT) (ev_var (i := 2) rfl)) ea_nil) (by omega) (by omega) (fun j Γ M => ∃ (Fd2 : List (List Int)) (r : List Int) (g5 g11 g12 : Option MP), Γ = [some (Own d), some (D K (.int c)), some (D K (dLT ls)), some (D K (.int (m : Int))), some (PLi K (Ss.map fun S => D K (dLL S))), g5, some (D K (dT f0)), some (Own q7), some (Own q8), some (D K (.int (n : Int))), some (Own qw), g11, g12, none, none] ∧ M = [(qw, MInts K r), (q8, ML (R.map fun l => D K (dL l))), (q7, ML (Fd2.map fun l => D K (dT l))), (d, MDr K)] ∧ Fd2.Nodup ∧ (∀ f ∈ Fd2, TupOk Ss f) ∧ (∃ M2, Fd2 = Fd ++ M2) ∧ r.length = j ∧ (∀ x ∈ r, 0 ≤ x ∧ x < (Fd2.length : Int)) ∧ ∀ a : Nat, a < j → Fd2[(r.getD a 0).toNat]? = some (afT Ss f a)) ⟨Fd, [], _, _, _, rfl, rfl, nd, fok, ⟨[], by simp⟩, rfl, (fun x hx => by cases hx), fun a ha => absurd ha (Nat.not_lt_zero _)⟩ ?_ ?_)
      · rintro j hj _ _ ⟨Fd2, r, g5, g11, g12, rfl, rfl, nd2, fok2, ⟨M2, e2⟩, rlen, rx, rs2⟩
        have hf2 : Fd2[n]? = some f := by rw [e2, List.getElem?_append_left hz]; exact hf
        let af : List Int := (List.range Ss.length).map fun k : Nat => ((Ss.getD k []).getD (f.getD k 0).toNat []).getD j 0
        have rowOk : ∀ k, k < Ss.length → ((Ss.getD k []).getD (f.getD k 0).toNat []).length = ls.length ∧ ∀ x ∈ (Ss.getD k []).getD (f.getD k 0).toNat [], 0 ≤ x ∧ x < (((Ss.getD k []).length : Nat) : Int) := fun k hk => by
          have b := ft.2 k hk
          have := (Sge k hk).2.2 ((Ss.getD k []).getD (f.getD k 0).toNat []) (by
            rw [List.getD_eq_getElem?_getD (l := Ss.getD k []), List.getElem?_eq_getElem (by omega)]; exact List.getElem_mem _)
          exact this
        have afk : TupOk Ss af := ⟨by show ((List.range Ss.length).map _).length = _; rw [List.length_map, List.length_range], fun k hk => by
          show 0 ≤ ((List.range Ss.length).map _).getD k 0 ∧ ((List.range Ss.length).map _).getD k 0 < _
          rw [getD_map_range hk]
          obtain ⟨l1, l2⟩ := rowOk k hk
          refine l2 _ ?_
          have jl : j < ((Ss.getD k []).getD (f.getD k 0).toNat []).length := by omega
          generalize (Ss.getD k []).getD (f.getD k 0).toNat [] = rr at jl
          rw [List.getD_eq_getElem?_getD, List.getElem?_eq_getElem jl]; exact List.getElem_mem _⟩
        dsimp only [List.set]
        have lc := evn_lcR (K := K) (z := (Ss.length : Int)) (i := 5) (G := fun k : Nat => D K (.int (((Ss.getD k []).getD (f.getD k 0).toNat []).getD j 0))) (M := [(qw, MInts K r), (q8, ML (R.map fun l => D K (dL l))), (q7, ML (Fd2.map fun l => D K (dT l))), (d, MDr K)]) (M1 := [(qw, MInts K r), (q8, ML (R.map fun l => D K (dL l))), (q7, ML (Fd2.map fun l => D K (dT l))), (d, MDr K)]) (Γ := [some (Own d), some (D K (.int c)), some (D K (dLT ls)), some (D K (.int (m : Int))), some (PLi K (Ss.map fun S => D K (dLL S))), g5, some (D K (dT f0)), some (Own q7), some (Own q8), some (D K (.int (n : Int))), some (Own qw), some (D K (.int (j : Int))), g12, none, none]) (t := tYes) (fun _ => true) (ea_cons ((ev_cb (ea_cons (ev_var (i := 4) rfl) ea_nil) rc_len).is (P' := D K (.int (Ss.length : Int))) (by rw [List.length_map])) ea_nil) (by omega) (fun _ _ => et_yes) (fun k hk _ => by
          have hk2 : k < Ss.length := by omega
          have b := ft.2 k hk2
          refine ev_op (ev_op (ev_op (ev_var (i := 4) rfl) (ev_var (i := 5) rfl) (rv_ixL (P := D K (dLL (Ss.getD k []))) (by omega) (by rw [Int.toNat_natCast, List.getElem?_map, List.getD_eq_getElem?_getD, List.getElem?_eq_getElem hk2]; rfl))) (ev_op (P1 := D K (dT f)) (ev_op (ev_var (i := 7) rfl) (ev_var (i := 9) rfl) (rv_ixO (j := 2) (P := D K (dT f)) rfl (by omega) (by rw [Int.toNat_natCast, List.getElem?_map, hf2]; rfl))) (ev_var (i := 5) rfl) (rv_ixDTd (l := f) (by omega) (by have := ft.1; omega))) (rv_ixDL (d := dL ((Ss.getD k []).getD (f.getD k 0).toNat [])) b.1 ?_)) (ev_var (i := 11) rfl) (rv_ixDLd (by omega) (by have := (rowOk k hk2).1; omega))
          show ((Ss.getD k []).map dL)[(f.getD k 0).toNat]? = _
          rw [List.getElem?_map, List.getD_eq_getElem?_getD (l := Ss.getD k []), List.getElem?_eq_getElem (by omega)]; rfl)
        rw [filter_true, Int.toNat_natCast] at lc
        refine (q_asg (P := D K (dT af)) (ev_tupDg (lc.is (O2 := MInts K af) (by rw [MInts]; show _ = ML (List.map _ (List.map _ _)); rw [List.map_map]; rfl))) ?_)
        clear lc
        dsimp only [List.set]
        refine go_cut (J := fun Γ M => ∃ (g5 : Option MP), Γ = [some (Own d), some (D K (.int c)), some (D K (dLT ls)), some (D K (.int (m : Int))), some (PLi K (Ss.map fun S => D K (dLL S))), g5, some (D K (dT f0)), some (Own q7), some (Own q8), some (D K (.int (n : Int))), some (Own qw), some (D K (.int (j : Int))), some (D K (dT af)), none, none] ∧ M = [(qw, MInts K r), (q8, ML (R.map fun l => D K (dL l))), (q7, ML ((addN Fd2 af).map fun l => D K (dT l))), (d, MDr K)]) (go_if (et_test (ev_op (ev_var (i := 12) rfl) (ev_var (i := 7) rfl) (rv_notInDO (j := 2) enc_dT (by decide) rfl))) (fun hz3 => ?_) fun hz3 => go_next (JA.of ⟨_, rfl, ?_⟩)) ?_
        · have hz3 : af ∉ Fd2 := fun z => by simp [z] at hz3
          refine go_app (j := 2) (ev_var (i := 7) rfl) (ev_var (i := 12) rfl) rfl rfl (by rw [List.length_map]; have := few nd2 fok2; omega) (JA.of ⟨_, rfl, ?_⟩)
          show [_, _, (q7, ML (Fd2.map (fun l => D K (dT l)) ++ [D K (dT af)])), _] = _
          unfold addN
          rw [if_neg hz3, List.map_append]; rfl
        · have hz3 : af ∈ Fd2 := Classical.byContradiction fun z => by simp [z] at hz3
          unfold addN
          rw [if_pos hz3]
        rintro _ _ ⟨g5, rfl, rfl⟩
        have ih := List.idxOf_lt_length_of_mem (addN_has (Fd := Fd2) (x := af))
        obtain ⟨M3, e3⟩ := addN_pre (Fd := Fd2) (x := af)
        refine go_app (j := 0) (ev_var (i := 10) rfl) (ev_indexDO enc_dT (by decide) (j := 2) (l := addN Fd2 af) (x := af) (ev_var (i := 7) rfl) (ev_var (i := 12) rfl) rfl addN_has) rfl rfl (by rw [List.length_map]; omega) (JA.of ⟨addN Fd2 af, r ++ [((addN Fd2 af).idxOf af : Int)], _, _, _, rfl, ?_, addN_nd nd2, fun y hy => ?_, ⟨M2 ++ M3, by rw [e3, e2, List.append_assoc]⟩, by rw [List.length_append, rlen]; rfl, fun x hx => ?_, fun a ha => ?_⟩)
        · show [(qw, ML (r.map (fun n => D K (.int n)) ++ [D K (.int ((addN Fd2 af).idxOf af : Int))])), _, _, _] = _
          rw [show MInts K (r ++ [((addN Fd2 af).idxOf af : Int)]) = ML (r.map (fun n => D K (.int n)) ++ [D K (.int ((addN Fd2 af).idxOf af : Int))]) by rw [MInts, List.map_append]; rfl]
        · rcases addN_of hy with rfl | h
          · exact afk
          · exact fok2 y h
        · rcases List.mem_append.mp hx with h | h
          · have := rx x h
            rw [e3, List.length_append]; omega
          · rw [List.mem_singleton.mp h]; omega
        · rcases Nat.lt_succ_iff_lt_or_eq.mp ha with h | h
          · have e4 := rs2 a h
            rw [List.getD_eq_getElem?_getD, List.getElem?_append_left (by omega), ← List.getD_eq_getElem?_getD, e3, List.getElem?_append_left (List.getElem?_eq_some_iff.mp e4).1]
            exact e4
          · subst h
            rw [List.getD_eq_getElem?_getD, List.getElem?_append_right (by omega), rlen, Nat.sub_self]
            show (addN Fd2 af)[(((addN Fd2 af).idxOf af : Nat) : Int).toNat]? = some af
            rw [Int.toNat_natCast, List.getElem?_eq_getElem ih, List.getElem_idxOf]
      · rintro _ _ ⟨Fd2, r, g5, g11, g12, rfl, rfl, nd2, fok2, ⟨M2, e2⟩, rlen, rx, rs2⟩
        rw [Int.toNat_natCast] at rlen rs2
        refine nx_freeze (K := K) (i := 10) 0 rfl hqw rfl ?_
        dsimp only [List.set, List.eraseIdx]
        have le2 : Fd.length ≤ Fd2.length := by rw [e2, List.length_append]; omega
        refine go_app (j := 0) (P := D K (dL r)) (ev_var (i := 8) rfl) ((ev_var (i := 10) rfl).weak dL_le) rfl rfl (by rw [List.length_map]; omega) (JA.of ⟨Fd2, R ++ [r], _, _, _, _, _, rfl, ?_, nd2, fok2, by omega, by rw [List.length_append, rl]; show _ + 1 = _; omega, fun r2 h2 => ?_, fun i r2 h2 => ?_⟩)
        · show [(q8, ML (R.map (fun l => D K (dL l)) ++ [D K (dL r)])), _, _] = _
          rw [List.map_append]; rfl
        · rcases List.mem_append.mp h2 with h | h
          · have := rok r2 h
            exact ⟨this.1, fun x hx => by have := this.2 x hx; omega⟩
          · rw [List.mem_singleton.mp h]; exact ⟨rlen, rx⟩
        · rcases Nat.lt_or_ge i R.length with h | h
          · rw [List.getElem?_append_left h] at h2
            obtain ⟨f', h3, h4⟩ := rst i r2 h2
            refine ⟨f', ?_, fun a ha => ?_⟩
            · rw [e2, List.getElem?_append_left (List.getElem?_eq_some_iff.mp h3).1]; exact h3
            · have h5 := h4 a ha
              rw [e2, List.getElem?_append_left (List.getElem?_eq_some_iff.mp h5).1]; exact h5
          · rw [List.getElem?_append_right h] at h2
            obtain ⟨e5, e6⟩ := List.getElem?_eq_some_iff.mp h2
            have e5 : i - R.length < 1 := e5
            have e0 : i - R.length = 0 := by omega
            simp only [e0] at e6
            have e6 : r = r2 := e6
            subst e6
            have ei : i = n := by omega
            subst ei
            exact ⟨f, by rw [e2, List.getElem?_append_left hz]; exact hf, fun a ha => rs2 a ha⟩
    · have hz : Fd.length ≤ n := by simp at hz; omega
      omega
  rintro _ _ ⟨Fd, R, g5, g9, g10, g11, g12, rfl, rfl, nd, fok, pos, rl, rok, rst⟩
  have F9 := few nd fok
  have rl : R.length = Fd.length := by rw [rl]; show min 40 _ = _; omega
  refine (q_asgN (evn_lcRD (K := K) (z := (Fd.length : Int)) (G := fun x : Nat => D K (.int (x : Int))) (ea_cons ((ev_cb (ea_cons (ev_var (i := 7) rfl) ea_nil) (rc_lenO (j := 1) rfl)).is (P' := D K (.int (Fd.length : Int))) (by rw [List.length_map])) ea_nil) (by omega) (fun x _ => et_testX (φ := fun _ => True) (ev_op (use__law_take (n := 2) (ea_cons (ev_var (i := 0) rfl) (ea_cons (ev_int (K := K) (i := 2)) ea_nil)) (by decide) (j := 2) rfl) (ev_int (K := K) (i := 0)) rv_eqX)) (fun x _ => ev_var (i := 5) rfl)) fun q13 hq13 => nx_exM (j := 0) rfl fun C0 => nx_anM (j := 0) rfl fun hC0 => ?_)
  dsimp only [List.set]
  rw [Int.toNat_natCast] at hC0
  refine nx_freeze (K := K) (i := 13) 0 rfl hq13 rfl ?_
  dsimp only [List.set, List.eraseIdx]
  refine nx_freeze (K := K) (i := 8) 0 rfl hq8 rfl ?_
  dsimp only [List.set, List.eraseIdx]
  have Fm : ∀ x ∈ C0, x < Fd.length := fun x hx => List.mem_range.mp (hC0.subset hx)
  have AO : (⟨ls.length, 0, C0.map fun x : Nat => (x : Int), R⟩ : Au).Ok := by
    refine ⟨l1, ⟨Int.le_refl _, by show (0 : Int) < (R.length : Int); omega⟩, fun x hx => ?_, ?_, fun r hr => ⟨(rok r hr).1, fun x hx => ?_⟩⟩
    · obtain ⟨y, hy, rfl⟩ := List.mem_map.mp hx
      have := Fm y hy
      exact ⟨by omega, by show (y : Int) < (R.length : Int); omega⟩
    · show (List.map _ C0).Pairwise (· < ·)
      rw [List.pairwise_map]
      exact (List.pairwise_lt_range.sublist hC0).imp fun h => by omega
    · have := (rok r hr).2 x hx
      exact ⟨this.1, by show x < (R.length : Int); rw [rl]; exact this.2⟩
  exact go_ret Le.refl (((ev_tup (K := K) (ps := [D K (.int 0), D K (dL (C0.map fun x : Nat => (x : Int))), D K (dLL R)]) (ea_cons (ev_int (K := K) (i := 0)) (ea_cons ((ev_var (i := 13) rfl).weak (le_frN (l := C0))) (ea_cons ((ev_var (i := 8) rfl).weak (Lm_le (f := dL))) ea_nil))) (by simp)).weak (PTu_D (ds := [.int 0, dL (C0.map fun x : Nat => (x : Int)), dLL R]))).weak (MP.le_trans (PAn.in (φ := ((⟨ls.length, 0, C0.map fun x : Nat => (x : Int), R⟩ : Au).Ok ∧ ls.length = ls.length ∧ R.length ≤ 9) ∧ Cmt (⟨ls.length, 0, C0.map fun x : Nat => (x : Int), R⟩ : Au) ls) ⟨⟨AO, rfl, by omega⟩, found_cm AO rfl nd rl fok (fun S hS1 => (hS S hS1).2) rst⟩) (PEx.in (R := fun A : Au => PAn ((A.Ok ∧ A.L = ls.length ∧ A.R.length ≤ 9) ∧ Cmt A ls) (D K (dAu A))) ⟨ls.length, 0, C0.map fun x : Nat => (x : Int), R⟩))) (Rt.drop (List.sublist_cons_self _ _) k)
theorem use__law_closed_automaton {T : Txt K mg} {tr : TA} {Γ : Gm} {M M1 : Ms} {d : Addr} {c : Int} {ls : Lets} {m : Nat} {j : Nat} {X : XK} (h : EvA tr Γ M [Own d, D K (.int c), D K (dLT ls), D K (.int (m : Int))] M1) (hn : 1 ≤ c ∧ 1 ≤ m ∧ m ≤ 3 ∧ 1 ≤ ls.length ∧ ls.length ≤ 10 ∧ ∀ l ∈ ls, l.length ≤ 1000) (e : M1[j]? = some (d, MDr K)) : Ev (tCall (sp__law_closed_automaton T) [] X tr) Γ M (PCa K ls) M1 :=
  call1 h e fun vs H Q z => ⟨d, c, ls, m, hn, z⟩
/-! ### _law_queues -/
theorem sc__law_queues : FnScope ["count", "letters", "word", "place"] ["count", "letters", "word"] (defScope s__law_queues) := ⟨rfl, rfl, rfl, by decide +kernel, rfl, by decide +kernel, by decide +kernel⟩
def sp__law_queues (T : Txt K mg) : Sp := fun vs H Q _ => ∃ (k : Int) (ls : Lets) (wd : List Int), (0 ≤ k ∧ k ≤ 1000 ∧ WordOk ls wd ∧ wd.length ≤ 1000) ∧ Prom [D K (.int k), D K (dLT ls), D K (dT wd)] [] (D K (dLT (pws ls k wd))) [] vs H Q
theorem sp__law_queues_len {T : Txt K mg} {vs H Q E} (h : sp__law_queues T vs H Q E) : vs.length = 3 := by obtain ⟨_, _, _, _, h⟩ := h; exact h.len
set_option maxHeartbeats 4000000 in
theorem ok__law_queues (T : Txt K mg) : FnOk P wo K mg base CX0 2 T.f__law_queues T.d__law_queues ["count", "letters", "word"] (sp__law_queues T) := by
  have nd := (sc__law_queues).nd
  refine T.F__law_queues.ok sc__law_queues (fun vs H Q E h => (sp__law_queues_len h)) (fun cdv A outer s H vs Q E hr h => ?_)
  obtain ⟨n, ls, wd, ⟨k0, k1, hw, hl⟩, F, w, pp, k⟩ := h
  refine ⟨_, (pss_one (ps_ret (pe_lc (own := [("place", 3)]) (by rfl) nd (pi_range1 (by rfl) T.z_range (pa_cons (pv 0) pa_nil)) (blkOk_by (N := ["count", "letters", "word", "place"]) (sc := defScope s__law_queues) (own := [("place", 3)]) (by decide +kernel)) (fun _ _ _ _ _ => pg_name (i := 3) nd rfl (by first | exact Or.inl rfl | exact Or.inr rfl)) (fun _ _ _ _ _ => pts_nil) (fun _ _ _ _ _ => (pe_call (ok__law_place T) (hr.mono (by decide)) rfl T.m__law_place T.F__law_place.kp T.b__law_place .nil pass0 (pa_cons (pv 1) (pa_cons (pv 2) (pa_cons (pv 3) pa_nil)))))))), ?_⟩
  refine go_start w pp (Γ := [some (D K (.int n)), some (D K (dLT ls)), some (D K (dT wd)), none]) rfl ?_
  have lc := evn_lcR (K := K) (z := n) (i := 3) (G := fun p : Nat => D K (dT (at_ ls p wd))) (M := []) (M1 := []) (Γ := [some (D K (.int n)), some (D K (dLT ls)), some (D K (dT wd)), none]) (fun _ => true) (ea_cons (ev_var (i := 0) rfl) ea_nil) (by omega) (fun _ _ => et_yes)
    (fun p _ _ => use__law_place (T := T) (X := E0) (ea_cons (ev_var (i := 1) rfl) (ea_cons (ev_var (i := 2) rfl) (ea_cons (ev_var (i := 3) rfl) ea_nil))) ⟨hw, hl⟩)
  rw [filter_true] at lc
  refine go_ret Le.refl (P := D K (dLT (pws ls n wd))) ((ev_newL (K := K) lc).weak fun F v h => ?_) k
  have := Lm_le (K := K) (f := fun p : Nat => dT (at_ ls p wd)) F v h
  unfold pws dLT
  rw [List.map_map]
  exact this
/-! ### _law_ready -/
theorem sc__law_ready : FnScope ["letters", "queues", "heads", "found", "letter", "good", "place"] ["letters", "queues", "heads"] (defScope s__law_ready) := ⟨rfl, rfl, rfl, by decide +kernel, rfl, by decide +kernel, by decide +kernel⟩
theorem head_at {qs : Qs} {hs : List Int} {p : Nat} {a : Int} (hp : p < qs.length) (h0 : 0 ≤ hs.getD p 0) : (decide (hs.getD p 0 < ((qat qs p).length : Int)) && decide ((qat qs p).getD (hs.getD p 0).toNat 0 = a)) = decide ((qat (rq qs hs) (p : Int)).head? = some a) := by
  rw [qat_rq hp, List.head?_drop]
  generalize qat qs p = l
  obtain ⟨m, e⟩ := Int.eq_ofNat_of_zero_le h0
  rw [e, Int.toNat_natCast]
  by_cases h : m < l.length
  · rw [List.getElem?_eq_getElem h, List.getD_eq_getElem?_getD, List.getElem?_eq_getElem h]
    simp [h]
  · rw [List.getElem?_eq_none (by omega)]
    simp [h]
theorem i_d {l : List Int} {n : Nat} (h : n < l.length) : (l.map PyData.int)[n]? = some (.int (l.getD n 0)) := by
  rw [List.getElem?_map, List.getElem?_eq_getElem h, List.getD_eq_getElem?_getD, List.getElem?_eq_getElem h]; rfl
def sp__law_ready (T : Txt K mg) : Sp := fun vs H Q _ => ∃ (k : Int) (ls : Lets) (qs : Qs) (hs : List Int) (q : Addr), (AlphaOk k ls ∧ QOk k qs hs) ∧ Prom [D K (dLT ls), D K (dLT qs), Own q] [(q, MInts K hs)] (D K (dL (rdyRL ls (rq qs hs)))) [(q, MInts K hs)] vs H Q
theorem sp__law_ready_len {T : Txt K mg} {vs H Q E} (h : sp__law_ready T vs H Q E) : vs.length = 3 := by obtain ⟨_, _, _, _, _, _, h⟩ := h; exact h.len
set_option maxHeartbeats 4000000 in
theorem ok__law_ready (T : Txt K mg) : FnOk P wo K mg base CX0 1 T.f__law_ready T.d__law_ready ["letters", "queues", "heads"] (sp__law_ready T) := by
  have nd := (sc__law_ready).nd
  refine T.F__law_ready.ok sc__law_ready (fun vs H Q E h => (sp__law_ready_len h)) (fun cdv A outer s H vs Q E hr h => ?_)
  obtain ⟨n, ls, qs, hs, q, ⟨A, hh⟩, F, w, pp, k⟩ := h
  refine ⟨_, (pss_cons (ps_set (i := 3) nd rfl (Or.inl rfl) (pe_lst pa_nil))
    (pss_cons (ps_for PassesOwn.never rfl (pi_range1 (by rfl) T.z_range (pa_cons (pe_callB (c_len (K := K) rfl) (by rfl) T.z_len PySem.boot_len (pa_cons (pv 0) pa_nil)) pa_nil)) (pg_name (i := 4) nd rfl (by first | exact Or.inl rfl | exact Or.inr rfl))
     (pss_cons (ps_set (i := 5) nd rfl (Or.inl rfl) pe_bl)
     (pss_cons (ps_for PassesOwn.never rfl (pi_tupK (K := K) rfl (pe_ix (c_ix (K := K) rfl) (pv 0) (pv 4) (fun _ _ => rfl))) (pg_name (i := 6) nd rfl (by first | exact Or.inl rfl | exact Or.inr rfl))
      (pss_one (ps_set (i := 5) nd rfl (Or.inl rfl) (pe_and (pv 5) (pe_and (pe_cmpR op_lt (pe_ix (c_ix (K := K) rfl) (pv 2) (pv 6) (fun _ _ => rfl)) (pe_callB (c_len (K := K) rfl) (by rfl) T.z_len PySem.boot_len (pa_cons (pe_ix (c_ix (K := K) rfl) (pv 1) (pv 6) (fun _ _ => rfl)) pa_nil)) (nomark _)) (pe_one (pe_cmpR op_eq (pe_ix (c_ix (K := K) rfl) (pe_ix (c_ix (K := K) rfl) (pv 1) (pv 6) (fun _ _ => rfl)) (pe_ix (c_ix (K := K) rfl) (pv 2) (pv 6) (fun _ _ => rfl)) (fun _ _ => rfl)) (pv 4) (nomark _))))))))
     (pss_one (ps_if (pt_val (pv 5)) (pss_one (ps_expr (pe_bm PySem.F.plainAttrs_list PySem.F.slot_list_append PySem.F.type_list_append mt_append (pv 3) (pa_cons (pv 4) pa_nil)))) pss_nil)))))
    (pss_one (ps_ret (pv 3))))), ?_⟩
  refine go_start w pp (Γ := [some (D K (dLT ls)), some (D K (dLT qs)), some (Own q), none, none, none, none]) rfl ?_
  show Nx _ _ [(q, MInts K hs)] _
  have hl := hh.hl; have ql := hh.ql; have l6 := A.l6
  refine (q_asgN (evn_lst ea_nil (by decide)) fun fd hfd => ?_)
  dsimp only [List.set]
  have evlen : Ev (tCB (rLn K) (tCons (tVar 0) tNil)) [some (D K (dLT ls)), some (D K (dLT qs)), some (Own q), some (Own fd), none, none, none] [(fd, ML []), (q, MInts K hs)] (D K (.int ls.length)) [(fd, ML []), (q, MInts K hs)] := ev_lenM (f := dT) (ev_var rfl)
  refine (q_forR (ea_cons evlen ea_nil) (by omega) (by omega) (fun m Γ M => ∃ (g4 g5 g6 : Option MP), Γ = [some (D K (dLT ls)), some (D K (dLT qs)), some (Own q), some (Own fd), g4, g5, g6] ∧ M = [(fd, MInts K (((List.range m).filter fun a : Nat => rdyR ls (rq qs hs) a).map fun a : Nat => (a : Int))), (q, MInts K hs)]) ⟨none, none, none, rfl, rfl⟩ ?_ ?_)
  · rintro a ha _ _ ⟨g4, g5, g6, rfl, rfl⟩
    have hA : 0 ≤ (a : Int) ∧ (a : Int) < (ls.length : Int) := ⟨by omega, ha⟩
    have pok := (A.pl_ok hA).2
    have fl : ((List.range a).filter fun a : Nat => rdyR ls (rq qs hs) a).length ≤ a := Nat.le_trans (List.length_filter_le _ _) (by rw [List.length_range]; exact Nat.le_refl _)
    dsimp only [List.set]
    refine (q_asg (ev_bl (K := K)) ?_)
    dsimp only [List.set]
    refine (q_forT ((ev_op (ev_var (i := 0) rfl) (ev_var (i := 4) rfl) (rv_ixDL (ds := ls.map dT) hA.1 (by rw [List.getElem?_map, pl_get hA.1 hA.2]; rfl))).weak le_dT) (fun i Γ M => ∃ (g6 : Option MP), Γ = [some (D K (dLT ls)), some (D K (dLT qs)), some (Own q), some (Own fd), some (D K (.int a)), some (D K (.bool (((pl ls a).take i).all fun p => decide ((qat (rq qs hs) p).head? = some (a : Int))))), g6] ∧ M = [(fd, MInts K (((List.range a).filter fun a : Nat => rdyR ls (rq qs hs) a).map fun a : Nat => (a : Int))), (q, MInts K hs)]) ⟨_, rfl, rfl⟩ ?_ ?_)
    · rintro E' hE i P hP _ _ ⟨g6, rfl, rfl⟩
      rw [List.getElem?_map] at hP
      obtain ⟨x, hxi, rfl⟩ := Option.map_eq_some_iff.mp hP
      have hxm := List.mem_of_getElem? hxi
      obtain ⟨x0, xk⟩ := pok x hxm
      obtain ⟨p, rfl⟩ := Int.eq_ofNat_of_zero_le x0
      have hp : p < qs.length := by omega
      have h0 := hh.h0 _ (getD_mem (hs := hs) (p := p) (by omega))
      have ha2 := head_at (a := (a : Int)) hp h0
      dsimp only [List.set]
      generalize hb : (((pl ls a).take i).all fun p => decide ((qat (rq qs hs) p).head? = some (a : Int))) = gb
      have evq : ∀ {M : Ms}, Ev (tOp (rIx K) (tVar 1) (tVar 6)) [some (D K (dLT ls)), some (D K (dLT qs)), some (Own q), some (Own fd), some (D K (.int a)), some (D K (.bool gb)), some (D K (.int p))] M (D K (dT (qat qs p))) M := ev_op (ev_var (i := 1) rfl) (ev_var (i := 6) rfl) (rv_ixDL (ds := qs.map dT) (by omega) (by
        unfold qat
        rw [List.getElem?_map, List.getD_eq_getElem?_getD, Int.toNat_natCast, List.getElem?_eq_getElem hp]; rfl))
      refine go_asg (P := D K (.bool (gb && decide ((qat (rq qs hs) (p : Int)).head? = some (a : Int))))) ((ev_andV (ev_var (i := 5) rfl) fun _ => ev_andV (ev_op (ev_op (ev_var (i := 2) rfl) (ev_var (i := 6) rfl) (rv_ixO (j := 1) rfl (by omega) (i_r (by omega)))) (ev_lenMT (f := PyData.int) evq) (rv_b0 (g := fun i j => decide (i < j)))) fun hz => ev_op (ev_op evq (ev_op (ev_var (i := 2) rfl) (ev_var (i := 6) rfl) (rv_ixO (j := 1) rfl (by omega) (i_r (by omega)))) (rv_ixDT (ds := (qat qs p).map PyData.int) (d := .int ((qat qs p).getD (hs.getD p 0).toNat 0)) h0 (by
        have hz : hs.getD p 0 < ((qat qs p).length : Int) := by simpa using hz
        exact i_d (by omega)))) (ev_var (i := 4) rfl) rv_eqI).is (by rw [ha2])) (JA.of ⟨some (D K (.int p)), by rw [List.take_add_one, hxi, List.all_append, hb]; simp, rfl⟩)
    · rintro _ _ ⟨g6, rfl, rfl⟩
      rw [List.length_map, List.take_length]
      have er : ((pl ls a).all fun p => decide ((qat (rq qs hs) p).head? = some (a : Int))) = rdyR ls (rq qs hs) a := rfl
      rw [er]
      refine go_if (et_val (ev_var (i := 5) rfl)) (fun hz => ?_) fun hz => go_next (JA.of ⟨_, _, _, rfl, ?_⟩)
      · refine go_app (j := 0) (ev_var (i := 3) rfl) (ev_var (i := 4) rfl) rfl rfl (by rw [List.length_map, List.length_map]; omega) (JA.of ⟨_, _, _, rfl, ?_⟩)
        rw [List.range_succ, List.filter_append, List.map_append]
        simp [MInts, hz.symm]
      · rw [List.range_succ, List.filter_append, List.map_append]
        simp [hz.symm]
  · rintro _ _ ⟨g4, g5, g6, rfl, rfl⟩
    rw [Int.toNat_natCast]
    refine nx_own (K := K) (i := 3) (j := 0) rfl hfd rfl ?_
    dsimp only [List.set, List.eraseIdx]
    exact go_ret Le.refl (ev_var (i := 3) rfl) k
theorem use__law_ready {T : Txt K mg} {tr : TA} {Γ : Gm} {M M1 : Ms} {k : Int} {ls : Lets} {qs : Qs} {hs : List Int} {q : Addr} {j : Nat} {X : XK} (h : EvA tr Γ M [D K (dLT ls), D K (dLT qs), Own q] M1) (hn : AlphaOk k ls ∧ QOk k qs hs) (e : M1[j]? = some (q, MInts K hs)) : Ev (tCall (sp__law_ready T) [] X tr) Γ M (D K (dL (rdyRL ls (rq qs hs)))) M1 :=
  call1 h e fun vs H Q z => ⟨k, ls, qs, hs, q, hn, z⟩
/-! ### mask_of -/
theorem sc_mask_of : FnScope ["bits", "mask", "bit"] ["bits"] (defScope s_mask_of) := ⟨rfl, rfl, rfl, by decide +kernel, rfl, by decide +kernel, by decide +kernel⟩
def maskF (l : List Int) : Nat := l.foldl (fun m p => m ||| 2 ^ p.toNat) 0
theorem maskF_ok {l : List Int} (h : ∀ p ∈ l, 0 ≤ p) : MaskOf (maskF l) l := by
  have key : ∀ n, n ≤ l.length → MaskOf (maskF (l.take n)) (l.take n) := by
    intro n
    induction n with
    | zero => intro _ p; simp [maskF]
    | succ n ih =>
      intro hn
      have hx : l[n]? = some l[n] := List.getElem?_eq_getElem (by omega)
      obtain ⟨m, hm⟩ := Int.eq_ofNat_of_zero_le (h l[n] (List.getElem_mem _))
      have e : maskF (l.take (n + 1)) = maskF (l.take n) ||| 2 ^ m := by
        unfold maskF
        rw [List.take_add_one, hx, Option.toList_some, List.foldl_append, hm]; simp
      rw [e, List.take_add_one, hx, Option.toList_some, hm]
      exact mask_add (ih (by omega))
  have := key l.length (Nat.le_refl _)
  rwa [List.take_length] at this
def sp_mask_of (T : Txt K mg) : Sp := fun vs H Q _ => ∃ (l : List Int) (b : Bool), ((∀ p ∈ l, 0 ≤ p ∧ p < 60) ∧ l.length ≤ 1000) ∧ Prom [D K (dW b l)] [] (D K (.int (maskF l : Nat))) [] vs H Q
theorem sp_mask_of_len {T : Txt K mg} {vs H Q E} (h : sp_mask_of T vs H Q E) : vs.length = 1 := by obtain ⟨_, _, _, h⟩ := h; exact h.len
set_option maxHeartbeats 4000000 in
theorem ok_mask_of (T : Txt K mg) : FnOk P wo K mg base CX0 1 T.f_mask_of T.d_mask_of ["bits"] (sp_mask_of T) := by
  have nd := (sc_mask_of).nd
  refine T.F_mask_of.ok sc_mask_of (fun vs H Q E h => (sp_mask_of_len h)) (fun cdv A outer s H vs Q E hr h => ?_)
  obtain ⟨l, b, ⟨lok, ll⟩, F, w, ps, k⟩ := h
  refine ⟨_, (pss_cons (ps_set (i := 1) nd rfl (Or.inl rfl) pe_int)
    (pss_cons (ps_for PassesOwn.never rfl (pi_or (pi_tupK (K := K) rfl (pv 0)) (pi_listK (K := K) rfl (pv 0))) (pg_name (i := 2) nd rfl (by first | exact Or.inl rfl | exact Or.inr rfl))
     (pss_one (ps_set (i := 1) nd rfl (Or.inl rfl) (pe_op op_or (pv 1) (pe_op op_shl pe_int (pv 2))))))
    (pss_one (ps_ret (pv 1))))), ?_⟩
  refine go_start w ps (Γ := [some (D K (dW b l)), none, none]) rfl ?_
  refine (q_asg (ev_int (K := K) (i := 0)) ?_)
  dsimp only [List.set]
  refine (q_forW (v := 0) rfl (fun j Γ M => ∃ (g2 : Option MP), Γ = [some (D K (dW b l)), some (D K (.int (maskF (l.take j) : Nat))), g2] ∧ M = []) ⟨none, rfl, rfl⟩ ?_ ?_)
  · rintro E2 hE2 j p hp _ _ ⟨g2, rfl, rfl⟩
    have hp2 := lok p (List.mem_of_getElem? hp)
    obtain ⟨pn, rfl⟩ := Int.eq_ofNat_of_zero_le hp2.1
    dsimp only [List.set]
    refine go_asg (P := D K (.int (maskF (l.take (j + 1)) : Nat))) ((ev_op (ev_var (i := 1) rfl) (ev_op (ev_int (K := K) (i := 1)) (ev_var (i := 2) rfl) (rv_ic (C := CPow) (g := fun i j => i * 2 ^ j.toNat) ⟨by omega, by omega, by decide⟩)) (rv_i0 (g := PySem.Builtin.bitOr))).is ?_) (JA.of ⟨_, rfl, rfl⟩)
    have e : PySem.Builtin.bitOr ((maskF (l.take j) : Nat) : Int) (1 * 2 ^ ((pn : Int)).toNat) = ((maskF (l.take j) ||| 2 ^ pn : Nat) : Int) := by
      rw [Int.toNat_natCast, Int.one_mul, show ((2 : Int) ^ pn) = ((2 ^ pn : Nat) : Int) by simp, bor_nat]
    rw [e]
    congr 3
    unfold maskF
    rw [List.take_add_one, hp, Option.toList_some, List.foldl_append]; rfl
  · rintro _ _ ⟨g2, rfl, rfl⟩
    rw [List.take_length]
    exact go_ret Le.refl (ev_var (i := 1) rfl) k
theorem use_mask_of {T : Txt K mg} {tr : TA} {Γ : Gm} {M M1 : Ms} {l : List Int} {b : Bool} {X : XK} (h : EvA tr Γ M [D K (dW b l)] M1) (hn : (∀ p ∈ l, 0 ≤ p ∧ p < 60) ∧ l.length ≤ 1000) : Ev (tCall (sp_mask_of T) [] X tr) Γ M (D K (.int (maskF l : Nat))) M1 :=
  call0 h fun vs H Q z => ⟨l, b, hn, z⟩
/-! ### empty_table -/
theorem sc_empty_table : FnScope ["many"] ["many"] (defScope s_empty_table) := ⟨rfl, rfl, rfl, by decide +kernel, rfl, by decide +kernel, by decide +kernel⟩
structure GI (k : Nat) (ls : Lets) (w lam : List Int) : Prop where
  A : AlphaOk (k : Int) ls
  W : WordOk ls w
  L : LbOk ls w lam
  B : LbB lam 3000
theorem GI.k4 {k : Nat} {ls : Lets} {w lam : List Int} (h : GI k ls w lam) : 1 ≤ k ∧ k ≤ 4 := by have := h.A.k1; have := h.A.k4; omega
def sp_empty_table (T : Txt K mg) : Sp := fun vs H Q _ => ∃ (k : Nat), k ≤ 4 ∧ Prom [D K (.int (k : Int))] [] (D K (dT (List.replicate (k * (k * k)) 0))) [] vs H Q
theorem sp_empty_table_len {T : Txt K mg} {vs H Q E} (h : sp_empty_table T vs H Q E) : vs.length = 1 := by obtain ⟨_, _, h⟩ := h; exact h.len
set_option maxHeartbeats 4000000 in
theorem ok_empty_table (T : Txt K mg) : FnOk P wo K mg base CX0 1 T.f_empty_table T.d_empty_table ["many"] (sp_empty_table T) := by
  have nd := (sc_empty_table).nd
  refine T.F_empty_table.ok sc_empty_table (fun vs H Q E h => (sp_empty_table_len h)) (fun cdv A outer s H vs Q E hr h => ?_)
  obtain ⟨n, hn, F, w, pp, k⟩ := h
  refine ⟨_, (pss_one (ps_ret (pe_callTy (c_tuple (K := K) rfl) (by rfl) T.z_tuple (by decide +kernel) (pa_cons (pe_op op_rep (pe_lst (pa_cons pe_int pa_nil)) (pe_op op_mul (pe_op op_mul (pv 0) (pv 0)) (pv 0))) pa_nil)))), ?_⟩
  refine go_start w pp (Γ := [some (D K (.int (n : Int)))]) rfl ?_
  have small : n * (n * n) ≤ 64 := by
    match n, hn with
    | 0, _ => decide
    | 1, _ => decide
    | 2, _ => decide
    | 3, _ => decide
    | 4, _ => decide
  have hp := evn_rep (K := K) (Γ := [some (D K (.int (n : Int)))]) (M := []) (M1 := []) (z := ((n * (n * n) : Nat) : Int)) (evn_lst (ps := [D K (.int 0)]) (ea_cons (ev_int (K := K) (i := 0)) ea_nil) (by simp)) (fun M => (ev_op (ev_op (ev_var (i := 0) rfl) (ev_var (i := 0) rfl) (rv_ic (C := CMul) (g := fun i j => i * j) (by right; omega))) (ev_var (i := 0) rfl) (rv_ic (C := CMul) (g := fun i j => i * j) (by right; omega))).is (by congr 2; rw [Int.natCast_mul, Int.natCast_mul, Int.mul_assoc])) (by omega)
  rw [Int.toNat_natCast] at hp
  exact go_ret Le.refl ((ev_cb (ea_cons (ev_newL hp) ea_nil) rc_tupleL).weak (MP.le_trans (MP.of_eq (by rw [List.map_replicate])) (dT_le (l := List.replicate (n * (n * n)) 0)))) k
theorem use_empty_table {T : Txt K mg} {tr : TA} {Γ : Gm} {M M1 : Ms} {k : Nat} {X : XK} (h : EvA tr Γ M [D K (.int (k : Int))] M1) (hn : k ≤ 4) : Ev (tCall (sp_empty_table T) [] X tr) Γ M (D K (dT (List.replicate (k * (k * k)) 0))) M1 :=
  call0 h fun vs H Q z => ⟨k, hn, z⟩
/-! ### known_row -/
theorem sc_known_row : FnScope ["many", "table", "place", "at"] ["many", "table", "place"] (defScope s_known_row) := ⟨rfl, rfl, rfl, by decide +kernel, rfl, by decide +kernel, by decide +kernel⟩
theorem cut_mid {l : List Int} {a b : Nat} (hb : a + b ≤ l.length) : cutI l (some (a : Int)) (some ((a + b : Nat) : Int)) = (l.drop a).take b := by
  unfold cutI
  rw [HT.sIx_nat, HT.sIx_nat, Nat.min_eq_left (a := a) (b := l.length) (by omega), Nat.min_eq_left hb, Nat.add_sub_cancel_left]
theorem row_end {k q r : Nat} (hq : q < k) (hr : r < k) : (q * k + r) * k + k ≤ k * (k * k) := by
  have h1 : (q * k + r) + 1 ≤ k * k := by
    have : (q + 1) * k ≤ k * k := Nat.mul_le_mul_right k hq
    rw [Nat.succ_mul] at this
    omega
  have := Nat.mul_le_mul_right k h1
  rw [Nat.succ_mul] at this
  rw [← Nat.mul_assoc]
  exact this
def sp_known_row (T : Txt K mg) : Sp := fun vs H Q _ => ∃ (k : Nat) (ls : Lets) (w lam : List Int) (p : Int) (q : Nat), (k ≤ 4 ∧ q < k) ∧ Prom [D K (.int (k : Int)), D K (dT (tab ls w lam k p)), D K (.int (q : Int))] [] (D K (dT (trow ls w lam k p q q))) [] vs H Q
theorem sp_known_row_len {T : Txt K mg} {vs H Q E} (h : sp_known_row T vs H Q E) : vs.length = 3 := by obtain ⟨_, _, _, _, _, _, _, h⟩ := h; exact h.len
set_option maxHeartbeats 4000000 in
theorem ok_known_row (T : Txt K mg) : FnOk P wo K mg base CX0 1 T.f_known_row T.d_known_row ["many", "table", "place"] (sp_known_row T) := by
  have nd := (sc_known_row).nd
  refine T.F_known_row.ok sc_known_row (fun vs H Q E h => (sp_known_row_len h)) (fun cdv A outer s H vs Q E hr h => ?_)
  obtain ⟨n, ls, wd, lam, p, q, ⟨hn, hq⟩, F, w, pp, k⟩ := h
  refine ⟨_, (pss_cons (ps_set (i := 3) nd rfl (Or.inl rfl) (pe_op op_mul (pe_op op_add (pe_op op_mul (pv 2) (pv 0)) (pv 2)) (pv 0)))
    (pss_one (ps_ret (pe_slice (c_slT (K := K) rfl) (pv 1) (po_some (pv 3)) (po_some (pe_op op_add (pv 3) (pv 0))))))), ?_⟩
  refine go_start w pp (Γ := [some (D K (.int (n : Int))), some (D K (dT (tab ls wd lam n p))), some (D K (.int (q : Int))), none]) rfl ?_
  refine (q_asg (P := D K (.int (((q * n + q) * n : Nat) : Int))) ((ev_op (ev_op (ev_op (ev_var (i := 2) rfl) (ev_var (i := 0) rfl) (rv_ic (C := CMul) (g := fun i j => i * j) (by right; omega))) (ev_var (i := 2) rfl) (rv_i0 (g := fun i j => i + j))) (ev_var (i := 0) rfl) (rv_ic (C := CMul) (g := fun i j => i * j) (by right; omega))).is (by congr 2)) ?_)
  dsimp only [List.set]
  have sl := ev_slT (K := K) (l := tab ls wd lam n p) (te := tVar 1) (Γ := [some (D K (.int (n : Int))), some (D K (dT (tab ls wd lam n p))), some (D K (.int (q : Int))), some (D K (.int (((q * n + q) * n : Nat) : Int)))]) (M := []) (ev_var (i := 1) rfl) (ep_some (ev_var (i := 3) rfl)) (ep_some ((ev_op (ev_var (i := 3) rfl) (ev_var (i := 0) rfl) (rv_i0 (g := fun i j => i + j))).is (P' := D K (.int (((q * n + q) * n + n : Nat) : Int))) (by congr 2)))
  rw [cut_mid (by rw [tab_len]; exact row_end hq hq), tbl_row hq hq] at sl
  exact go_ret Le.refl sl k
theorem use_known_row {T : Txt K mg} {tr : TA} {Γ : Gm} {M M1 : Ms} {k : Nat} {ls : Lets} {w lam : List Int} {p : Int} {q : Nat} {X : XK} (h : EvA tr Γ M [D K (.int (k : Int)), D K (dT (tab ls w lam k p)), D K (.int (q : Int))] M1) (hn : k ≤ 4 ∧ q < k) : Ev (tCall (sp_known_row T) [] X tr) Γ M (D K (dT (trow ls w lam k p q q))) M1 :=
  call0 h fun vs H Q z => ⟨k, ls, w, lam, p, q, hn, z⟩
/-! ### known_label -/
theorem sc_known_label : FnScope ["many", "table", "place"] ["many", "table", "place"] (defScope s_known_label) := ⟨rfl, rfl, rfl, by decide +kernel, rfl, by decide +kernel, by decide +kernel⟩
def sp_known_label (T : Txt K mg) : Sp := fun vs H Q _ => ∃ (k : Nat) (ls : Lets) (w lam : List Int) (p : Int) (q : Nat), (k ≤ 4 ∧ q < k) ∧ Prom [D K (.int (k : Int)), D K (dT (tab ls w lam k p)), D K (.int (q : Int))] [] (D K (.int (ent ls w lam q q q p))) [] vs H Q
theorem sp_known_label_len {T : Txt K mg} {vs H Q E} (h : sp_known_label T vs H Q E) : vs.length = 3 := by obtain ⟨_, _, _, _, _, _, _, h⟩ := h; exact h.len
set_option maxHeartbeats 4000000 in
theorem ok_known_label (T : Txt K mg) : FnOk P wo K mg base CX0 1 T.f_known_label T.d_known_label ["many", "table", "place"] (sp_known_label T) := by
  have nd := (sc_known_label).nd
  refine T.F_known_label.ok sc_known_label (fun vs H Q E h => (sp_known_label_len h)) (fun cdv A outer s H vs Q E hr h => ?_)
  obtain ⟨n, ls, wd, lam, p, q, ⟨hn, hq⟩, F, w, pp, k⟩ := h
  refine ⟨_, (pss_one (ps_ret (pe_ix (c_ix (K := K) rfl) (pv 1) (pe_op op_add (pe_op op_mul (pe_op op_add (pe_op op_mul (pv 2) (pv 0)) (pv 2)) (pv 0)) (pv 2)) (fun _ _ => rfl)))), ?_⟩
  refine go_start w pp (Γ := [some (D K (.int (n : Int))), some (D K (dT (tab ls wd lam n p))), some (D K (.int (q : Int)))]) rfl ?_
  exact go_ret Le.refl (ev_op (ev_var (i := 1) rfl) ((ev_op (ev_op (ev_op (ev_op (ev_var (i := 2) rfl) (ev_var (i := 0) rfl) (rv_ic (C := CMul) (g := fun i j => i * j) (by right; omega))) (ev_var (i := 2) rfl) (rv_i0 (g := fun i j => i + j))) (ev_var (i := 0) rfl) (rv_ic (C := CMul) (g := fun i j => i * j) (by right; omega))) (ev_var (i := 2) rfl) (rv_i0 (g := fun i j => i + j))).is (P' := D K (.int (((q * n + q) * n + q : Nat) : Int))) (by congr 2)) (rv_ixDT (by omega) (by rw [Int.toNat_natCast, List.getElem?_map, tab_get hq hq hq]; rfl))) k
theorem use_known_label {T : Txt K mg} {tr : TA} {Γ : Gm} {M M1 : Ms} {k : Nat} {ls : Lets} {w lam : List Int} {p : Int} {q : Nat} {X : XK} (h : EvA tr Γ M [D K (.int (k : Int)), D K (dT (tab ls w lam k p)), D K (.int (q : Int))] M1) (hn : k ≤ 4 ∧ q < k) : Ev (tCall (sp_known_label T) [] X tr) Γ M (D K (.int (ent ls w lam q q q p))) M1 :=
  call0 h fun vs H Q z => ⟨k, ls, w, lam, p, q, hn, z⟩
/-! ### known_labels -/
theorem sc_known_labels : FnScope ["many", "table", "place"] ["many", "table"] (defScope s_known_labels) := ⟨rfl, rfl, rfl, by decide +kernel, rfl, by decide +kernel, by decide +kernel⟩
noncomputable abbrev klab (ls : Lets) (w lam : List Int) (k : Nat) (p : Int) : List Int := (List.range k).map fun q : Nat => ent ls w lam q q q p
def sp_known_labels (T : Txt K mg) : Sp := fun vs H Q _ => ∃ (k : Nat) (ls : Lets) (w lam : List Int) (p : Int), k ≤ 4 ∧ Prom [D K (.int (k : Int)), D K (dT (tab ls w lam k p))] [] (D K (dT (klab ls w lam k p))) [] vs H Q
theorem sp_known_labels_len {T : Txt K mg} {vs H Q E} (h : sp_known_labels T vs H Q E) : vs.length = 2 := by obtain ⟨_, _, _, _, _, _, h⟩ := h; exact h.len
set_option maxHeartbeats 4000000 in
theorem ok_known_labels (T : Txt K mg) : FnOk P wo K mg base CX0 2 T.f_known_labels T.d_known_labels ["many", "table"] (sp_known_labels T) := by
  have nd := (sc_known_labels).nd
  refine T.F_known_labels.ok sc_known_labels (fun vs H Q E h => (sp_known_labels_len h)) (fun cdv A outer s H vs Q E hr h => ?_)
  obtain ⟨n, ls, wd, lam, p, hn, F, w, pp, k⟩ := h
  refine ⟨_, (pss_one (ps_ret (pe_callTy (c_tuple (K := K) rfl) (by rfl) T.z_tuple (by decide +kernel) (pa_cons (pe_lc (own := [("place", 2)]) (by rfl) nd (pi_range1 (by rfl) T.z_range (pa_cons (pv 0) pa_nil)) (blkOk_by (N := ["many", "table", "place"]) (sc := defScope s_known_labels) (own := [("place", 2)]) (by decide +kernel)) (fun _ _ _ _ _ => pg_name (i := 2) nd rfl (by first | exact Or.inl rfl | exact Or.inr rfl)) (fun _ _ _ _ _ => pts_nil) (fun _ _ _ _ _ => (pe_call (ok_known_label T) (hr.mono (by decide)) rfl T.m_known_label T.F_known_label.kp T.b_known_label .nil pass0 (pa_cons (pv 0) (pa_cons (pv 1) (pa_cons (pv 2) pa_nil)))))) pa_nil)))), ?_⟩
  refine go_start w pp (Γ := [some (D K (.int (n : Int))), some (D K (dT (tab ls wd lam n p))), none]) rfl ?_
  have lc := evn_lcR (K := K) (z := (n : Int)) (i := 2) (G := fun q : Nat => D K (.int (ent ls wd lam q q q p))) (M := []) (M1 := []) (Γ := [some (D K (.int (n : Int))), some (D K (dT (tab ls wd lam n p))), none]) (t := tYes) (fun _ => true) (ea_cons (ev_var (i := 0) rfl) ea_nil) (by omega) (fun _ _ => et_yes) (fun q hq _ => use_known_label (T := T) (X := E0) (ea_cons (ev_var (i := 0) rfl) (ea_cons (ev_var (i := 1) rfl) (ea_cons (ev_var (i := 2) rfl) ea_nil))) ⟨hn, by omega⟩)
  rw [filter_true, Int.toNat_natCast] at lc
  exact go_ret Le.refl ((ev_cb (ea_cons (ev_newL lc) ea_nil) rc_tupleL).weak (MP.le_trans (MP.of_eq (by rw [List.map_map]; rfl)) (dT_le (l := klab ls wd lam n p)))) k
theorem use_known_labels {T : Txt K mg} {tr : TA} {Γ : Gm} {M M1 : Ms} {k : Nat} {ls : Lets} {w lam : List Int} {p : Int} {X : XK} (h : EvA tr Γ M [D K (.int (k : Int)), D K (dT (tab ls w lam k p))] M1) (hn : k ≤ 4) : Ev (tCall (sp_known_labels T) [] X tr) Γ M (D K (dT (klab ls w lam k p))) M1 :=
  call0 h fun vs H Q z => ⟨k, ls, w, lam, p, hn, z⟩
end
end My
namespace My
open PySem L2 Hq
local macro_rules | `(tactic| trivial) => `(tactic| omega)
section
variable {P : Program} {wo : World} {K : PySem.W.Frag} {mg : Str → Option Value} {base : Heap}
/-! ### _is_known -/
theorem sc__is_known : FnScope ["many", "first", "second", "place", "label", "common", "other", "row"] ["many", "first", "second", "place"] (defScope s__is_known) := ⟨rfl, rfl, rfl, by decide +kernel, rfl, by decide +kernel, by decide +kernel⟩
theorem dT_at {l : List Int} {n : Nat} {x : Int} (h : l[n]? = some x) : (l.map PyData.int)[((n : Int)).toNat]? = some (.int x) := by rw [Int.toNat_natCast, List.getElem?_map, h]; rfl
theorem trow_at {ls : Lets} {w lam : List Int} {k : Nat} {p : Int} {q r s : Nat} (hs : s < k) : (trow ls w lam k p q r)[s]? = some (ent ls w lam q r s p) := by
  unfold trow; rw [List.getElem?_map, List.getElem?_range hs]; rfl
def sp__is_known (T : Txt K mg) : Sp := fun vs H Q _ => ∃ (k : Nat) (ls : Lets) (w lam : List Int) (p1 p2 : Int) (q e : Nat), (GI k ls w lam ∧ q < k ∧ vw ls w q p1 = (e : Int)) ∧ Prom [D K (.int (k : Int)), D K (dT (tab ls w lam k p1)), D K (dT (tab ls w lam k p2)), D K (.int (q : Int))] [] (D K (.bool (inView ls w p2 e))) [] vs H Q
theorem sp__is_known_len {T : Txt K mg} {vs H Q E} (h : sp__is_known T vs H Q E) : vs.length = 4 := by obtain ⟨_, _, _, _, _, _, _, _, _, h⟩ := h; exact h.len
set_option maxHeartbeats 4000000 in
theorem ok__is_known (T : Txt K mg) : FnOk P wo K mg base CX0 3 T.f__is_known T.d__is_known ["many", "first", "second", "place"] (sp__is_known T) := by
  have nd := (sc__is_known).nd
  refine T.F__is_known.ok sc__is_known (fun vs H Q E h => (sp__is_known_len h)) (fun cdv A outer s H vs Q E hr h => ?_)
  obtain ⟨n, ls, wd, lam, p1, p2, q, e, ⟨G, hq, he⟩, F, w, pp, k⟩ := h
  refine ⟨_, (pss_cons (ps_set (i := 4) nd rfl (Or.inl rfl) (pe_call (ok_known_label T) (hr.mono (by decide)) rfl T.m_known_label T.F_known_label.kp T.b_known_label .nil pass0 (pa_cons (pv 0) (pa_cons (pv 1) (pa_cons (pv 3) pa_nil)))))
    (pss_cons (ps_set (i := 5) nd rfl (Or.inl rfl) (pe_call (ok_known_labels T) (hr.mono (by decide)) rfl T.m_known_labels T.F_known_labels.kp T.b_known_labels .nil pass0 (pa_cons (pv 0) (pa_cons (pv 2) pa_nil))))
    (pss_cons (ps_for PassesOwn.never rfl (pi_range1 (by rfl) T.z_range (pa_cons (pv 0) pa_nil)) (pg_name (i := 6) nd rfl (by first | exact Or.inl rfl | exact Or.inr rfl))
     (pss_cons (ps_set (i := 7) nd rfl (Or.inl rfl) (pe_call (ok_known_row T) (hr.mono (by decide)) rfl T.m_known_row T.F_known_row.kp T.b_known_row .nil pass0 (pa_cons (pv 0) (pa_cons (pv 1) (pa_cons (pv 6) pa_nil)))))
     (pss_one (ps_if (PW.pt (pw_and (pt_cmpR op_ne (pe_ix (c_ix (K := K) rfl) (pv 7) (pv 6) (fun _ _ => rfl)) pe_int (nomark _)) (pw_and (pt_cmpR (c_in (K := K) rfl) (pe_ix (c_ix (K := K) rfl) (pv 7) (pv 6) (fun _ _ => rfl)) (pv 5) (by rfl)) (pw_and1 (pt_cmpR op_eq (pe_ix (c_ix (K := K) rfl) (pv 7) (pv 3) (fun _ _ => rfl)) (pv 4) (nomark _)))))) (pss_one (ps_ret pe_bl)) pss_nil))))
    (pss_one (ps_ret pe_bl))))), ?_⟩
  obtain ⟨_, hn⟩ := G.k4
  have kn := known_iff (p2 := p2) G.A G.W G.L he
  refine go_start w pp (Γ := [some (D K (.int (n : Int))), some (D K (dT (tab ls wd lam n p1))), some (D K (dT (tab ls wd lam n p2))), some (D K (.int (q : Int))), none, none, none, none]) rfl ?_
  refine (q_asg (use_known_label (ea_cons (ev_var (i := 0) rfl) (ea_cons (ev_var (i := 1) rfl) (ea_cons (ev_var (i := 3) rfl) ea_nil))) ⟨hn, hq⟩) ?_)
  dsimp only [List.set]
  refine (q_asg (use_known_labels (ea_cons (ev_var (i := 0) rfl) (ea_cons (ev_var (i := 2) rfl) ea_nil)) hn) ?_)
  dsimp only [List.set]
  refine (q_forR (ea_cons (ev_var (i := 0) rfl) ea_nil) (by omega) (by omega) (fun i Γ M => ∃ g6 g7 : Option MP, Γ = [some (D K (.int (n : Int))), some (D K (dT (tab ls wd lam n p1))), some (D K (dT (tab ls wd lam n p2))), some (D K (.int (q : Int))), some (D K (.int (ent ls wd lam q q q p1))), some (D K (dT (klab ls wd lam n p2))), g6, g7] ∧ M = [] ∧ ∀ o : Nat, o < i → ¬ (lb lam (vw ls wd o p1) ≠ 0 ∧ (∃ y : Int, (0 ≤ y ∧ y < n) ∧ lb lam (vw ls wd y p2) = lb lam (vw ls wd o p1)) ∧ lb lam (nb ls wd q (vw ls wd o p1)) = lb lam (vw ls wd q p1))) ⟨_, _, rfl, rfl, fun o ho => absurd ho (Nat.not_lt_zero _)⟩ ?_ ?_)
  · rintro o ho _ _ ⟨g6, g7, rfl, rfl, no⟩
    have ho : o < n := by omega
    dsimp only [List.set]
    refine (q_asg (use_known_row (ea_cons (ev_var (i := 0) rfl) (ea_cons (ev_var (i := 1) rfl) (ea_cons (ev_var (i := 6) rfl) ea_nil))) ⟨hn, ho⟩) ?_)
    dsimp only [List.set]
    have ro := fun {Γ : Gm} (h6 : Γ[6]? = some (some (D K (.int (o : Int))))) (h7 : Γ[7]? = some (some (D K (dT (trow ls wd lam n p1 o o))))) => (ev_op (M := []) (ev_var (P := D K (dT (trow ls wd lam n p1 o o))) (i := 7) h7) (ev_var (P := D K (.int (o : Int))) (i := 6) h6) (rv_ixDT (by omega) (dT_at (trow_at ho)))).is (P' := D K (.int (lb lam (vw ls wd o p1)))) (by rw [ent_prim2])
    refine go_if (et_and (a := !decide (lb lam (vw ls wd o p1) = 0)) (b := _) (et_test (ev_op (ro rfl rfl) (ev_int (K := K) (i := 0)) rv_neI)) fun _ => et_and (a := decide (lb lam (vw ls wd o p1) ∈ klab ls wd lam n p2)) (b := decide (lb lam (nb ls wd q (vw ls wd o p1)) = lb lam (vw ls wd q p1))) ((et_test (ev_op (ro rfl rfl) (ev_var (i := 5) rfl) (rv_inT (neg := false)))).is rfl) fun _ => (et_test (ev_op (ev_op (ev_var (i := 7) rfl) (ev_var (i := 3) rfl) (rv_ixDT (by omega) (dT_at (trow_at hq)))) (ev_var (i := 4) rfl) rv_eqI)).is (by rw [ent_prim, ent_prim2])) (fun hz => ?_) fun hz => go_next (JA.of ⟨_, _, rfl, rfl, fun o' ho' => ?_⟩)
    · have hz := hz.symm
      simp only [Bool.and_eq_true, Bool.not_eq_true', decide_eq_false_iff_not, decide_eq_true_iff] at hz
      obtain ⟨z1, z2, z3⟩ := hz
      have z2 : ∃ y : Int, (0 ≤ y ∧ y < n) ∧ lb lam (vw ls wd y p2) = lb lam (vw ls wd o p1) := by
        obtain ⟨y, hy, e⟩ := List.mem_map.mp z2
        have := List.mem_range.mp hy
        exact ⟨y, ⟨by omega, by omega⟩, by rw [← e, ent_prim2]⟩
      rw [kn.mp ⟨o, ⟨by omega, by omega⟩, z1, z2, z3⟩] at k
      exact go_ret Le.refl (ev_bl (K := K)) k
    · rcases Nat.lt_succ_iff_lt_or_eq.mp ho' with h | rfl
      · exact no o' h
      · rintro ⟨z1, ⟨y, ⟨y0, y1⟩, z2⟩, z3⟩
        have hz := hz.symm
        rw [Bool.and_eq_false_iff, Bool.and_eq_false_iff] at hz
        rcases hz with h | h | h
        · simp [z1] at h
        · rw [decide_eq_false_iff_not] at h
          exact h (List.mem_map.mpr ⟨y.toNat, List.mem_range.mpr (by omega), by rw [Int.toNat_of_nonneg y0, ent_prim2]; exact z2⟩)
        · rw [decide_eq_false_iff_not] at h
          exact h z3
  · rintro _ _ ⟨g6, g7, rfl, rfl, no⟩
    rw [Int.toNat_natCast] at no
    have e : inView ls wd p2 e = false := by
      rw [Bool.eq_false_iff]
      intro c
      obtain ⟨o, ⟨o0, o1⟩, h⟩ := kn.mpr c
      obtain ⟨m, rfl⟩ := Int.eq_ofNat_of_zero_le o0
      exact no m (by omega) h
    rw [e] at k
    exact go_ret Le.refl (ev_bl (K := K)) k
theorem use__is_known {T : Txt K mg} {tr : TA} {Γ : Gm} {M M1 : Ms} {k : Nat} {ls : Lets} {w lam : List Int} {p1 p2 : Int} {q e : Nat} {X : XK} (h : EvA tr Γ M [D K (.int (k : Int)), D K (dT (tab ls w lam k p1)), D K (dT (tab ls w lam k p2)), D K (.int (q : Int))] M1) (hn : GI k ls w lam ∧ q < k ∧ vw ls w q p1 = (e : Int)) : Ev (tCall (sp__is_known T) [] X tr) Γ M (D K (.bool (inView ls w p2 e))) M1 :=
  call0 h fun vs H Q z => ⟨k, ls, w, lam, p1, p2, q, e, hn, z⟩
/-! ### compare_tables -/
theorem sc_compare_tables : FnScope ["many", "first", "second", "place", "one", "other"] ["many", "first", "second", "place"] (defScope s_compare_tables) := ⟨rfl, rfl, rfl, by decide +kernel, rfl, by decide +kernel, by decide +kernel⟩
def sp_compare_tables (T : Txt K mg) : Sp := fun vs H Q _ => ∃ (k : Nat) (ls : Lets) (w lam : List Int) (p1 p2 : Int) (q : Nat), (GI k ls w lam ∧ q < k) ∧ Prom [D K (.int (k : Int)), D K (dT (tab ls w lam k p1)), D K (dT (tab ls w lam k p2)), D K (.int (q : Int))] [] (D K (.int (cmpV ls w q p1 p2))) [] vs H Q
theorem sp_compare_tables_len {T : Txt K mg} {vs H Q E} (h : sp_compare_tables T vs H Q E) : vs.length = 4 := by obtain ⟨_, _, _, _, _, _, _, _, h⟩ := h; exact h.len
set_option maxHeartbeats 4000000 in
theorem ok_compare_tables (T : Txt K mg) : FnOk P wo K mg base CX0 4 T.f_compare_tables T.d_compare_tables ["many", "first", "second", "place"] (sp_compare_tables T) := by
  have nd := (sc_compare_tables).nd
  refine T.F_compare_tables.ok sc_compare_tables (fun vs H Q E h => (sp_compare_tables_len h)) (fun cdv A outer s H vs Q E hr h => ?_)
  obtain ⟨n, ls, wd, lam, p1, p2, q, ⟨G, hq⟩, F, w, pp, k⟩ := h
  refine ⟨_, (pss_cons (ps_set (i := 4) nd rfl (Or.inl rfl) (pe_call (ok_known_label T) (hr.mono (by decide)) rfl T.m_known_label T.F_known_label.kp T.b_known_label .nil pass0 (pa_cons (pv 0) (pa_cons (pv 1) (pa_cons (pv 3) pa_nil)))))
    (pss_cons (ps_set (i := 5) nd rfl (Or.inl rfl) (pe_call (ok_known_label T) (hr.mono (by decide)) rfl T.m_known_label T.F_known_label.kp T.b_known_label .nil pass0 (pa_cons (pv 0) (pa_cons (pv 2) (pa_cons (pv 3) pa_nil)))))
    (pss_cons (ps_if (pt_cmpR op_eq (pv 4) (pv 5) (nomark _)) (pss_one (ps_ret pe_int)) pss_nil)
    (pss_cons (ps_if (PW.pt (pw_or (pt_cmpR op_eq (pv 4) pe_int (nomark _)) (pw_or1 (pt_val (pe_call (ok__is_known T) (hr.mono (by decide)) rfl T.m__is_known T.F__is_known.kp T.b__is_known .nil pass0 (pa_cons (pv 0) (pa_cons (pv 1) (pa_cons (pv 2) (pa_cons (pv 3) pa_nil))))))))) (pss_one (ps_ret (pe_un un_neg pe_int))) pss_nil)
    (pss_one (ps_ret pe_int)))))), ?_⟩
  obtain ⟨_, hn⟩ := G.k4
  have r1 : -1 ≤ vw ls wd q p1 := (nd_rng (D := fun e => inView ls wd p1 e = true)).1
  have r2 : -1 ≤ vw ls wd q p2 := (nd_rng (D := fun e => inView ls wd p2 e = true)).1
  refine go_start w pp (Γ := [some (D K (.int (n : Int))), some (D K (dT (tab ls wd lam n p1))), some (D K (dT (tab ls wd lam n p2))), some (D K (.int (q : Int))), none, none]) rfl ?_
  refine (q_asg ((use_known_label (ea_cons (ev_var (i := 0) rfl) (ea_cons (ev_var (i := 1) rfl) (ea_cons (ev_var (i := 3) rfl) ea_nil))) ⟨hn, hq⟩).is (P' := D K (.int (lb lam (vw ls wd q p1)))) (by rw [ent_prim2])) ?_)
  dsimp only [List.set]
  refine (q_asg ((use_known_label (ea_cons (ev_var (i := 0) rfl) (ea_cons (ev_var (i := 2) rfl) (ea_cons (ev_var (i := 3) rfl) ea_nil))) ⟨hn, hq⟩).is (P' := D K (.int (lb lam (vw ls wd q p2)))) (by rw [ent_prim2])) ?_)
  dsimp only [List.set]
  refine (q_if (et_test (ev_op (ev_var (i := 4) rfl) (ev_var (i := 5) rfl) rv_eqI)) (fun hz => ?_) fun hz => go_next ?_)
  · have hz : vw ls wd q p1 = vw ls wd q p2 := (lb_vw G.L).mp (by simpa using hz)
    unfold cmpV at k
    rw [if_pos hz] at k
    exact go_ret Le.refl (ev_int (K := K)) k
  have ne : vw ls wd q p1 ≠ vw ls wd q p2 := fun c => by
    have := (lb_vw G.L).mpr c
    simp [this] at hz
  unfold cmpV at k
  rw [if_neg ne] at k
  dsimp only
  by_cases c0 : vw ls wd q p1 = -1
  · refine (q_if (et_or (a := true) (b := true) ((et_test (ev_op (ev_var (i := 4) rfl) (ev_int (K := K) (i := 0)) rv_eqI)).is (by simpa using (lb_zero G.L).mpr c0)) fun h => absurd h (by simp)) (fun _ => ?_) fun hz => absurd hz (by simp))
    rw [if_pos (by omega)] at k
    exact go_ret Le.refl (ev_neg (ev_int (K := K) (i := 1))) k
  · obtain ⟨e, he⟩ := Int.eq_ofNat_of_zero_le (show 0 ≤ vw ls wd q p1 by omega)
    have kl := known_lt (p2 := p2) he
    refine (q_if (et_or (a := false) (b := inView ls wd p2 e) ((et_test (ev_op (ev_var (i := 4) rfl) (ev_int (K := K) (i := 0)) rv_eqI)).is (by simpa using fun h => c0 ((lb_zero G.L).mp h))) fun _ => et_val (use__is_known (e := e) (ea_cons (ev_var (i := 0) rfl) (ea_cons (ev_var (i := 1) rfl) (ea_cons (ev_var (i := 2) rfl) (ea_cons (ev_var (i := 3) rfl) ea_nil)))) ⟨G, hq, he⟩)) (fun hz => ?_) fun hz => go_next ?_)
    · have hz : inView ls wd p2 e = true := by simpa using hz.symm
      have := kl.mp hz
      rw [if_pos (by omega)] at k
      exact go_ret Le.refl (ev_neg (ev_int (K := K) (i := 1))) k
    · have hz : inView ls wd p2 e = false := by simpa using hz.symm
      rw [if_neg (fun c => by have := kl.mpr (by omega); rw [hz] at this; cases this)] at k
      dsimp only
      exact go_ret Le.refl (ev_int (K := K) (i := 1)) k
theorem use_compare_tables {T : Txt K mg} {tr : TA} {Γ : Gm} {M M1 : Ms} {k : Nat} {ls : Lets} {w lam : List Int} {p1 p2 : Int} {q : Nat} {X : XK} (h : EvA tr Γ M [D K (.int (k : Int)), D K (dT (tab ls w lam k p1)), D K (dT (tab ls w lam k p2)), D K (.int (q : Int))] M1) (hn : GI k ls w lam ∧ q < k) : Ev (tCall (sp_compare_tables T) [] X tr) Γ M (D K (.int (cmpV ls w q p1 p2))) M1 :=
  call0 h fun vs H Q z => ⟨k, ls, w, lam, p1, p2, q, hn, z⟩
/-! ### best_views -/
theorem sc_best_views : FnScope ["many", "tables", "best", "place", "found", "index"] ["many", "tables"] (defScope s_best_views) := ⟨rfl, rfl, rfl, by decide +kernel, rfl, by decide +kernel, by decide +kernel⟩
/-- for each place the number of the table with the newest event of it -/
structure BstV (ls : Lets) (w : List Int) (k : Nat) (ys : List Int) (g : Nat → Nat) : Prop where
  lt : ∀ q, q < k → g q < ys.length
  mx : ∀ q : Nat, q < k → ∀ y ∈ ys, vw ls w q y ≤ vw ls w q (ys.getD (g q) 0)
noncomputable abbrev dTabs (ls : Lets) (w lam : List Int) (k : Nat) (ys : List Int) : PyData := .list (ys.map fun y => dT (tab ls w lam k y))
def sp_best_views (T : Txt K mg) : Sp := fun vs H Q _ => ∃ (k : Nat) (ls : Lets) (w lam ys : List Int), (GI k ls w lam ∧ ys ≠ [] ∧ ys.length ≤ 1000) ∧ Prom [D K (.int (k : Int)), D K (dTabs ls w lam k ys)] [] (PEx fun g : Nat → Nat => PAn (BstV ls w k ys g) (D K (dL ((List.range k).map fun q : Nat => (g q : Int))))) [] vs H Q
theorem sp_best_views_len {T : Txt K mg} {vs H Q E} (h : sp_best_views T vs H Q E) : vs.length = 2 := by obtain ⟨_, _, _, _, _, _, h⟩ := h; exact h.len
theorem tabs_at {ls : Lets} {w lam : List Int} {k : Nat} {ys : List Int} {i : Nat} (h : i < ys.length) : (ys.map fun y => dT (tab ls w lam k y))[((i : Int)).toNat]? = some (dT (tab ls w lam k (ys.getD i 0))) := by
  rw [Int.toNat_natCast, List.getElem?_map, List.getElem?_eq_getElem h, List.getD_eq_getElem?_getD, List.getElem?_eq_getElem h]; rfl
set_option maxHeartbeats 4000000 in
theorem ok_best_views (T : Txt K mg) : FnOk P wo K mg base CX0 5 T.f_best_views T.d_best_views ["many", "tables"] (sp_best_views T) := by
  have nd := (sc_best_views).nd
  refine T.F_best_views.ok sc_best_views (fun vs H Q E h => (sp_best_views_len h)) (fun cdv A outer s H vs Q E hr h => ?_)
  obtain ⟨n, ls, wd, lam, ys, ⟨G, ne, yl⟩, F, w, pp, k⟩ := h
  refine ⟨_, (pss_cons (ps_set (i := 2) nd rfl (Or.inl rfl) (pe_lst pa_nil))
    (pss_cons (ps_for PassesOwn.never rfl (pi_range1 (by rfl) T.z_range (pa_cons (pv 0) pa_nil)) (pg_name (i := 3) nd rfl (by first | exact Or.inl rfl | exact Or.inr rfl))
     (pss_cons (ps_set (i := 4) nd rfl (Or.inl rfl) pe_int)
     (pss_cons (ps_for PassesOwn.never rfl (pi_range2 (by rfl) T.z_range (pa_cons pe_int (pa_cons (pe_callB (c_len (K := K) rfl) (by rfl) T.z_len PySem.boot_len (pa_cons (pv 1) pa_nil)) pa_nil))) (pg_name (i := 5) nd rfl (by first | exact Or.inl rfl | exact Or.inr rfl))
      (pss_one (ps_if (pt_cmpR op_lt (pe_call (ok_compare_tables T) (hr.mono (by decide)) rfl T.m_compare_tables T.F_compare_tables.kp T.b_compare_tables .nil pass0 (pa_cons (pv 0) (pa_cons (pe_ix (c_ix (K := K) rfl) (pv 1) (pv 4) (fun _ _ => rfl)) (pa_cons (pe_ix (c_ix (K := K) rfl) (pv 1) (pv 5) (fun _ _ => rfl)) (pa_cons (pv 3) pa_nil))))) pe_int (nomark _)) (pss_one (ps_set (i := 4) nd rfl (Or.inl rfl) (pv 5))) pss_nil)))
     (pss_one (ps_expr (pe_bm PySem.F.plainAttrs_list PySem.F.slot_list_append PySem.F.type_list_append mt_append (pv 2) (pa_cons (pv 4) pa_nil)))))))
    (pss_one (ps_ret (pv 2))))), ?_⟩
  obtain ⟨_, hn⟩ := G.k4
  have yp := List.length_pos_iff.mpr ne
  refine go_start w pp (Γ := [some (D K (.int (n : Int))), some (D K (dTabs ls wd lam n ys)), none, none, none, none]) rfl ?_
  refine (q_asgN (evn_lst (ps := []) ea_nil (by decide)) fun q2 hq2 => ?_)
  dsimp only [List.set]
  refine (q_forR (ea_cons (ev_var (i := 0) rfl) ea_nil) (by omega) (by omega) (fun i Γ M => ∃ (g : Nat → Nat) (g3 g4 g5 : Option MP), Γ = [some (D K (.int (n : Int))), some (D K (dTabs ls wd lam n ys)), some (Own q2), g3, g4, g5] ∧ M = [(q2, MInts K ((List.range i).map fun q : Nat => (g q : Int)))] ∧ BstV ls wd i ys g) ⟨fun _ => 0, _, _, _, rfl, rfl, ⟨fun q h => absurd h (Nat.not_lt_zero _), fun q h => absurd h (Nat.not_lt_zero _)⟩⟩ ?_ ?_)
  · rintro q hq _ _ ⟨g, g3, g4, g5, rfl, rfl, B⟩
    have hq : q < n := by omega
    dsimp only [List.set]
    refine (q_asg (ev_int (K := K) (i := 0)) ?_)
    dsimp only [List.set]
    refine (q_forR2 (lo := 1) (z := (ys.length : Int)) (ea_cons (ev_int (i := 1)) (ea_cons (ev_lenM (f := fun y => dT (tab ls wd lam n y)) (xs := ys) (ev_var (i := 1) rfl)) ea_nil)) (by omega) (fun m Γ M => ∃ (f : Nat) (g5 : Option MP), Γ = [some (D K (.int (n : Int))), some (D K (dTabs ls wd lam n ys)), some (Own q2), some (D K (.int (q : Int))), some (D K (.int (f : Int))), g5] ∧ M = [(q2, MInts K ((List.range q).map fun q : Nat => (g q : Int)))] ∧ f < ys.length ∧ ∀ j, j < m + 1 → j < ys.length → vw ls wd q (ys.getD j 0) ≤ vw ls wd q (ys.getD f 0)) ⟨0, _, rfl, rfl, yp, fun j hj _ => by rw [show j = 0 from (by omega)]; exact Int.le_refl _⟩ ?_ ?_)
    · rintro m hm _ _ ⟨f, g5, rfl, rfl, fl, fm⟩
      have em : (1 : Int) + (m : Int) = ((m + 1 : Nat) : Int) := by omega
      have hm : m + 1 < ys.length := by omega
      dsimp only [List.set]
      rw [em]
      refine go_if (et_test (ev_op (use_compare_tables (ea_cons (ev_var (i := 0) rfl) (ea_cons (ev_op (ev_var (i := 1) rfl) (ev_var (i := 4) rfl) (rv_ixDL (by omega) (tabs_at fl))) (ea_cons (ev_op (ev_var (i := 1) rfl) (ev_var (i := 5) rfl) (rv_ixDL (by omega) (tabs_at hm))) (ea_cons (ev_var (i := 3) rfl) ea_nil)))) ⟨G, hq⟩) (ev_int (K := K) (i := 0)) (rv_b0 (g := fun i j => decide (i < j))))) (fun hz => ?_) fun hz => go_next (JA.of ⟨f, _, rfl, rfl, fl, fun j hj jl => ?_⟩)
      · have hz : cmpV ls wd q (ys.getD f 0) (ys.getD (m + 1) 0) < 0 := by simpa using hz.symm
        have lt : vw ls wd q (ys.getD f 0) < vw ls wd q (ys.getD (m + 1) 0) := by
          unfold cmpV at hz
          split at hz
          · omega
          · split at hz
            · assumption
            · omega
        refine go_asg (ev_var (i := 5) rfl) (JA.of ⟨m + 1, _, rfl, rfl, hm, fun j hj jl => ?_⟩)
        rcases Nat.lt_succ_iff_lt_or_eq.mp hj with h | rfl
        · have := fm j h jl; omega
        · exact Int.le_refl _
      · rcases Nat.lt_succ_iff_lt_or_eq.mp hj with h | rfl
        · exact fm j h jl
        · have hz : ¬ cmpV ls wd q (ys.getD f 0) (ys.getD (m + 1) 0) < 0 := by simpa using hz.symm
          unfold cmpV at hz
          split at hz
          · omega
          · split at hz
            · omega
            · omega
    rintro _ _ ⟨f, g5, rfl, rfl, fl, fm⟩
    refine go_app (j := 0) (P := D K (.int (f : Int))) (ev_var (i := 2) rfl) (ev_var (i := 4) rfl) rfl rfl (by simp; omega) (JA.of ⟨fun j => if j = q then f else g j, _, _, _, rfl, ?_, ⟨fun j hj => ?_, fun j hj y hy => ?_⟩⟩)
    · dsimp only [List.set]
      have e : (List.range (q + 1)).map (fun j : Nat => (((if j = q then f else g j) : Nat) : Int)) = (List.range q).map (fun j : Nat => (g j : Int)) ++ [(f : Int)] := by
        rw [List.range_succ, List.map_append, List.map_singleton, if_pos rfl]
        congr 1
        refine List.map_congr_left fun j hj => ?_
        have := List.mem_range.mp hj
        rw [if_neg (by omega)]
      rw [e]
      unfold MInts
      rw [List.map_append]; rfl
    · by_cases c : j = q
      · subst c; rw [if_pos rfl]; exact fl
      · rw [if_neg c]; exact B.lt j (by omega)
    · by_cases c : j = q
      · subst c
        rw [if_pos rfl]
        obtain ⟨i, hi⟩ := List.mem_iff_getElem?.mp hy
        have il := (List.getElem?_eq_some_iff.mp hi).1
        have := fm i (by omega) il
        rw [List.getD_eq_getElem?_getD, hi] at this
        exact this
      · rw [if_neg c]; exact B.mx j (by omega) y hy
  · rintro _ _ ⟨g, g3, g4, g5, rfl, rfl, B⟩
    rw [Int.toNat_natCast] at B ⊢
    refine nx_freeze (K := K) (i := 2) 0 rfl hq2 rfl ?_
    dsimp only [List.set, List.eraseIdx]
    exact go_ret Le.refl ((ev_var (i := 2) rfl).weak (MP.le_trans (dL_le (l := (List.range n).map fun q : Nat => (g q : Int))) (MP.le_trans (PAn.in B) (PEx.in (R := fun g : Nat → Nat => PAn (BstV ls wd n ys g) (D K (dL ((List.range n).map fun q : Nat => (g q : Int))))) g)))) k
theorem use_best_views {T : Txt K mg} {tr : TA} {Γ : Gm} {M M1 : Ms} {k : Nat} {ls : Lets} {w lam ys : List Int} {X : XK} (h : EvA tr Γ M [D K (.int (k : Int)), D K (dTabs ls w lam k ys)] M1) (hn : GI k ls w lam ∧ ys ≠ [] ∧ ys.length ≤ 1000) : Ev (tCall (sp_best_views T) [] X tr) Γ M (PEx fun g : Nat → Nat => PAn (BstV ls w k ys g) (D K (dL ((List.range k).map fun q : Nat => (g q : Int))))) M1 :=
  call0 h fun vs H Q z => ⟨k, ls, w, lam, ys, hn, z⟩
/-! ### _new_label -/
theorem sc__new_label : FnScope ["letters", "letter", "tables", "label", "table"] ["letters", "letter", "tables"] (defScope s__new_label) := ⟨rfl, rfl, rfl, by decide +kernel, rfl, by decide +kernel, by decide +kernel⟩
/-- all labels in the tables of some places -/
noncomputable def allL (ls : Lets) (w lam : List Int) (k : Nat) (ys : List Int) : List Int := ys.flatMap fun y => tab ls w lam k y
theorem allL_len {ls : Lets} {w lam : List Int} {k : Nat} {ys : List Int} (hk : k ≤ 4) : (allL ls w lam k ys).length ≤ ys.length * 64 := by
  unfold allL
  rw [List.length_flatMap]
  have e : (ys.map fun y => (tab ls w lam k y).length) = ys.map fun _ => k * (k * k) := List.map_congr_left fun y _ => tab_len
  rw [e, List.map_const', List.sum_replicate_nat]
  refine Nat.mul_le_mul_left _ ?_
  match k, hk with
  | 0, _ => decide
  | 1, _ => decide
  | 2, _ => decide
  | 3, _ => decide
  | 4, _ => decide
/-- the new label of a letter -/
noncomputable def nlab (ls : Lets) (w lam : List Int) (k : Nat) (a : Int) : Int := 1 + a + ((if h : 1 ≤ (ls.length : Int) then Classical.choose (few_labels (l := allL ls w lam k (pl ls a)) (L := (ls.length : Int)) (x0 := 1 + a) h) else 0 : Nat) : Int) * (ls.length : Int)
structure NlOk (k : Nat) (ls : Lets) (w lam : List Int) (a : Int) (n : Nat) : Prop where
  le : n ≤ 256
  no : 1 + a + (n : Int) * (ls.length : Int) ∉ allL ls w lam k (pl ls a)
  yes : ∀ m : Nat, m < n → 1 + a + (m : Int) * (ls.length : Int) ∈ allL ls w lam k (pl ls a)
theorem nlab_ok {k : Nat} {ls : Lets} {w lam : List Int} (G : GI k ls w lam) {a : Int} (ha : 0 ≤ a ∧ a < (ls.length : Int)) : ∃ n : Nat, nlab ls w lam k a = 1 + a + (n : Int) * (ls.length : Int) ∧ NlOk k ls w lam a n := by
  have l1 := G.A.l1
  have l1' : 1 ≤ (ls.length : Int) := by omega
  obtain ⟨h1, h2, h3⟩ := Classical.choose_spec (few_labels (l := allL ls w lam k (pl ls a)) (L := (ls.length : Int)) (x0 := 1 + a) l1')
  refine ⟨_, by unfold nlab; rw [dif_pos l1'], ⟨?_, h2, h3⟩⟩
  have := allL_len (ls := ls) (w := w) (lam := lam) (ys := pl ls a) G.k4.2
  have p4 : (pl ls a).length ≤ 4 := by
    obtain ⟨_, x2, x3⟩ := G.A.ok _ (pl_mem ha.1 ha.2)
    have k4 := G.A.k4; have k1 := G.A.k1
    have := pw_len x2 x3 (by omega)
    omega
  omega
def sp__new_label (T : Txt K mg) : Sp := fun vs H Q _ => ∃ (k : Nat) (ls : Lets) (w lam : List Int) (a : Int), (GI k ls w lam ∧ (0 ≤ a ∧ a < (ls.length : Int))) ∧ Prom [D K (.int (ls.length : Int)), D K (.int a), D K (dTabs ls w lam k (pl ls a))] [] (D K (.int (nlab ls w lam k a))) [] vs H Q
theorem sp__new_label_len {T : Txt K mg} {vs H Q E} (h : sp__new_label T vs H Q E) : vs.length = 3 := by obtain ⟨_, _, _, _, _, _, h⟩ := h; exact h.len
set_option maxHeartbeats 4000000 in
theorem ok__new_label (T : Txt K mg) : FnOk P wo K mg base CX0 1 T.f__new_label T.d__new_label ["letters", "letter", "tables"] (sp__new_label T) := by
  have nd := (sc__new_label).nd
  refine T.F__new_label.ok sc__new_label (fun vs H Q E h => (sp__new_label_len h)) (fun cdv A outer s H vs Q E hr h => ?_)
  obtain ⟨n, ls, wd, lam, a, ⟨G, ha⟩, F, w, pp, k⟩ := h
  refine ⟨_, (pss_cons (ps_set (i := 3) nd rfl (Or.inr rfl) (pe_op op_add pe_int (pv 1)))
    (pss_cons (ps_while PassesOwn.never (pt_val (pe_callB (c_any (K := K) rfl rfl) (by rfl) T.z_any (by decide +kernel) (pa_cons (pe_lc (own := [("table", 4)]) (by rfl) nd (pi_listK (K := K) rfl (pv 2)) (blkOk_by (N := ["letters", "letter", "tables", "label", "table"]) (sc := defScope s__new_label) (own := [("table", 4)]) (by decide +kernel)) (fun _ _ _ _ _ => pg_name (i := 4) nd rfl (by first | exact Or.inl rfl | exact Or.inr rfl)) (fun _ _ _ _ _ => pts_nil) (fun _ _ _ _ _ => (pe_cmpR (c_in (K := K) rfl) (pv 3) (pv 4) (by rfl)))) pa_nil))) (pss_one (ps_aug (i := 3) nd rfl (Or.inr rfl) (pv 0) ip_add)))
    (pss_one (ps_ret (pv 3))))), ?_⟩
  obtain ⟨N, hN, ok⟩ := nlab_ok G ha
  have pf : (pl ls a).length ≤ 1000 := by
    obtain ⟨_, x2, x3⟩ := G.A.ok _ (pl_mem ha.1 ha.2)
    have k4 := G.A.k4; have k1 := G.A.k1
    have := pw_len x2 x3 (by omega)
    omega
  refine go_start w pp (Γ := [some (D K (.int (ls.length : Int))), some (D K (.int a)), some (D K (dTabs ls wd lam n (pl ls a))), none, none]) rfl ?_
  refine (q_asg (ev_op (ev_int (K := K) (i := 1)) (ev_var (i := 1) rfl) (rv_i0 (g := fun i j => i + j))) ?_)
  dsimp only [List.set]
  refine (q_while (fun m Γ M => ∃ (j : Nat) (g4 : Option MP), Γ = [some (D K (.int (ls.length : Int))), some (D K (.int a)), some (D K (dTabs ls wd lam n (pl ls a))), some (D K (.int (1 + a + (j : Int) * (ls.length : Int)))), g4] ∧ M = [] ∧ j ≤ N ∧ m = N - j) N ⟨0, none, by simp, rfl, Nat.zero_le _, rfl⟩ ?_)
  rintro m _ _ ⟨j, g4, rfl, rfl, hj, rfl⟩
  have lc := evn_lcL (K := K) (xs := pl ls a) (R := fun y => D K (dT (tab ls wd lam n y))) (G := fun y => D K (.bool (decide (1 + a + (j : Int) * (ls.length : Int) ∈ tab ls wd lam n y)))) (i := 4) (M := []) (M1 := []) (Γ := [some (D K (.int (ls.length : Int))), some (D K (.int a)), some (D K (dTabs ls wd lam n (pl ls a))), some (D K (.int (1 + a + (j : Int) * (ls.length : Int)))), g4]) (t := tYes) (fun _ => true) ((ev_var (i := 2) rfl).weak (le_Lm (f := fun y => dT (tab ls wd lam n y)))) (by omega) (fun _ _ => et_yes) (fun y _ _ => ev_op (ev_var (i := 3) rfl) (ev_var (i := 4) rfl) (rv_inT (ns := tab ls wd lam n y) (neg := false)))
  rw [filter_true] at lc
  have any : ((pl ls a).map fun y => decide (1 + a + (j : Int) * (ls.length : Int) ∈ tab ls wd lam n y)).any id = decide (1 + a + (j : Int) * (ls.length : Int) ∈ allL ls wd lam n (pl ls a)) := by
    rw [Bool.eq_iff_iff, List.any_map, List.any_eq_true, decide_eq_true_iff]
    unfold allL
    rw [List.mem_flatMap]
    simp
  refine ⟨_, _, et_val (ev_cb (ea_cons (ev_newL (lc.is (O2 := ML (((pl ls a).map fun y => decide (1 + a + (j : Int) * (ls.length : Int) ∈ tab ls wd lam n y)).map fun b => D K (.bool b))) (by rw [List.map_map]; rfl))) ea_nil) (rc_any (K := K))), fun hz => ?_, fun hz => ?_⟩
  · have hz : 1 + a + (j : Int) * (ls.length : Int) ∈ allL ls wd lam n (pl ls a) := by
      have hz := hz.symm
      rw [any] at hz
      exact of_decide_eq_true hz
    have jn : j < N := by
      rcases Nat.lt_or_ge j N with c | c
      · exact c
      · have : j = N := by omega
        subst this
        exact absurd hz ok.no
    have e : 1 + a + (j : Int) * (ls.length : Int) + (ls.length : Int) = 1 + a + ((j + 1 : Nat) : Int) * (ls.length : Int) := by rw [Int.natCast_succ, Int.add_mul, Int.one_mul]; omega
    exact go_aug rfl (ev_var (i := 0) rfl) (JA.of ⟨_, by omega, j + 1, _, by dsimp only [List.set]; rw [e], rfl, by omega, rfl⟩)
  · have hz : 1 + a + (j : Int) * (ls.length : Int) ∉ allL ls wd lam n (pl ls a) := by
      have hz := hz.symm
      rw [any] at hz
      exact of_decide_eq_false hz
    have jn : j = N := by
      rcases Nat.lt_or_ge j N with c | c
      · exact absurd (ok.yes j c) hz
      · omega
    subst jn
    rw [hN] at k
    exact go_ret Le.refl (ev_var (i := 3) rfl) k
theorem use__new_label {T : Txt K mg} {tr : TA} {Γ : Gm} {M M1 : Ms} {k : Nat} {ls : Lets} {w lam : List Int} {a : Int} {X : XK} (h : EvA tr Γ M [D K (.int (ls.length : Int)), D K (.int a), D K (dTabs ls w lam k (pl ls a))] M1) (hn : GI k ls w lam ∧ (0 ≤ a ∧ a < (ls.length : Int))) : Ev (tCall (sp__new_label T) [] X tr) Γ M (D K (.int (nlab ls w lam k a))) M1 :=
  call0 h fun vs H Q z => ⟨k, ls, w, lam, a, hn, z⟩
/-! ### met_table -/
theorem sc_met_table : FnScope ["alphabet", "letter", "tables", "many", "places", "sources", "label", "row", "page", "place", "table", "at", "index"] ["alphabet", "letter", "tables"] (defScope s_met_table) := ⟨rfl, rfl, rfl, by decide +kernel, rfl, by decide +kernel, by decide +kernel⟩
theorem ev_lens {T : Txt K mg} {Γ : Gm} {M M1 : Ms} {k : Int} {ls : Lets} {te : TE} (h : Ev te Γ M (PAl T k ls) M1) : Ev (tCB (rLn K) (tCons (tFld K te "letters") tNil)) Γ M (D K (.int (ls.length : Int))) M1 :=
  ev_lenMT (f := dT) (ev_fld (P := D K (dTT ls)) (fps := alF K k ls) h (by simp) T.cl_Alphabet T.na_Alphabet_letters)
theorem rcn_listW {M : Ms} {b : Bool} {l : List Int} : RCN (rList K) [D K (dW b l)] M (MInts K l) M := by
  cases b with
  | true => exact RCN.in1 (R' := PTu K (l.map fun n => D K (.int n))) le_dT rcn_listT
  | false => exact RCN.in1 (R' := PLi K (l.map fun n => D K (.int n))) le_dL rcn_listL
theorem y_ex {ls : Lets} {w : List Int} {n : Nat} {a : Int} {g : Nat → Nat} (B : BstV ls w n (pl ls a) g) (ne : pl ls a ≠ []) : ∃ y : Int → Int, (∀ q : Nat, q < n → y q = (pl ls a).getD (g q) 0) ∧ ∀ q, y q ∈ pl ls a ∧ ∀ y' ∈ pl ls a, vw ls w q y' ≤ vw ls w q (y q) := by
  have ex : ∀ q : Int, ∃ z, (∀ m : Nat, q = (m : Int) → m < n → z = (pl ls a).getD (g m) 0) ∧ z ∈ pl ls a ∧ ∀ y' ∈ pl ls a, vw ls w q y' ≤ vw ls w q z := fun q => by
    by_cases c : ∃ m : Nat, q = (m : Int) ∧ m < n
    · obtain ⟨m, rfl, hm⟩ := c
      refine ⟨(pl ls a).getD (g m) 0, fun m' e h' => by rw [show m' = m from by omega], ?_, B.mx m hm⟩
      have := B.lt m hm
      rw [List.getD_eq_getElem?_getD, List.getElem?_eq_getElem this]
      exact List.getElem_mem this
    · obtain ⟨z, hz, _, h⟩ := mq_ex (ls := ls) (w := w) (q := q) ne
      exact ⟨z, fun m e h' => absurd ⟨m, e, h'⟩ c, hz, h⟩
  obtain ⟨y, hy⟩ := Classical.axiomOfChoice ex
  exact ⟨y, fun q hq => (hy q).1 q rfl hq, fun q => (hy q).2⟩
theorem pl_len4 {k : Nat} {ls : Lets} {w lam : List Int} (G : GI k ls w lam) {a : Int} (ha : 0 ≤ a ∧ a < (ls.length : Int)) : (pl ls a).length ≤ 4 := by
  obtain ⟨_, x2, x3⟩ := G.A.ok _ (pl_mem ha.1 ha.2)
  have k4 := G.A.k4; have k1 := G.A.k1
  have := pw_len x2 x3 (by omega)
  omega
def sp_met_table (T : Txt K mg) : Sp := fun vs H Q _ => ∃ (k : Nat) (ls : Lets) (w lam : List Int) (a p : Int), (GI k ls w lam ∧ (0 ≤ a ∧ a < (ls.length : Int)) ∧ p ∈ pl ls a) ∧ Prom [PAl T (k : Int) ls, D K (.int a), D K (dTabs ls w lam k (pl ls a))] [] (D K (dT (tab ls (w ++ [a]) (lam ++ [nlab ls w lam k a]) k p))) [] vs H Q
theorem sp_met_table_len {T : Txt K mg} {vs H Q E} (h : sp_met_table T vs H Q E) : vs.length = 3 := by obtain ⟨_, _, _, _, _, _, _, h⟩ := h; exact h.len
theorem newRow_len {k : Nat} {P : List Int} {c : Int} {f : Nat → Int} : (newRow k P c f).length = k := by unfold newRow; simp
theorem sq16 {n : Nat} (hn : n ≤ 4) : n * n ≤ 16 := Nat.mul_le_mul hn hn
theorem cub64 {n i : Nat} (hn : n ≤ 4) (hi : i ≤ n) : i * (n * n) ≤ 64 := Nat.mul_le_mul (Nat.le_trans hi hn) (sq16 hn)
set_option maxHeartbeats 4000000 in
theorem ok_met_table (T : Txt K mg) : FnOk P wo K mg base CX0 6 T.f_met_table T.d_met_table ["alphabet", "letter", "tables"] (sp_met_table T) := by
  have nd := (sc_met_table).nd
  refine T.F_met_table.ok sc_met_table (fun vs H Q E h => (sp_met_table_len h)) (fun cdv A outer s H vs Q E hr h => ?_)
  obtain ⟨n, ls, wd, lam, a, p, ⟨G, ha, hp⟩, F, w, pp, k⟩ := h
  refine ⟨_, (pss_cons (ps_set (i := 3) nd rfl (Or.inr rfl) (c_fld (K := K) rfl (pv 0) rfl))
    (pss_cons (ps_set (i := 4) nd rfl (Or.inr rfl) (pe_ix (c_ix (K := K) rfl) (c_fld (K := K) rfl (pv 0) rfl) (pv 1) (fun _ _ => rfl)))
    (pss_cons (ps_set (i := 5) nd rfl (Or.inr rfl) (pe_lc (own := [("index", 12)]) (by rfl) nd (pi_listK (K := K) rfl (pe_call (ok_best_views T) (hr.mono (by decide)) rfl T.m_best_views T.F_best_views.kp T.b_best_views .nil pass0 (pa_cons (pv 3) (pa_cons (pv 2) pa_nil)))) (blkOk_by (N := ["alphabet", "letter", "tables", "many", "places", "sources", "label", "row", "page", "place", "table", "at", "index"]) (sc := defScope s_met_table) (own := [("index", 12)]) (by decide +kernel)) (fun _ _ _ _ _ => pg_name (i := 12) nd rfl (by first | exact Or.inl rfl | exact Or.inr rfl)) (fun _ _ _ _ _ => pts_nil) (fun _ _ _ _ _ => (pe_ix (c_ix (K := K) rfl) (pv 2) (pv 12) (fun _ _ => rfl)))))
    (pss_cons (ps_set (i := 6) nd rfl (Or.inr rfl) (pe_call (ok__new_label T) (hr.mono (by decide)) rfl T.m__new_label T.F__new_label.kp T.b__new_label .nil pass0 (pa_cons (pe_callB (c_len (K := K) rfl) (by rfl) T.z_len PySem.boot_len (pa_cons (c_fld (K := K) rfl (pv 0) rfl) pa_nil)) (pa_cons (pv 1) (pa_cons (pv 2) pa_nil)))))
    (pss_cons (ps_setLc (i := 7) (own := [("place", 9)]) (by rfl) nd rfl rfl (sw_true rfl rfl rfl (by decide +kernel)) (pi_range1 (by rfl) T.z_range (pa_cons (pv 3) pa_nil)) (blkOk_by (N := ["alphabet", "letter", "tables", "many", "places", "sources", "label", "row", "page", "place", "table", "at", "index"]) (sc := defScope s_met_table) (own := [("place", 9)]) (by decide +kernel)) (fun _ _ _ _ _ => pg_name (i := 9) nd rfl (by first | exact Or.inl rfl | exact Or.inr rfl)) (fun _ _ _ _ _ => pts_nil) (fun _ _ _ _ _ => (pe_ifExp (pt_cmpR (c_in (K := K) rfl) (pv 9) (pv 4) (by rfl)) (pv 6) (pe_call (ok_known_label T) (hr.mono (by decide)) rfl T.m_known_label T.F_known_label.kp T.b_known_label .nil pass0 (pa_cons (pv 3) (pa_cons (pe_ix (c_ix (K := K) rfl) (pv 5) (pv 9) (fun _ _ => rfl)) (pa_cons (pv 9) pa_nil)))))))
    (pss_cons (ps_set (i := 8) nd rfl (Or.inl rfl) (pe_lst pa_nil))
    (pss_cons (ps_for PassesOwn.never rfl (pi_range1 (by rfl) T.z_range (pa_cons (pv 3) pa_nil)) (pg_name (i := 9) nd rfl (by first | exact Or.inl rfl | exact Or.inr rfl))
     (pss_one (ps_set (i := 8) nd rfl (Or.inl rfl) (pe_op (c_catL (K := K) rfl) (pv 8) (pe_callTy (c_list (K := K) rfl) (by rfl) T.z_list (by decide +kernel) (pa_cons (pe_ifExp (pt_cmpR (c_in (K := K) rfl) (pv 9) (pv 4) (by rfl)) (pv 7) (pe_call (ok_known_row T) (hr.mono (by decide)) rfl T.m_known_row T.F_known_row.kp T.b_known_row .nil pass0 (pa_cons (pv 3) (pa_cons (pe_ix (c_ix (K := K) rfl) (pv 5) (pv 9) (fun _ _ => rfl)) (pa_cons (pv 9) pa_nil))))) pa_nil))))))
    (pss_cons (ps_set (i := 10) nd rfl (Or.inl rfl) (pe_lst pa_nil))
    (pss_cons (ps_for PassesOwn.never rfl (pi_range1 (by rfl) T.z_range (pa_cons (pv 3) pa_nil)) (pg_name (i := 9) nd rfl (by first | exact Or.inl rfl | exact Or.inr rfl))
     (pss_cons (ps_set (i := 11) nd rfl (Or.inl rfl) (pe_op op_mul (pe_op op_mul (pv 9) (pv 3)) (pv 3)))
     (pss_one (ps_set (i := 10) nd rfl (Or.inl rfl) (pe_op (c_catL (K := K) rfl) (pv 10) (pe_callTy (c_list (K := K) rfl) (by rfl) T.z_list (by decide +kernel) (pa_cons (pe_ifExp (pt_cmpR (c_in (K := K) rfl) (pv 9) (pv 4) (by rfl)) (pv 8) (pe_slice (c_slT (K := K) rfl) (pe_ix (c_ix (K := K) rfl) (pv 5) (pv 9) (fun _ _ => rfl)) (po_some (pv 11)) (po_some (pe_op op_add (pv 11) (pe_op op_mul (pv 3) (pv 3)))))) pa_nil)))))))
    (pss_one (ps_ret (pe_callTy (c_tuple (K := K) rfl) (by rfl) T.z_tuple (by decide +kernel) (pa_cons (pv 10) pa_nil))))))))))))), ?_⟩
  obtain ⟨n1, hn⟩ := G.k4
  have pf := pl_len4 G ha
  have pne : pl ls a ≠ [] := List.ne_nil_of_mem hp
  refine go_start w pp (Γ := [some (PAl T (n : Int) ls), some (D K (.int a)), some (D K (dTabs ls wd lam n (pl ls a))), none, none, none, none, none, none, none, none, none, none]) rfl ?_
  refine (q_asg (P := D K (.int (n : Int))) (ev_places (ev_var (i := 0) rfl)) ?_)
  dsimp only [List.set]
  refine (q_asg (ev_lets (ev_var (i := 0) rfl) (ev_var (i := 1) rfl) ha) ?_)
  dsimp only [List.set]
  have lc := evn_lcLX (K := K) (φ := fun g : Nat → Nat => BstV ls wd n (pl ls a) g) (xs := fun g : Nat → Nat => (List.range n).map fun q : Nat => (g q : Int)) (R := fun j : Int => D K (.int j)) (G := fun j : Int => D K (dT (tab ls wd lam n ((pl ls a).getD j.toNat 0)))) (i := 12) (M := []) (M1 := []) (Γ := [some (PAl T (n : Int) ls), some (D K (.int a)), some (D K (dTabs ls wd lam n (pl ls a))), some (D K (.int (n : Int))), some (D K (dT (pl ls a))), none, none, none, none, none, none, none, none]) (te := tOp (rIx K) (tVar 2) (tVar 12)) (t := tYes) (fun _ => true) ((use_best_views (T := T) (X := E0) (ea_cons (ev_var (i := 3) rfl) (ea_cons (ev_var (i := 2) rfl) ea_nil)) ⟨G, pne, by omega⟩).weak (PEx.le fun g => PAn.le fun _ => le_dL)) (fun g _ => by simp; omega) (fun _ _ _ _ => et_yes) (fun g B x hx _ => by
    obtain ⟨q, hq, rfl⟩ := List.mem_map.mp hx
    exact ev_op (ev_var (i := 2) rfl) (ev_var (i := 12) rfl) (rv_ixDL (by omega) (tabs_at (B.lt q (List.mem_range.mp hq)))))
  refine (q_asgN lc fun q5 hq5 => nx_openX (j := 0) rfl fun g B => ?_)
  obtain ⟨y, yq, hy⟩ := y_ex B pne
  dsimp only [List.set]
  refine nx_freeze (K := K) (i := 5) 0 rfl hq5 rfl ?_
  dsimp only [List.set, List.eraseIdx]
  rw [filter_true]
  refine nx_le (i := 5) (P' := D K (.list ((List.range n).map fun q : Nat => dT (tab ls wd lam n (y (q : Int)))))) rfl (MP.le_trans (MP.of_eq (by
    rw [List.map_map]
    congr 1
    refine List.map_congr_left fun q hq => ?_
    rw [yq q (List.mem_range.mp hq)]; rfl)) (Lm_le (f := fun q : Nat => dT (tab ls wd lam n (y (q : Int)))) (l := List.range n))) ?_
  dsimp only [List.set]
  refine (q_asg (use__new_label (T := T) (X := E0) (ea_cons (ev_lens (ev_var (i := 0) rfl)) (ea_cons (ev_var (i := 1) rfl) (ea_cons (ev_var (i := 2) rfl) ea_nil))) ⟨G, ha⟩) ?_)
  dsimp only [List.set]
  generalize hc : nlab ls wd lam n a = c at k ⊢
  have at_ : ∀ {q : Nat}, q < n → ((List.range n).map fun q : Nat => dT (tab ls wd lam n (y (q : Int))))[((q : Int)).toNat]? = some (dT (tab ls wd lam n (y (q : Int)))) := fun hq => by
    rw [Int.toNat_natCast, List.getElem?_map, List.getElem?_range hq]; rfl
  have S := fun {Γ : Gm} {M : Ms} {q : Nat} (hq : q < n) (h5 : Γ[5]? = some (some (D K (.list ((List.range n).map fun q : Nat => dT (tab ls wd lam n (y (q : Int)))))))) (h9 : Γ[9]? = some (some (D K (.int (q : Int))))) => (ev_op (M := M) (ev_var (i := 5) h5) (ev_var (i := 9) h9) (rv_ixDL (by omega) (at_ hq)))
  have row := evn_lcR (K := K) (z := (n : Int)) (i := 9) (G := fun q : Nat => D K (.int (if (q : Int) ∈ pl ls a then c else ent ls wd lam q q q (y q)))) (M := []) (M1 := []) (Γ := [some (PAl T (n : Int) ls), some (D K (.int a)), some (D K (dTabs ls wd lam n (pl ls a))), some (D K (.int (n : Int))), some (D K (dT (pl ls a))), some (D K (.list ((List.range n).map fun q : Nat => dT (tab ls wd lam n (y (q : Int)))))), some (D K (.int c)), none, none, none, none, none, none]) (t := tYes) (fun _ => true) (ea_cons (ev_var (i := 3) rfl) ea_nil) (by omega) (fun _ _ => et_yes) (fun q hq _ => ev_if (et_test (ev_op (ev_var (i := 9) rfl) (ev_var (i := 4) rfl) (rv_inT (neg := false)))) (fun h => (ev_var (i := 6) rfl).is (congrArg (fun z => D K (.int z)) (if_pos (show (q : Int) ∈ pl ls a by simpa using h)).symm)) (fun h => (use_known_label (T := T) (X := E0) (ea_cons (ev_var (i := 3) rfl) (ea_cons (S (by omega) rfl rfl) (ea_cons (ev_var (i := 9) rfl) ea_nil))) ⟨hn, by omega⟩).is (congrArg (fun z => D K (.int z)) (if_neg (show ¬ (q : Int) ∈ pl ls a by simpa using h)).symm)))
  rw [filter_true, Int.toNat_natCast] at row
  refine (q_asg (P := D K (dL (newRow n (pl ls a) c fun q : Nat => ent ls wd lam q q q (y q)))) ((ev_newL row).weak (MP.le_trans (MP.of_eq (by unfold newRow; rw [List.map_map]; rfl)) (dL_le (l := newRow n (pl ls a) c fun q : Nat => ent ls wd lam q q q (y q))))) ?_)
  dsimp only [List.set]
  refine (q_asg (P := D K (dL [])) ((ev_newL (evn_lst (ps := []) ea_nil (by decide))).weak (dL_le (l := []))) ?_)
  dsimp only [List.set]
  let pg : Nat → List Int := fun r => if (r : Int) ∈ pl ls a then newRow n (pl ls a) c (fun s : Nat => ent ls wd lam s s s (y s)) else trow ls wd lam n (y r) r r
  have pgl : ∀ r, (pg r).length = n := fun r => by
    show (if (r : Int) ∈ pl ls a then newRow n (pl ls a) c (fun s : Nat => ent ls wd lam s s s (y s)) else trow ls wd lam n (y r) r r).length = n
    split
    · exact newRow_len
    · exact trow_len
  refine (q_forR (ea_cons (ev_var (i := 3) rfl) ea_nil) (by omega) (by omega) (fun i Γ M => ∃ g9 : Option MP, Γ = [some (PAl T (n : Int) ls), some (D K (.int a)), some (D K (dTabs ls wd lam n (pl ls a))), some (D K (.int (n : Int))), some (D K (dT (pl ls a))), some (D K (.list ((List.range n).map fun q : Nat => dT (tab ls wd lam n (y (q : Int)))))), some (D K (.int c)), some (D K (dL (newRow n (pl ls a) c fun q : Nat => ent ls wd lam q q q (y q)))), some (D K (dL (blk i pg))), g9, none, none, none] ∧ M = []) ⟨_, rfl, rfl⟩ ?_ ?_)
  · rintro q hq _ _ ⟨g9, rfl, rfl⟩
    have hq : q < n := by omega
    dsimp only [List.set]
    have bl := blk_len (n := q) (f := pg) fun i _ => pgl i
    have q16 : q * n ≤ 16 := Nat.le_trans (Nat.mul_le_mul_right n (Nat.le_of_lt hq)) (sq16 hn)
    refine go_asg (P := D K (dL (blk (q + 1) pg))) ((ev_op (P1 := D K (dL (blk q pg))) (P2 := D K (dL (pg q))) (ev_var (i := 8) rfl) ((ev_newL (evn_cb (ea_cons (P := D K (dW (!decide ((q : Int) ∈ pl ls a)) (pg q))) (ev_if (et_test (ev_op (ev_var (i := 9) rfl) (ev_var (i := 4) rfl) (rv_inT (neg := false)))) (fun h => (ev_var (i := 7) rfl).is ?_) (fun h => (use_known_row (T := T) (X := E0) (ea_cons (ev_var (i := 3) rfl) (ea_cons (S hq rfl rfl) (ea_cons (ev_var (i := 9) rfl) ea_nil))) ⟨hn, hq⟩).is ?_)) ea_nil) rcn_listW)).weak dL_le) (rv_catLD (f := PyData.int) (by rw [bl, pgl]; omega))).is ?_) (JA.of ⟨_, rfl, rfl⟩)
    · have h : (q : Int) ∈ pl ls a := by simpa using h
      show D K (dL (newRow n (pl ls a) c fun q : Nat => ent ls wd lam q q q (y q))) = D K (dW (!decide ((q : Int) ∈ pl ls a)) (if (q : Int) ∈ pl ls a then newRow n (pl ls a) c (fun s : Nat => ent ls wd lam s s s (y s)) else trow ls wd lam n (y q) q q))
      rw [if_pos h, decide_eq_true h]; rfl
    · have h : ¬ (q : Int) ∈ pl ls a := by simpa using h
      show D K (dT (trow ls wd lam n (y q) q q)) = D K (dW (!decide ((q : Int) ∈ pl ls a)) (if (q : Int) ∈ pl ls a then newRow n (pl ls a) c (fun s : Nat => ent ls wd lam s s s (y s)) else trow ls wd lam n (y q) q q))
      rw [if_neg h, decide_eq_false h]; rfl
    · rw [blk_succ]; rfl
  rintro _ _ ⟨g9, rfl, rfl⟩
  rw [Int.toNat_natCast]
  refine (q_asg (P := D K (dL [])) ((ev_newL (evn_lst (ps := []) ea_nil (by decide))).weak (dL_le (l := []))) ?_)
  dsimp only [List.set]
  let tg : Nat → List Int := fun q => if (q : Int) ∈ pl ls a then blk n pg else tpage ls wd lam n (y q) q
  have tgl : ∀ q, (tg q).length = n * n := fun q => by
    show (if (q : Int) ∈ pl ls a then blk n pg else tpage ls wd lam n (y q) q).length = n * n
    split
    · exact blk_len fun i _ => pgl i
    · exact tpage_len
  refine (q_forR (ea_cons (ev_var (i := 3) rfl) ea_nil) (by omega) (by omega) (fun i Γ M => ∃ g9 g11 : Option MP, Γ = [some (PAl T (n : Int) ls), some (D K (.int a)), some (D K (dTabs ls wd lam n (pl ls a))), some (D K (.int (n : Int))), some (D K (dT (pl ls a))), some (D K (.list ((List.range n).map fun q : Nat => dT (tab ls wd lam n (y (q : Int)))))), some (D K (.int c)), some (D K (dL (newRow n (pl ls a) c fun q : Nat => ent ls wd lam q q q (y q)))), some (D K (dL (blk n pg))), g9, some (D K (dL (blk i tg))), g11, none] ∧ M = []) ⟨_, _, rfl, rfl⟩ ?_ ?_)
  · rintro q hq _ _ ⟨g9, g11, rfl, rfl⟩
    have hq : q < n := by omega
    dsimp only [List.set]
    refine (q_asg (P := D K (.int ((q * (n * n) : Nat) : Int))) ((ev_op (ev_op (ev_var (i := 9) rfl) (ev_var (i := 3) rfl) (rv_ic (C := CMul) (g := fun i j => i * j) (by right; omega))) (ev_var (i := 3) rfl) (rv_ic (C := CMul) (g := fun i j => i * j) (by right; omega))).is (by rw [Int.natCast_mul, Int.natCast_mul, ← Int.mul_assoc])) ?_)
    dsimp only [List.set]
    have bl := blk_len (n := q) (f := tg) fun i _ => tgl i
    have n16 := sq16 hn
    have q64 := cub64 hn (Nat.le_of_lt hq)
    have le : q * (n * n) + n * n ≤ n * (n * n) := by rw [← Nat.succ_mul]; exact Nat.mul_le_mul_right _ hq
    refine go_asg (P := D K (dL (blk (q + 1) tg))) ((ev_op (P1 := D K (dL (blk q tg))) (P2 := D K (dL (tg q))) (ev_var (i := 10) rfl) ((ev_newL (evn_cb (ea_cons (P := D K (dW (!decide ((q : Int) ∈ pl ls a)) (tg q))) (ev_if (et_test (ev_op (ev_var (i := 9) rfl) (ev_var (i := 4) rfl) (rv_inT (neg := false)))) (fun h => (ev_var (i := 8) rfl).is ?_) (fun h => (ev_slT (l := tab ls wd lam n (y q)) (S hq rfl rfl) (ep_some (ev_var (i := 11) rfl)) (ep_some ((ev_op (ev_var (i := 11) rfl) (ev_op (ev_var (i := 3) rfl) (ev_var (i := 3) rfl) (rv_ic (C := CMul) (g := fun i j => i * j) (by right; omega))) (rv_i0 (g := fun i j => i + j))).is (P' := D K (.int ((q * (n * n) + n * n : Nat) : Int))) (by congr 2)))).is ?_)) ea_nil) rcn_listW)).weak dL_le) (rv_catLD (f := PyData.int) (by rw [bl, tgl]; omega))).is ?_) (JA.of ⟨_, _, rfl, rfl⟩)
    · have h : (q : Int) ∈ pl ls a := by simpa using h
      show D K (dL (blk n pg)) = D K (dW (!decide ((q : Int) ∈ pl ls a)) (if (q : Int) ∈ pl ls a then blk n pg else tpage ls wd lam n (y q) q))
      rw [if_pos h, decide_eq_true h]; rfl
    · have h : ¬ (q : Int) ∈ pl ls a := by simpa using h
      show D K (dT (cutI (tab ls wd lam n (y q)) (some ((q * (n * n) : Nat) : Int)) (some ((q * (n * n) + n * n : Nat) : Int)))) = D K (dW (!decide ((q : Int) ∈ pl ls a)) (if (q : Int) ∈ pl ls a then blk n pg else tpage ls wd lam n (y q) q))
      rw [if_neg h, decide_eq_false h, cut_mid (by rw [tab_len]; exact le), tab_page hq]; rfl
    · rw [blk_succ]; rfl
  rintro _ _ ⟨g9, g11, rfl, rfl⟩
  rw [Int.toNat_natCast]
  have fin : tab ls (wd ++ [a]) (lam ++ [c]) n p = blk n tg := by
    have := tab_new (c := c) G.A ha G.L.len hp hy
    rw [Int.toNat_natCast] at this
    exact this
  refine go_ret Le.refl ((ev_cb (ea_cons ((ev_var (i := 10) rfl).weak le_dL) ea_nil) rc_tupleL).weak (MP.le_trans dT_le (MP.of_eq (by rw [fin])))) k
theorem use_met_table {T : Txt K mg} {tr : TA} {Γ : Gm} {M M1 : Ms} {k : Nat} {ls : Lets} {w lam : List Int} {a : Int} {X : XK} (p : Int) (h : EvA tr Γ M [PAl T (k : Int) ls, D K (.int a), D K (dTabs ls w lam k (pl ls a))] M1) (hn : GI k ls w lam ∧ (0 ≤ a ∧ a < (ls.length : Int)) ∧ p ∈ pl ls a) : Ev (tCall (sp_met_table T) [] X tr) Γ M (D K (dT (tab ls (w ++ [a]) (lam ++ [nlab ls w lam k a]) k p))) M1 :=
  call0 h fun vs H Q z => ⟨k, ls, w, lam, a, p, hn, z⟩
end
end My
namespace My
open PySem L2 Hq
local macro_rules | `(tactic| trivial) => `(tactic| omega)
section
variable {P : Program} {wo : World} {K : PySem.W.Frag} {mg : Str → Option Value} {base : Heap}
/-! ### Machines.__init__ -/
theorem sc_Machines_init : FnScope ["self", "alphabet", "automaton"] ["self", "alphabet", "automaton"] (defScope s_Machines_init) := ⟨rfl, rfl, rfl, by decide +kernel, rfl, by decide +kernel, by decide +kernel⟩
theorem cmt_of {B : Au} {ls : Lets} (h : ClsP B (prs ls)) : Cmt B ls := fun s hs a b ha hb hf => h s hs (a, b) (prs_mem.mpr ⟨ha, hb, hf⟩)
abbrev mcF (T : Txt K mg) (k : Nat) (ls : Lets) (B : Au) : List (Str × MP) := [("alphabet", PAl T (k : Int) ls), ("automaton", PAu T B), ("size", D K (.int (B.R.length : Int)))]
/-- machines that stand -/
abbrev PMc (T : Txt K mg) (k : Nat) (ls : Lets) (B : Au) : MP := Fr (MOb T.c_Machines (mcF T k ls B))
structure McOk (k : Nat) (ls : Lets) (B : Au) : Prop where
  A : AlphaOk (k : Int) ls
  O : B.Ok
  L : B.L = ls.length
  c : Cmt B ls
  n : B.R.length ≤ 40
theorem McOk.k4 {k : Nat} {ls : Lets} {B : Au} (h : McOk k ls B) : 1 ≤ k ∧ k ≤ 4 := by have := h.A.k1; have := h.A.k4; omega
theorem min_le {A : Au} (O : A.Ok) : (minA A).R.length ≤ A.R.length := by
  have nd : ((List.range (minA A).R.length).map fun i : Nat => cAt A (i : Int)).Nodup := by
    rw [List.nodup_iff_pairwise_ne, List.pairwise_map]
    refine List.Pairwise.imp_of_mem ?_ List.nodup_range
    intro i j hi hj ne e
    have hi := List.mem_range.mp hi
    have hj := List.mem_range.mp hj
    have := min_apart O (i := (i : Int)) (j := (j : Int)) ⟨by omega, by omega⟩ ⟨by omega, by omega⟩ (fun n => by
      rw [min_eqn O n ⟨by omega, by omega⟩ ⟨by omega, by omega⟩, e]
      exact eqn.refl _ _)
    omega
  have := nodup_le nd (m := (List.range A.R.length).map fun i : Nat => (i : Int)) fun x hx => by
    obtain ⟨i, hi, rfl⟩ := List.mem_map.mp hx
    have hi := List.mem_range.mp hi
    obtain ⟨h1, h2⟩ := cAt_in O (i := (i : Int)) ⟨by omega, by omega⟩
    exact List.mem_map.mpr ⟨(cAt A (i : Int)).toNat, List.mem_range.mpr (by omega), by omega⟩
  rw [List.length_map, List.length_range, List.length_map, List.length_range] at this
  exact this
def sp_Machines_init (T : Txt K mg) : Sp := fun vs H Q X => ∃ (x : Addr) (k : Nat) (ls : Lets) (A : Au), (AlphaOk (k : Int) ls ∧ A.Ok ∧ A.L = ls.length ∧ A.R.length ≤ 1000) ∧ ∃ F, Wd F [(x, MOb T.c_Machines [])] H ∧ Ps F vs [Own x, PAl T (k : Int) ls, PAu T A] ∧
  (A.R.length ≤ 40 → ClsP (minA A) (prs ls) → Rt ⟨F, H, keys [(x, MOb T.c_Machines [])]⟩ [(x, MOb T.c_Machines (mcF T k ls (minA A)))] (D K .none) Q) ∧
  (40 < A.R.length → RtE ⟨F, H, keys [(x, MOb T.c_Machines [])]⟩ [(x, MAny)] T.c_TooLarge X) ∧
  (A.R.length ≤ 40 → ¬ ClsP (minA A) (prs ls) → RtE ⟨F, H, keys [(x, MOb T.c_Machines [])]⟩ [(x, MAny)] T.c_NotClosed X)
theorem sp_Machines_init_len {T : Txt K mg} {vs H Q E} (h : sp_Machines_init T vs H Q E) : vs.length = 3 := by obtain ⟨_, _, _, _, _, F, _, p, _⟩ := h; exact paired_len p
theorem ev_rows {T : Txt K mg} {Γ : Gm} {M M1 : Ms} {A : Au} {te : TE} (h : Ev te Γ M (PAu T A) M1) : Ev (tFld K te "rows") Γ M (D K (dTT A.R)) M1 := ev_fld (P := D K (dTT A.R)) (fps := auF K A) h (by simp) T.cl_Automaton T.na_Automaton_rows
theorem ev_start {T : Txt K mg} {Γ : Gm} {M M1 : Ms} {A : Au} {te : TE} (h : Ev te Γ M (PAu T A) M1) : Ev (tFld K te "start") Γ M (D K (.int A.s)) M1 := ev_fld (P := D K (.int A.s)) (fps := auF K A) h (by simp) T.cl_Automaton T.na_Automaton_start
set_option maxHeartbeats 4000000 in
theorem ok_Machines_init (T : Txt K mg) : FnOk P wo K mg base (L2.CX P wo) 6 T.f_Machines_init T.d_Machines_init ["self", "alphabet", "automaton"] (sp_Machines_init T) := by
  have nd := (sc_Machines_init).nd
  refine T.F_Machines_init.okX sc_Machines_init (fun vs H Q E h => (sp_Machines_init_len h)) (fun cdv A outer s H vs Q E hr h => ?_)
  obtain ⟨x, n, ls, A, ⟨al, O, hL, h1⟩, F, w, p, k, kT, kN⟩ := h
  refine ⟨_, (pss_cons (ps_if (pt_cmpR op_gt (pe_callB (c_len (K := K) rfl) (by rfl) T.z_len PySem.boot_len (pa_cons (c_fld (K := K) rfl (pv 2) rfl) pa_nil)) (pe_glob (v := .int 40) rfl T.v_MOST_STATES ⟨_, rfl⟩) (nomark _)) (pss_one (ps_raise rfl (takes_of rfl rfl rfl rfl) (pmk_own PySem.F.excBase_ValueError T.x_TooLarge T.mc_TooLarge T.k_TooLarge (raises_own T.b_TooLarge T.t_TooLarge) (by exact rfl)))) pss_nil)
    (pss_cons (ps_if (pt_not (pt_val (pe_call (ok_is_closed T) (hr.mono (by decide)) rfl T.m_is_closed T.F_is_closed.kp T.b_is_closed .nil pass0 (pa_cons (pv 1) (pa_cons (pv 2) pa_nil))))) (pss_one (ps_raise rfl (takes_of rfl rfl rfl rfl) (pmk_own PySem.F.excBase_ValueError T.x_NotClosed T.mc_NotClosed T.k_NotClosed (raises_own T.b_NotClosed T.t_NotClosed) (by exact rfl)))) pss_nil)
    (pss_cons (ps_fld (pv 0) (pv 1) rfl)
    (pss_cons (ps_fld (pv 0) (pe_call (ok_least T) (hr.mono (by decide)) rfl T.m_least T.F_least.kp T.b_least .nil pass0 (pa_cons (pv 2) pa_nil)) rfl)
    (pss_one (ps_fld (pv 0) (pe_callB (c_len (K := K) rfl) (by rfl) T.z_len PySem.boot_len (pa_cons (c_fld (K := K) rfl (c_fld (K := K) rfl (pv 0) rfl) rfl) pa_nil)) rfl)))))), ?_⟩
  have l6 := al.l6
  refine go_start w p (Γ := [some (Own x), some (PAl T (n : Int) ls), some (PAu T A)]) rfl ?_
  show Nx _ _ [(x, MOb T.c_Machines [])] _
  refine (q_if (et_test (ev_op (ev_lenMT (f := dT) (ev_rows (ev_var (i := 2) rfl))) (ev_int (K := K) (i := 40)) (rv_b0 (g := fun i j => decide (j < i))))) (fun hz => ?_) fun hz => go_next ?_)
  · have : (40 : Int) < (A.R.length : Int) := by simpa using hz
    exact go_raise (kT (by omega)).any0
  have h40 : A.R.length ≤ 40 := by simp at hz; omega
  dsimp only
  refine (q_if (et_not (et_val (use_is_closed (T := T) (X := E0) (k := (n : Int)) (ls := ls) (A := A) (ea_cons (ev_var (i := 1) rfl) (ea_cons (ev_var (i := 2) rfl) ea_nil)) ⟨al, O, hL, by omega⟩))) (fun hz => ?_) fun hz => go_next ?_)
  · exact go_raise (kN h40 (by simpa using hz)).any0
  have hc : ClsP (minA A) (prs ls) := by simpa using hz
  dsimp only
  refine (q_fldN (j := 0) (P := PAl T (n : Int) ls) (ev_var (i := 1) rfl) (ev_var (i := 0) rfl) rfl (by decide) (fun _ h => by cases h) T.cl_Machines T.na_Machines_alphabet ?_)
  refine (q_fldN (j := 0) (P := PAu T (minA A)) (use_least (T := T) (X := E0) (A := A) (ea_cons (ev_var (i := 2) rfl) ea_nil) ⟨O, by omega, by omega⟩) (ev_var (i := 0) rfl) rfl (by simp) (fun g h => by rw [List.mem_singleton.mp h]; show ("alphabet" : Str) ≠ "automaton"; decide +kernel) T.cl_Machines T.na_Machines_automaton ?_)
  refine go_fldN (j := 0) (P := D K (.int ((minA A).R.length : Int))) (ev_lenMT (f := dT) (ev_rows (ev_fldO (P := PAu T (minA A)) (j := 0) (ev_var (i := 0) rfl) rfl 1 rfl (fun g h => by rw [List.mem_singleton.mp h]; show ("alphabet" : Str) ≠ "automaton"; decide +kernel) T.cl_Machines T.na_Machines_automaton))) (ev_var (i := 0) rfl) rfl (by simp) (fun g h => by
    rcases List.mem_cons.mp h with rfl | h
    · show ("alphabet" : Str) ≠ "size"; decide +kernel
    · rw [List.mem_singleton.mp h]; show ("automaton" : Str) ≠ "size"; decide +kernel) T.cl_Machines T.na_Machines_size ?_
  exact fun σ H' ⟨F', a, b⟩ => k h40 hc .non F' H' a .non
theorem use_Machines {T : Txt K mg} {tr : TA} {Γ : Gm} {M M1 : Ms} {k : Nat} {ls : Lets} {A : Au} {X : XK} (h : EvA tr Γ M [PAl T (k : Int) ls, PAu T A] M1) (hn : AlphaOk (k : Int) ls ∧ A.Ok ∧ A.L = ls.length ∧ A.R.length ≤ 40) (hc : ClsP (minA A) (prs ls)) : EvN (tMake T.c_Machines (sp_Machines_init T) [] X tr) Γ M (MOb T.c_Machines (mcF T k ls (minA A))) M1 :=
  make0' h fun x vs H Q ⟨F, w, p, r⟩ => ⟨x, k, ls, A, ⟨hn.1, hn.2.1, hn.2.2.1, by omega⟩, F, w, p, fun _ _ => r, fun c => absurd hn.2.2.2 (by omega), fun _ c => absurd hc c⟩
theorem use_MachinesF {T : Txt K mg} {tr : TA} {Γ : Gm} {M M1 : Ms} {k : Nat} {ls : Lets} {A : Au} {X : XK} (h : EvA tr Γ M [PAl T (k : Int) ls, PAu T A] M1) (hn : AlphaOk (k : Int) ls ∧ A.Ok ∧ A.L = ls.length ∧ A.R.length ≤ 40) (hc : ClsP (minA A) (prs ls)) : Ev (tMake T.c_Machines (sp_Machines_init T) [] X tr) Γ M (PMc T k ls (minA A)) M1 := ev_fr (use_Machines h hn hc)
theorem mcok {k : Nat} {ls : Lets} {A : Au} (hn : AlphaOk (k : Int) ls ∧ A.Ok ∧ A.L = ls.length ∧ A.R.length ≤ 40) (hc : ClsP (minA A) (prs ls)) : McOk k ls (minA A) := ⟨hn.1, mok hn.2.1, hn.2.2.1, cmt_of hc, Nat.le_trans (min_le hn.2.1) hn.2.2.2⟩
theorem ev_mcA {T : Txt K mg} {Γ : Gm} {M M1 : Ms} {k : Nat} {ls : Lets} {B : Au} {te : TE} (h : Ev te Γ M (PMc T k ls B) M1) : Ev (tFld K te "alphabet") Γ M (PAl T (k : Int) ls) M1 :=
  ev_fldS (f := "alphabet") (P := PAl T (k : Int) ls) h 0 rfl (fun _ h => by cases h) T.cl_Machines T.na_Machines_alphabet
theorem ev_mcB {T : Txt K mg} {Γ : Gm} {M M1 : Ms} {k : Nat} {ls : Lets} {B : Au} {te : TE} (h : Ev te Γ M (PMc T k ls B) M1) : Ev (tFld K te "automaton") Γ M (PAu T B) M1 :=
  ev_fldS (f := "automaton") (P := PAu T B) h 1 rfl (fun g h => by rw [List.mem_singleton.mp h]; show ("alphabet" : Str) ≠ "automaton"; decide +kernel) T.cl_Machines T.na_Machines_automaton
theorem ev_mcS {T : Txt K mg} {Γ : Gm} {M M1 : Ms} {k : Nat} {ls : Lets} {B : Au} {te : TE} (h : Ev te Γ M (PMc T k ls B) M1) : Ev (tFld K te "size") Γ M (D K (.int (B.R.length : Int))) M1 :=
  ev_fldS (f := "size") (P := D K (.int (B.R.length : Int))) h 2 rfl (fun g h => by
    rcases List.mem_cons.mp h with rfl | h
    · show ("alphabet" : Str) ≠ "size"; decide +kernel
    · rw [List.mem_singleton.mp h]; show ("automaton" : Str) ≠ "size"; decide +kernel) T.cl_Machines T.na_Machines_size
theorem mc_three {T : Txt K mg} {k : Nat} {ls : Lets} {B : Au} {m : Str} (h1 : ("alphabet" : Str) ≠ m) (h2 : ("automaton" : Str) ≠ m) (h3 : ("size" : Str) ≠ m) : ∀ g ∈ mcF T k ls B, g.1 ≠ m := fun g h => by
  rcases List.mem_cons.mp h with h | h
  · rw [h]; exact h1
  · rcases List.mem_cons.mp h with h | h
    · rw [h]; exact h2
    · rw [List.mem_singleton.mp h]; exact h3
theorem ev_shl {Γ : Gm} {M M1 : Ms} {ta : TE} {n : Nat} (h : Ev ta Γ M (D K (.int (n : Int))) M1) (hn : n ≤ 60) : Ev (tOp (rI CPow fun i j => V.int (i * 2 ^ j.toNat)) (tC (V.int 1)) ta) Γ M (D K (.int ((2 ^ n : Nat) : Int))) M1 :=
  (ev_op (ev_int (K := K) (i := 1)) h (rv_ic (C := CPow) (g := fun i j => i * 2 ^ j.toNat) ⟨by omega, by omega, by decide⟩)).is (by rw [Int.toNat_natCast, Int.one_mul, show ((2 : Int) ^ n) = ((2 ^ n : Nat) : Int) by simp])
theorem ev_cube {Γ : Gm} {M : Ms} {ta tb tc : TE} {n : Nat} (ha : Ev ta Γ M (D K (.int (n : Int))) M) (hb : Ev tb Γ M (D K (.int (n : Int))) M) (hc : Ev tc Γ M (D K (.int (n : Int))) M) (hn : n ≤ 4) : Ev (tOp (rI CMul fun i j => V.int (i * j)) (tOp (rI CMul fun i j => V.int (i * j)) ta tb) tc) Γ M (D K (.int ((n * (n * n) : Nat) : Int))) M :=
  (ev_op (ev_op ha hb (rv_ic (C := CMul) (g := fun i j => i * j) (by right; omega))) hc (rv_ic (C := CMul) (g := fun i j => i * j) (by right; omega))).is (by rw [Int.natCast_mul, Int.natCast_mul, Int.mul_assoc])
theorem pow16 {k : Nat} (h : k ≤ 4) : 2 ^ k ≤ 16 := Nat.pow_le_pow_right (n := 2) (by decide) h
end
end My
namespace My
open PySem L2 Hq
local macro_rules | `(tactic| trivial) => `(tactic| omega)
section
variable {P : Program} {wo : World} {K : PySem.W.Frag} {mg : Str → Option Value} {base : Heap}
/-! ### Machines.start -/
theorem sc_Machines_start : FnScope ["self", "many", "still"] ["self"] (defScope s_Machines_start) := ⟨rfl, rfl, rfl, by decide +kernel, rfl, by decide +kernel, by decide +kernel⟩
noncomputable abbrev stM (B : Au) (ls : Lets) (w lam : List Int) (k : Nat) : List (List Int) := (List.range k).map fun p : Nat => mac B ls w lam k (p : Int)
def sp_Machines_start (T : Txt K mg) : Sp := fun vs H Q _ => ∃ (k : Nat) (ls : Lets) (B : Au), McOk k ls B ∧ Prom [PMc T k ls B] [] (D K (dTT (stM B ls [] [] k))) [] vs H Q
theorem sp_Machines_start_len {T : Txt K mg} {vs H Q E} (h : sp_Machines_start T vs H Q E) : vs.length = 1 := by obtain ⟨_, _, _, _, h⟩ := h; exact h.len
theorem flat_len2 {α : Type} {l : List α} : ∀ n : Nat, (List.replicate n l).flatten.length = n * l.length
  | 0 => by simp
  | n + 1 => by rw [List.replicate_succ, List.flatten_cons, List.length_append, flat_len2 n, Nat.succ_mul]; omega
abbrev stl (B : Au) : List Int := (List.range B.R.length).map fun s : Nat => (s : Int)
set_option maxHeartbeats 4000000 in
theorem ok_Machines_start (T : Txt K mg) : FnOk P wo K mg base CX0 2 T.f_Machines_start T.d_Machines_start ["self"] (sp_Machines_start T) := by
  have nd := (sc_Machines_start).nd
  refine T.F_Machines_start.ok sc_Machines_start (fun vs H Q E h => (sp_Machines_start_len h)) (fun cdv A outer s H vs Q E hr h => ?_)
  obtain ⟨n, ls, B, mo, F, w, p, k⟩ := h
  refine ⟨_, (pss_cons (ps_set (i := 1) nd rfl (Or.inl rfl) (c_fld (K := K) rfl (c_fld (K := K) rfl (pv 0) rfl) rfl))
    (pss_cons (ps_set (i := 2) nd rfl (Or.inl rfl) (pe_tupRg rfl (by rfl) T.z_tuple (prg_1 (by rfl) T.z_range (c_fld (K := K) rfl (pv 0) rfl))))
    (pss_one (ps_ret (pe_callTy (c_tuple (K := K) rfl) (by rfl) T.z_tuple (by decide +kernel) (pa_cons (pe_op op_rep (pe_lst (pa_cons (pe_op (c_catA (K := K) rfl) (pe_call (ok_empty_table T) (hr.mono (by decide)) rfl T.m_empty_table T.F_empty_table.kp T.b_empty_table .nil pass0 (pa_cons (pv 1) pa_nil)) (pe_op (c_repT (K := K) rfl) (pv 2) (pe_op op_shl pe_int (pv 1)))) pa_nil)) (pv 1)) pa_nil)))))), ?_⟩
  have hn := mo.k4.2
  have h40 := mo.n
  have h16 := pow16 hn
  have h0 : (0 : Int) ≤ ((2 ^ n : Nat) : Int) := Int.natCast_nonneg _
  refine go_start w p (Γ := [some (PMc T n ls B), none, none]) rfl ?_
  refine (q_asg (P := D K (.int (n : Int))) (ev_places (ev_mcA (ev_var (i := 0) rfl))) ?_)
  dsimp only [List.set]
  refine (q_asg (P := D K (dT (stl B))) ((ev_tupRg (ev_mcS (ev_var (i := 0) rfl)) (by omega)).weak nt_D) ?_)
  dsimp only [List.set]
  have sl : (stl B).length = B.R.length := by simp
  have one : Ev (tOp (rCatA K) (tCall (sp_empty_table T) [] E0 (tCons (tVar 1) tNil)) (tOp (rRepA K) (tVar 2) (tOp (rI CPow fun i j => V.int (i * 2 ^ j.toNat)) (tC (V.int 1)) (tVar 1)))) [some (PMc T n ls B), some (D K (.int (n : Int))), some (D K (dT (stl B)))] [] (D K (dT (mac B ls [] [] n 0))) [] := (ev_op (use_empty_table (T := T) (X := E0) (k := n) (ea_cons (ev_var (i := 1) rfl) ea_nil) hn) (ev_op (ev_var (i := 2) rfl) (ev_shl (ev_var (i := 1) rfl) (by omega)) (rv_repT (by omega) (by rw [sl]; omega))) (rv_catT (by
    rw [List.length_replicate, flat_len2, sl, Int.toNat_natCast]
    have h1 := cub64 hn (Nat.le_refl n)
    have h2 : 2 ^ n * B.R.length ≤ 16 * 40 := Nat.mul_le_mul h16 h40
    omega))).is (by rw [mac_nil, Int.toNat_natCast])
  have rp := evn_rep (K := K) (z := (n : Int)) (evn_lst (ps := [D K (dT (mac B ls [] [] n 0))]) (ea_cons one ea_nil) (by simp)) (fun M => ev_var (i := 1) rfl) (by omega)
  rw [Int.toNat_natCast] at rp
  refine go_ret Le.refl ((ev_cb (ea_cons (ev_newL rp) ea_nil) rc_tupleL).weak (MP.le_trans (MP.of_eq ?_) (Tm_le (f := dT) (l := stM B ls [] [] n)))) k
  unfold stM
  rw [List.map_map, List.map_congr_left (f := ((fun n => D K (dT n)) ∘ fun p : Nat => mac B ls [] [] n (p : Int))) (g := fun _ => D K (dT (mac B ls [] [] n 0))) (fun q _ => by show D K (dT (mac B ls [] [] n (q : Int))) = _; rw [mac_nil, mac_nil]), List.map_const', List.length_range]
theorem use_Machines_start {T : Txt K mg} {ta : TE} {Γ : Gm} {M M1 : Ms} {k : Nat} {ls : Lets} {B : Au} {X : XK} (ho : Ev ta Γ M (PMc T k ls B) M1) (hn : McOk k ls B) : Ev (tMeth T.c_Machines "start" (sp_Machines_start T) [] X ta tNil) Γ M (D K (dTT (stM B ls [] [] k))) M1 :=
  ev_methS ho (mc_three (by decide +kernel) (by decide +kernel) (by decide +kernel)) ea_nil fun vs H Q z => ⟨k, ls, B, hn, z⟩
end
end My
namespace My
open PySem L2 Hq
local macro_rules | `(tactic| trivial) => `(tactic| omega)
section
variable {P : Program} {wo : World} {K : PySem.W.Frag} {mg : Str → Option Value} {base : Heap}
/-! ### Machines._table -/
theorem sc_Machines__table : FnScope ["self", "state", "many"] ["self", "state"] (defScope s_Machines__table) := ⟨rfl, rfl, rfl, by decide +kernel, rfl, by decide +kernel, by decide +kernel⟩
def sp_Machines__table (T : Txt K mg) : Sp := fun vs H Q _ => ∃ (k : Nat) (ls : Lets) (B : Au) (w lam : List Int) (p : Int), McOk k ls B ∧ Prom [PMc T k ls B, D K (dT (mac B ls w lam k p))] [] (D K (dT (tab ls w lam k p))) [] vs H Q
theorem sp_Machines__table_len {T : Txt K mg} {vs H Q E} (h : sp_Machines__table T vs H Q E) : vs.length = 2 := by obtain ⟨_, _, _, _, _, _, _, h⟩ := h; exact h.len
set_option maxHeartbeats 4000000 in
theorem ok_Machines__table (T : Txt K mg) : FnOk P wo K mg base CX0 1 T.f_Machines__table T.d_Machines__table ["self", "state"] (sp_Machines__table T) := by
  have nd := (sc_Machines__table).nd
  refine T.F_Machines__table.ok sc_Machines__table (fun vs H Q E h => (sp_Machines__table_len h)) (fun cdv A outer s H vs Q E hr h => ?_)
  obtain ⟨n, ls, B, wd, lam, p, mo, F, w, pp, k⟩ := h
  refine ⟨_, (pss_cons (ps_set (i := 2) nd rfl (Or.inl rfl) (c_fld (K := K) rfl (c_fld (K := K) rfl (pv 0) rfl) rfl))
    (pss_one (ps_ret (pe_slice (c_slT (K := K) rfl) (pv 1) po_none (po_some (pe_op op_mul (pe_op op_mul (pv 2) (pv 2)) (pv 2))))))), ?_⟩
  have hn := mo.k4.2
  refine go_start w pp (Γ := [some (PMc T n ls B), some (D K (dT (mac B ls wd lam n p))), none]) rfl ?_
  refine (q_asg (P := D K (.int (n : Int))) (ev_places (ev_mcA (ev_var (i := 0) rfl))) ?_)
  dsimp only [List.set]
  exact go_ret Le.refl ((ev_slT (l := mac B ls wd lam n p) (ev_var (i := 1) rfl) ep_none (ep_some (ev_cube (ev_var (i := 2) rfl) (ev_var (i := 2) rfl) (ev_var (i := 2) rfl) hn))).is (by rw [cut_take, mac_tab])) k
theorem use_Machines__table {T : Txt K mg} {ta : TE} {tr : TA} {Γ : Gm} {M M1 M2 : Ms} {k : Nat} {ls : Lets} {B : Au} {w lam : List Int} {p : Int} {X : XK} (ho : Ev ta Γ M (PMc T k ls B) M1) (h : EvA tr Γ M1 [D K (dT (mac B ls w lam k p))] M2) (hn : McOk k ls B) : Ev (tMeth T.c_Machines "_table" (sp_Machines__table T) [] X ta tr) Γ M (D K (dT (tab ls w lam k p))) M2 :=
  ev_methS ho (mc_three (by decide +kernel) (by decide +kernel) (by decide +kernel)) h fun vs H Q z => ⟨k, ls, B, w, lam, p, hn, z⟩
end
end My
namespace My
open PySem L2 Hq
local macro_rules | `(tactic| trivial) => `(tactic| omega)
section
variable {P : Program} {wo : World} {K : PySem.W.Frag} {mg : Str → Option Value} {base : Heap}
/-! ### Machines._newest_rows -/
theorem sc_Machines__newest_rows : FnScope ["self", "tables", "many", "best", "place"] ["self", "tables"] (defScope s_Machines__newest_rows) := ⟨rfl, rfl, rfl, by decide +kernel, rfl, by decide +kernel, by decide +kernel⟩
noncomputable abbrev dRwM (ls : Lets) (w lam : List Int) (k : Nat) (a : Int) : PyData := .list ((List.range k).map fun q : Nat => dT (rowM ls w lam k a q))
def sp_Machines__newest_rows (T : Txt K mg) : Sp := fun vs H Q _ => ∃ (k : Nat) (ls : Lets) (B : Au) (w lam : List Int) (a : Int), (McOk k ls B ∧ GI k ls w lam ∧ (0 ≤ a ∧ a < (ls.length : Int))) ∧ Prom [PMc T k ls B, D K (dTabs ls w lam k (pl ls a))] [] (D K (dRwM ls w lam k a)) [] vs H Q
theorem sp_Machines__newest_rows_len {T : Txt K mg} {vs H Q E} (h : sp_Machines__newest_rows T vs H Q E) : vs.length = 2 := by obtain ⟨_, _, _, _, _, _, _, h⟩ := h; exact h.len
set_option maxHeartbeats 4000000 in
theorem ok_Machines__newest_rows (T : Txt K mg) : FnOk P wo K mg base CX0 6 T.f_Machines__newest_rows T.d_Machines__newest_rows ["self", "tables"] (sp_Machines__newest_rows T) := by
  have nd := (sc_Machines__newest_rows).nd
  refine T.F_Machines__newest_rows.ok sc_Machines__newest_rows (fun vs H Q E h => (sp_Machines__newest_rows_len h)) (fun cdv A outer s H vs Q E hr h => ?_)
  obtain ⟨n, ls, B, wd, lam, a, ⟨mo, G, ha⟩, F, w, pp, k⟩ := h
  refine ⟨_, (pss_cons (ps_set (i := 2) nd rfl (Or.inr rfl) (c_fld (K := K) rfl (c_fld (K := K) rfl (pv 0) rfl) rfl))
    (pss_cons (ps_set (i := 3) nd rfl (Or.inr rfl) (pe_call (ok_best_views T) (hr.mono (by decide)) rfl T.m_best_views T.F_best_views.kp T.b_best_views .nil pass0 (pa_cons (pv 2) (pa_cons (pv 1) pa_nil))))
    (pss_one (ps_ret (pe_lc (own := [("place", 4)]) (by rfl) nd (pi_range1 (by rfl) T.z_range (pa_cons (pv 2) pa_nil)) (blkOk_by (N := ["self", "tables", "many", "best", "place"]) (sc := defScope s_Machines__newest_rows) (own := [("place", 4)]) (by decide +kernel)) (fun _ _ _ _ _ => pg_name (i := 4) nd rfl (by first | exact Or.inl rfl | exact Or.inr rfl)) (fun _ _ _ _ _ => pts_nil) (fun _ _ _ _ _ => (pe_call (ok_known_row T) (hr.mono (by decide)) rfl T.m_known_row T.F_known_row.kp T.b_known_row .nil pass0 (pa_cons (pv 2) (pa_cons (pe_ix (c_ix (K := K) rfl) (pv 1) (pe_ix (c_ix (K := K) rfl) (pv 3) (pv 4) (fun _ _ => rfl)) (fun _ _ => rfl)) (pa_cons (pv 4) pa_nil)))))))))), ?_⟩
  have hn := mo.k4.2
  have pf := pl_len4 G ha
  have ne : pl ls a ≠ [] := (G.A.pl_ok ha).1
  refine go_start w pp (Γ := [some (PMc T n ls B), some (D K (dTabs ls wd lam n (pl ls a))), none, none, none]) rfl ?_
  refine (q_asg (P := D K (.int (n : Int))) (ev_places (ev_mcA (ev_var (i := 0) rfl))) ?_)
  dsimp only [List.set]
  refine (q_asg (use_best_views (T := T) (X := E0) (ea_cons (ev_var (i := 2) rfl) (ea_cons (ev_var (i := 1) rfl) ea_nil)) ⟨G, ne, by omega⟩) (nx_ex (i := 3) rfl fun g => nx_an (i := 3) rfl fun BV => ?_))
  dsimp only [List.set]
  have g_at : ∀ {q : Nat}, q < n → (((List.range n).map fun q : Nat => (g q : Int)).map PyData.int)[((q : Int)).toNat]? = some (.int (g q : Int)) := fun {q} hq => by
    rw [Int.toNat_natCast, List.getElem?_map, List.getElem?_map, List.getElem?_range hq]; rfl
  have kn := evn_lcR (K := K) (z := (n : Int)) (i := 4) (G := fun q : Nat => D K (dT (rowM ls wd lam n a q))) (M := []) (M1 := []) (Γ := [some (PMc T n ls B), some (D K (dTabs ls wd lam n (pl ls a))), some (D K (.int (n : Int))), some (D K (dL ((List.range n).map fun q : Nat => (g q : Int)))), none]) (t := tYes) (fun _ => true) (ea_cons (ev_var (i := 2) rfl) ea_nil) (by omega) (fun _ _ => et_yes) (fun q hq _ => by
    have hq : q < n := by omega
    have gl := BV.lt q hq
    have mem : (pl ls a).getD (g q) 0 ∈ pl ls a := by
      rw [List.getD_eq_getElem?_getD, List.getElem?_eq_getElem gl]
      exact List.getElem_mem gl
    refine (use_known_row (T := T) (X := E0) (k := n) (ls := ls) (w := wd) (lam := lam) (p := (pl ls a).getD (g q) 0) (q := q) (ea_cons (ev_var (i := 2) rfl) (ea_cons (ev_op (ev_var (i := 1) rfl) (ev_op (ev_var (i := 3) rfl) (ev_var (i := 4) rfl) (rv_ixDL (by omega) (g_at hq))) (rv_ixDL (by omega) (tabs_at gl))) (ea_cons (ev_var (i := 4) rfl) ea_nil))) ⟨hn, hq⟩).is ?_
    rw [rowM_of (a := a)]
    exact mq_is (List.mem_map.mpr ⟨_, mem, rfl⟩) fun z hz => by
      obtain ⟨y', hy', rfl⟩ := List.mem_map.mp hz
      exact BV.mx q hq y' hy')
  rw [filter_true, Int.toNat_natCast] at kn
  exact go_ret Le.refl ((ev_newL kn).weak (Lm_le (f := fun q : Nat => dT (rowM ls wd lam n a q)))) k
theorem use_Machines__newest_rows {T : Txt K mg} {ta : TE} {tr : TA} {Γ : Gm} {M M1 M2 : Ms} {k : Nat} {ls : Lets} {B : Au} {w lam : List Int} {a : Int} {X : XK} (ho : Ev ta Γ M (PMc T k ls B) M1) (h : EvA tr Γ M1 [D K (dTabs ls w lam k (pl ls a))] M2) (hn : McOk k ls B ∧ GI k ls w lam ∧ (0 ≤ a ∧ a < (ls.length : Int))) : Ev (tMeth T.c_Machines "_newest_rows" (sp_Machines__newest_rows T) [] X ta tr) Γ M (D K (dRwM ls w lam k a)) M2 :=
  ev_methS ho (mc_three (by decide +kernel) (by decide +kernel) (by decide +kernel)) h fun vs H Q z => ⟨k, ls, B, w, lam, a, hn, z⟩
end
end My
namespace My
open PySem L2 Hq
local macro_rules | `(tactic| trivial) => `(tactic| omega)
section
variable {P : Program} {wo : World} {K : PySem.W.Frag} {mg : Str → Option Value} {base : Heap}
/-! ### Machines._turn_of -/
theorem sc_Machines__turn_of : FnScope ["self", "state", "chosen", "many", "at"] ["self", "state", "chosen"] (defScope s_Machines__turn_of) := ⟨rfl, rfl, rfl, by decide +kernel, rfl, by decide +kernel, by decide +kernel⟩
def sp_Machines__turn_of (T : Txt K mg) : Sp := fun vs H Q _ => ∃ (k : Nat) (ls : Lets) (B : Au) (w lam : List Int) (p : Int) (m : Nat), (McOk k ls B ∧ m < 2 ^ k) ∧ Prom [PMc T k ls B, D K (dT (mac B ls w lam k p)), D K (.int (m : Int))] [] (D K (dT (tun B ls w p (Bt k m)))) [] vs H Q
theorem sp_Machines__turn_of_len {T : Txt K mg} {vs H Q E} (h : sp_Machines__turn_of T vs H Q E) : vs.length = 3 := by obtain ⟨_, _, _, _, _, _, _, _, h⟩ := h; exact h.len
set_option maxHeartbeats 4000000 in
theorem ok_Machines__turn_of (T : Txt K mg) : FnOk P wo K mg base CX0 1 T.f_Machines__turn_of T.d_Machines__turn_of ["self", "state", "chosen"] (sp_Machines__turn_of T) := by
  have nd := (sc_Machines__turn_of).nd
  refine T.F_Machines__turn_of.ok sc_Machines__turn_of (fun vs H Q E h => (sp_Machines__turn_of_len h)) (fun cdv A outer s H vs Q E hr h => ?_)
  obtain ⟨n, ls, B, wd, lam, p, m, ⟨mo, hm⟩, F, w, pp, k⟩ := h
  refine ⟨_, (pss_cons (ps_set (i := 3) nd rfl (Or.inl rfl) (c_fld (K := K) rfl (c_fld (K := K) rfl (pv 0) rfl) rfl))
    (pss_cons (ps_set (i := 4) nd rfl (Or.inl rfl) (pe_op op_add (pe_op op_mul (pe_op op_mul (pv 3) (pv 3)) (pv 3)) (pe_op op_mul (pv 2) (c_fld (K := K) rfl (pv 0) rfl))))
    (pss_one (ps_ret (pe_slice (c_slT (K := K) rfl) (pv 1) (po_some (pv 4)) (po_some (pe_op op_add (pv 4) (c_fld (K := K) rfl (pv 0) rfl)))))))), ?_⟩
  have hn := mo.k4.2
  have h16 := pow16 hn
  have h40 := mo.n
  refine go_start w pp (Γ := [some (PMc T n ls B), some (D K (dT (mac B ls wd lam n p))), some (D K (.int (m : Int))), none, none]) rfl ?_
  refine (q_asg (P := D K (.int (n : Int))) (ev_places (ev_mcA (ev_var (i := 0) rfl))) ?_)
  dsimp only [List.set]
  refine (q_asg (P := D K (.int ((n * (n * n) + m * B.R.length : Nat) : Int))) ((ev_op (ev_cube (ev_var (i := 3) rfl) (ev_var (i := 3) rfl) (ev_var (i := 3) rfl) hn) (ev_op (ev_var (i := 2) rfl) (ev_mcS (ev_var (i := 0) rfl)) (rv_ic (C := CMul) (g := fun i j => i * j) (by right; omega))) (rv_i0 (g := fun i j => i + j))).is (by rw [Int.natCast_add, Int.natCast_mul m])) ?_)
  dsimp only [List.set]
  refine go_ret Le.refl ((ev_slT (l := mac B ls wd lam n p) (ev_var (i := 1) rfl) (ep_some (ev_var (i := 4) rfl)) (ep_some ((ev_op (ev_var (i := 4) rfl) (ev_mcS (ev_var (i := 0) rfl)) (rv_i0 (g := fun i j => i + j))).is (P' := D K (.int ((n * (n * n) + m * B.R.length + B.R.length : Nat) : Int))) (by congr 2)))).is ?_) k
  rw [cut_mid, mac_turn hm]
  rw [mac_len]
  have : (m + 1) * B.R.length ≤ 2 ^ n * B.R.length := Nat.mul_le_mul_right _ hm
  rw [Nat.succ_mul] at this
  omega
theorem use_Machines__turn_of {T : Txt K mg} {ta : TE} {tr : TA} {Γ : Gm} {M M1 M2 : Ms} {k : Nat} {ls : Lets} {B : Au} {w lam : List Int} {p : Int} {m : Nat} {X : XK} (ho : Ev ta Γ M (PMc T k ls B) M1) (h : EvA tr Γ M1 [D K (dT (mac B ls w lam k p)), D K (.int (m : Int))] M2) (hn : McOk k ls B ∧ m < 2 ^ k) : Ev (tMeth T.c_Machines "_turn_of" (sp_Machines__turn_of T) [] X ta tr) Γ M (D K (dT (tun B ls w p (Bt k m)))) M2 :=
  ev_methS ho (mc_three (by decide +kernel) (by decide +kernel) (by decide +kernel)) h fun vs H Q z => ⟨k, ls, B, w, lam, p, m, hn, z⟩
end
end My
namespace My
open PySem L2 Hq
local macro_rules | `(tactic| trivial) => `(tactic| omega)
section
variable {P : Program} {wo : World} {K : PySem.W.Frag} {mg : Str → Option Value} {base : Heap}
/-! ### Machines._turn_beyond -/
theorem sc_Machines__turn_beyond : FnScope ["self", "states", "rows", "many", "labels", "turn", "state", "newest", "chosen", "place", "following", "row", "label", "target"] ["self", "states", "rows"] (defScope s_Machines__turn_beyond) := ⟨rfl, rfl, rfl, by decide +kernel, rfl, by decide +kernel, by decide +kernel⟩
noncomputable abbrev dMc (B : Au) (ls : Lets) (w lam : List Int) (k : Nat) (ys : List Int) : PyData := .tuple (ys.map fun y => dT (mac B ls w lam k y))
structure TbOk (k : Nat) (ls : Lets) (B : Au) (w lam ys : List Int) (C : Int → Prop) (R : List (List Int)) : Prop where
  mo : McOk k ls B
  G : GI k ls w lam
  y4 : ys.length ≤ 4
  R4 : R.length ≤ 4
  r4 : ∀ r ∈ R, r.length ≤ 4
  L : Lbs ls w lam ys (k : Int) C 0 R.flatten
def sp_Machines__turn_beyond (T : Txt K mg) : Sp := fun vs H Q _ => ∃ (k : Nat) (ls : Lets) (B : Au) (w lam ys : List Int) (C : Int → Prop) (R : List (List Int)), TbOk k ls B w lam ys C R ∧ Prom [PMc T k ls B, D K (dMc B ls w lam k ys), D K (dLT R)] [] (D K (dL (trnW B ls w ys C ys.length))) [] vs H Q
theorem sp_Machines__turn_beyond_len {T : Txt K mg} {vs H Q E} (h : sp_Machines__turn_beyond T vs H Q E) : vs.length = 3 := by obtain ⟨_, _, _, _, _, _, _, _, _, h⟩ := h; exact h.len
theorem flat_all {l : List (List Int)} : (l.flatMap fun x => (x.filter fun _ => true).map fun z => D K (.int z)) = l.flatten.map fun z => D K (.int z) := by
  induction l with
  | nil => rfl
  | cons a l ih => rw [List.flatMap_cons, ih, List.flatten_cons, List.map_append, filter_true]
theorem flat4 {R : List (List Int)} (h : ∀ r ∈ R, r.length ≤ 4) : R.flatten.length ≤ R.length * 4 := by
  induction R with
  | nil => simp
  | cons a l ih =>
    have h1 := h a List.mem_cons_self
    have h2 := ih fun r hr => h r (List.mem_cons_of_mem _ hr)
    rw [List.flatten_cons, List.length_append, List.length_cons]
    omega
theorem klab_at {ls : Lets} {w lam : List Int} {k q : Nat} {p : Int} (h : q < k) : ((klab ls w lam k p).map PyData.int)[((q : Int)).toNat]? = some (.int (lb lam (vw ls w (q : Int) p))) := by
  rw [Int.toNat_natCast, List.getElem?_map, List.getElem?_map, List.getElem?_range h]
  show some (PyData.int (ent ls w lam q q q p)) = _
  rw [ent_prim2]
set_option maxHeartbeats 4000000 in
theorem ok_Machines__turn_beyond (T : Txt K mg) : FnOk P wo K mg base CX0 3 T.f_Machines__turn_beyond T.d_Machines__turn_beyond ["self", "states", "rows"] (sp_Machines__turn_beyond T) := by
  have nd := (sc_Machines__turn_beyond).nd
  refine T.F_Machines__turn_beyond.ok sc_Machines__turn_beyond (fun vs H Q E h => (sp_Machines__turn_beyond_len h)) (fun cdv A outer s H vs Q E hr h => ?_)
  obtain ⟨n, ls, B, wd, lam, ys, C, R, ⟨mo, G, y4, R4, r4, L0⟩, F, w, pp, k⟩ := h
  refine ⟨_, (pss_cons (ps_set (i := 3) nd rfl (Or.inl rfl) (c_fld (K := K) rfl (c_fld (K := K) rfl (pv 0) rfl) rfl))
    (pss_cons (ps_setLc2 (i := 4) (own := [("row", 11), ("label", 12)]) (vs1 := [12]) (by rfl) nd rfl rfl (sw_true rfl rfl rfl (by decide +kernel)) (pi_listK (K := K) rfl (pv 2)) (blkOk_by (N := ["self", "states", "rows", "many", "labels", "turn", "state", "newest", "chosen", "place", "following", "row", "label", "target"]) (sc := defScope s_Machines__turn_beyond) (own := [("row", 11), ("label", 12)]) (by decide +kernel)) (by decide) (fun _ _ _ _ _ => pg_name (i := 11) nd rfl (by first | exact Or.inl rfl | exact Or.inr rfl)) (fun _ _ _ _ _ => pts_nil) (fun _ _ _ _ _ => (pi_tupK (K := K) rfl (pv 11))) (fun _ _ _ _ _ => pg_name (i := 12) nd rfl (by first | exact Or.inl rfl | exact Or.inr rfl)) (fun _ _ _ _ _ => pts_nil) (fun _ _ _ _ _ => (pv 12)))
    (pss_cons (ps_set (i := 5) nd rfl (Or.inl rfl) (pe_listRg rfl (by rfl) T.z_list (prg_1 (by rfl) T.z_range (c_fld (K := K) rfl (pv 0) rfl))))
    (pss_cons (ps_for PassesOwn.never rfl (pi_tupK (K := K) rfl (pv 1)) (pg_name (i := 6) nd rfl (by first | exact Or.inl rfl | exact Or.inr rfl))
     (pss_cons (ps_set (i := 7) nd rfl (Or.inl rfl) (pe_call (ok_known_labels T) (hr.mono (by decide)) rfl T.m_known_labels T.F_known_labels.kp T.b_known_labels .nil pass0 (pa_cons (pv 3) (pa_cons (pe_meth (pv 0) T.cl_Machines T.me_Machines__table (ok_Machines__table T) (hr.mono (by decide)) T.b_Machines__table .nil pass0 (pa_cons (pv 6) pa_nil)) pa_nil))))
     (pss_cons (ps_set (i := 8) nd rfl (Or.inl rfl) pe_int)
     (pss_cons (ps_for PassesOwn.never rfl (pi_range1 (by rfl) T.z_range (pa_cons (pv 3) pa_nil)) (pg_name (i := 9) nd rfl (by first | exact Or.inl rfl | exact Or.inr rfl))
      (pss_one (ps_if (PW.pt (pw_and (pt_cmpR op_ne (pe_ix (c_ix (K := K) rfl) (pv 7) (pv 9) (fun _ _ => rfl)) pe_int (nomark _)) (pw_and1 (pt_cmpR (c_in (K := K) rfl) (pe_ix (c_ix (K := K) rfl) (pv 7) (pv 9) (fun _ _ => rfl)) (pv 4) (by rfl))))) (pss_one (ps_set (i := 8) nd rfl (Or.inl rfl) (pe_op op_or (pv 8) (pe_op op_shl pe_int (pv 9))))) pss_nil)))
     (pss_cons (ps_set (i := 10) nd rfl (Or.inr rfl) (pe_meth (pv 0) T.cl_Machines T.me_Machines__turn_of (ok_Machines__turn_of T) (hr.mono (by decide)) T.b_Machines__turn_of .nil pass0 (pa_cons (pv 6) (pa_cons (pv 8) pa_nil))))
     (pss_cons (ps_setLc (i := 5) (own := [("target", 13)]) (by rfl) nd rfl rfl (sw_true rfl rfl rfl (by decide +kernel)) (pi_listK (K := K) rfl (pv 5)) (blkOk_by (N := ["self", "states", "rows", "many", "labels", "turn", "state", "newest", "chosen", "place", "following", "row", "label", "target"]) (sc := defScope s_Machines__turn_beyond) (own := [("target", 13)]) (by decide +kernel)) (fun _ _ _ _ _ => pg_name (i := 13) nd rfl (by first | exact Or.inl rfl | exact Or.inr rfl)) (fun _ _ _ _ _ => pts_nil) (fun _ _ _ _ _ => (pe_ix (c_ix (K := K) rfl) (pv 10) (pv 13) (fun _ _ => rfl))))
     (pss_one (ps_expr (pe_bm PySem.F.plainAttrs_list PySem.F.slot_list_extend PySem.F.type_list_extend HqQa.mt_extendT (pv 4) (pa_cons (pv 7) pa_nil))))))))))
    (pss_one (ps_ret (pv 5))))))), ?_⟩
  have hn := mo.k4.2
  have h16 := pow16 hn
  have h40 := mo.n
  have Rf := flat4 r4
  refine go_start w pp (Γ := [some (PMc T n ls B), some (D K (dMc B ls wd lam n ys)), some (D K (dLT R)), none, none, none, none, none, none, none, none, none, none, none]) rfl ?_
  refine (q_asg (P := D K (.int (n : Int))) (ev_places (ev_mcA (ev_var (i := 0) rfl))) ?_)
  dsimp only [List.set]
  have lc := evn_lc2LT (K := K) (xs := R) (ys := fun r => r) (N := 4) (R := fun r => D K (dT r)) (S := fun z => D K (.int z)) (G := fun _ z => D K (.int z)) (i := 11) (j := 12) (M := []) (M1 := []) (Γ := [some (PMc T n ls B), some (D K (dMc B ls wd lam n ys)), some (D K (dLT R)), some (D K (.int (n : Int))), none, none, none, none, none, none, none, none, none, none]) (t := tYes) (t0 := tYes) (fun _ _ => true) (by decide) ((ev_var (i := 2) rfl).weak (le_Lm (f := dT))) r4 (by omega) (fun _ _ _ => et_yes) (fun r _ M => (ev_var (i := 11) rfl).weak le_dT) (fun _ _ _ _ => et_yes) (fun _ _ _ _ _ => ev_var (i := 12) rfl)
  rw [flat_all] at lc
  refine (q_asgN lc fun q4 hq4 => ?_)
  clear lc
  dsimp only [List.set]
  refine (q_asg (P := D K (dL (trnW B ls wd ys C 0))) (((ev_newL (evn_listRg (ev_mcS (ev_var (i := 0) rfl)) (by omega))).weak dL_le).is (by rw [trnW_zero])) ?_)
  dsimp only [List.set]
  refine (q_forT (ps := ys.map fun y => D K (dT (mac B ls wd lam n y))) ((ev_var (i := 1) rfl).weak (le_Tm (f := fun y => dT (mac B ls wd lam n y)))) (fun i Γ M => ∃ (L : List Int) (g6 g7 g8 g9 g10 : Option MP), Γ = [some (PMc T n ls B), some (D K (dMc B ls wd lam n ys)), some (D K (dLT R)), some (D K (.int (n : Int))), some (Own q4), some (D K (dL (trnW B ls wd ys C i))), g6, g7, g8, g9, g10, none, none, none] ∧ M = [(q4, MInts K L)] ∧ L.length ≤ 16 + 4 * i ∧ Lbs ls wd lam ys (n : Int) C i L) ⟨R.flatten, _, _, _, _, _, rfl, rfl, by omega, L0⟩ ?_ ?_)
  · rintro E' hE i P hP _ _ ⟨L, g6, g7, g8, g9, g10, rfl, rfl, hl, hL⟩
    rw [List.getElem?_map] at hP
    obtain ⟨y, hy, rfl⟩ := Option.map_eq_some_iff.mp hP
    have iy := (List.getElem?_eq_some_iff.mp hy).1
    dsimp only [List.set]
    refine (q_asg (P := D K (dT (klab ls wd lam n y))) (use_known_labels (T := T) (X := E0) (k := n) (ls := ls) (w := wd) (lam := lam) (p := y) (ea_cons (ev_var (i := 3) rfl) (ea_cons (use_Machines__table (T := T) (X := E0) (k := n) (ls := ls) (B := B) (w := wd) (lam := lam) (p := y) (ev_var (i := 0) rfl) (ea_cons (ev_var (i := 6) rfl) ea_nil) mo) ea_nil)) hn) ?_)
    dsimp only [List.set]
    refine (q_asg (P := D K (.int ((bsN (chB ls wd lam L y) 0 : Nat) : Int))) (ev_int (K := K) (i := 0)) ?_)
    dsimp only [List.set]
    refine (q_forR (z := (n : Int)) (ea_cons (ev_var (i := 3) rfl) ea_nil) (by omega) (by omega) (fun j Γ M => ∃ (g9 : Option MP), Γ = [some (PMc T n ls B), some (D K (dMc B ls wd lam n ys)), some (D K (dLT R)), some (D K (.int (n : Int))), some (Own q4), some (D K (dL (trnW B ls wd ys C i))), some (D K (dT (mac B ls wd lam n y))), some (D K (dT (klab ls wd lam n y))), some (D K (.int ((bsN (chB ls wd lam L y) j : Nat) : Int))), g9, g10, none, none, none] ∧ M = [(q4, MInts K L)]) ⟨_, rfl, rfl⟩ ?_ ?_)
    · rintro q hq _ _ ⟨g9, rfl, rfl⟩
      have hq : q < n := by omega
      dsimp only [List.set]
      have kl : ∀ {Γ : Gm} {M : Ms}, Γ[7]? = some (some (D K (dT (klab ls wd lam n y)))) → Γ[9]? = some (some (D K (.int (q : Int)))) → Ev (tOp (rIx K) (tVar 7) (tVar 9)) Γ M (D K (.int (lb lam (vw ls wd (q : Int) y)))) M := fun h7 h9 => ev_op (ev_var (i := 7) h7) (ev_var (i := 9) h9) (rv_ixDT (by omega) (klab_at hq))
      refine go_if (et_and (a := !decide (lb lam (vw ls wd (q : Int) y) = 0)) (b := decide (lb lam (vw ls wd (q : Int) y) ∈ L)) (et_test (ev_op (kl rfl rfl) (ev_int (K := K) (i := 0)) rv_neI)) fun _ => et_test (ev_op (kl rfl rfl) (ev_var (i := 4) rfl) (rv_inO (neg := false) (j := 0) rfl))) (fun hz => ?_) fun hz => go_next ?_
      · refine go_asg (P := D K (.int ((bsN (chB ls wd lam L y) (q + 1) : Nat) : Int))) ((ev_op (ev_var (i := 8) rfl) (ev_shl (ev_var (i := 9) rfl) (by omega)) (rv_i0 (g := PySem.Builtin.bitOr))).is ?_) (JA.of ⟨_, rfl, rfl⟩)
        rw [bor_nat]
        congr 3
        show _ = bsN (chB ls wd lam L y) (q + 1)
        rw [bsN, if_pos (show chB ls wd lam L y q = true from hz.symm)]
      · have e1 : bsN (chB ls wd lam L y) (q + 1) = bsN (chB ls wd lam L y) q := by
          rw [bsN, if_neg]
          intro c
          unfold chB at c
          rw [c] at hz
          cases hz
        exact JA.of ⟨some (D K (.int (q : Int))), by rw [e1], rfl⟩
    rintro _ _ ⟨g9, rfl, rfl⟩
    rw [Int.toNat_natCast]
    have tl : ∀ t ∈ trnW B ls wd ys C i, B.In t := trnW_in mo.O mo.L G.W
    refine (q_asg (P := D K (dT (tun B ls wd y (Chl ls wd lam (n : Int) L y)))) ((use_Machines__turn_of (T := T) (X := E0) (k := n) (ls := ls) (B := B) (w := wd) (lam := lam) (p := y) (m := bsN (chB ls wd lam L y) n) (ev_var (i := 0) rfl) (ea_cons (ev_var (i := 6) rfl) (ea_cons (ev_var (i := 8) rfl) ea_nil)) ⟨mo, bsN_lt n⟩).is (by rw [tun_chl])) ?_)
    dsimp only [List.set]
    have lt := evn_lcL (K := K) (xs := trnW B ls wd ys C i) (R := fun t => D K (.int t)) (G := fun t => D K (.int (trn B ls wd y (Chl ls wd lam (n : Int) L y) t))) (i := 13) (M := [(q4, MInts K L)]) (M1 := [(q4, MInts K L)]) (Γ := [some (PMc T n ls B), some (D K (dMc B ls wd lam n ys)), some (D K (dLT R)), some (D K (.int (n : Int))), some (Own q4), some (D K (dL (trnW B ls wd ys C i))), some (D K (dT (mac B ls wd lam n y))), some (D K (dT (klab ls wd lam n y))), some (D K (.int ((bsN (chB ls wd lam L y) n : Nat) : Int))), g9, some (D K (dT (tun B ls wd y (Chl ls wd lam (n : Int) L y)))), none, none, none]) (t := tYes) (te := tOp (rIx K) (tVar 10) (tVar 13)) (fun _ => true) ((ev_var (i := 5) rfl).weak le_dL) (by rw [trnW_len]; omega) (fun _ _ => et_yes) (fun t ht _ => ev_op (ev_var (i := 10) rfl) (ev_var (i := 13) rfl) (rv_ixDT (tl t ht).1 (tun_at (tl t ht))))
    rw [filter_true] at lt
    refine (q_asg (P := D K (dL (trnW B ls wd ys C (i + 1)))) (((ev_newL lt).weak (MP.le_trans (MP.of_eq (by rw [List.map_map]; rfl)) (dL_le (l := (trnW B ls wd ys C i).map fun t => trn B ls wd y (Chl ls wd lam (n : Int) L y) t)))).is (by rw [trnW_step mo.O mo.L mo.c G.A G.W G.L hL hy])) ?_)
    clear lt
    dsimp only [List.set]
    refine go_extT (j := 0) (ps := L.map fun z => D K (.int z)) (qs := (klab ls wd lam n y).map fun z => D K (.int z)) (ev_var (i := 4) rfl) ((ev_var (i := 7) rfl).weak le_dT) rfl (by rw [List.length_map, List.length_map, List.length_map, List.length_range]; omega) (JA.of ⟨L ++ klab ls wd lam n y, _, _, _, _, _, rfl, ?_, ?_, lbs_step hL hy⟩)
    · dsimp only [List.set]
      rw [← List.map_append]
    · rw [List.length_append, List.length_map, List.length_range]; omega
  rintro _ _ ⟨L, g6, g7, g8, g9, g10, rfl, rfl, hl, hL⟩
  rw [List.length_map]
  exact go_ret Le.refl (ev_var (i := 5) rfl) (k.drop (List.nil_sublist _))
theorem use_Machines__turn_beyond {T : Txt K mg} {ta : TE} {tr : TA} {Γ : Gm} {M M1 M2 : Ms} {k : Nat} {ls : Lets} {B : Au} {w lam ys : List Int} {C : Int → Prop} {R : List (List Int)} {X : XK} (ho : Ev ta Γ M (PMc T k ls B) M1) (h : EvA tr Γ M1 [D K (dMc B ls w lam k ys), D K (dLT R)] M2) (hn : TbOk k ls B w lam ys C R) : Ev (tMeth T.c_Machines "_turn_beyond" (sp_Machines__turn_beyond T) [] X ta tr) Γ M (D K (dL (trnW B ls w ys C ys.length))) M2 :=
  ev_methS ho (mc_three (by decide +kernel) (by decide +kernel) (by decide +kernel)) h fun vs H Q z => ⟨k, ls, B, w, lam, ys, C, R, hn, z⟩
end
end My
namespace My
open PySem L2 Hq
local macro_rules | `(tactic| trivial) => `(tactic| omega)
section
variable {P : Program} {wo : World} {K : PySem.W.Frag} {mg : Str → Option Value} {base : Heap}
/-! ### Machines.meet -/
theorem sc_Machines_meet : FnScope ["self", "letter", "states", "many", "tables", "rows", "state", "step", "own", "chosen", "known", "turn", "row", "place", "target"] ["self", "letter", "states"] (defScope s_Machines_meet) := ⟨rfl, rfl, rfl, by decide +kernel, rfl, by decide +kernel, by decide +kernel⟩
structure MmOk (k : Nat) (ls : Lets) (B : Au) (w lam : List Int) (a : Int) : Prop where
  mo : McOk k ls B
  G : GI k ls w lam
  ha : 0 ≤ a ∧ a < (ls.length : Int)
theorem tab_same {ls : Lets} {w lam : List Int} {k : Nat} (G : GI k ls w lam) {a c p p' : Int} (ha : 0 ≤ a ∧ a < (ls.length : Int)) (hp : p ∈ pl ls a) (hp' : p' ∈ pl ls a) : tab ls (w ++ [a]) (lam ++ [c]) k p = tab ls (w ++ [a]) (lam ++ [c]) k p' := by
  obtain ⟨y, hy⟩ := Classical.axiomOfChoice (r := fun (q z : Int) => z ∈ pl ls a ∧ ∀ y' ∈ pl ls a, vw ls w q y' ≤ vw ls w q z) fun q => by
    obtain ⟨z, hz, _, h⟩ := mq_ex (ls := ls) (w := w) (a := a) (q := q) (List.ne_nil_of_mem hp)
    exact ⟨z, hz, h⟩
  have h1 := tab_new (c := c) G.A ha G.L.len hp hy
  have h2 := tab_new (c := c) G.A ha G.L.len hp' hy
  rw [Int.toNat_natCast] at h1 h2
  rw [h1, h2]
theorem tun_same {B : Au} {ls : Lets} {w : List Int} {a p p' : Int} {C : Int → Prop} (hp : p ∈ pl ls a) (hp' : p' ∈ pl ls a) : tun B ls (w ++ [a]) p C = tun B ls (w ++ [a]) p' C := by
  by_cases h : ∃ q, C q ∧ q ∈ pl ls a
  · obtain ⟨q, h1, h2⟩ := h
    rw [tun_still hp h2 h1, tun_still hp' h2 h1]
  · have hC : ∀ q, C q → q ∉ pl ls a := fun q h1 h2 => h ⟨q, h1, h2⟩
    rw [tun_meet hp hC, tun_meet hp' hC]
theorem mac_same {B : Au} {ls : Lets} {w lam : List Int} {k : Nat} (G : GI k ls w lam) {a c p p' : Int} (ha : 0 ≤ a ∧ a < (ls.length : Int)) (hp : p ∈ pl ls a) (hp' : p' ∈ pl ls a) : mac B ls (w ++ [a]) (lam ++ [c]) k p = mac B ls (w ++ [a]) (lam ++ [c]) k p' := by
  unfold mac
  rw [tab_same G ha hp hp', blk_cong fun m _ => tun_same hp hp']
theorem bit_and {m q : Nat} : (!decide (PySem.Builtin.bitAnd (m : Int) ((2 ^ q : Nat) : Int) = 0)) = m.testBit q := by
  rw [band_nat, Bool.eq_iff_iff]
  have key : (m &&& 2 ^ q ≠ 0) ↔ m.testBit q = true := by
    rw [mask_meet]
    constructor
    · rintro ⟨p, h1, h2⟩
      rw [Nat.testBit_two_pow] at h2
      rw [of_decide_eq_true h2]; exact h1
    · intro h; exact ⟨q, h, Nat.testBit_two_pow_self⟩
  rw [← key]
  simp
theorem mask_and {m : Nat} {l : List Int} (hl : ∀ p ∈ l, 0 ≤ p) : (m &&& maskF l ≠ 0) ↔ ∃ p ∈ l, m.testBit p.toNat = true := by
  rw [mask_meet]
  have mk := maskF_ok hl
  constructor
  · rintro ⟨p, h1, h2⟩
    exact ⟨(p : Int), (mk p).mp h2, by rw [Int.toNat_natCast]; exact h1⟩
  · rintro ⟨p, h1, h2⟩
    exact ⟨p.toNat, h2, (mk _).mpr (by rw [Int.toNat_of_nonneg (hl p h1)]; exact h1)⟩
abbrev stpL (B : Au) (a : Int) : List Int := B.R.map fun r => r.getD a.toNat 0
theorem stp_at {B : Au} {a t : Int} (h : B.In t) : ((stpL B a).map PyData.int)[t.toNat]? = some (.int (nxA B t a.toNat)) := by
  rw [List.getElem?_map, List.getElem?_map, Au.row_at h]; rfl
def sp_Machines_meet (T : Txt K mg) : Sp := fun vs H Q _ => ∃ (k : Nat) (ls : Lets) (B : Au) (w lam : List Int) (a : Int), MmOk k ls B w lam a ∧ Prom [PMc T k ls B, D K (.int a), D K (dMc B ls w lam k (pl ls a))] [] (D K (dMc B ls (w ++ [a]) (lam ++ [nlab ls w lam k a]) k (pl ls a))) [] vs H Q
theorem sp_Machines_meet_len {T : Txt K mg} {vs H Q E} (h : sp_Machines_meet T vs H Q E) : vs.length = 3 := by obtain ⟨_, _, _, _, _, _, _, h⟩ := h; exact h.len
set_option maxHeartbeats 4000000 in
theorem ok_Machines_meet (T : Txt K mg) : FnOk P wo K mg base CX0 7 T.f_Machines_meet T.d_Machines_meet ["self", "letter", "states"] (sp_Machines_meet T) := by
  have nd := (sc_Machines_meet).nd
  refine T.F_Machines_meet.ok sc_Machines_meet (fun vs H Q E h => (sp_Machines_meet_len h)) (fun cdv A outer s H vs Q E hr h => ?_)
  obtain ⟨n, ls, B, wd, lam, a, ⟨mo, G, ha⟩, F, w, pp, k⟩ := h
  refine ⟨_, (pss_cons (ps_set (i := 3) nd rfl (Or.inl rfl) (c_fld (K := K) rfl (c_fld (K := K) rfl (pv 0) rfl) rfl))
    (pss_cons (ps_setLc (i := 4) (own := [("state", 6)]) (by rfl) nd rfl rfl (sw_true rfl rfl rfl (by decide +kernel)) (pi_tupK (K := K) rfl (pv 2)) (blkOk_by (N := ["self", "letter", "states", "many", "tables", "rows", "state", "step", "own", "chosen", "known", "turn", "row", "place", "target"]) (sc := defScope s_Machines_meet) (own := [("state", 6)]) (by decide +kernel)) (fun _ _ _ _ _ => pg_name (i := 6) nd rfl (by first | exact Or.inl rfl | exact Or.inr rfl)) (fun _ _ _ _ _ => pts_nil) (fun _ _ _ _ _ => (pe_meth (pv 0) T.cl_Machines T.me_Machines__table (ok_Machines__table T) (hr.mono (by decide)) T.b_Machines__table .nil pass0 (pa_cons (pv 6) pa_nil))))
    (pss_cons (ps_set (i := 5) nd rfl (Or.inr rfl) (pe_meth (pv 0) T.cl_Machines T.me_Machines__newest_rows (ok_Machines__newest_rows T) (hr.mono (by decide)) T.b_Machines__newest_rows .nil pass0 (pa_cons (pv 4) pa_nil)))
    (pss_cons (ps_set (i := 6) nd rfl (Or.inl rfl) (pe_callTy (c_list (K := K) rfl) (by rfl) T.z_list (by decide +kernel) (pa_cons (pe_call (ok_met_table T) (hr.mono (by decide)) rfl T.m_met_table T.F_met_table.kp T.b_met_table .nil pass0 (pa_cons (c_fld (K := K) rfl (pv 0) rfl) (pa_cons (pv 1) (pa_cons (pv 4) pa_nil)))) pa_nil)))
    (pss_cons (ps_set (i := 7) nd rfl (Or.inr rfl) (pe_lc (own := [("row", 12)]) (by rfl) nd (pi_tupK (K := K) rfl (c_fld (K := K) rfl (c_fld (K := K) rfl (pv 0) rfl) rfl)) (blkOk_by (N := ["self", "letter", "states", "many", "tables", "rows", "state", "step", "own", "chosen", "known", "turn", "row", "place", "target"]) (sc := defScope s_Machines_meet) (own := [("row", 12)]) (by decide +kernel)) (fun _ _ _ _ _ => pg_name (i := 12) nd rfl (by first | exact Or.inl rfl | exact Or.inr rfl)) (fun _ _ _ _ _ => pts_nil) (fun _ _ _ _ _ => (pe_ix (c_ix (K := K) rfl) (pv 12) (pv 1) (fun _ _ => rfl)))))
    (pss_cons (ps_set (i := 8) nd rfl (Or.inl rfl) (pe_call (ok_mask_of T) (hr.mono (by decide)) rfl T.m_mask_of T.F_mask_of.kp T.b_mask_of .nil pass0 (pa_cons (pe_ix (c_ix (K := K) rfl) (c_fld (K := K) rfl (c_fld (K := K) rfl (pv 0) rfl) rfl) (pv 1) (fun _ _ => rfl)) pa_nil)))
    (pss_cons (ps_for PassesOwn.never rfl (pi_range1 (by rfl) T.z_range (pa_cons (pe_op op_shl pe_int (pv 3)) pa_nil)) (pg_name (i := 9) nd rfl (by first | exact Or.inl rfl | exact Or.inr rfl))
     (pss_one (ps_if (pt_cmpR op_ne (pe_op op_and (pv 9) (pv 8)) pe_int (nomark _)) (pss_one (ps_expr (pe_bm PySem.F.plainAttrs_list PySem.F.slot_list_extend PySem.F.type_list_extend mt_extend (pv 6) (pa_cons (pe_listRg rfl (by rfl) T.z_list (prg_1 (by rfl) T.z_range (c_fld (K := K) rfl (pv 0) rfl))) pa_nil)))) (pss_cons (ps_setLc (i := 10) (own := [("place", 13)]) (by rfl) nd rfl rfl (sw_true rfl rfl rfl (by decide +kernel)) (pi_range1 (by rfl) T.z_range (pa_cons (pv 3) pa_nil)) (blkOk_by (N := ["self", "letter", "states", "many", "tables", "rows", "state", "step", "own", "chosen", "known", "turn", "row", "place", "target"]) (sc := defScope s_Machines_meet) (own := [("place", 13)]) (by decide +kernel)) (fun _ _ _ _ _ => pg_name (i := 13) nd rfl (by first | exact Or.inl rfl | exact Or.inr rfl)) (fun _ _ _ _ _ => (pts_one (pt_cmpR op_ne (pe_op op_and (pv 9) (pe_op op_shl pe_int (pv 13))) pe_int (nomark _)))) (fun _ _ _ _ _ => (pe_ix (c_ix (K := K) rfl) (pv 5) (pv 13) (fun _ _ => rfl))))
      (pss_cons (ps_set (i := 11) nd rfl (Or.inl rfl) (pe_meth (pv 0) T.cl_Machines T.me_Machines__turn_beyond (ok_Machines__turn_beyond T) (hr.mono (by decide)) T.b_Machines__turn_beyond .nil pass0 (pa_cons (pv 2) (pa_cons (pv 10) pa_nil))))
      (pss_one (ps_expr (pe_bm PySem.F.plainAttrs_list PySem.F.slot_list_extend PySem.F.type_list_extend mt_extend (pv 6) (pa_cons (pe_lc (own := [("target", 14)]) (by rfl) nd (pi_listK (K := K) rfl (pv 11)) (blkOk_by (N := ["self", "letter", "states", "many", "tables", "rows", "state", "step", "own", "chosen", "known", "turn", "row", "place", "target"]) (sc := defScope s_Machines_meet) (own := [("target", 14)]) (by decide +kernel)) (fun _ _ _ _ _ => pg_name (i := 14) nd rfl (by first | exact Or.inl rfl | exact Or.inr rfl)) (fun _ _ _ _ _ => pts_nil) (fun _ _ _ _ _ => (pe_ix (c_ix (K := K) rfl) (pv 7) (pv 14) (fun _ _ => rfl)))) pa_nil)))))))))
    (pss_one (ps_ret (pe_callTy (c_tuple (K := K) rfl) (by rfl) T.z_tuple (by decide +kernel) (pa_cons (pe_op op_rep (pe_lst (pa_cons (pe_callTy (c_tuple (K := K) rfl) (by rfl) T.z_tuple (by decide +kernel) (pa_cons (pv 6) pa_nil)) pa_nil)) (pe_callB (c_len (K := K) rfl) (by rfl) T.z_len PySem.boot_len (pa_cons (pv 2) pa_nil))) pa_nil))))))))))), ?_⟩
  obtain ⟨n1, hn⟩ := G.k4
  have h16 := pow16 hn
  have h0 : (0 : Int) ≤ ((2 ^ n : Nat) : Int) := Int.natCast_nonneg _
  have h40 := mo.n
  have pf := pl_len4 G ha
  obtain ⟨_, _, pok⟩ := G.A.ok _ (pl_mem ha.1 ha.2)
  obtain ⟨p0, hp0⟩ := List.exists_mem_of_ne_nil _ (G.A.pl_ok ha).1
  refine go_start w pp (Γ := [some (PMc T n ls B), some (D K (.int a)), some (D K (dMc B ls wd lam n (pl ls a))), none, none, none, none, none, none, none, none, none, none, none, none]) rfl ?_
  refine (q_asg (P := D K (.int (n : Int))) (ev_places (ev_mcA (ev_var (i := 0) rfl))) ?_)
  dsimp only [List.set]
  have lc := evn_lcT (K := K) (xs := pl ls a) (R := fun y => D K (dT (mac B ls wd lam n y))) (G := fun y => D K (dT (tab ls wd lam n y))) (i := 6) (M := []) (M1 := []) (Γ := [some (PMc T n ls B), some (D K (.int a)), some (D K (dMc B ls wd lam n (pl ls a))), some (D K (.int (n : Int))), none, none, none, none, none, none, none, none, none, none, none]) (t := tYes) (fun _ => true) ((ev_var (i := 2) rfl).weak (le_Tm (f := fun y => dT (mac B ls wd lam n y)))) (by omega) (fun _ _ => et_yes) (fun y hy _ => use_Machines__table (T := T) (X := E0) (k := n) (ls := ls) (B := B) (w := wd) (lam := lam) (p := y) (ev_var (i := 0) rfl) (ea_cons (ev_var (i := 6) rfl) ea_nil) mo)
  rw [filter_true] at lc
  refine (q_asg (P := D K (dTabs ls wd lam n (pl ls a))) ((ev_newL lc).weak (Lm_le (f := fun y => dT (tab ls wd lam n y)) (l := pl ls a))) ?_)
  clear lc
  dsimp only [List.set]
  refine (q_asg (use_Machines__newest_rows (T := T) (X := E0) (k := n) (ls := ls) (B := B) (w := wd) (lam := lam) (a := a) (ev_var (i := 0) rfl) (ea_cons (ev_var (i := 4) rfl) ea_nil) ⟨mo, G, ha⟩) ?_)
  dsimp only [List.set]
  generalize hcl : nlab ls wd lam n a = cl at k
  refine (q_asgN (evn_cb (ea_cons (((use_met_table (T := T) (X := E0) (k := n) (w := wd) (lam := lam) (a := a) p0 (ea_cons (ev_mcA (ev_var (i := 0) rfl)) (ea_cons (ev_var (i := 1) rfl) (ea_cons (ev_var (i := 4) rfl) ea_nil))) ⟨G, ha, hp0⟩).is (by rw [hcl])).weak le_dT) ea_nil) rcn_listT) fun q6 hq6 => ?_)
  dsimp only [List.set]
  have lc := evn_lcT (K := K) (xs := B.R) (R := fun r => D K (dT r)) (G := fun r => D K (.int (r.getD a.toNat 0))) (i := 12) (M := [(q6, ML ((tab ls (wd ++ [a]) (lam ++ [cl]) n p0).map fun z => D K (.int z)))]) (M1 := [(q6, ML ((tab ls (wd ++ [a]) (lam ++ [cl]) n p0).map fun z => D K (.int z)))]) (Γ := [some (PMc T n ls B), some (D K (.int a)), some (D K (dMc B ls wd lam n (pl ls a))), some (D K (.int (n : Int))), some (D K (dTabs ls wd lam n (pl ls a))), some (D K (dRwM ls wd lam n a)), some (Own q6), none, none, none, none, none, none, none, none]) (t := tYes) (fun _ => true) ((ev_rows (ev_mcB (ev_var (i := 0) rfl))).weak (le_Tm (f := dT))) (by omega) (fun _ _ => et_yes) (fun r hr _ => ev_op (ev_var (i := 12) rfl) (ev_var (i := 1) rfl) (rv_ixDTd ha.1 (by rw [(mo.O.R r hr).1, mo.L]; omega)))
  rw [filter_true] at lc
  refine (q_asg (P := D K (dL (stpL B a))) ((ev_newL lc).weak (MP.le_trans (MP.of_eq (by rw [List.map_map]; rfl)) (dL_le (l := stpL B a)))) ?_)
  clear lc
  dsimp only [List.set]
  refine (q_asg (use_mask_of (T := T) (X := E0) (l := pl ls a) (b := true) (ea_cons (ev_lets (ev_mcA (ev_var (i := 0) rfl)) (ev_var (i := 1) rfl) ha) ea_nil) ⟨fun p hp => by have := pok p hp; omega, by omega⟩) ?_)
  dsimp only [List.set]
  let f : Nat → List Int := fun m => tun B ls (wd ++ [a]) p0 (Bt n m)
  have fl : ∀ m, (f m).length = B.R.length := fun m => tun_len
  have tl : ∀ {C : Int → Prop} {i : Nat}, ∀ t ∈ trnW B ls wd (pl ls a) C i, B.In t := fun {C i} => trnW_in mo.O mo.L G.W
  refine (q_forR (z := ((2 ^ n : Nat) : Int)) (ea_cons (ev_shl (ev_var (i := 3) rfl) (by omega)) ea_nil) (by omega) (by omega) (fun i Γ M => ∃ g9 g10 g11 : Option MP, Γ = [some (PMc T n ls B), some (D K (.int a)), some (D K (dMc B ls wd lam n (pl ls a))), some (D K (.int (n : Int))), some (D K (dTabs ls wd lam n (pl ls a))), some (D K (dRwM ls wd lam n a)), some (Own q6), some (D K (dL (stpL B a))), some (D K (.int (maskF (pl ls a) : Nat))), g9, g10, g11, none, none, none] ∧ M = [(q6, ML ((tab ls (wd ++ [a]) (lam ++ [cl]) n p0 ++ blk i f).map fun z => D K (.int z)))]) ⟨_, _, _, rfl, by rw [show blk 0 f = [] from rfl, List.append_nil]⟩ ?_ ?_)
  · rintro i hi _ _ ⟨g9, g10, g11, rfl, rfl⟩
    have hi : i < 2 ^ n := by omega
    dsimp only [List.set]
    have bl := blk_len (n := i) (f := f) fun i _ => fl i
    have ib : i * B.R.length ≤ 16 * 40 := Nat.mul_le_mul (by omega) h40
    have tb := tab_len (ls := ls) (w := wd ++ [a]) (lam := lam ++ [cl]) (k := n) (p := p0)
    have c64 := cub64 hn (Nat.le_refl n)
    refine go_if (et_test (ev_op (ev_op (ev_var (i := 9) rfl) (ev_var (i := 8) rfl) (rv_i0 (g := PySem.Builtin.bitAnd))) (ev_int (K := K) (i := 0)) rv_neI)) (fun hz => ?_) fun hz => ?_
    · have meet : i &&& maskF (pl ls a) ≠ 0 := by
        rw [band_nat] at hz
        simp at hz
        exact hz
      obtain ⟨p, hp, hb⟩ := (mask_and fun p hp => (pok p hp).1).mp meet
      refine go_extN (j := 0) (ps := (tab ls (wd ++ [a]) (lam ++ [cl]) n p0 ++ blk i f).map fun z => D K (.int z)) (qs := (stl B).map fun z => D K (.int z)) (ev_var (i := 6) rfl) (evn_listRg (ev_mcS (ev_var (i := 0) rfl)) (by omega)) rfl (by rw [List.length_map, List.length_map, List.length_append, bl, tb]; simp; omega) (JA.of ⟨_, _, _, rfl, ?_⟩)
      dsimp only [List.set]
      rw [← List.map_append, List.append_assoc, blk_succ, show f i = stl B from tun_still hp0 hp ⟨pok p hp, hb⟩]
    · have apart : i &&& maskF (pl ls a) = 0 := by
        rw [band_nat] at hz
        simp at hz
        exact hz
      have hC : ∀ q, Bt n i q → q ∉ pl ls a := fun q hq hm => (mask_and fun p hp => (pok p hp).1).mpr ⟨q, hm, hq.2⟩ apart
      have kn := evn_lcR (K := K) (z := (n : Int)) (i := 13) (G := fun q : Nat => D K (dT (rowM ls wd lam n a q))) (M := [(q6, ML ((tab ls (wd ++ [a]) (lam ++ [cl]) n p0 ++ blk i f).map fun z => D K (.int z)))]) (M1 := [(q6, ML ((tab ls (wd ++ [a]) (lam ++ [cl]) n p0 ++ blk i f).map fun z => D K (.int z)))]) (Γ := [some (PMc T n ls B), some (D K (.int a)), some (D K (dMc B ls wd lam n (pl ls a))), some (D K (.int (n : Int))), some (D K (dTabs ls wd lam n (pl ls a))), some (D K (dRwM ls wd lam n a)), some (Own q6), some (D K (dL (stpL B a))), some (D K (.int (maskF (pl ls a) : Nat))), some (D K (.int (i : Int))), g10, g11, none, none, none]) (fun q => i.testBit q) (ea_cons (ev_var (i := 3) rfl) ea_nil) (by omega) (fun q hq => (et_test (ev_op (ev_op (ev_var (i := 9) rfl) (ev_shl (ev_var (i := 13) rfl) (by omega)) (rv_i0 (g := PySem.Builtin.bitAnd))) (ev_int (K := K) (i := 0)) rv_neI)).is bit_and) (fun q hq _ => ev_op (ev_var (i := 5) rfl) (ev_var (i := 13) rfl) (rv_ixDL (by omega) (by rw [Int.toNat_natCast, List.getElem?_map, List.getElem?_range (by omega)]; rfl)))
      rw [Int.toNat_natCast] at kn
      refine (q_asg (P := D K (dLT (knwM ls wd lam n a i))) ((ev_newL kn).weak (MP.le_trans (MP.of_eq (by unfold knwM; rw [List.map_map]; rfl)) (Lm_le (f := dT) (l := knwM ls wd lam n a i)))) ?_)
      clear kn
      dsimp only [List.set]
      refine (q_asg (use_Machines__turn_beyond (T := T) (X := E0) (k := n) (ls := ls) (B := B) (w := wd) (lam := lam) (ys := pl ls a) (C := Bt n i) (R := knwM ls wd lam n a i) (ev_var (i := 0) rfl) (ea_cons (ev_var (i := 2) rfl) (ea_cons (ev_var (i := 10) rfl) ea_nil)) ⟨mo, G, pf, Nat.le_trans knwM_len hn, fun r hr => by rw [knwM_row r hr]; exact hn, lbs_knw⟩) ?_)
      dsimp only [List.set]
      have lt := evn_lcL (K := K) (xs := trnW B ls wd (pl ls a) (Bt n i) (pl ls a).length) (R := fun t => D K (.int t)) (G := fun t => D K (.int (nxA B t a.toNat))) (i := 14) (M := [(q6, ML ((tab ls (wd ++ [a]) (lam ++ [cl]) n p0 ++ blk i f).map fun z => D K (.int z)))]) (M1 := [(q6, ML ((tab ls (wd ++ [a]) (lam ++ [cl]) n p0 ++ blk i f).map fun z => D K (.int z)))]) (Γ := [some (PMc T n ls B), some (D K (.int a)), some (D K (dMc B ls wd lam n (pl ls a))), some (D K (.int (n : Int))), some (D K (dTabs ls wd lam n (pl ls a))), some (D K (dRwM ls wd lam n a)), some (Own q6), some (D K (dL (stpL B a))), some (D K (.int (maskF (pl ls a) : Nat))), some (D K (.int (i : Int))), some (D K (dLT (knwM ls wd lam n a i))), some (D K (dL (trnW B ls wd (pl ls a) (Bt n i) (pl ls a).length))), none, none, none]) (t := tYes) (te := tOp (rIx K) (tVar 7) (tVar 14)) (fun _ => true) ((ev_var (i := 11) rfl).weak le_dL) (by rw [trnW_len]; omega) (fun _ _ => et_yes) (fun t ht _ => ev_op (ev_var (i := 7) rfl) (ev_var (i := 14) rfl) (rv_ixDL (tl t ht).1 (stp_at (tl t ht))))
      rw [filter_true] at lt
      have ef : f i = (trnW B ls wd (pl ls a) (Bt n i) (pl ls a).length).map fun t => nxA B t a.toNat := tun_meetW hp0 hC
      refine go_extN (j := 0) (ps := (tab ls (wd ++ [a]) (lam ++ [cl]) n p0 ++ blk i f).map fun z => D K (.int z)) (qs := (f i).map fun z => D K (.int z)) (ev_var (i := 6) rfl) (lt.is (by rw [ef, List.map_map]; rfl)) rfl (by rw [List.length_map, List.length_map, List.length_append, bl, tb, fl]; omega) (JA.of ⟨_, _, _, rfl, ?_⟩)
      dsimp only [List.set]
      rw [← List.map_append, List.append_assoc, blk_succ]
  rintro _ _ ⟨g9, g10, g11, rfl, rfl⟩
  rw [Int.toNat_natCast]
  refine nx_freeze (K := K) (i := 6) 0 rfl hq6 rfl ?_
  dsimp only [List.set, List.eraseIdx]
  have rp := evn_rep (K := K) (z := ((pl ls a).length : Int)) (Γ := [some (PMc T n ls B), some (D K (.int a)), some (D K (dMc B ls wd lam n (pl ls a))), some (D K (.int (n : Int))), some (D K (dTabs ls wd lam n (pl ls a))), some (D K (dRwM ls wd lam n a)), some (PLi K ((mac B ls (wd ++ [a]) (lam ++ [cl]) n p0).map fun z => D K (.int z))), some (D K (dL (stpL B a))), some (D K (.int (maskF (pl ls a) : Nat))), g9, g10, g11, none, none, none]) (M := []) (evn_lst (ps := [D K (dT (mac B ls (wd ++ [a]) (lam ++ [cl]) n p0))]) (ea_cons ((ev_cb (ea_cons (ev_var (i := 6) rfl) ea_nil) rc_tupleL).weak dT_le) ea_nil) (by simp)) (fun M => ev_lenMT (f := fun y => dT (mac B ls wd lam n y)) (ev_var (i := 2) rfl)) (by omega)
  rw [Int.toNat_natCast] at rp
  rw [hcl] at *
  refine go_ret Le.refl ((ev_cb (ea_cons (ev_newL rp) ea_nil) rc_tupleL).weak (MP.le_trans (MP.of_eq ?_) (Tm_le (f := fun y => dT (mac B ls (wd ++ [a]) (lam ++ [cl]) n y)) (l := pl ls a)))) k
  rw [← List.map_const']
  congr 1
  exact List.map_congr_left fun y hy => by rw [mac_same G ha hy hp0]
theorem use_Machines_meet {T : Txt K mg} {ta : TE} {tr : TA} {Γ : Gm} {M M1 M2 : Ms} {k : Nat} {ls : Lets} {B : Au} {w lam : List Int} {a : Int} {X : XK} (ho : Ev ta Γ M (PMc T k ls B) M1) (h : EvA tr Γ M1 [D K (.int a), D K (dMc B ls w lam k (pl ls a))] M2) (hn : MmOk k ls B w lam a) : Ev (tMeth T.c_Machines "meet" (sp_Machines_meet T) [] X ta tr) Γ M (D K (dMc B ls (w ++ [a]) (lam ++ [nlab ls w lam k a]) k (pl ls a))) M2 :=
  ev_methS ho (mc_three (by decide +kernel) (by decide +kernel) (by decide +kernel)) h fun vs H Q z => ⟨k, ls, B, w, lam, a, hn, z⟩
end
end My
namespace My
open PySem L2 Hq
local macro_rules | `(tactic| trivial) => `(tactic| omega)
section
variable {P : Program} {wo : World} {K : PySem.W.Frag} {mg : Str → Option Value} {base : Heap}
/-! ### Machines.accepts -/
theorem sc_Machines_accepts : FnScope ["self", "states", "turn"] ["self", "states"] (defScope s_Machines_accepts) := ⟨rfl, rfl, rfl, by decide +kernel, rfl, by decide +kernel, by decide +kernel⟩
def sp_Machines_accepts (T : Txt K mg) : Sp := fun vs H Q _ => ∃ (k : Nat) (ls : Lets) (B : Au) (w lam : List Int), (McOk k ls B ∧ GI k ls w lam) ∧ Prom [PMc T k ls B, D K (dTT (stM B ls w lam k))] [] (D K (.bool (decide (runA B B.s w ∈ B.F)))) [] vs H Q
theorem sp_Machines_accepts_len {T : Txt K mg} {vs H Q E} (h : sp_Machines_accepts T vs H Q E) : vs.length = 2 := by obtain ⟨_, _, _, _, _, _, h⟩ := h; exact h.len
theorem dMc_all {B : Au} {ls : Lets} {w lam : List Int} {k : Nat} : dTT (stM B ls w lam k) = dMc B ls w lam k ((List.range k).map fun q : Nat => (q : Int)) := by
  show PyData.tuple (_) = PyData.tuple _
  rw [List.map_map, List.map_map]; rfl
set_option maxHeartbeats 4000000 in
theorem ok_Machines_accepts (T : Txt K mg) : FnOk P wo K mg base CX0 4 T.f_Machines_accepts T.d_Machines_accepts ["self", "states"] (sp_Machines_accepts T) := by
  have nd := (sc_Machines_accepts).nd
  refine T.F_Machines_accepts.ok sc_Machines_accepts (fun vs H Q E h => (sp_Machines_accepts_len h)) (fun cdv A outer s H vs Q E hr h => ?_)
  obtain ⟨n, ls, B, wd, lam, ⟨mo, G⟩, F, w, pp, k⟩ := h
  refine ⟨_, (pss_cons (ps_set (i := 2) nd rfl (Or.inl rfl) (pe_meth (pv 0) T.cl_Machines T.me_Machines__turn_beyond (ok_Machines__turn_beyond T) (hr.mono (by decide)) T.b_Machines__turn_beyond .nil pass0 (pa_cons (pv 1) (pa_cons (pe_lst pa_nil) pa_nil))))
    (pss_one (ps_ret (pe_ix (c_ix (K := K) rfl) (pe_call (ok_final_marks T) (hr.mono (by decide)) rfl T.m_final_marks T.F_final_marks.kp T.b_final_marks .nil pass0 (pa_cons (c_fld (K := K) rfl (pv 0) rfl) pa_nil)) (pe_ix (c_ix (K := K) rfl) (pv 2) (c_fld (K := K) rfl (c_fld (K := K) rfl (pv 0) rfl) rfl) (fun _ _ => rfl)) (fun _ _ => rfl))))), ?_⟩
  have hn := mo.k4.2
  have h40 := mo.n
  refine go_start w pp (Γ := [some (PMc T n ls B), some (D K (dTT (stM B ls wd lam n))), none]) rfl ?_
  refine (q_asg (use_Machines__turn_beyond (T := T) (X := E0) (k := n) (ls := ls) (B := B) (w := wd) (lam := lam) (ys := (List.range n).map fun q : Nat => (q : Int)) (C := fun _ => False) (R := []) (ev_var (i := 0) rfl) (ea_cons ((ev_var (i := 1) rfl).is (by rw [dMc_all])) (ea_cons ((ev_newL (evn_lst ea_nil (by decide))).weak (Lm_le (f := dT) (l := []))) ea_nil)) ⟨mo, G, by simp; omega, by simp, fun r hr => by (cases hr), lbs_nil⟩) ?_)
  dsimp only [List.set]
  have rl : ((List.range n).map fun q : Nat => (q : Int)).length = n := by simp
  rw [rl]
  have run := runA_in mo.O (q := B.s) mo.O.s (w := wd) fun x hx => by rw [mo.L]; exact G.W x hx
  refine go_ret Le.refl (ev_op (use_final_marks (T := T) (X := E0) (A := B) (ea_cons (ev_mcB (ev_var (i := 0) rfl)) ea_nil) ⟨mo.O, by omega⟩) (ev_op (ev_var (i := 2) rfl) (ev_start (ev_mcB (ev_var (i := 0) rfl))) (rv_ixDL mo.O.s.1 (d := .int (runA B B.s wd)) (by rw [List.getElem?_map, trnW_all G.A G.W (fun _ h => h) mo.O.s]; rfl))) (rv_ixDL run.1 (mks_ix run))) k
theorem use_Machines_accepts {T : Txt K mg} {ta : TE} {tr : TA} {Γ : Gm} {M M1 M2 : Ms} {k : Nat} {ls : Lets} {B : Au} {w lam : List Int} {X : XK} (ho : Ev ta Γ M (PMc T k ls B) M1) (h : EvA tr Γ M1 [D K (dTT (stM B ls w lam k))] M2) (hn : McOk k ls B ∧ GI k ls w lam) : Ev (tMeth T.c_Machines "accepts" (sp_Machines_accepts T) [] X ta tr) Γ M (D K (.bool (decide (runA B B.s w ∈ B.F)))) M2 :=
  ev_methS ho (mc_three (by decide +kernel) (by decide +kernel) (by decide +kernel)) h fun vs H Q z => ⟨k, ls, B, w, lam, hn, z⟩
end
end My
namespace My
open PySem L2 Hq
local macro_rules | `(tactic| trivial) => `(tactic| omega)
section
variable {P : Program} {wo : World} {K : PySem.W.Frag} {mg : Str → Option Value} {base : Heap}
/-! ### states_behind -/
theorem sc_states_behind : FnScope ["machines", "alphabet", "states", "letter", "places", "behind", "met", "place", "state"] ["machines", "alphabet", "states", "letter"] (defScope s_states_behind) := ⟨rfl, rfl, rfl, by decide +kernel, rfl, by decide +kernel, by decide +kernel⟩
theorem sm_at {B : Au} {ls : Lets} {w lam : List Int} {k : Nat} {p : Int} (h : 0 ≤ p ∧ p < (k : Int)) : ((stM B ls w lam k).map dT)[p.toNat]? = some (dT (mac B ls w lam k p)) := by
  unfold stM
  rw [List.getElem?_map, List.getElem?_map, List.getElem?_range (by omega)]
  show some (dT (mac B ls w lam k ((p.toNat : Nat) : Int))) = _
  rw [Int.toNat_of_nonneg h.1]
noncomputable abbrev mixC (B : Au) (ls : Lets) (w lam w2 lam2 : List Int) (k : Nat) (P : List Int) : List (List Int) := (List.range k).map fun p : Nat => if (p : Int) ∈ P then mac B ls w2 lam2 k (p : Int) else mac B ls w lam k (p : Int)
theorem mixC_nil {B : Au} {ls : Lets} {w lam w2 lam2 : List Int} {k : Nat} : mixC B ls w lam w2 lam2 k [] = stM B ls w lam k := by simp [mixC, stM]
theorem mixC_end {B : Au} {ls : Lets} {w lam : List Int} {k : Nat} {a c : Int} (hl : lam.length = w.length) : mixC B ls w lam (w ++ [a]) (lam ++ [c]) k (pl ls a) = stM B ls (w ++ [a]) (lam ++ [c]) k := by
  unfold mixC stM
  refine List.map_congr_left fun p _ => ?_
  split
  · rfl
  · rename_i h
    exact (mac_out hl h).symm
theorem mixC_set {B : Au} {ls : Lets} {w lam w2 lam2 : List Int} {k : Nat} {P : List Int} {p : Int} (h : 0 ≤ p ∧ p < (k : Int)) : (mixC B ls w lam w2 lam2 k P).set p.toNat (mac B ls w2 lam2 k p) = mixC B ls w lam w2 lam2 k (P ++ [p]) := by
  refine List.ext_getElem (by simp) fun i h1 h2 => ?_
  rw [List.getElem_set]
  simp only [mixC, List.getElem_map, List.getElem_range, List.mem_append, List.mem_singleton]
  by_cases c : p.toNat = i
  · rw [if_pos c, if_pos (.inr (by omega)), show ((i : Nat) : Int) = p by omega]
  · rw [if_neg c]
    by_cases c2 : ((i : Nat) : Int) ∈ P
    · rw [if_pos c2, if_pos (.inl c2)]
    · rw [if_neg c2, if_neg fun z => by
        rcases z with z | z
        · exact c2 z
        · exact c (by omega)]
def sp_states_behind (T : Txt K mg) : Sp := fun vs H Q _ => ∃ (k : Nat) (ls : Lets) (B : Au) (w lam : List Int) (a : Int), MmOk k ls B w lam a ∧ Prom [PMc T k ls B, PAl T (k : Int) ls, D K (dTT (stM B ls w lam k)), D K (.int a)] [] (D K (dTT (stM B ls (w ++ [a]) (lam ++ [nlab ls w lam k a]) k))) [] vs H Q
theorem sp_states_behind_len {T : Txt K mg} {vs H Q E} (h : sp_states_behind T vs H Q E) : vs.length = 4 := by obtain ⟨_, _, _, _, _, _, _, h⟩ := h; exact h.len
set_option maxHeartbeats 4000000 in
theorem ok_states_behind (T : Txt K mg) : FnOk P wo K mg base CX0 8 T.f_states_behind T.d_states_behind ["machines", "alphabet", "states", "letter"] (sp_states_behind T) := by
  have nd := (sc_states_behind).nd
  refine T.F_states_behind.ok sc_states_behind (fun vs H Q E h => (sp_states_behind_len h)) (fun cdv A outer s H vs Q E hr h => ?_)
  obtain ⟨n, ls, B, wd, lam, a, mo, F, w, pp, k⟩ := h
  have G := mo.G
  have ha := mo.ha
  refine ⟨_, (pss_cons (ps_set (i := 4) nd rfl (Or.inl rfl) (pe_ix (c_ix (K := K) rfl) (c_fld (K := K) rfl (pv 1) rfl) (pv 3) (fun _ _ => rfl)))
    (pss_cons (ps_set (i := 5) nd rfl (Or.inl rfl) (pe_callTy (c_list (K := K) rfl) (by rfl) T.z_list (by decide +kernel) (pa_cons (pv 2) pa_nil)))
    (pss_cons (ps_set (i := 6) nd rfl (Or.inl rfl) (pe_meth (pv 0) T.cl_Machines T.me_Machines_meet (ok_Machines_meet T) (hr.mono (by decide)) T.b_Machines_meet .nil pass0 (pa_cons (pv 3) (pa_cons (pe_callTy (c_tuple (K := K) rfl) (by rfl) T.z_tuple (by decide +kernel) (pa_cons (pe_lc (own := [("place", 7)]) (by rfl) nd (pi_tupK (K := K) rfl (pv 4)) (blkOk_by (N := ["machines", "alphabet", "states", "letter", "places", "behind", "met", "place", "state"]) (sc := defScope s_states_behind) (own := [("place", 7)]) (by decide +kernel)) (fun _ _ _ _ _ => pg_name (i := 7) nd rfl (by first | exact Or.inl rfl | exact Or.inr rfl)) (fun _ _ _ _ _ => pts_nil) (fun _ _ _ _ _ => (pe_ix (c_ix (K := K) rfl) (pv 2) (pv 7) (fun _ _ => rfl)))) pa_nil)) pa_nil))))
    (pss_cons (ps_for PassesOwn.never rfl (pi_zipK (K := K) rfl (by rfl) T.z_zip (pa_cons (pv 4) (pa_cons (pv 6) pa_nil))) (pg_tupK (K := K) (n := 2) rfl (by rfl) (pgs_cons (pg_name (i := 7) nd rfl (by first | exact Or.inl rfl | exact Or.inr rfl)) (pgs_cons (pg_name (i := 8) nd rfl (by first | exact Or.inl rfl | exact Or.inr rfl)) pgs_nil)))
     (pss_one (ps_asg (pv 8) (pg_sub (pv 5) (pv 7) set_list))))
    (pss_one (ps_ret (pe_callTy (c_tuple (K := K) rfl) (by rfl) T.z_tuple (by decide +kernel) (pa_cons (pv 5) pa_nil)))))))), ?_⟩
  obtain ⟨n1, hn⟩ := G.k4
  have pf := pl_len4 G ha
  have pok : ∀ p ∈ pl ls a, 0 ≤ p ∧ p < (n : Int) := (G.A.ok _ (pl_mem ha.1 ha.2)).2.2
  refine go_start w pp (Γ := [some (PMc T n ls B), some (PAl T (n : Int) ls), some (D K (dTT (stM B ls wd lam n))), some (D K (.int a)), none, none, none, none, none]) rfl ?_
  refine (q_asg (P := D K (dT (pl ls a))) (ev_lets (ev_var (i := 1) rfl) (ev_var (i := 3) rfl) ha) ?_)
  dsimp only [List.set]
  refine (q_asgN (evn_cb (ea_cons ((ev_var (i := 2) rfl).weak (le_Tm (f := dT))) ea_nil) rcn_listT) fun q5 hq5 => ?_)
  dsimp only [List.set]
  have lc := evn_lcT (K := K) (xs := pl ls a) (R := fun p => D K (.int p)) (G := fun p => D K (dT (mac B ls wd lam n p))) (i := 7) (M := [(q5, ML ((stM B ls wd lam n).map fun t => D K (dT t)))]) (M1 := [(q5, ML ((stM B ls wd lam n).map fun t => D K (dT t)))]) (Γ := [some (PMc T n ls B), some (PAl T (n : Int) ls), some (D K (dTT (stM B ls wd lam n))), some (D K (.int a)), some (D K (dT (pl ls a))), some (Own q5), none, none, none]) (te := tOp (rIx K) (tVar 2) (tVar 7)) (t := tYes) (fun _ => true) ((ev_var (i := 4) rfl).weak le_dT) (by omega) (fun _ _ => et_yes) (fun p hp _ => ev_op (ev_var (i := 2) rfl) (ev_var (i := 7) rfl) (rv_ixDT (pok p hp).1 (sm_at (pok p hp))))
  rw [filter_true] at lc
  refine (q_asg (use_Machines_meet (T := T) (X := E0) (k := n) (B := B) (w := wd) (lam := lam) (a := a) (ev_var (i := 0) rfl) (ea_cons (ev_var (i := 3) rfl) (ea_cons ((ev_cb (ea_cons (ev_newL lc) ea_nil) rc_tupleL).weak (Tm_le (f := fun y => dT (mac B ls wd lam n y)) (l := pl ls a))) ea_nil)) mo) ?_)
  clear lc
  dsimp only [List.set]
  generalize hc : nlab ls wd lam n a = c at k ⊢
  refine (q_forZipT (zs := pl ls a) (RA := fun p => D K (.int p)) (RB := fun p => D K (dT (mac B ls (wd ++ [a]) (lam ++ [c]) n p))) ((ev_var (i := 4) rfl).weak le_dT) ((ev_var (i := 6) rfl).weak (le_Tm (f := fun y => dT (mac B ls (wd ++ [a]) (lam ++ [c]) n y)))) (fun i Γ M => ∃ g7 g8 : Option MP, Γ = [some (PMc T n ls B), some (PAl T (n : Int) ls), some (D K (dTT (stM B ls wd lam n))), some (D K (.int a)), some (D K (dT (pl ls a))), some (Own q5), some (D K (dMc B ls (wd ++ [a]) (lam ++ [c]) n (pl ls a))), g7, g8] ∧ M = [(q5, ML ((mixC B ls wd lam (wd ++ [a]) (lam ++ [c]) n ((pl ls a).take i)).map fun t => D K (dT t)))]) ⟨_, _, rfl, by rw [List.take_zero, mixC_nil]⟩ ?_ ?_)
  · rintro E' hE i p hp _ _ ⟨g7, g8, rfl, rfl⟩
    have pk := pok p (List.mem_of_getElem? hp)
    dsimp only [List.set]
    refine go_setL (j := 0) (P := D K (dT (mac B ls (wd ++ [a]) (lam ++ [c]) n p))) (ev_var (i := 8) rfl) (ev_var (i := 5) rfl) (ev_var (i := 7) rfl) rfl pk.1 (by rw [List.length_map, List.length_map, List.length_range]; exact (Int.toNat_lt pk.1).mpr pk.2) (JA.of ⟨_, _, rfl, ?_⟩)
    dsimp only [List.set]
    have tk : (pl ls a).take (i + 1) = (pl ls a).take i ++ [p] := by rw [List.take_add_one, hp]; rfl
    rw [tk, ← mixC_set pk, List.map_set]
  · rintro _ _ ⟨g7, g8, rfl, rfl⟩
    rw [List.take_length, mixC_end G.L.len]
    refine nx_freeze (K := K) (i := 5) 0 rfl hq5 rfl ?_
    dsimp only [List.set, List.eraseIdx]
    exact go_ret Le.refl ((ev_cb (ea_cons (ev_var (i := 5) rfl) ea_nil) rc_tupleL).weak (Tm_le (f := dT) (l := stM B ls (wd ++ [a]) (lam ++ [c]) n))) k
theorem use_states_behind {T : Txt K mg} {tr : TA} {Γ : Gm} {M M1 : Ms} {k : Nat} {ls : Lets} {B : Au} {w lam : List Int} {a : Int} {X : XK} (h : EvA tr Γ M [PMc T k ls B, PAl T (k : Int) ls, D K (dTT (stM B ls w lam k)), D K (.int a)] M1) (hn : MmOk k ls B w lam a) : Ev (tCall (sp_states_behind T) [] X tr) Γ M (D K (dTT (stM B ls (w ++ [a]) (lam ++ [nlab ls w lam k a]) k))) M1 :=
  call0 h fun vs H Q z => ⟨k, ls, B, w, lam, a, hn, z⟩
theorem GI.start {k : Nat} {ls : Lets} (A : AlphaOk (k : Int) ls) : GI k ls [] [] := ⟨A, (fun x hx => by cases hx), lb_nil, ⟨fun x hx => by cases hx⟩⟩
theorem GI.step {k : Nat} {ls : Lets} {w lam : List Int} (G : GI k ls w lam) {a : Int} (ha : 0 ≤ a ∧ a < (ls.length : Int)) : GI k ls (w ++ [a]) (lam ++ [nlab ls w lam k a]) := by
  obtain ⟨N, hN, ok⟩ := nlab_ok G ha
  have l6 := G.A.l6
  have nl : 0 ≤ (N : Int) * (ls.length : Int) := Int.mul_nonneg (by omega) (by omega)
  have nb : (N : Int) * (ls.length : Int) ≤ 256 * 6 := Int.mul_le_mul (by have := ok.le; omega) (by omega) (by omega) (by omega)
  refine ⟨G.A, fun x hx => ?_, G.L.step G.A ha G.W (by rw [hN]; omega) ?_ ?_, ⟨fun x hx => ?_⟩⟩
  · rcases List.mem_append.mp hx with h | h
    · exact G.W x h
    · rw [List.mem_singleton.mp h]; exact ha
  · rw [hN, show 1 + a + (N : Int) * (ls.length : Int) - 1 = a + (N : Int) * (ls.length : Int) by omega, Int.add_mul_emod_self_right]
    exact Int.emod_eq_of_lt ha.1 ha.2
  · intro p hp q r s hq hr hs e
    refine ok.no ?_
    rw [← hN, ← e]
    unfold allL
    refine List.mem_flatMap.mpr ⟨p, hp, tab_mem.mpr ⟨q.toNat, r.toNat, s.toNat, by omega, by omega, by omega, ?_⟩⟩
    rw [Int.toNat_of_nonneg hq.1, Int.toNat_of_nonneg hr.1, Int.toNat_of_nonneg hs.1]
  · rcases List.mem_append.mp hx with h | h
    · exact G.B.b x h
    · rw [List.mem_singleton.mp h, hN]; omega
end
end My
namespace My
open PySem L2 Hq
local macro_rules | `(tactic| trivial) => `(tactic| omega)
section
variable {P : Program} {wo : World} {K : PySem.W.Frag} {mg : Str → Option Value} {base : Heap}
/-! ### Player.__init__ -/
theorem sc_Player_init : FnScope ["self", "alphabet", "machines", "queues", "queue"] ["self", "alphabet", "machines", "queues"] (defScope s_Player_init) := ⟨rfl, rfl, rfl, by decide +kernel, rfl, by decide +kernel, by decide +kernel⟩
abbrev plN : List Str := ["alphabet", "machines", "queues", "heads", "held", "taken"]
noncomputable abbrev plF (T : Txt K mg) (k : Nat) (ls : Lets) (B : Au) (qs : Qs) (hs u lam w : List Int) : List (Str × MP) := [("alphabet", PAl T (k : Int) ls), ("machines", PMc T k ls B), ("queues", D K (dTT qs)), ("heads", D K (dT hs)), ("held", D K (dTT (stM B ls u lam k))), ("taken", D K (dT w))]
noncomputable abbrev MPl (T : Txt K mg) (k : Nat) (ls : Lets) (B : Au) (qs : Qs) (hs u lam w : List Int) : MO := MOb T.c_Player (plF T k ls B qs hs u lam w)
theorem pl_all {T : Txt K mg} {k : Nat} {ls : Lets} {B : Au} {qs : Qs} {hs u lam w : List Int} {m : Str} (h : ∀ s ∈ plN, s ≠ m) : ∀ g ∈ plF T k ls B qs hs u lam w, g.1 ≠ m := names_ne plN h
section
variable {T : Txt K mg} {Γ : Gm} {M : Ms} {q : Addr} {k : Nat} {ls : Lets} {B : Au} {qs : Qs} {hs u lam w : List Int} {te : TE} {j : Nat}
theorem ev_plA (h : Ev te Γ M (Own q) M) (e : M[j]? = some (q, MPl T k ls B qs hs u lam w)) : Ev (tFld K te "alphabet") Γ M (PAl T (k : Int) ls) M := ev_fldO h e 0 rfl (fun _ h => by cases h) T.cl_Player T.na_Player_alphabet
theorem ev_plM (h : Ev te Γ M (Own q) M) (e : M[j]? = some (q, MPl T k ls B qs hs u lam w)) : Ev (tFld K te "machines") Γ M (PMc T k ls B) M := ev_fldO h e 1 rfl (names_ne ["alphabet"] (by decide +kernel)) T.cl_Player T.na_Player_machines
theorem ev_plQ (h : Ev te Γ M (Own q) M) (e : M[j]? = some (q, MPl T k ls B qs hs u lam w)) : Ev (tFld K te "queues") Γ M (D K (dTT qs)) M := ev_fldO h e 2 rfl (names_ne ["alphabet", "machines"] (by decide +kernel)) T.cl_Player T.na_Player_queues
theorem ev_plH (h : Ev te Γ M (Own q) M) (e : M[j]? = some (q, MPl T k ls B qs hs u lam w)) : Ev (tFld K te "heads") Γ M (D K (dT hs)) M := ev_fldO h e 3 rfl (names_ne ["alphabet", "machines", "queues"] (by decide +kernel)) T.cl_Player T.na_Player_heads
theorem ev_plS (h : Ev te Γ M (Own q) M) (e : M[j]? = some (q, MPl T k ls B qs hs u lam w)) : Ev (tFld K te "held") Γ M (D K (dTT (stM B ls u lam k))) M := ev_fldO h e 4 rfl (names_ne ["alphabet", "machines", "queues", "heads"] (by decide +kernel)) T.cl_Player T.na_Player_held
theorem ev_plT (h : Ev te Γ M (Own q) M) (e : M[j]? = some (q, MPl T k ls B qs hs u lam w)) : Ev (tFld K te "taken") Γ M (D K (dT w)) M := ev_fldO h e 5 rfl (names_ne ["alphabet", "machines", "queues", "heads", "held"] (by decide +kernel)) T.cl_Player T.na_Player_taken
end
/-- what holds of a player behind a word -/
structure PlOk (k : Nat) (ls : Lets) (B : Au) (qs : Qs) (hs w lam : List Int) : Prop where
  mo : McOk k ls B
  G : GI k ls w lam
  S : Sch (k : Int) ls qs w hs
  wl : w.length ≤ 100
  ql : qs.length = k
def sp_Player_init (T : Txt K mg) : Sp := fun vs H Q _ => ∃ (x : Addr) (k : Nat) (ls : Lets) (B : Au) (qs : Qs), (McOk k ls B ∧ qs.length = k) ∧ Prom [Own x, PAl T (k : Int) ls, PMc T k ls B, D K (dLT qs)] [(x, MOb T.c_Player [])] (D K .none) [(x, MPl T k ls B qs (List.replicate k 0) [] [] [])] vs H Q
theorem sp_Player_init_len {T : Txt K mg} {vs H Q E} (h : sp_Player_init T vs H Q E) : vs.length = 4 := by obtain ⟨_, _, _, _, _, _, h⟩ := h; exact h.len
set_option maxHeartbeats 4000000 in
theorem ok_Player_init (T : Txt K mg) : FnOk P wo K mg base CX0 3 T.f_Player_init T.d_Player_init ["self", "alphabet", "machines", "queues"] (sp_Player_init T) := by
  have nd := (sc_Player_init).nd
  refine T.F_Player_init.ok sc_Player_init (fun vs H Q E h => (sp_Player_init_len h)) (fun cdv A outer s H vs Q E hr h => ?_)
  obtain ⟨x, n, ls, B, qs, ⟨mo, ql⟩, F, w, pp, k⟩ := h
  refine ⟨_, (pss_cons (ps_fld (pv 0) (pv 1) rfl)
    (pss_cons (ps_fld (pv 0) (pv 2) rfl)
    (pss_cons (ps_fld (pv 0) (pe_callTy (c_tuple (K := K) rfl) (by rfl) T.z_tuple (by decide +kernel) (pa_cons (pe_lc (own := [("queue", 4)]) (by rfl) nd (pi_listK (K := K) rfl (pv 3)) (blkOk_by (N := ["self", "alphabet", "machines", "queues", "queue"]) (sc := defScope s_Player_init) (own := [("queue", 4)]) (by decide +kernel)) (fun _ _ _ _ _ => pg_name (i := 4) nd rfl (by first | exact Or.inl rfl | exact Or.inr rfl)) (fun _ _ _ _ _ => pts_nil) (fun _ _ _ _ _ => (pe_callTy (c_tuple (K := K) rfl) (by rfl) T.z_tuple (by decide +kernel) (pa_cons (pv 4) pa_nil)))) pa_nil)) rfl)
    (pss_cons (ps_fld (pv 0) (pe_callTy (c_tuple (K := K) rfl) (by rfl) T.z_tuple (by decide +kernel) (pa_cons (pe_op op_rep (pe_lst (pa_cons pe_int pa_nil)) (c_fld (K := K) rfl (pv 1) rfl)) pa_nil)) rfl)
    (pss_cons (ps_fld (pv 0) (pe_meth0 (pv 2) T.cl_Machines T.me_Machines_start (ok_Machines_start T) (hr.mono (by decide)) T.b_Machines_start .nil pass0) rfl)
    (pss_one (ps_fld (pv 0) (pe_tup pa_nil) rfl))))))), ?_⟩
  have n4 := mo.k4
  refine go_start w pp (Γ := [some (Own x), some (PAl T (n : Int) ls), some (PMc T n ls B), some (D K (dLT qs)), none]) rfl ?_
  show Nx _ _ [(x, MOb T.c_Player [])] _
  refine (q_fldN (j := 0) (P := PAl T (n : Int) ls) (ev_var (i := 1) rfl) (ev_var (i := 0) rfl) rfl (by decide) (fun _ h => by cases h) T.cl_Player T.na_Player_alphabet ?_)
  refine (q_fldN (j := 0) (P := PMc T n ls B) (ev_var (i := 2) rfl) (ev_var (i := 0) rfl) rfl (by simp) (names_ne ["alphabet"] (by decide +kernel)) T.cl_Player T.na_Player_machines ?_)
  dsimp only [List.set, List.append, List.cons_append, List.nil_append]
  have lc := evn_lcL (K := K) (xs := qs) (R := fun q => D K (dT q)) (G := fun q => D K (dT q)) (i := 4) (M := [(x, MOb T.c_Player [("alphabet", PAl T (n : Int) ls), ("machines", PMc T n ls B)])]) (M1 := [(x, MOb T.c_Player [("alphabet", PAl T (n : Int) ls), ("machines", PMc T n ls B)])]) (Γ := [some (Own x), some (PAl T (n : Int) ls), some (PMc T n ls B), some (D K (dLT qs)), none]) (t := tYes) (fun _ => true) ((ev_var (i := 3) rfl).weak (le_Lm (f := dT))) (by omega) (fun _ _ => et_yes) (fun q _ _ => (ev_cb (ea_cons ((ev_var (i := 4) rfl).weak le_dT) ea_nil) rc_tupleT).weak dT_le)
  rw [filter_true] at lc
  refine (q_fldN (j := 0) (P := D K (dTT qs)) ((ev_cb (ea_cons (ev_newL lc) ea_nil) rc_tupleL).weak (Tm_le (f := dT))) (ev_var (i := 0) rfl) rfl (by simp) (names_ne ["alphabet", "machines"] (by decide +kernel)) T.cl_Player T.na_Player_queues ?_)
  clear lc
  dsimp only [List.set, List.append, List.cons_append, List.nil_append]
  have rp := evn_rep (K := K) (z := (n : Int)) (Γ := [some (Own x), some (PAl T (n : Int) ls), some (PMc T n ls B), some (D K (dLT qs)), none]) (M := [(x, MOb T.c_Player [("alphabet", PAl T (n : Int) ls), ("machines", PMc T n ls B), ("queues", D K (dTT qs))])]) (evn_lst (ps := [D K (.int 0)]) (ea_cons (ev_int (K := K) (i := 0)) ea_nil) (by simp)) (fun M => ev_places (ev_var (i := 1) rfl)) (by omega)
  rw [Int.toNat_natCast] at rp
  refine (q_fldN (j := 0) (P := D K (dT (List.replicate n 0))) ((ev_cb (ea_cons (ev_newL rp) ea_nil) rc_tupleL).weak (MP.le_trans (MP.of_eq (by rw [List.map_replicate])) (dT_le (l := List.replicate n 0)))) (ev_var (i := 0) rfl) rfl (by simp) (names_ne ["alphabet", "machines", "queues"] (by decide +kernel)) T.cl_Player T.na_Player_heads ?_)
  clear rp
  dsimp only [List.set, List.append, List.cons_append, List.nil_append]
  refine (q_fldN (j := 0) (P := D K (dTT (stM B ls [] [] n))) (use_Machines_start (T := T) (X := E0) (ev_var (i := 2) rfl) mo) (ev_var (i := 0) rfl) rfl (by simp) (names_ne ["alphabet", "machines", "queues", "heads"] (by decide +kernel)) T.cl_Player T.na_Player_held ?_)
  dsimp only [List.set, List.append, List.cons_append, List.nil_append]
  refine go_fldN (j := 0) (P := D K (dT [])) ((ev_tup (K := K) (ps := []) ea_nil (by simp)).weak (PTu_D (ds := []))) (ev_var (i := 0) rfl) rfl (by simp) (names_ne ["alphabet", "machines", "queues", "heads", "held"] (by decide +kernel)) T.cl_Player T.na_Player_taken ?_
  exact fun σ H' ⟨F', a, b⟩ => k .non F' H' a .non
theorem use_Player {T : Txt K mg} {tr : TA} {Γ : Gm} {M M1 : Ms} {k : Nat} {ls : Lets} {B : Au} {qs : Qs} {X : XK} (h : EvA tr Γ M [PAl T (k : Int) ls, PMc T k ls B, D K (dLT qs)] M1) (ok : McOk k ls B ∧ qs.length = k) : EvN (tMake T.c_Player (sp_Player_init T) [] X tr) Γ M (MPl T k ls B qs (List.replicate k 0) [] [] []) M1 :=
  make0' h fun x vs H Q z => ⟨x, k, ls, B, qs, ok, z⟩
end
end My
namespace My
open PySem L2 Hq
local macro_rules | `(tactic| trivial) => `(tactic| omega)
section
variable {P : Program} {wo : World} {K : PySem.W.Frag} {mg : Str → Option Value} {base : Heap}
/-! ### Player.ready -/
theorem sc_Player_ready : FnScope ["self"] ["self"] (defScope s_Player_ready) := ⟨rfl, rfl, rfl, by decide +kernel, rfl, by decide +kernel, by decide +kernel⟩
def sp_Player_ready (T : Txt K mg) : Sp := fun vs H Q _ => ∃ (q : Addr) (k : Nat) (ls : Lets) (B : Au) (qs : Qs) (hs w lam : List Int), PlOk k ls B qs hs w lam ∧ Prom [Own q] [(q, MPl T k ls B qs hs w lam w)] (D K (dL (rdyRL ls (rq qs hs)))) [(q, MPl T k ls B qs hs w lam w)] vs H Q
theorem sp_Player_ready_len {T : Txt K mg} {vs H Q E} (h : sp_Player_ready T vs H Q E) : vs.length = 1 := by obtain ⟨_, _, _, _, _, _, _, _, _, h⟩ := h; exact h.len
set_option maxHeartbeats 4000000 in
theorem ok_Player_ready (T : Txt K mg) : FnOk P wo K mg base CX0 3 T.f_Player_ready T.d_Player_ready ["self"] (sp_Player_ready T) := by
  have nd := (sc_Player_ready).nd
  refine T.F_Player_ready.ok sc_Player_ready (fun vs H Q E h => (sp_Player_ready_len h)) (fun cdv A outer s H vs Q E hr h => ?_)
  obtain ⟨q, n, ls, B, qs, hs, wd, lam, ok, F, w, pp, k⟩ := h
  refine ⟨_, (pss_one (ps_ret (pe_call (ok_ready_letters T) (hr.mono (by decide)) rfl T.m_ready_letters T.F_ready_letters.kp T.b_ready_letters .nil pass0 (pa_cons (c_fld (K := K) rfl (pv 0) rfl) (pa_cons (c_fld (K := K) rfl (pv 0) rfl) (pa_cons (c_fld (K := K) rfl (pv 0) rfl) pa_nil)))))), ?_⟩
  refine go_start w pp (Γ := [some (Own q)]) rfl ?_
  show Nx _ _ [(q, MPl T n ls B qs hs wd lam wd)] _
  exact go_ret Le.refl (use_ready_letters (T := T) (X := E0) (c := true) (b := true) (ea_cons (ev_plA (j := 0) (ev_var (i := 0) rfl) rfl) (ea_cons (ev_plQ (j := 0) (ev_var (i := 0) rfl) rfl) (ea_cons (ev_plH (j := 0) (ev_var (i := 0) rfl) rfl) ea_nil))) ⟨ok.mo.A, ok.S.q⟩) k
theorem use_Player_ready {T : Txt K mg} {ta : TE} {Γ : Gm} {M : Ms} {q : Addr} {k : Nat} {ls : Lets} {B : Au} {qs : Qs} {hs w lam : List Int} {j : Nat} {X : XK} (ho : Ev ta Γ M (Own q) M) (e : M[j]? = some (q, MPl T k ls B qs hs w lam w)) (hn : PlOk k ls B qs hs w lam) : Ev (tMeth T.c_Player "ready" (sp_Player_ready T) [] X ta tNil) Γ M (D K (dL (rdyRL ls (rq qs hs)))) M := by
  have := ev_methO (X := X) (sp := sp_Player_ready T) (P := D K (dL (rdyRL ls (rq qs hs)))) (O' := MPl T k ls B qs hs w lam w) (m := "ready") ho e (pl_all (by decide +kernel)) ea_nil fun vs H Q z => ⟨q, k, ls, B, qs, hs, w, lam, hn, z⟩
  rw [set_same e] at this
  exact this
end
end My
namespace My
open PySem L2 Hq
local macro_rules | `(tactic| trivial) => `(tactic| omega)
section
variable {P : Program} {wo : World} {K : PySem.W.Frag} {mg : Str → Option Value} {base : Heap}
/-! ### Player.happen -/
theorem sc_Player_happen : FnScope ["self", "letter"] ["self", "letter"] (defScope s_Player_happen) := ⟨rfl, rfl, rfl, by decide +kernel, rfl, by decide +kernel, by decide +kernel⟩
theorem PlOk.step {k : Nat} {ls : Lets} {B : Au} {qs : Qs} {hs w lam : List Int} (h : PlOk k ls B qs hs w lam) {a : Int} (ha : 0 ≤ a ∧ a < (ls.length : Int)) (rd : rdyR ls (rq qs hs) a = true) (hw : w.length < 100) : PlOk k ls B qs (mvH ls a hs) (w ++ [a]) (lam ++ [nlab ls w lam k a]) :=
  ⟨h.mo, h.G.step ha, h.S.step h.mo.A ha rd, by rw [List.length_append, List.length_singleton]; omega, h.ql⟩
def sp_Player_happen (T : Txt K mg) : Sp := fun vs H Q X => ∃ (q : Addr) (k : Nat) (ls : Lets) (B : Au) (qs : Qs) (hs w lam : List Int) (a : Int), (PlOk k ls B qs hs w lam ∧ w.length < 100 ∧ (0 ≤ a ∧ a < (ls.length : Int))) ∧ ∃ F, Wd F [(q, MPl T k ls B qs hs w lam w)] H ∧ Ps F vs [Own q, D K (.int a)] ∧
  (rdyR ls (rq qs hs) a = true → Rt ⟨F, H, keys [(q, MPl T k ls B qs hs w lam w)]⟩ [(q, MPl T k ls B qs (mvH ls a hs) (w ++ [a]) (lam ++ [nlab ls w lam k a]) (w ++ [a]))] (D K .none) Q) ∧
  (rdyR ls (rq qs hs) a = false → RtE ⟨F, H, keys [(q, MPl T k ls B qs hs w lam w)]⟩ [(q, MPl T k ls B qs hs w lam w)] T.c_NotReady X)
theorem sp_Player_happen_len {T : Txt K mg} {vs H Q E} (h : sp_Player_happen T vs H Q E) : vs.length = 2 := by obtain ⟨_, _, _, _, _, _, _, _, _, _, F, _, p, _⟩ := h; exact paired_len p
theorem rdy_dec {ls : Lets} {Q : Qs} {a : Int} (ha : 0 ≤ a ∧ a < (ls.length : Int)) : decide (a ∈ rdyRL ls Q) = rdyR ls Q a := by
  rw [Bool.eq_iff_iff, decide_eq_true_iff, rdyRL_mem]
  exact ⟨fun h => h.2, fun h => ⟨ha, h⟩⟩
set_option maxHeartbeats 4000000 in
theorem ok_Player_happen (T : Txt K mg) : FnOk P wo K mg base (L2.CX P wo) 9 T.f_Player_happen T.d_Player_happen ["self", "letter"] (sp_Player_happen T) := by
  have nd := (sc_Player_happen).nd
  refine T.F_Player_happen.okX sc_Player_happen (fun vs H Q E h => (sp_Player_happen_len h)) (fun cdv A outer s H vs Q E hr h => ?_)
  obtain ⟨q, n, ls, B, qs, hs, wd, lam, a, ⟨ok, hw, ha⟩, F, w, pp, k, kx⟩ := h
  refine ⟨_, (pss_cons (ps_if (pt_cmpR (c_notIn (K := K) rfl) (pv 1) (pe_meth0 (pv 0) T.cl_Player T.me_Player_ready (ok_Player_ready T) (hr.mono (by decide)) T.b_Player_ready .nil pass0) (by rfl)) (pss_one (ps_raise rfl (takes_of rfl rfl rfl rfl) (pmk_own PySem.F.excBase_ValueError T.x_NotReady T.mc_NotReady T.k_NotReady (raises_own T.b_NotReady T.t_NotReady) (by exact rfl)))) pss_nil)
    (pss_cons (ps_fld (pv 0) (pe_call (ok_states_behind T) (hr.mono (by decide)) rfl T.m_states_behind T.F_states_behind.kp T.b_states_behind .nil pass0 (pa_cons (c_fld (K := K) rfl (pv 0) rfl) (pa_cons (c_fld (K := K) rfl (pv 0) rfl) (pa_cons (c_fld (K := K) rfl (pv 0) rfl) (pa_cons (pv 1) pa_nil))))) rfl)
    (pss_cons (ps_fld (pv 0) (pe_call (ok_moved_heads T) (hr.mono (by decide)) rfl T.m_moved_heads T.F_moved_heads.kp T.b_moved_heads .nil pass0 (pa_cons (c_fld (K := K) rfl (pv 0) rfl) (pa_cons (c_fld (K := K) rfl (pv 0) rfl) (pa_cons (pv 1) pa_nil)))) rfl)
    (pss_one (ps_fld (pv 0) (pe_tup (c_star (K := K) rfl (c_fld (K := K) rfl (pv 0) rfl) (pa_cons (pv 1) pa_nil))) rfl))))), ?_⟩
  refine go_start w pp (Γ := [some (Own q), some (D K (.int a))]) rfl ?_
  show Nx _ _ [(q, MPl T n ls B qs hs wd lam wd)] _
  refine (q_if ((et_test (ev_op (ev_var (i := 1) rfl) (use_Player_ready (T := T) (X := E0) (j := 0) (ev_var (i := 0) rfl) rfl ok) (rv_inL (neg := true)))).is (b' := !rdyR ls (rq qs hs) a) (by rw [← rdy_dec ha]; rfl)) (fun hz => ?_) fun hz => go_next ?_)
  · exact go_raise (kx (by simpa using hz))
  have rd : rdyR ls (rq qs hs) a = true := by simpa using hz
  refine (q_fldU (j := 0) (P' := D K (dTT (stM B ls (wd ++ [a]) (lam ++ [nlab ls wd lam n a]) n))) (use_states_behind (T := T) (X := E0) (k := n) (B := B) (w := wd) (lam := lam) (a := a) (ea_cons (ev_plM (j := 0) (ev_var (i := 0) rfl) rfl) (ea_cons (ev_plA (j := 0) (ev_var (i := 0) rfl) rfl) (ea_cons (ev_plS (j := 0) (ev_var (i := 0) rfl) rfl) (ea_cons (ev_var (i := 1) rfl) ea_nil)))) ⟨ok.mo, ok.G, ha⟩) (ev_var (i := 0) rfl) rfl (by simp) 4 rfl (names_ne ["alphabet", "machines", "queues", "heads"] (by decide +kernel)) T.cl_Player T.na_Player_held ?_)
  dsimp only [List.set]
  have hl := ok.S.q.hl
  have k4 := ok.mo.k4
  refine (q_fldU (j := 0) (P' := D K (dT (mvH ls a hs))) ((use_moved_heads (T := T) (X := E0) (k := (n : Int)) (ls := ls) (hs := hs) (a := a) (ea_cons (ev_plA (u := wd ++ [a]) (lam := lam ++ [nlab ls wd lam n a]) (j := 0) (ev_var (i := 0) rfl) rfl) (ea_cons (ev_plH (u := wd ++ [a]) (lam := lam ++ [nlab ls wd lam n a]) (j := 0) (ev_var (i := 0) rfl) rfl) (ea_cons (ev_var (i := 1) rfl) ea_nil))) ⟨by omega, ha⟩).weak nt_D) (ev_var (i := 0) rfl) rfl (by simp) 3 rfl (names_ne ["alphabet", "machines", "queues"] (by decide +kernel)) T.cl_Player T.na_Player_heads ?_)
  dsimp only [List.set]
  refine go_fldU (j := 0) (P' := D K (dT (wd ++ [a]))) ((ev_tup (K := K) (ea_starT ((ev_plT (hs := mvH ls a hs) (u := wd ++ [a]) (lam := lam ++ [nlab ls wd lam n a]) (j := 0) (ev_var (i := 0) rfl) rfl).weak le_dT) (ea_cons (ev_var (i := 1) rfl) ea_nil)) (by rw [List.length_append, List.length_map]; simp only [List.length_singleton]; omega)).weak ?_) (ev_var (i := 0) rfl) rfl (by simp) 5 rfl (names_ne ["alphabet", "machines", "queues", "heads", "held"] (by decide +kernel)) T.cl_Player T.na_Player_taken ?_
  · intro F v h
    refine dT_le (l := wd ++ [a]) F v ?_
    rw [List.map_append]; exact h
  dsimp only [List.set]
  exact fun σ H' ⟨F', a, b⟩ => k rd .non F' H' a .non
theorem use_Player_happen {T : Txt K mg} {ta : TE} {tr : TA} {Γ : Gm} {M : Ms} {q : Addr} {k : Nat} {ls : Lets} {B : Au} {qs : Qs} {hs w lam : List Int} {a : Int} {j : Nat} {X : XK} (ho : Ev ta Γ M (Own q) M) (e : M[j]? = some (q, MPl T k ls B qs hs w lam w)) (h : EvA tr Γ M [D K (.int a)] M) (hn : PlOk k ls B qs hs w lam ∧ w.length < 100 ∧ (0 ≤ a ∧ a < (ls.length : Int))) (rd : rdyR ls (rq qs hs) a = true) : Ev (tMeth T.c_Player "happen" (sp_Player_happen T) [] X ta tr) Γ M (D K .none) (M.set j (q, MPl T k ls B qs (mvH ls a hs) (w ++ [a]) (lam ++ [nlab ls w lam k a]) (w ++ [a]))) :=
  ev_methO ho e (pl_all (by decide +kernel)) h fun vs H Q ⟨F, w', p, r⟩ => ⟨q, k, ls, B, qs, hs, w, lam, a, hn, F, w', p, fun _ => r, fun c => by rw [rd] at c; cases c⟩
end
end My
namespace My
open PySem L2 Hq
local macro_rules | `(tactic| trivial) => `(tactic| omega)
section
variable {P : Program} {wo : World} {K : PySem.W.Frag} {mg : Str → Option Value} {base : Heap}
/-! ### Player.is_done -/
theorem sc_Player_is_done : FnScope ["self", "queue"] ["self"] (defScope s_Player_is_done) := ⟨rfl, rfl, rfl, by decide +kernel, rfl, by decide +kernel, by decide +kernel⟩
def sp_Player_is_done (T : Txt K mg) : Sp := fun vs H Q _ => ∃ (q : Addr) (k : Nat) (ls : Lets) (B : Au) (qs : Qs) (hs w lam : List Int), PlOk k ls B qs hs w lam ∧ Prom [Own q] [(q, MPl T k ls B qs hs w lam w)] (D K (.bool (decide (hs = lens qs)))) [(q, MPl T k ls B qs hs w lam w)] vs H Q
theorem sp_Player_is_done_len {T : Txt K mg} {vs H Q E} (h : sp_Player_is_done T vs H Q E) : vs.length = 1 := by obtain ⟨_, _, _, _, _, _, _, _, _, h⟩ := h; exact h.len
set_option maxHeartbeats 4000000 in
theorem ok_Player_is_done (T : Txt K mg) : FnOk P wo K mg base CX0 1 T.f_Player_is_done T.d_Player_is_done ["self"] (sp_Player_is_done T) := by
  have nd := (sc_Player_is_done).nd
  refine T.F_Player_is_done.ok sc_Player_is_done (fun vs H Q E h => (sp_Player_is_done_len h)) (fun cdv A outer s H vs Q E hr h => ?_)
  obtain ⟨q, n, ls, B, qs, hs, wd, lam, ok, F, w, pp, k⟩ := h
  refine ⟨_, (pss_one (ps_ret (pe_cmpR (c_eq (K := K) rfl hr.units) (pe_callTy (c_list (K := K) rfl) (by rfl) T.z_list (by decide +kernel) (pa_cons (c_fld (K := K) rfl (pv 0) rfl) pa_nil)) (pe_lc (own := [("queue", 1)]) (by rfl) nd (pi_tupK (K := K) rfl (c_fld (K := K) rfl (pv 0) rfl)) (blkOk_by (N := ["self", "queue"]) (sc := defScope s_Player_is_done) (own := [("queue", 1)]) (by decide +kernel)) (fun _ _ _ _ _ => pg_name (i := 1) nd rfl (by first | exact Or.inl rfl | exact Or.inr rfl)) (fun _ _ _ _ _ => pts_nil) (fun _ _ _ _ _ => (pe_callB (c_len (K := K) rfl) (by rfl) T.z_len PySem.boot_len (pa_cons (pv 1) pa_nil)))) (nomark _)))), ?_⟩
  have n4 := ok.mo.k4
  have ql := ok.ql
  refine go_start w pp (Γ := [some (Own q), none]) rfl ?_
  show Nx _ _ [(q, MPl T n ls B qs hs wd lam wd)] _
  have lc := evn_lcT (K := K) (xs := qs) (R := fun q => D K (dT q)) (G := fun q => D K (.int (q.length : Int))) (i := 1) (M := [(q, MPl T n ls B qs hs wd lam wd)]) (M1 := [(q, MPl T n ls B qs hs wd lam wd)]) (Γ := [some (Own q), none]) (t := tYes) (fun _ => true) ((ev_plQ (j := 0) (ev_var (i := 0) rfl) rfl).weak (le_Tm (f := dT))) (by omega) (fun _ _ => et_yes) (fun q _ _ => ev_lenMT (f := PyData.int) (ev_var (i := 1) rfl))
  rw [filter_true] at lc
  exact go_ret Le.refl (ev_op (P1 := D K (dL hs)) (P2 := D K (dL (lens qs))) ((ev_newL (evn_cb (ea_cons ((ev_plH (j := 0) (ev_var (i := 0) rfl) rfl).weak le_dT) ea_nil) rcn_listT)).weak dL_le) ((ev_newL (K := K) (lc.is (O2 := MInts K (lens qs)) (by unfold lens; rw [MInts, List.map_map]; rfl))).weak dL_le) (rv_eqE enc_dL (by decide))) k
theorem use_Player_is_done {T : Txt K mg} {ta : TE} {Γ : Gm} {M : Ms} {q : Addr} {k : Nat} {ls : Lets} {B : Au} {qs : Qs} {hs w lam : List Int} {j : Nat} {X : XK} (ho : Ev ta Γ M (Own q) M) (e : M[j]? = some (q, MPl T k ls B qs hs w lam w)) (hn : PlOk k ls B qs hs w lam) : Ev (tMeth T.c_Player "is_done" (sp_Player_is_done T) [] X ta tNil) Γ M (D K (.bool (decide (hs = lens qs)))) M := by
  have := ev_methO (X := X) (sp := sp_Player_is_done T) (P := D K (.bool (decide (hs = lens qs)))) (O' := MPl T k ls B qs hs w lam w) (m := "is_done") ho e (pl_all (by decide +kernel)) ea_nil fun vs H Q z => ⟨q, k, ls, B, qs, hs, w, lam, hn, z⟩
  rw [set_same e] at this
  exact this
end
end My
namespace My
open PySem L2 Hq
local macro_rules | `(tactic| trivial) => `(tactic| omega)
section
variable {P : Program} {wo : World} {K : PySem.W.Frag} {mg : Str → Option Value} {base : Heap}
/-! ### Player.is_stuck -/
theorem sc_Player_is_stuck : FnScope ["self"] ["self"] (defScope s_Player_is_stuck) := ⟨rfl, rfl, rfl, by decide +kernel, rfl, by decide +kernel, by decide +kernel⟩
def sp_Player_is_stuck (T : Txt K mg) : Sp := fun vs H Q _ => ∃ (q : Addr) (k : Nat) (ls : Lets) (B : Au) (qs : Qs) (hs w lam : List Int), PlOk k ls B qs hs w lam ∧ Prom [Own q] [(q, MPl T k ls B qs hs w lam w)] (D K (.bool (!decide (hs = lens qs) && decide (((rdyRL ls (rq qs hs)).length : Int) = 0)))) [(q, MPl T k ls B qs hs w lam w)] vs H Q
theorem sp_Player_is_stuck_len {T : Txt K mg} {vs H Q E} (h : sp_Player_is_stuck T vs H Q E) : vs.length = 1 := by obtain ⟨_, _, _, _, _, _, _, _, _, h⟩ := h; exact h.len
set_option maxHeartbeats 4000000 in
theorem ok_Player_is_stuck (T : Txt K mg) : FnOk P wo K mg base CX0 4 T.f_Player_is_stuck T.d_Player_is_stuck ["self"] (sp_Player_is_stuck T) := by
  have nd := (sc_Player_is_stuck).nd
  refine T.F_Player_is_stuck.ok sc_Player_is_stuck (fun vs H Q E h => (sp_Player_is_stuck_len h)) (fun cdv A outer s H vs Q E hr h => ?_)
  obtain ⟨q, n, ls, B, qs, hs, wd, lam, ok, F, w, pp, k⟩ := h
  refine ⟨_, (pss_one (ps_ret (pe_and (pe_not (pe_meth0 (pv 0) T.cl_Player T.me_Player_is_done (ok_Player_is_done T) (hr.mono (by decide)) T.b_Player_is_done .nil pass0)) (pe_one (pe_cmpR op_eq (pe_callB (c_len (K := K) rfl) (by rfl) T.z_len PySem.boot_len (pa_cons (pe_meth0 (pv 0) T.cl_Player T.me_Player_ready (ok_Player_ready T) (hr.mono (by decide)) T.b_Player_ready .nil pass0) pa_nil)) pe_int (nomark _)))))), ?_⟩
  refine go_start w pp (Γ := [some (Own q)]) rfl ?_
  show Nx _ _ [(q, MPl T n ls B qs hs wd lam wd)] _
  exact go_ret Le.refl (ev_andV (ev_notV (use_Player_is_done (T := T) (X := E0) (j := 0) (ev_var (i := 0) rfl) rfl ok)) fun _ => ev_op (ev_lenM (f := PyData.int) (use_Player_ready (T := T) (X := E0) (j := 0) (ev_var (i := 0) rfl) rfl ok)) (ev_int (K := K) (i := 0)) rv_eqI) k
theorem use_Player_is_stuck {T : Txt K mg} {ta : TE} {Γ : Gm} {M : Ms} {q : Addr} {k : Nat} {ls : Lets} {B : Au} {qs : Qs} {hs w lam : List Int} {j : Nat} {X : XK} (ho : Ev ta Γ M (Own q) M) (e : M[j]? = some (q, MPl T k ls B qs hs w lam w)) (hn : PlOk k ls B qs hs w lam) : Ev (tMeth T.c_Player "is_stuck" (sp_Player_is_stuck T) [] X ta tNil) Γ M (D K (.bool (!decide (hs = lens qs) && decide (((rdyRL ls (rq qs hs)).length : Int) = 0)))) M := by
  have := ev_methO (X := X) (sp := sp_Player_is_stuck T) (P := D K (.bool (!decide (hs = lens qs) && decide (((rdyRL ls (rq qs hs)).length : Int) = 0)))) (O' := MPl T k ls B qs hs w lam w) (m := "is_stuck") ho e (pl_all (by decide +kernel)) ea_nil fun vs H Q z => ⟨q, k, ls, B, qs, hs, w, lam, hn, z⟩
  rw [set_same e] at this
  exact this
end
end My
namespace My
open PySem L2 Hq
local macro_rules | `(tactic| trivial) => `(tactic| omega)
section
variable {P : Program} {wo : World} {K : PySem.W.Frag} {mg : Str → Option Value} {base : Heap}
/-! ### Player.accepts -/
theorem sc_Player_accepts : FnScope ["self"] ["self"] (defScope s_Player_accepts) := ⟨rfl, rfl, rfl, by decide +kernel, rfl, by decide +kernel, by decide +kernel⟩
def sp_Player_accepts (T : Txt K mg) : Sp := fun vs H Q _ => ∃ (q : Addr) (k : Nat) (ls : Lets) (B : Au) (qs : Qs) (hs w lam : List Int), PlOk k ls B qs hs w lam ∧ Prom [Own q] [(q, MPl T k ls B qs hs w lam w)] (D K (.bool (decide (runA B B.s w ∈ B.F)))) [(q, MPl T k ls B qs hs w lam w)] vs H Q
theorem sp_Player_accepts_len {T : Txt K mg} {vs H Q E} (h : sp_Player_accepts T vs H Q E) : vs.length = 1 := by obtain ⟨_, _, _, _, _, _, _, _, _, h⟩ := h; exact h.len
set_option maxHeartbeats 4000000 in
theorem ok_Player_accepts (T : Txt K mg) : FnOk P wo K mg base CX0 5 T.f_Player_accepts T.d_Player_accepts ["self"] (sp_Player_accepts T) := by
  have nd := (sc_Player_accepts).nd
  refine T.F_Player_accepts.ok sc_Player_accepts (fun vs H Q E h => (sp_Player_accepts_len h)) (fun cdv A outer s H vs Q E hr h => ?_)
  obtain ⟨q, n, ls, B, qs, hs, wd, lam, ok, F, w, pp, k⟩ := h
  refine ⟨_, (pss_one (ps_ret (pe_meth (c_fld (K := K) rfl (pv 0) rfl) T.cl_Machines T.me_Machines_accepts (ok_Machines_accepts T) (hr.mono (by decide)) T.b_Machines_accepts .nil pass0 (pa_cons (c_fld (K := K) rfl (pv 0) rfl) pa_nil)))), ?_⟩
  refine go_start w pp (Γ := [some (Own q)]) rfl ?_
  show Nx _ _ [(q, MPl T n ls B qs hs wd lam wd)] _
  exact go_ret Le.refl (use_Machines_accepts (T := T) (X := E0) (k := n) (ls := ls) (B := B) (w := wd) (lam := lam) (ev_plM (j := 0) (ev_var (i := 0) rfl) rfl) (ea_cons (ev_plS (j := 0) (ev_var (i := 0) rfl) rfl) ea_nil) ⟨ok.mo, ok.G⟩) k
theorem use_Player_accepts {T : Txt K mg} {ta : TE} {Γ : Gm} {M : Ms} {q : Addr} {k : Nat} {ls : Lets} {B : Au} {qs : Qs} {hs w lam : List Int} {j : Nat} {X : XK} (ho : Ev ta Γ M (Own q) M) (e : M[j]? = some (q, MPl T k ls B qs hs w lam w)) (hn : PlOk k ls B qs hs w lam) : Ev (tMeth T.c_Player "accepts" (sp_Player_accepts T) [] X ta tNil) Γ M (D K (.bool (decide (runA B B.s w ∈ B.F)))) M := by
  have := ev_methO (X := X) (sp := sp_Player_accepts T) (P := D K (.bool (decide (runA B B.s w ∈ B.F)))) (O' := MPl T k ls B qs hs w lam w) (m := "accepts") ho e (pl_all (by decide +kernel)) ea_nil fun vs H Q z => ⟨q, k, ls, B, qs, hs, w, lam, hn, z⟩
  rw [set_same e] at this
  exact this
end
end My
namespace My
open PySem L2 Hq
local macro_rules | `(tactic| trivial) => `(tactic| omega)
section
variable {P : Program} {wo : World} {K : PySem.W.Frag} {mg : Str → Option Value} {base : Heap}
/-! ### Player.happened -/
theorem sc_Player_happened : FnScope ["self"] ["self"] (defScope s_Player_happened) := ⟨rfl, rfl, rfl, by decide +kernel, rfl, by decide +kernel, by decide +kernel⟩
def sp_Player_happened (T : Txt K mg) : Sp := fun vs H Q _ => ∃ (q : Addr) (k : Nat) (ls : Lets) (B : Au) (qs : Qs) (hs w lam : List Int), PlOk k ls B qs hs w lam ∧ Prom [Own q] [(q, MPl T k ls B qs hs w lam w)] (D K (dL w)) [(q, MPl T k ls B qs hs w lam w)] vs H Q
theorem sp_Player_happened_len {T : Txt K mg} {vs H Q E} (h : sp_Player_happened T vs H Q E) : vs.length = 1 := by obtain ⟨_, _, _, _, _, _, _, _, _, h⟩ := h; exact h.len
set_option maxHeartbeats 4000000 in
theorem ok_Player_happened (T : Txt K mg) : FnOk P wo K mg base CX0 1 T.f_Player_happened T.d_Player_happened ["self"] (sp_Player_happened T) := by
  have nd := (sc_Player_happened).nd
  refine T.F_Player_happened.ok sc_Player_happened (fun vs H Q E h => (sp_Player_happened_len h)) (fun cdv A outer s H vs Q E hr h => ?_)
  obtain ⟨q, n, ls, B, qs, hs, wd, lam, ok, F, w, pp, k⟩ := h
  refine ⟨_, (pss_one (ps_ret (pe_callTy (c_list (K := K) rfl) (by rfl) T.z_list (by decide +kernel) (pa_cons (c_fld (K := K) rfl (pv 0) rfl) pa_nil)))), ?_⟩
  refine go_start w pp (Γ := [some (Own q)]) rfl ?_
  show Nx _ _ [(q, MPl T n ls B qs hs wd lam wd)] _
  exact go_ret Le.refl ((ev_newL (evn_cb (ea_cons ((ev_plT (j := 0) (ev_var (i := 0) rfl) rfl).weak le_dT) ea_nil) rcn_listT)).weak dL_le) k
theorem use_Player_happened {T : Txt K mg} {ta : TE} {Γ : Gm} {M : Ms} {q : Addr} {k : Nat} {ls : Lets} {B : Au} {qs : Qs} {hs w lam : List Int} {j : Nat} {X : XK} (ho : Ev ta Γ M (Own q) M) (e : M[j]? = some (q, MPl T k ls B qs hs w lam w)) (hn : PlOk k ls B qs hs w lam) : Ev (tMeth T.c_Player "happened" (sp_Player_happened T) [] X ta tNil) Γ M (D K (dL w)) M := by
  have := ev_methO (X := X) (sp := sp_Player_happened T) (P := D K (dL w)) (O' := MPl T k ls B qs hs w lam w) (m := "happened") ho e (pl_all (by decide +kernel)) ea_nil fun vs H Q z => ⟨q, k, ls, B, qs, hs, w, lam, hn, z⟩
  rw [set_same e] at this
  exact this
end
end My
namespace My
open PySem L2 Hq
local macro_rules | `(tactic| trivial) => `(tactic| omega)
section
variable {P : Program} {wo : World} {K : PySem.W.Frag} {mg : Str → Option Value} {base : Heap}
/-! ### _law_happens -/
theorem sc__law_happens : FnScope ["player", "letter"] ["player", "letter"] (defScope s__law_happens) := ⟨rfl, rfl, rfl, by decide +kernel, rfl, by decide +kernel, by decide +kernel⟩
def sp__law_happens (T : Txt K mg) : Sp := fun vs H Q _ => ∃ (q : Addr) (k : Nat) (ls : Lets) (B : Au) (qs : Qs) (hs w lam : List Int) (a : Int), (PlOk k ls B qs hs w lam ∧ w.length < 100 ∧ (0 ≤ a ∧ a < (ls.length : Int))) ∧
  (rdyR ls (rq qs hs) a = true ∧ Prom [Own q, D K (.int a)] [(q, MPl T k ls B qs hs w lam w)] (D K (.bool true)) [(q, MPl T k ls B qs (mvH ls a hs) (w ++ [a]) (lam ++ [nlab ls w lam k a]) (w ++ [a]))] vs H Q ∨
   rdyR ls (rq qs hs) a = false ∧ Prom [Own q, D K (.int a)] [(q, MPl T k ls B qs hs w lam w)] (D K (.bool false)) [(q, MPl T k ls B qs hs w lam w)] vs H Q)
theorem sp__law_happens_len {T : Txt K mg} {vs H Q E} (h : sp__law_happens T vs H Q E) : vs.length = 2 := by obtain ⟨_, _, _, _, _, _, _, _, _, _, ⟨_, h⟩ | ⟨_, h⟩⟩ := h <;> exact h.len
set_option maxHeartbeats 4000000 in
theorem ok__law_happens (T : Txt K mg) : FnOk P wo K mg base CX0 10 T.f__law_happens T.d__law_happens ["player", "letter"] (sp__law_happens T) := by
  have nd := (sc__law_happens).nd
  refine T.F__law_happens.ok sc__law_happens (fun vs H Q E h => (sp__law_happens_len h)) (fun cdv A outer s H vs Q E hr h => ?_)
  obtain ⟨q, n, ls, B, qs, hs, wd, lam, a, ok, h⟩ := h
  refine ⟨_, (pss_one (ps_try_only rfl rfl ⟨rfl, by decide, Or.inl T.mc_NotReady⟩ takes0 (fun W pn xe tk _ => (pss_cons (ps_expr (pe_meth (pv 0) T.cl_Player T.me_Player_happen (ok_Player_happen T) (hr.mono (by decide)) T.b_Player_happen .nil (passes_call (E := fun cls d H => ∀ σ, W cls d σ H) tk fun _ _ σ _ h => h σ) (pa_cons (pv 1) pa_nil)))
     (pss_one (ps_ret pe_bl)))) (fun a oe cls d pn _ _ => (pss_one (ps_ret pe_bl))))), ?_⟩
  rcases h with ⟨rd, F, w, pp, k⟩ | ⟨rd, F, w, pp, k⟩
  · refine go_start w pp (Γ := [some (Own q), some (D K (.int a))]) rfl ?_
    show Nx _ _ [(q, MPl T n ls B qs hs wd lam wd)] _
    refine q_drop (use_Player_happen (T := T) (j := 0) (ev_var (i := 0) rfl) rfl (ea_cons (ev_var (i := 1) rfl) ea_nil) ok rd) ?_
    exact go_ret Le.refl (ev_bl (K := K)) k
  · refine go_start w pp (Γ := [some (Own q), some (D K (.int a))]) rfl ?_
    show Nx _ _ [(q, MPl T n ls B qs hs wd lam wd)] _
    refine meth_no (C := T.c_Player) (m := "happen") (sp := sp_Player_happen T) (Cx := T.c_NotReady) (O' := MPl T n ls B qs hs wd lam wd) (j := 0) (ps := [D K (.int a)]) (ev_var (i := 0) rfl) rfl (pl_all (by decide +kernel)) (ea_cons (ev_var (i := 1) rfl) ea_nil) (fun vs H Q X ⟨F, w, p, r⟩ => ⟨q, n, ls, B, qs, hs, wd, lam, a, ok, F, w, p, (fun c => absurd (rd.symm.trans c) (by decide)), fun _ => r⟩) ?_
    intro F2 H2 a2 σ2
    exact ⟨true, T.e_NotReady, fun _ _ _ => k (.bl false) F2 H2 a2 (.bl false), fun z => by cases z⟩
theorem use_happens_yes {T : Txt K mg} {tr : TA} {Γ : Gm} {M M1 : Ms} {q : Addr} {k : Nat} {ls : Lets} {B : Au} {qs : Qs} {hs w lam : List Int} {a : Int} {j : Nat} {X : XK} (h : EvA tr Γ M [Own q, D K (.int a)] M1) (hn : PlOk k ls B qs hs w lam ∧ w.length < 100 ∧ (0 ≤ a ∧ a < (ls.length : Int))) (rd : rdyR ls (rq qs hs) a = true) (e : M1[j]? = some (q, MPl T k ls B qs hs w lam w)) : Ev (tCall (sp__law_happens T) [] X tr) Γ M (D K (.bool true)) (M1.set j (q, MPl T k ls B qs (mvH ls a hs) (w ++ [a]) (lam ++ [nlab ls w lam k a]) (w ++ [a]))) :=
  call1m h e fun vs H Q z => ⟨q, k, ls, B, qs, hs, w, lam, a, hn, .inl ⟨rd, z⟩⟩
theorem use_happens_no {T : Txt K mg} {tr : TA} {Γ : Gm} {M M1 : Ms} {q : Addr} {k : Nat} {ls : Lets} {B : Au} {qs : Qs} {hs w lam : List Int} {a : Int} {j : Nat} {X : XK} (h : EvA tr Γ M [Own q, D K (.int a)] M1) (hn : PlOk k ls B qs hs w lam ∧ w.length < 100 ∧ (0 ≤ a ∧ a < (ls.length : Int))) (rd : rdyR ls (rq qs hs) a = false) (e : M1[j]? = some (q, MPl T k ls B qs hs w lam w)) : Ev (tCall (sp__law_happens T) [] X tr) Γ M (D K (.bool false)) (M1.set j (q, MPl T k ls B qs hs w lam w)) :=
  call1m h e fun vs H Q z => ⟨q, k, ls, B, qs, hs, w, lam, a, hn, .inr ⟨rd, z⟩⟩
end
end My
namespace My
open PySem L2 Hq
local macro_rules | `(tactic| trivial) => `(tactic| omega)
section
variable {P : Program} {wo : World} {K : PySem.W.Frag} {mg : Str → Option Value} {base : Heap}
/-! ### _law_changed -/
theorem sc__law_changed : FnScope ["draws", "letters", "queues", "place", "own", "queue", "at", "kind", "letter"] ["draws", "letters", "queues"] (defScope s__law_changed) := ⟨rfl, rfl, rfl, by decide +kernel, rfl, by decide +kernel, by decide +kernel⟩
theorem cutI_le {l : List Int} {lo hi : Option Int} : (cutI l lo hi).length ≤ l.length := by
  unfold cutI
  rw [List.length_take, List.length_drop]
  omega
theorem qat_tot {qs : Qs} {p : Nat} (hp : p < qs.length) : (qat qs p).length ≤ totQ qs := by
  rw [totQ_eq]
  have h1 : (qat qs p).length ∈ (List.range qs.length).map fun p : Nat => (qat qs p).length := List.mem_map.mpr ⟨p, List.mem_range.mpr hp, rfl⟩
  have : ∀ (l : List Nat) (x : Nat), x ∈ l → x ≤ l.sum := by
    intro l x hx
    induction l with
    | nil => cases hx
    | cons a l ih =>
      rw [List.sum_cons]
      rcases List.mem_cons.mp hx with rfl | hx
      · omega
      · have := ih hx; omega
  exact this _ _ h1
abbrev PQs (K : PySem.W.Frag) (n : Nat) : MP := PEx fun Q2 : Qs => PAn (Q2.length = n ∧ totQ Q2 ≤ 600) (D K (dLT Q2))
def sp__law_changed (T : Txt K mg) : Sp := fun vs H Q _ => ∃ (d : Addr) (ls : Lets) (qs : Qs), (ls.length ≤ 10 ∧ 1 ≤ qs.length ∧ qs.length ≤ 10 ∧ totQ qs ≤ 100) ∧ Prom [Own d, D K (dLT ls), D K (dLT qs)] [(d, MDr K)] (PQs K qs.length) [(d, MDr K)] vs H Q
theorem sp__law_changed_len {T : Txt K mg} {vs H Q E} (h : sp__law_changed T vs H Q E) : vs.length = 3 := by obtain ⟨_, _, _, _, h⟩ := h; exact h.len
set_option maxHeartbeats 4000000 in
theorem ok__law_changed (T : Txt K mg) : FnOk P wo K mg base CX0 2 T.f__law_changed T.d__law_changed ["draws", "letters", "queues"] (sp__law_changed T) := by
  have nd := (sc__law_changed).nd
  refine T.F__law_changed.ok sc__law_changed (fun vs H Q E h => (sp__law_changed_len h)) (fun cdv A outer s H vs Q E hr h => ?_)
  obtain ⟨d, ls, qs, ⟨hl, q1, q10, tq⟩, F, w, pp, k⟩ := h
  refine ⟨_, (pss_cons (ps_set (i := 3) nd rfl (Or.inr rfl) (pe_call (ok__law_take T) (hr.mono (by decide)) rfl T.m__law_take T.F__law_take.kp T.b__law_take .nil pass0 (pa_cons (pv 0) (pa_cons (pe_callB (c_len (K := K) rfl) (by rfl) T.z_len PySem.boot_len (pa_cons (pv 2) pa_nil)) pa_nil))))
    (pss_cons (ps_setLc (i := 4) (own := [("letter", 8)]) (by rfl) nd rfl rfl (sw_true rfl rfl rfl (by decide +kernel)) (pi_range1 (by rfl) T.z_range (pa_cons (pe_callB (c_len (K := K) rfl) (by rfl) T.z_len PySem.boot_len (pa_cons (pv 1) pa_nil)) pa_nil)) (blkOk_by (N := ["draws", "letters", "queues", "place", "own", "queue", "at", "kind", "letter"]) (sc := defScope s__law_changed) (own := [("letter", 8)]) (by decide +kernel)) (fun _ _ _ _ _ => pg_name (i := 8) nd rfl (by first | exact Or.inl rfl | exact Or.inr rfl)) (fun _ _ _ _ _ => (pts_one (pt_cmpR (c_in (K := K) rfl) (pv 3) (pe_ix (c_ix (K := K) rfl) (pv 1) (pv 8) (fun _ _ => rfl)) (by rfl)))) (fun _ _ _ _ _ => (pv 8)))
    (pss_cons (ps_set (i := 5) nd rfl (Or.inl rfl) (pe_callTy (c_list (K := K) rfl) (by rfl) T.z_list (by decide +kernel) (pa_cons (pe_ix (c_ix (K := K) rfl) (pv 2) (pv 3) (fun _ _ => rfl)) pa_nil)))
    (pss_cons (ps_set (i := 6) nd rfl (Or.inl rfl) (pe_call (ok__law_take T) (hr.mono (by decide)) rfl T.m__law_take T.F__law_take.kp T.b__law_take .nil pass0 (pa_cons (pv 0) (pa_cons (pe_op op_add (pe_callB (c_len (K := K) rfl) (by rfl) T.z_len PySem.boot_len (pa_cons (pv 5) pa_nil)) pe_int) pa_nil))))
    (pss_cons (ps_set (i := 7) nd rfl (Or.inl rfl) (pe_call (ok__law_take T) (hr.mono (by decide)) rfl T.m__law_take T.F__law_take.kp T.b__law_take .nil pass0 (pa_cons (pv 0) (pa_cons pe_int pa_nil))))
    (Evl.pss_cut (ps_if (pt_cmpR op_eq (pv 7) pe_int (nomark _)) (pss_one (ps_set (i := 5) nd rfl (Or.inl rfl) (pe_op (c_catL (K := K) rfl) (pe_slice (c_slL (K := K) rfl) (pv 5) po_none (po_some (pv 6))) (pe_slice (c_slL (K := K) rfl) (pv 5) (po_some (pe_op op_add (pv 6) pe_int)) po_none)))) (pss_one (ps_if (PW.pt (pw_and (pt_cmpR op_eq (pv 7) pe_int (nomark _)) (pw_and1 (pt_cmpR op_gt (pe_callB (c_len (K := K) rfl) (by rfl) T.z_len PySem.boot_len (pa_cons (pv 4) pa_nil)) pe_int (nomark _))))) (pss_one (ps_set (i := 5) nd rfl (Or.inl rfl) (pe_op (c_catL (K := K) rfl) (pe_op (c_catL (K := K) rfl) (pe_slice (c_slL (K := K) rfl) (pv 5) po_none (po_some (pv 6))) (pe_lst (pa_cons (pe_ix (c_ix (K := K) rfl) (pv 4) (pe_call (ok__law_take T) (hr.mono (by decide)) rfl T.m__law_take T.F__law_take.kp T.b__law_take .nil pass0 (pa_cons (pv 0) (pa_cons (pe_callB (c_len (K := K) rfl) (by rfl) T.z_len PySem.boot_len (pa_cons (pv 4) pa_nil)) pa_nil))) (fun _ _ => rfl)) pa_nil))) (pe_slice (c_slL (K := K) rfl) (pv 5) (po_some (pv 6)) po_none)))) (pss_one (ps_set (i := 5) nd rfl (Or.inl rfl) (pe_op (c_catL (K := K) rfl) (pe_op (c_catL (K := K) rfl) (pe_op (c_catL (K := K) rfl) (pe_slice (c_slL (K := K) rfl) (pv 5) po_none (po_some (pv 6))) (pe_slice (c_slL (K := K) rfl) (pv 5) (po_some (pe_op op_add (pv 6) pe_int)) (po_some (pe_op op_add (pv 6) pe_int)))) (pe_slice (c_slL (K := K) rfl) (pv 5) (po_some (pv 6)) (po_some (pe_op op_add (pv 6) pe_int)))) (pe_slice (c_slL (K := K) rfl) (pv 5) (po_some (pe_op op_add (pv 6) pe_int)) po_none)))))))
    (pss_one (ps_ret (pe_op (c_catL (K := K) rfl) (pe_op (c_catL (K := K) rfl) (pe_slice (c_slL (K := K) rfl) (pv 2) po_none (po_some (pv 3))) (pe_lst (pa_cons (pe_callTy (c_tuple (K := K) rfl) (by rfl) T.z_tuple (by decide +kernel) (pa_cons (pv 5) pa_nil)) pa_nil))) (pe_slice (c_slL (K := K) rfl) (pv 2) (po_some (pe_op op_add (pv 3) pe_int)) po_none)))))))))), ?_⟩
  refine go_start w pp (Γ := [some (Own d), some (D K (dLT ls)), some (D K (dLT qs)), none, none, none, none, none, none]) rfl ?_
  show Nx _ _ [(d, MDr K)] _
  refine (q_asg (use__law_take (T := T) (X := E0) (n := (qs.length : Int)) (ea_cons (ev_var (i := 0) rfl) (ea_cons (ev_lenM (f := dT) (ev_var (i := 2) rfl)) ea_nil)) (by omega) (j := 0) rfl) (nx_ex (i := 3) rfl fun p1 => nx_an (i := 3) rfl fun hp1 => ?_))
  obtain ⟨p, rfl⟩ := Int.eq_ofNat_of_zero_le hp1.1
  have hp : p < qs.length := by omega
  dsimp only [List.set]
  have lc := evn_lcR (K := K) (z := (ls.length : Int)) (i := 8) (G := fun a : Nat => D K (.int (a : Int))) (M := [(d, MDr K)]) (M1 := [(d, MDr K)]) (Γ := [some (Own d), some (D K (dLT ls)), some (D K (dLT qs)), some (D K (.int (p : Int))), none, none, none, none, none]) (fun a : Nat => decide ((p : Int) ∈ ls.getD a [])) (ea_cons (ev_lenM (f := dT) (ev_var (i := 1) rfl)) ea_nil) (by omega) (fun a ha => et_test (ev_op (ev_var (i := 3) rfl) (ev_op (ev_var (i := 1) rfl) (ev_var (i := 8) rfl) (rv_ixDL (d := dT (ls.getD a [])) (by omega) (by rw [Int.toNat_natCast, List.getElem?_map, List.getD_eq_getElem?_getD, List.getElem?_eq_getElem (by omega)]; rfl))) (rv_inT (neg := false)))) (fun a _ _ => ev_var (i := 8) rfl)
  rw [Int.toNat_natCast] at lc
  obtain ⟨own, hown⟩ : ∃ own : List Int, own = ((List.range ls.length).filter fun a : Nat => decide ((p : Int) ∈ ls.getD a [])).map fun a : Nat => (a : Int) := ⟨_, rfl⟩
  refine (q_asg (P := D K (dL own)) ((ev_newL lc).weak (MP.le_trans (MP.of_eq (by rw [hown, List.map_map]; rfl)) (dL_le (l := own)))) ?_)
  clear lc
  dsimp only [List.set]
  have ol := qat_tot hp
  refine (q_asg (P := D K (dL (qat qs p))) ((ev_newL (evn_cb (ea_cons (ev_op (ev_var (i := 2) rfl) (ev_var (i := 3) rfl) (rv_ixDL (ds := qs.map dT) (d := dT (qat qs p)) (by omega) (by
    unfold qat
    rw [List.getElem?_map, List.getD_eq_getElem?_getD, Int.toNat_natCast, List.getElem?_eq_getElem hp]; rfl))) ea_nil) (RCN.in1 (R' := PTu K ((qat qs p).map fun n => D K (.int n))) le_dT rcn_listT))).weak dL_le) ?_)
  dsimp only [List.set]
  generalize qat qs p = o at ol
  refine (q_asg (use__law_take (T := T) (X := E0) (n := (o.length : Int) + 1) (ea_cons (ev_var (i := 0) rfl) (ea_cons (ev_op (ev_lenM (f := PyData.int) (ev_var (i := 5) rfl)) (ev_int (K := K) (i := 1)) (rv_i0 (g := fun i j => i + j))) ea_nil)) (by omega) (j := 0) rfl) (nx_ex (i := 6) rfl fun at_ => nx_an (i := 6) rfl fun hat => ?_))
  dsimp only [List.set]
  refine (q_asg (use__law_take (T := T) (X := E0) (n := 3) (ea_cons (ev_var (i := 0) rfl) (ea_cons (ev_int (K := K) (i := 3)) ea_nil)) (by omega) (j := 0) rfl) (nx_ex (i := 7) rfl fun kd => nx_an (i := 7) rfl fun hkd => ?_))
  dsimp only [List.set]
  have pl1 : ∀ {Γ : Gm} {M : Ms} {c : Int}, Γ[6]? = some (some (D K (.int at_))) → Ev (tOp (rI0 fun i j => V.int (i + j)) (tVar 6) (tC (V.int c))) Γ M (D K (.int (at_ + c))) M := fun h => ev_op (ev_var h) (ev_int (K := K)) (rv_i0 (g := fun i j => i + j))
  have sl : ∀ {Γ : Gm} {M : Ms} {lo hi : Option Int} {tl th : TO}, Γ[5]? = some (some (D K (dL o))) → EvP tl Γ M lo → EvP th Γ M hi → Ev (tSl (rSlL K) (tVar 5) tl th) Γ M (D K (dL (cutI o lo hi))) M := fun h h1 h2 => ev_slLD (ev_var h) h1 h2
  have c1 := fun lo hi => cutI_le (l := o) (lo := lo) (hi := hi)
  refine go_cut (fun Γ M => ∃ o2 : List Int, o2.length ≤ 4 * o.length + 1 ∧ Γ = [some (Own d), some (D K (dLT ls)), some (D K (dLT qs)), some (D K (.int (p : Int))), some (D K (dL own)), some (D K (dL o2)), some (D K (.int at_)), some (D K (.int kd)), none] ∧ M = [(d, MDr K)]) ?_ ?_
  · refine go_if (et_test (ev_op (ev_var (i := 7) rfl) (ev_int (K := K) (i := 0)) rv_eqI)) (fun _ => ?_) fun _ => ?_
    · refine go_asg (P := D K (dL (cutI o none (some at_) ++ cutI o (some (at_ + 1)) none))) (ev_op (sl rfl ep_none (ep_some (ev_var (i := 6) rfl))) (sl rfl (ep_some (pl1 rfl)) ep_none) (rv_catLD (f := PyData.int) (by have := c1 none (some at_); have := c1 (some (at_ + 1)) none; omega))) (JA.of ⟨_, ?_, rfl, rfl⟩)
      have := c1 none (some at_); have := c1 (some (at_ + 1)) none
      rw [List.length_append]; omega
    · refine go_if (et_and (a := decide (kd = 1)) (b := decide ((0 : Int) < (own.length : Int))) (et_test (ev_op (ev_var (i := 7) rfl) (ev_int (K := K) (i := 1)) rv_eqI)) fun _ => et_test (ev_op (ev_lenM (f := PyData.int) (ev_var (i := 4) rfl)) (ev_int (K := K) (i := 0)) (rv_b0 (g := fun i j => decide (j < i))))) (fun hz => ?_) fun _ => ?_
      · have o1 : (0 : Int) < (own.length : Int) := by
          have := hz.symm
          rw [Bool.and_eq_true] at this
          exact of_decide_eq_true this.2
        refine go_asg (P := PEx fun x : Int => PAn (x ∈ own) (D K (dL (cutI o none (some at_) ++ [x] ++ cutI o (some at_) none)))) (ev_op (P1 := PEx fun x : Int => PAn (x ∈ own) (D K (dL (cutI o none (some at_) ++ [x])))) (ev_op (sl rfl ep_none (ep_some (ev_var (i := 6) rfl))) ((ev_newL (evn_lst (ea_cons (ev_op (P1 := D K (.list (own.map PyData.int))) (ev_var (i := 4) rfl) (use__law_take (T := T) (X := E0) (n := (own.length : Int)) (ea_cons (ev_var (i := 0) rfl) (ea_cons (ev_lenM (f := PyData.int) (ev_var (i := 4) rfl)) ea_nil)) (by omega) (j := 0) rfl) (rv_ixX (f := PyData.int))) ea_nil) (by simp))).weak lst1_le) (RV.ex2 fun x => RV.an2 fun hx => (rv_catLD (f := PyData.int) (by have := c1 none (some at_); simp; omega)).weak (MP.le_trans (PAn.in hx) (PEx.in (R := fun x : Int => PAn (x ∈ own) (D K (dL (cutI o none (some at_) ++ [x])))) x)))) (sl rfl (ep_some (ev_var (i := 6) rfl)) ep_none) (RV.ex1 fun x => RV.an1 fun hx => (rv_catLD (f := PyData.int) (by have := c1 none (some at_); have := c1 (some at_) none; rw [List.length_append]; simp; omega)).weak (MP.le_trans (PAn.in hx) (PEx.in (R := fun x : Int => PAn (x ∈ own) (D K (dL (cutI o none (some at_) ++ [x] ++ cutI o (some at_) none)))) x)))) (nx_ex (i := 5) rfl fun x => nx_an (i := 5) rfl fun hx => JA.of ⟨_, ?_, rfl, rfl⟩)
        have := c1 none (some at_); have := c1 (some at_) none
        rw [List.length_append, List.length_append, List.length_singleton]; omega
      · refine go_asg (P := D K (dL (cutI o none (some at_) ++ cutI o (some (at_ + 1)) (some (at_ + 2)) ++ cutI o (some at_) (some (at_ + 1)) ++ cutI o (some (at_ + 2)) none))) (ev_op (P1 := D K (dL (cutI o none (some at_) ++ cutI o (some (at_ + 1)) (some (at_ + 2)) ++ cutI o (some at_) (some (at_ + 1))))) (ev_op (P1 := D K (dL (cutI o none (some at_) ++ cutI o (some (at_ + 1)) (some (at_ + 2))))) (ev_op (sl rfl ep_none (ep_some (ev_var (i := 6) rfl))) (sl rfl (ep_some (pl1 rfl)) (ep_some (pl1 rfl))) (rv_catLD (f := PyData.int) ?_)) (sl rfl (ep_some (ev_var (i := 6) rfl)) (ep_some (pl1 rfl))) (rv_catLD (f := PyData.int) ?_)) (sl rfl (ep_some (pl1 rfl)) ep_none) (rv_catLD (f := PyData.int) ?_)) (JA.of ⟨_, ?_, rfl, rfl⟩)
        all_goals
          have := c1 none (some at_); have := c1 (some (at_ + 1)) (some (at_ + 2)); have := c1 (some at_) (some (at_ + 1)); have := c1 (some (at_ + 2)) none
          try simp only [List.length_append]
          omega
  rintro _ _ ⟨o2, o2l, rfl, rfl⟩
  have tp := totQ_put (qs := qs) (p := p) (o := o2)
  have ln : (qs.take p ++ [o2] ++ qs.drop (p + 1)).length = qs.length := by simp only [List.length_append, List.length_take, List.length_cons, List.length_nil, List.length_drop]; omega
  refine go_ret Le.refl (P := D K (dLT (qs.take p ++ [o2] ++ qs.drop (p + 1)))) (ev_op (P1 := D K (dLT (qs.take p ++ [o2]))) (ev_op (P1 := D K (dLT (qs.take p))) (P2 := D K (dLT [o2])) ((ev_slLDf (f := dT) (ev_var (i := 2) rfl) ep_none (ep_some (ev_var (i := 3) rfl))).is (by rw [cutG_take]; rfl)) ((ev_newL (evn_lst (ps := [D K (dT o2)]) (ea_cons ((ev_cb (ea_cons ((ev_var (i := 5) rfl).weak le_dL) ea_nil) rc_tupleL).weak dT_le) ea_nil) (by simp))).weak (Lm_le (f := dT) (l := [o2]))) (rv_catLD (f := dT) (by simp only [List.length_take, List.length_cons, List.length_nil]; omega))) (P2 := D K (dLT (qs.drop (p + 1)))) ((ev_slLDf (f := dT) (ev_var (i := 2) rfl) (ep_some ((ev_op (ev_var (i := 3) rfl) (ev_int (K := K) (i := 1)) (rv_i0 (g := fun i j => i + j))).is (P' := D K (.int ((p + 1 : Nat) : Int))) (by rw [show (p : Int) + 1 = ((p + 1 : Nat) : Int) by omega]))) ep_none).is (by rw [cutG_drop]; rfl)) (rv_catLD (f := dT) (by simp only [List.length_append, List.length_take, List.length_cons, List.length_nil, List.length_drop]; omega))) (k.weak (MP.le_trans (PAn.in ⟨ln, by omega⟩) (PEx.in (R := fun Q2 : Qs => PAn (Q2.length = qs.length ∧ totQ Q2 ≤ 600) (D K (dLT Q2))) (qs.take p ++ [o2] ++ qs.drop (p + 1)))))
theorem use__law_changed {T : Txt K mg} {tr : TA} {Γ : Gm} {M M1 : Ms} {d : Addr} {ls : Lets} {qs : Qs} {j : Nat} {X : XK} (h : EvA tr Γ M [Own d, D K (dLT ls), D K (dLT qs)] M1) (hn : ls.length ≤ 10 ∧ 1 ≤ qs.length ∧ qs.length ≤ 10 ∧ totQ qs ≤ 100) (e : M1[j]? = some (d, MDr K)) : Ev (tCall (sp__law_changed T) [] X tr) Γ M (PQs K qs.length) M1 :=
  call1 h e fun vs H Q z => ⟨d, ls, qs, hn, z⟩
end
end My
namespace My
open PySem L2 Hq
local macro_rules | `(tactic| trivial) => `(tactic| omega)
section
variable {P : Program} {wo : World} {K : PySem.W.Frag} {mg : Str → Option Value} {base : Heap}
/-! ### law -/
theorem sc_law : FnScope ["script", "draws", "count", "letters", "alphabet", "automaton", "queues", "player", "heads", "happened", "k", "ready", "done", "letter", "place", "queue"] ["script"] (defScope s_law) := ⟨rfl, rfl, rfl, by decide +kernel, rfl, by decide +kernel, by decide +kernel⟩
def spLaw (K : PySem.W.Frag) : Sp := fun vs H Q _ => ∃ (a : Addr) (ns : List Int), vs = [.ref a] ∧ SqL K H a (ns.map V.int) ∧ ns.length ≤ 63 ∧ ∀ H', Q (.bl true) H'
def sp_law (T : Txt K mg) : Sp := spLaw K
theorem sp_law_len {T : Txt K mg} {vs H Q E} (h : sp_law T vs H Q E) : vs.length = 1 := by obtain ⟨a, ns, rfl, _⟩ := h; rfl
theorem alpha_len {k : Int} {ls : Lets} (A : AlphaOk k ls) : ∀ l ∈ ls, l.length ≤ 1000 := fun l hl => by
  obtain ⟨_, h2, h3⟩ := A.ok l hl
  have := pw_len h2 h3 (by have := A.k1; omega)
  have := A.k4
  omega
theorem min_says {A : Au} (O : A.Ok) {w : List Int} (hw : LetOk A w) : decide (runA (minA A) (minA A).s w ∈ (minA A).F) = decide (runA A A.s w ∈ A.F) := decide_eq_decide.mpr (min_acc O hw)
theorem cls_of {A : Au} {ls : Lets} (O : A.Ok) (hL : A.L = ls.length) (c : Cmt A ls) : ClsP (minA A) (prs ls) := fun s hs z hz => by
  obtain ⟨a, b⟩ := z
  obtain ⟨ha, hb, hf⟩ := prs_mem.mp hz
  exact cmt_min O hL c s hs a b ha hb hf
theorem use__law_queuesX {T : Txt K mg} {tr : TA} {Γ : Gm} {M M1 : Ms} {k : Int} {ls : Lets} {m : Int} {X : XK} (h : EvA tr Γ M [D K (.int k), D K (dLT ls), PWd K (ls.length : Int) m] M1) (hn : 0 ≤ k ∧ k ≤ 1000 ∧ m ≤ 1000) : Ev (tCall (sp__law_queues T) [] X tr) Γ M (PEx fun wd : List Int => PAn ((wd.length : Int) ≤ m ∧ WordOk ls wd) (D K (dLT (pws ls k wd)))) M1 :=
  call0 h fun vs H Q z => by
    obtain ⟨F, w, p, r⟩ := z
    cases p with
    | cons p1 p => cases p with
      | cons p2 p => cases p with
        | cons p3 p =>
          obtain ⟨x, hx, p3⟩ := p3
          exact ⟨k, ls, x, ⟨hn.1, hn.2.1, hx.2, by omega⟩, F, w, .cons p1 (.cons p2 (.cons (nt_D _ _ p3) p)), r.weak (MP.le_trans (PAn.in (φ := (x.length : Int) ≤ m ∧ WordOk ls x) ⟨hx.1, hx.2⟩) (PEx.in (R := fun wd : List Int => PAn ((wd.length : Int) ≤ m ∧ WordOk ls wd) (D K (dLT (pws ls k wd)))) x))⟩
set_option maxHeartbeats 4000000 in
theorem ok_law (T : Txt K mg) : FnOk P wo K mg base CX0 11 T.f_law T.d_law ["script"] (sp_law T) := by
  have nd := (sc_law).nd
  refine T.F_law.ok sc_law (fun vs H Q E h => (sp_law_len h)) (fun cdv A outer s H vs Q E hr h => ?_)
  obtain ⟨a0, ns, rfl, hS, hns, k0⟩ := h
  have w : Wd H [] H := ⟨Evl.Ex.refl _, List.nodup_nil, fun r hr => by cases hr⟩
  have ps : Ps H [.ref a0] [PLi K (ns.map fun n => D K (.int n))] := .cons ⟨a0, _, rfl, hS, map_ints ns⟩ .nil
  have k : ∀ M, Rt ⟨H, H, keys []⟩ M (D K (.bool true)) Q := fun M v F H' _ hv => by cases dp_bl hv; exact k0 H'
  refine ⟨_, (pss_cons (ps_set (i := 1) nd rfl (Or.inl rfl) (pe_call (ok__law_draws T) (hr.mono (by decide)) rfl T.m__law_draws T.F__law_draws.kp T.b__law_draws .nil pass0 (pa_cons (pv 0) (pa_cons pe_int pa_nil))))
    (pss_cons (ps_asg (pe_call (ok__law_alphabet T) (hr.mono (by decide)) rfl T.m__law_alphabet T.F__law_alphabet.kp T.b__law_alphabet .nil pass0 (pa_cons (pv 1) (pa_cons pe_int (pa_cons pe_int pa_nil)))) (pg_tupK (K := K) (n := 2) rfl (by rfl) (pgs_cons (pg_name (i := 2) nd rfl (by first | exact Or.inl rfl | exact Or.inr rfl)) (pgs_cons (pg_name (i := 3) nd rfl (by first | exact Or.inl rfl | exact Or.inr rfl)) pgs_nil))))
    (pss_cons (ps_set (i := 4) nd rfl (Or.inl rfl) (pe_make ⟨T.mk_Alphabet, T.in_Alphabet, T.if_Alphabet, T.kc_Alphabet⟩ (ok_Alphabet_init T) (hr.mono (by decide)) rfl T.mc_Alphabet T.b_Alphabet_init .nil pass0 (pa_cons (pv 2) (pa_cons (pe_callTy (c_list (K := K) rfl) (by rfl) T.z_list (by decide +kernel) (pa_cons (pv 3) pa_nil)) pa_nil))))
    (pss_cons (ps_set (i := 5) nd rfl (Or.inl rfl) (pe_call (ok__law_closed_automaton T) (hr.mono (by decide)) rfl T.m__law_closed_automaton T.F__law_closed_automaton.kp T.b__law_closed_automaton .nil pass0 (pa_cons (pv 1) (pa_cons (pv 2) (pa_cons (pv 3) (pa_cons pe_int pa_nil))))))
    (pss_cons (ps_set (i := 6) nd rfl (Or.inl rfl) (pe_call (ok__law_queues T) (hr.mono (by decide)) rfl T.m__law_queues T.F__law_queues.kp T.b__law_queues .nil pass0 (pa_cons (pv 2) (pa_cons (pv 3) (pa_cons (pe_call (ok__law_word T) (hr.mono (by decide)) rfl T.m__law_word T.F__law_word.kp T.b__law_word .nil pass0 (pa_cons (pv 1) (pa_cons (pe_callB (c_len (K := K) rfl) (by rfl) T.z_len PySem.boot_len (pa_cons (pv 3) pa_nil)) (pa_cons pe_int pa_nil)))) pa_nil)))))
    (Evl.pss_cut (ps_if (pt_cmpR op_eq (pe_call (ok__law_take T) (hr.mono (by decide)) rfl T.m__law_take T.F__law_take.kp T.b__law_take .nil pass0 (pa_cons (pv 1) (pa_cons pe_int pa_nil))) pe_int (nomark _)) (pss_one (ps_set (i := 6) nd rfl (Or.inl rfl) (pe_call (ok__law_changed T) (hr.mono (by decide)) rfl T.m__law_changed T.F__law_changed.kp T.b__law_changed .nil pass0 (pa_cons (pv 1) (pa_cons (pv 3) (pa_cons (pv 6) pa_nil)))))) pss_nil)
    (pss_cons (ps_set (i := 7) nd rfl (Or.inl rfl) (pe_make ⟨T.mk_Player, T.in_Player, T.if_Player, T.kc_Player⟩ (ok_Player_init T) (hr.mono (by decide)) rfl T.mc_Player T.b_Player_init .nil pass0 (pa_cons (pv 4) (pa_cons (pe_make ⟨T.mk_Machines, T.in_Machines, T.if_Machines, T.kc_Machines⟩ (ok_Machines_init T) (hr.mono (by decide)) rfl T.mc_Machines T.b_Machines_init .nil passL (pa_cons (pv 4) (pa_cons (pe_call (ok__law_made T) (hr.mono (by decide)) rfl T.m__law_made T.F__law_made.kp T.b__law_made .nil pass0 (pa_cons (pv 3) (pa_cons (pv 5) pa_nil))) pa_nil))) (pa_cons (pe_callTy (c_list (K := K) rfl) (by rfl) T.z_list (by decide +kernel) (pa_cons (pv 6) pa_nil)) pa_nil)))))
    (pss_cons (ps_set (i := 8) nd rfl (Or.inl rfl) (pe_op op_rep (pe_lst (pa_cons pe_int pa_nil)) (pv 2)))
    (pss_cons (ps_set (i := 9) nd rfl (Or.inl rfl) (pe_lst pa_nil))
    (pss_cons (ps_for PassesOwn.never rfl (pi_range1 (by rfl) T.z_range (pa_cons pe_int pa_nil)) (pg_name (i := 10) nd rfl (by first | exact Or.inl rfl | exact Or.inr rfl))
     (pss_cons (ps_set (i := 11) nd rfl (Or.inl rfl) (pe_call (ok__law_ready T) (hr.mono (by decide)) rfl T.m__law_ready T.F__law_ready.kp T.b__law_ready .nil pass0 (pa_cons (pv 3) (pa_cons (pv 6) (pa_cons (pv 8) pa_nil)))))
     (pss_cons (ps_set (i := 12) nd rfl (Or.inl rfl) (pe_cmpR (c_eq (K := K) rfl hr.units) (pv 8) (pe_lc (own := [("queue", 15)]) (by rfl) nd (pi_listK (K := K) rfl (pv 6)) (blkOk_by (N := ["script", "draws", "count", "letters", "alphabet", "automaton", "queues", "player", "heads", "happened", "k", "ready", "done", "letter", "place", "queue"]) (sc := defScope s_law) (own := [("queue", 15)]) (by decide +kernel)) (fun _ _ _ _ _ => pg_name (i := 15) nd rfl (by first | exact Or.inl rfl | exact Or.inr rfl)) (fun _ _ _ _ _ => pts_nil) (fun _ _ _ _ _ => (pe_callB (c_len (K := K) rfl) (by rfl) T.z_len PySem.boot_len (pa_cons (pv 15) pa_nil)))) (nomark _)))
     (pss_cons (ps_if (PW.pt (pw_or (pt_cmpR (c_ne (K := K) rfl hr.units) (pe_meth0 (pv 7) T.cl_Player T.me_Player_ready (ok_Player_ready T) (hr.mono (by decide)) T.b_Player_ready .nil pass0) (pv 11) (nomark _)) (pw_or (pt_cmpR (c_ne (K := K) rfl hr.units) (pe_meth0 (pv 7) T.cl_Player T.me_Player_happened (ok_Player_happened T) (hr.mono (by decide)) T.b_Player_happened .nil pass0) (pv 9) (nomark _)) (pw_or1 (pt_cmpR (c_ne (K := K) rfl hr.units) (pe_meth0 (pv 7) T.cl_Player T.me_Player_is_done (ok_Player_is_done T) (hr.mono (by decide)) T.b_Player_is_done .nil pass0) (pv 12) (nomark _)))))) (pss_one (ps_ret pe_bl)) pss_nil)
     (pss_cons (ps_if (pt_cmpR (c_ne (K := K) rfl hr.units) (pe_meth0 (pv 7) T.cl_Player T.me_Player_is_stuck (ok_Player_is_stuck T) (hr.mono (by decide)) T.b_Player_is_stuck .nil pass0) (pe_and (pe_not (pv 12)) (pe_one (pe_cmpR op_eq (pe_callB (c_len (K := K) rfl) (by rfl) T.z_len PySem.boot_len (pa_cons (pv 11) pa_nil)) pe_int (nomark _)))) (nomark _)) (pss_one (ps_ret pe_bl)) pss_nil)
     (pss_cons (ps_if (pt_cmpR (c_ne (K := K) rfl hr.units) (pe_meth0 (pv 7) T.cl_Player T.me_Player_accepts (ok_Player_accepts T) (hr.mono (by decide)) T.b_Player_accepts .nil pass0) (pe_call (ok__law_takes T) (hr.mono (by decide)) rfl T.m__law_takes T.F__law_takes.kp T.b__law_takes .nil pass0 (pa_cons (pv 5) (pa_cons (pv 9) pa_nil))) (nomark _)) (pss_one (ps_ret pe_bl)) pss_nil)
     (pss_cons (ps_set (i := 13) nd rfl (Or.inl rfl) (pe_call (ok__law_take T) (hr.mono (by decide)) rfl T.m__law_take T.F__law_take.kp T.b__law_take .nil pass0 (pa_cons (pv 1) (pa_cons (pe_callB (c_len (K := K) rfl) (by rfl) T.z_len PySem.boot_len (pa_cons (pv 3) pa_nil)) pa_nil))))
     (Evl.pss_cut (ps_if (PW.pt (pw_and (pt_cmpR op_gt (pe_callB (c_len (K := K) rfl) (by rfl) T.z_len PySem.boot_len (pa_cons (pv 11) pa_nil)) pe_int (nomark _)) (pw_and1 (pt_cmpR op_gt (pe_call (ok__law_take T) (hr.mono (by decide)) rfl T.m__law_take T.F__law_take.kp T.b__law_take .nil pass0 (pa_cons (pv 1) (pa_cons pe_int pa_nil))) pe_int (nomark _))))) (pss_one (ps_set (i := 13) nd rfl (Or.inl rfl) (pe_ix (c_ix (K := K) rfl) (pv 11) (pe_call (ok__law_take T) (hr.mono (by decide)) rfl T.m__law_take T.F__law_take.kp T.b__law_take .nil pass0 (pa_cons (pv 1) (pa_cons (pe_callB (c_len (K := K) rfl) (by rfl) T.z_len PySem.boot_len (pa_cons (pv 11) pa_nil)) pa_nil))) (fun _ _ => rfl)))) pss_nil)
     (pss_cons (ps_if (pt_cmpR (c_ne (K := K) rfl hr.units) (pe_call (ok__law_happens T) (hr.mono (by decide)) rfl T.m__law_happens T.F__law_happens.kp T.b__law_happens .nil pass0 (pa_cons (pv 7) (pa_cons (pv 13) pa_nil))) (pe_cmpR (c_in (K := K) rfl) (pv 13) (pv 11) (by rfl)) (nomark _)) (pss_one (ps_ret pe_bl)) pss_nil)
     (pss_one (ps_if (pt_cmpR (c_in (K := K) rfl) (pv 13) (pv 11) (by rfl)) (pss_cons (ps_expr (pe_bm PySem.F.plainAttrs_list PySem.F.slot_list_append PySem.F.type_list_append mt_append (pv 9) (pa_cons (pv 13) pa_nil)))
      (pss_one (ps_for PassesOwn.never rfl (pi_tupK (K := K) rfl (pe_ix (c_ix (K := K) rfl) (pv 3) (pv 13) (fun _ _ => rfl))) (pg_name (i := 14) nd rfl (by first | exact Or.inl rfl | exact Or.inr rfl))
       (pss_one (ps_asg (pe_op op_add (pe_ix (c_ix (K := K) rfl) (pv 8) (pv 14) (fun _ _ => rfl)) pe_int) (pg_sub (pv 8) (pv 14) set_list)))))) pss_nil)))))))))))
    (pss_one (ps_ret pe_bl)))))))))))), ?_⟩
  refine go_start w ps (Γ := [some (PLi K (ns.map fun n => D K (.int n))), none, none, none, none, none, none, none, none, none, none, none, none, none, none, none]) rfl ?_
  refine (q_asgN (use__law_draws (ea_cons (ev_var rfl) (ea_cons (ev_int (K := K)) ea_nil)) (by decide) (by decide) (by omega)) fun d hd => ?_)
  generalize PLi K (ns.map fun n => D K (.int n)) = S0 at *
  refine (q_unp2 (φ := fun x : Int × Lets => AlphaOk x.1 x.2 ∧ x.1 ≤ 3 ∧ (x.2.length : Int) ≤ 4) (R1 := fun x => D K (.int x.1)) (R2 := fun x => D K (dLT x.2)) ((use__law_alphabet (ea_cons (ev_var rfl) (ea_cons (ev_int (K := K)) (ea_cons (ev_int (K := K)) ea_nil))) (by decide) (j := 0) rfl).weak (PEx.le fun x => PAn.le fun _ => D_PTu)) fun x hx => ?_)
  obtain ⟨n, ls⟩ := x
  obtain ⟨hA, n3, l4⟩ := hx
  dsimp only at hA n3 l4
  have l4 : ls.length ≤ 4 := by omega
  have l1 := hA.l1
  have k1 := hA.k1
  obtain ⟨m, rfl⟩ := Int.eq_ofNat_of_zero_le (show 0 ≤ n by omega)
  have m4 : m ≤ 4 := by omega
  have lpl : ∀ l ∈ ls, l.length ≤ 1000 := alpha_len hA
  dsimp only [List.set]
  have evlen : ∀ {Γ : Gm} {M : Ms}, Γ[3]? = some (some (D K (dLT ls))) → Ev (tCB (rLn K) (tCons (tVar 3) tNil)) Γ M (D K (.int (ls.length : Int))) M := fun e => ev_lenM (f := dT) (ev_var e)
  refine (q_asg (use_Alphabet (ea_cons (ev_var (i := 2) rfl) (ea_cons (ev_newL (evn_cb (ea_cons ((ev_var (i := 3) rfl).weak (le_Lm (f := dT))) ea_nil) rcn_listL)) ea_nil)) hA) ?_)
  dsimp only [List.set]
  refine (q_asg (use__law_closed_automaton (T := T) (X := E0) (m := 2) (ea_cons (ev_var (i := 1) rfl) (ea_cons (ev_var (i := 2) rfl) (ea_cons (ev_var (i := 3) rfl) (ea_cons (ev_int (K := K) (i := 2)) ea_nil)))) ⟨by omega, by omega, by omega, l1, by omega, lpl⟩ (j := 0) rfl) (nx_ex (i := 5) rfl fun A => nx_an (i := 5) rfl fun hAA => ?_))
  obtain ⟨⟨O, hL, hN⟩, cA⟩ := hAA
  dsimp only [List.set]
  refine (q_asg (use__law_queuesX (T := T) (X := E0) (m := 10) (ea_cons (ev_var (i := 2) rfl) (ea_cons (ev_var (i := 3) rfl) (ea_cons (use__law_word (T := T) (X := E0) (ea_cons (ev_var (i := 1) rfl) (ea_cons (evlen rfl) (ea_cons (ev_int (K := K) (i := 10)) ea_nil))) (by omega) (j := 0) rfl) ea_nil))) ⟨by omega, by omega, by decide⟩) (nx_ex (i := 6) rfl fun wd => nx_an (i := 6) rfl fun hwd => ?_))
  obtain ⟨wl, wok⟩ := hwd
  dsimp only [List.set]
  have tq : totQ (pws ls (m : Int) wd) ≤ 4 * 10 := Nat.le_trans totQ_pws (Nat.mul_le_mul (by omega) (by omega))
  have pl_ : (pws ls (m : Int) wd).length = m := by unfold pws; rw [List.length_map, List.length_range]; rfl
  refine go_cut (fun Γ M => ∃ qs : Qs, (qs.length = m ∧ totQ qs ≤ 600) ∧ Γ = [some S0, some (Own d), some (D K (.int (m : Int))), some (D K (dLT ls)), some (PAl T (m : Int) ls), some (D K (dAu A)), some (D K (dLT qs)), none, none, none, none, none, none, none, none, none] ∧ M = [(d, MDr K)]) ?_ ?_
  · refine go_if (et_testX (φ := fun _ => True) (ev_op (use__law_take (T := T) (X := E0) (n := 2) (ea_cons (ev_var (i := 1) rfl) (ea_cons (ev_int (K := K) (i := 2)) ea_nil)) (by decide) (j := 0) rfl) (ev_int (K := K) (i := 0)) rv_eqX)) (fun _ => ?_) fun _ => go_next (JA.of ⟨_, ⟨pl_, by omega⟩, rfl, rfl⟩)
    exact go_asg (use__law_changed (T := T) (X := E0) (qs := pws ls (m : Int) wd) (ea_cons (ev_var (i := 1) rfl) (ea_cons (ev_var (i := 3) rfl) (ea_cons (ev_var (i := 6) rfl) ea_nil))) ⟨by omega, by omega, by omega, by omega⟩ (j := 0) rfl) (nx_ex (i := 6) rfl fun Q2 => nx_an (i := 6) rfl fun hQ => JA.of ⟨Q2, ⟨by omega, hQ.2⟩, rfl, rfl⟩)
  rintro _ _ ⟨qs, ⟨ql, qt⟩, rfl, rfl⟩
  clear tq pl_ wl wok
  have Fl : A.F.length ≤ 9 := by
    have nd : A.F.Nodup := O.up.imp fun h => Int.ne_of_lt h
    have := nodup_le nd (m := (List.range A.R.length).map fun i : Nat => (i : Int)) fun x hx => by
      obtain ⟨h1, h2⟩ := O.F x hx
      exact List.mem_map.mpr ⟨x.toNat, List.mem_range.mpr (by omega), by omega⟩
    rw [List.length_map, List.length_range] at this
    omega
  have c := cls_of O hL cA
  have hb : AlphaOk (m : Int) ls ∧ A.Ok ∧ A.L = ls.length ∧ A.R.length ≤ 40 := ⟨hA, O, hL, by omega⟩
  have mo := mcok hb c
  refine (q_asgN (use_Player (T := T) (k := m) (ls := ls) (B := minA A) (qs := qs) (ea_cons (ev_var (i := 4) rfl) (ea_cons (use_MachinesF (T := T) (X := E0) (ea_cons (ev_var (i := 4) rfl) (ea_cons (use__law_made (T := T) (X := E0) (A := A) (ls := ls) (ea_cons (ev_var (i := 3) rfl) (ea_cons (ev_var (i := 5) rfl) ea_nil)) ⟨O, by omega, by omega, by omega, hL.symm⟩) ea_nil)) hb c) (ea_cons ((ev_newL (evn_cb (ea_cons ((ev_var (i := 6) rfl).weak (le_Lm (f := dT))) ea_nil) rcn_listL)).weak (Lm_le (f := dT))) ea_nil))) ⟨mo, ql⟩) fun q7 hq7 => ?_)
  dsimp only [List.set]
  have says : ∀ {w : List Int}, WordOk ls w → decide (runA (minA A) (minA A).s w ∈ (minA A).F) = decide (runA A A.s w ∈ A.F) := fun hw => min_says O fun a ha => by rw [hL]; exact hw a ha
  have lets : ∀ {w : List Int}, WordOk ls w → LetOk A w := fun hw a ha => by rw [hL]; exact hw a ha
  generalize minA A = B at *
  have rp := evn_rep (K := K) (z := (m : Int)) (Γ := [some S0, some (Own d), some (D K (.int (m : Int))), some (D K (dLT ls)), some (PAl T (m : Int) ls), some (D K (dAu A)), some (D K (dLT qs)), some (Own q7), none, none, none, none, none, none, none, none]) (M := [(q7, MPl T m ls B qs (List.replicate m 0) [] [] []), (d, MDr K)]) (evn_lst (ps := [D K (.int 0)]) (ea_cons (ev_int (K := K) (i := 0)) ea_nil) (by simp)) (fun M => ev_var (i := 2) rfl) (by omega)
  rw [Int.toNat_natCast] at rp
  refine (q_asgN (rp.is (O2 := MInts K (List.replicate m 0)) (by rw [MInts, List.map_replicate])) fun q8 hq8 => ?_)
  clear rp
  dsimp only [List.set]
  refine (q_asgN (evn_lst ea_nil (by decide)) fun q9 hq9 => ?_)
  dsimp only [List.set]
  have S00 := Sch.start (k := (m : Int)) (ls := ls) (qs := qs) (by rw [ql]; rfl)
  rw [Int.toNat_natCast] at S00
  refine (q_forR (z := 16) (ea_cons (ev_int (K := K) (i := 16)) ea_nil) (by omega) (by omega) (fun i Γ M => ∃ (hs w lam : List Int) (g10 g11 g12 g13 g14 : Option MP), Γ = [some S0, some (Own d), some (D K (.int (m : Int))), some (D K (dLT ls)), some (PAl T (m : Int) ls), some (D K (dAu A)), some (D K (dLT qs)), some (Own q7), some (Own q8), some (Own q9), g10, g11, g12, g13, g14, none] ∧ M = [(q9, MInts K w), (q8, MInts K hs), (q7, MPl T m ls B qs hs w lam w), (d, MDr K)] ∧ PlOk m ls B qs hs w lam ∧ w.length ≤ i) ⟨List.replicate m 0, [], [], _, _, _, _, _, rfl, rfl, ⟨mo, GI.start hA, S00, by simp, ql⟩, Nat.le_refl _⟩ ?_ ?_)
  · rintro i hi _ _ ⟨hs, wd2, lam, g10, g11, g12, g13, g14, rfl, rfl, ok, wl⟩
    have hi : i < 16 := by omega
    have wok := ok.S.wf
    have hl := ok.S.q.hl
    dsimp only [List.set]
    refine (q_asg (use__law_ready (T := T) (X := E0) (k := (m : Int)) (hs := hs) (ea_cons (ev_var (i := 3) rfl) (ea_cons (ev_var (i := 6) rfl) (ea_cons (ev_var (i := 8) rfl) ea_nil))) ⟨hA, ok.S.q⟩ (j := 1) rfl) ?_)
    dsimp only [List.set]
    have lc := evn_lcL (K := K) (xs := qs) (R := fun q => D K (dT q)) (G := fun q => D K (.int (q.length : Int))) (i := 15) (M := [(q9, MInts K wd2), (q8, MInts K hs), (q7, MPl T m ls B qs hs wd2 lam wd2), (d, MDr K)]) (M1 := [(q9, MInts K wd2), (q8, MInts K hs), (q7, MPl T m ls B qs hs wd2 lam wd2), (d, MDr K)]) (Γ := [some S0, some (Own d), some (D K (.int (m : Int))), some (D K (dLT ls)), some (PAl T (m : Int) ls), some (D K (dAu A)), some (D K (dLT qs)), some (Own q7), some (Own q8), some (Own q9), some (D K (.int (i : Int))), some (D K (dL (rdyRL ls (rq qs hs)))), g12, g13, g14, none]) (t := tYes) (fun _ => true) ((ev_var (i := 6) rfl).weak (le_Lm (f := dT))) (by omega) (fun _ _ => et_yes) (fun q _ _ => ev_lenMT (f := PyData.int) (ev_var (i := 15) rfl))
    rw [filter_true] at lc
    refine (q_asg (P := D K (.bool (decide (hs = lens qs)))) (ev_op (P1 := Own q8) (P2 := D K (dL (lens qs))) (ev_var (i := 8) rfl) ((ev_newL (K := K) (lc.is (O2 := MInts K (lens qs)) (by unfold lens; rw [MInts, List.map_map]; rfl))).weak dL_le) (rv_eqOL enc_int (by decide) (j := 1) (ys := hs) (xs := lens qs) rfl)) ?_)
    clear lc
    dsimp only [List.set]
    refine (q_if (et_or (a := false) (b := false) ((et_test (ev_op (use_Player_ready (T := T) (X := E0) (j := 2) (ev_var (i := 7) rfl) rfl ok) (ev_var (i := 11) rfl) (rv_neE enc_dL (by decide)))).is (by simp)) fun _ => et_or (a := false) (b := false) ((et_test (ev_op (P1 := D K (dL wd2)) (P2 := Own q9) (use_Player_happened (T := T) (X := E0) (j := 2) (ev_var (i := 7) rfl) rfl ok) (ev_var (i := 9) rfl) (rv_neLO enc_int (by decide) (j := 0) (xs := wd2) (ys := wd2) rfl))).is (by simp)) fun _ => (et_test (ev_op (use_Player_is_done (T := T) (X := E0) (j := 2) (ev_var (i := 7) rfl) rfl ok) (ev_var (i := 12) rfl) (rv_neE enc_bool (by decide)))).is (by simp)) (fun hz => absurd hz (by simp)) fun _ => go_next ?_)
    refine (q_if ((et_test (ev_op (use_Player_is_stuck (T := T) (X := E0) (j := 2) (ev_var (i := 7) rfl) rfl ok) (ev_andV (ev_notV (ev_var (i := 12) rfl)) fun _ => ev_op (ev_lenM (f := PyData.int) (ev_var (i := 11) rfl)) (ev_int (K := K) (i := 0)) rv_eqI) (rv_neE enc_bool (by decide)))).is (b' := false) (by simp)) (fun hz => absurd hz (by simp)) fun _ => go_next ?_)
    refine (q_if ((et_test (ev_op (use_Player_accepts (T := T) (X := E0) (j := 2) (ev_var (i := 7) rfl) rfl ok) (use__law_takes (T := T) (X := E0) (A := A) (w := wd2) (q := q9) (ea_cons (ev_var (i := 5) rfl) (ea_cons (ev_var (i := 9) rfl) ea_nil)) ⟨O, lets wok, by omega⟩ (j := 0) rfl) (rv_neE enc_bool (by decide)))).is (b' := false) (by rw [says wok]; simp)) (fun hz => absurd hz (by simp)) fun _ => go_next ?_)
    refine (q_asg (use__law_take (T := T) (X := E0) (n := (ls.length : Int)) (ea_cons (ev_var (i := 1) rfl) (ea_cons (evlen rfl) ea_nil)) (by omega) (j := 3) rfl) (nx_ex (i := 13) rfl fun a1 => nx_an (i := 13) rfl fun ha1 => ?_))
    dsimp only [List.set]
    refine go_cut (fun Γ M => ∃ a : Int, (0 ≤ a ∧ a < (ls.length : Int)) ∧ Γ = [some S0, some (Own d), some (D K (.int (m : Int))), some (D K (dLT ls)), some (PAl T (m : Int) ls), some (D K (dAu A)), some (D K (dLT qs)), some (Own q7), some (Own q8), some (Own q9), some (D K (.int (i : Int))), some (D K (dL (rdyRL ls (rq qs hs)))), some (D K (.bool (decide (hs = lens qs)))), some (D K (.int a)), g14, none] ∧ M = [(q9, MInts K wd2), (q8, MInts K hs), (q7, MPl T m ls B qs hs wd2 lam wd2), (d, MDr K)]) ?_ ?_
    · refine go_if (et_andL (et_test (ev_op (ev_lenM (f := PyData.int) (ev_var (i := 11) rfl)) (ev_int (K := K) (i := 0)) (rv_b0 (g := fun i j => decide (j < i))))) fun _ => et_testX (φ := fun _ => True) (ev_op (P1 := PIn K 0 4) (P2 := D K (.int 0)) (use__law_take (T := T) (X := E0) (n := 4) (ea_cons (ev_var (i := 1) rfl) (ea_cons (ev_int (K := K) (i := 4)) ea_nil)) (by decide) (j := 3) rfl) (ev_int (K := K) (i := 0)) (RV.ex1 fun x => RV.an1 fun _ => (rv_b0 (g := fun i j => decide (j < i))).weak (MP.le_trans (PAn.in trivial) (PEx.in (R := fun b : Bool => PAn True (D K (.bool b))) _))))) (fun hz => ?_) fun _ => go_next (JA.of ⟨a1, ha1, rfl, rfl⟩)
      have hz : (0 : Int) < ((rdyRL ls (rq qs hs)).length : Int) := by
        have := hz rfl
        simpa using this
      refine go_asg (ev_op (P1 := D K (.list ((rdyRL ls (rq qs hs)).map PyData.int))) (ev_var (i := 11) rfl) (use__law_take (T := T) (X := E0) (n := ((rdyRL ls (rq qs hs)).length : Int)) (ea_cons (ev_var (i := 1) rfl) (ea_cons (ev_lenM (f := PyData.int) (ev_var (i := 11) rfl)) ea_nil)) hz (j := 3) rfl) (rv_ixX (f := PyData.int))) (nx_ex (i := 13) rfl fun a => nx_an (i := 13) rfl fun ha => JA.of ⟨a, (rdyRL_mem.mp ha).1, rfl, rfl⟩)
    rintro _ _ ⟨a, ha, rfl, rfl⟩
    have inr : ∀ {Γ : Gm} {M : Ms}, Γ[13]? = some (some (D K (.int a))) → Γ[11]? = some (some (D K (dL (rdyRL ls (rq qs hs))))) → Ev (tOp (rIn K false) (tVar 13) (tVar 11)) Γ M (D K (.bool (rdyR ls (rq qs hs) a))) M := fun h1 h2 => (ev_op (ev_var h1) (ev_var h2) (rv_inL (neg := false))).is (by rw [← rdy_dec ha]; rfl)
    cases rd : rdyR ls (rq qs hs) a with
    | false =>
      refine (q_if ((et_test (ev_op (use_happens_no (T := T) (X := E0) (j := 2) (ea_cons (ev_var (i := 7) rfl) (ea_cons (ev_var (i := 13) rfl) ea_nil)) ⟨ok, by omega, ha⟩ rd rfl) (inr rfl rfl) (rv_neE enc_bool (by decide)))).is (b' := false) (by rw [rd]; simp)) (fun hz => absurd hz (by simp)) fun _ => go_next ?_)
      dsimp only [List.set]
      exact go_if (et_test (inr rfl rfl)) (fun hz => absurd hz (by rw [rd]; simp)) fun _ => go_next (JA.of ⟨hs, wd2, lam, _, _, _, _, _, rfl, rfl, ok, by omega⟩)
    | true =>
      refine (q_if ((et_test (ev_op (use_happens_yes (T := T) (X := E0) (j := 2) (ea_cons (ev_var (i := 7) rfl) (ea_cons (ev_var (i := 13) rfl) ea_nil)) ⟨ok, by omega, ha⟩ rd rfl) (inr rfl rfl) (rv_neE enc_bool (by decide)))).is (b' := false) (by rw [rd]; simp)) (fun hz => absurd hz (by simp)) fun _ => go_next ?_)
      dsimp only [List.set]
      refine go_if (et_test (inr rfl rfl)) (fun _ => ?_) fun hz => absurd hz (by rw [rd]; simp)
      have ok2 := ok.step ha rd (by omega)
      refine (q_app (j := 0) (P := D K (.int a)) (ev_var (i := 9) rfl) (ev_var (i := 13) rfl) rfl rfl (by rw [List.length_map]; omega) ?_)
      dsimp only [List.set]
      obtain ⟨x, rfl⟩ := Int.eq_ofNat_of_zero_le ha.1
      have pok := (hA.pl_ok ha).2
      have pnd := (hA.ok _ (pl_mem ha.1 ha.2)).2.1
      refine go_forT ((ev_op (ev_var (i := 3) rfl) (ev_var (i := 13) rfl) (rv_ixDL (ds := ls.map dT) ha.1 (by rw [List.getElem?_map, pl_get ha.1 ha.2]; rfl))).weak le_dT) (fun j Γ M => ∃ (hs' : List Int) (g14 : Option MP), Γ = [some S0, some (Own d), some (D K (.int (m : Int))), some (D K (dLT ls)), some (PAl T (m : Int) ls), some (D K (dAu A)), some (D K (dLT qs)), some (Own q7), some (Own q8), some (Own q9), some (D K (.int (i : Int))), some (D K (dL (rdyRL ls (rq qs hs)))), some (D K (.bool (decide (hs = lens qs)))), some (D K (.int (x : Int))), g14, none] ∧ M = [(q9, ML (wd2.map (fun n => D K (.int n)) ++ [D K (.int (x : Int))])), (q8, MInts K hs'), (q7, MPl T m ls B qs (mvH ls (x : Int) hs) (wd2 ++ [(x : Int)]) (lam ++ [nlab ls wd2 lam m (x : Int)]) (wd2 ++ [(x : Int)])), (d, MDr K)] ∧ hs'.length = m ∧ ∀ p : Nat, (p : Int) < m → hs'.getD p 0 = hs.getD p 0 + if (p : Int) ∈ (pl ls (x : Int)).take j then 1 else 0) ⟨hs, _, rfl, rfl, by omega, by simp⟩ ?_ ?_
      · rintro E' hE j P hP _ _ ⟨hs', g14, rfl, rfl, hl', hx⟩
        rw [List.getElem?_map] at hP
        obtain ⟨y, hxi, rfl⟩ := Option.map_eq_some_iff.mp hP
        have hxm := List.mem_of_getElem? hxi
        obtain ⟨x0, xk⟩ := pok y hxm
        obtain ⟨p, rfl⟩ := Int.eq_ofNat_of_zero_le x0
        have hnot : (p : Int) ∉ (pl ls (x : Int)).take j := fun hm2 => by
          obtain ⟨c, hc1, hc2⟩ := List.getElem_of_mem hm2
          rw [List.length_take] at hc1
          rw [List.getElem_take] at hc2
          obtain ⟨hi1, hi2⟩ := List.getElem?_eq_some_iff.mp hxi
          have := List.pairwise_iff_getElem.mp pnd c j (by omega) hi1 (by omega)
          omega
        dsimp only [List.set]
        refine go_setL (j := 1) (ev_op (ev_op (ev_var (i := 8) rfl) (ev_var (i := 14) rfl) (rv_ixO (j := 1) rfl (by omega) (i_r (by omega)))) (ev_int (K := K) (i := 1)) (rv_i0 (g := fun i j => i + j))) (ev_var (i := 8) rfl) (ev_var (i := 14) rfl) rfl (by omega) (by rw [List.length_map]; omega) (JA.of ⟨hs'.set p (hs'.getD p 0 + 1), _, rfl, by simp [MInts, List.map_set], by rw [List.length_set]; exact hl', fun c hc => ?_⟩)
        rw [List.getD_eq_getElem?_getD, List.getElem?_set, List.take_add_one, hxi]
        by_cases e : p = c
        · subst e
          rw [if_pos rfl, if_pos (by omega), if_pos (by simp)]
          show hs'.getD p 0 + 1 = _
          rw [hx p xk, if_neg hnot]; omega
        · rw [if_neg e, ← List.getD_eq_getElem?_getD, hx c hc]
          have : ((c : Int) ∈ (pl ls (x : Int)).take j ++ (some (p : Int)).toList) ↔ (c : Int) ∈ (pl ls (x : Int)).take j := by simp; omega
          simp only [this]
      · rintro _ _ ⟨hs', g14, rfl, rfl, hl', hx⟩
        rw [List.length_map, List.take_length] at hx
        have e : hs' = mvH ls (x : Int) hs := by
          have ml := ok2.S.q.hl
          apply List.ext_getElem
          · omega
          · intro p h1 h2
            rw [← getD_at h1, ← getD_at h2, hx p (by omega), mvH_get (by omega)]
        subst e
        refine JA.of ⟨_, wd2 ++ [(x : Int)], _, _, _, _, _, _, rfl, ?_, ok2, by rw [List.length_append, List.length_singleton]; omega⟩
        show _ = [(q9, ML ((wd2 ++ [(x : Int)]).map fun n => D K (.int n))), _, _, _]
        rw [List.map_append]; rfl
  rintro _ _ ⟨hs, wd2, lam, g10, g11, g12, g13, g14, rfl, rfl, ok, wl⟩
  exact go_ret Le.refl (ev_bl (K := K)) (k _)
end
end My
namespace My
open PySem L2 Hq
theorem all_mk {l : PySem.W.OpenLaw} {wo : World} {K : PySem.W.Frag} {h : Heap} {mg : Str → Option Value} {fa c_Alphabet c_Automaton c_Machines c_Player c_InvalidAutomaton c_NotClosed c_TooLarge c_NotReady f__law_take f__law_draws f__check_letter f_Alphabet_init f__law_alphabet f__law_word f__law_place f_independent f_is_ready f_ready_letters f_moved_heads f__check_states f_Automaton_init f_final_marks f__reached_states f_state_classes f_least f__law_run f__law_takes f__law_made f_independent_pairs f_is_closed f__law_side f__law_counter f__law_closed_automaton f__law_queues f__law_ready f_mask_of f_empty_table f_known_row f_known_label f_known_labels f__is_known f_compare_tables f_best_views f__new_label f_met_table f_Machines_init f_Machines_start f_Machines__table f_Machines__newest_rows f_Machines__turn_of f_Machines__turn_beyond f_Machines_meet f_Machines_accepts f_states_behind f_Player_init f_Player_ready f_Player_happen f_Player_is_done f_Player_is_stuck f_Player_accepts f_Player_happened f__law_happens f__law_changed f_law : Addr} (X : K.In h) (G : h.Ns mainGlobals mg) (hfa : mg "law" = some (.ref fa))
    {od0 od1 od2 od3 od4 od5 od6 od7 od8 od9 od10 od11 od12 od13 od14 od15 od16 od17 od18 od19 od20 od21 od22 od23 od24 od25 od26 od27 od28 od29 od30 od31 od32 od33 od34 od35 od36 od37 od38 od39 od40 od41 od42 od43 od44 od45 od46 od47 od48 od49 od50 od51 od52 od53 od54 od55 an0 an1 an2 an3 an4 an5 an6 an7 an8 an9 an10 an11 an12 an13 an14 an15 an16 an17 an18 an19 an20 an21 an22 an23 an24 an25 an26 an27 an28 an29 an30 an31 an32 an33 an34 an35 an36 an37 an38 an39 an40 an41 an42 an43 an44 an45 an46 an47 an48 an49 an50 an51 an52 an53 an54 an55 : Option Addr} {sl0 sl1 sl2 sl3 sl4 sl5 sl6 sl7 sl8 sl9 sl10 sl11 sl12 sl13 sl14 sl15 sl16 sl17 sl18 sl19 sl20 sl21 sl22 sl23 sl24 sl25 sl26 sl27 sl28 sl29 sl30 sl31 sl32 sl33 sl34 sl35 sl36 sl37 sl38 sl39 sl40 sl41 sl42 sl43 sl44 sl45 sl46 sl47 sl48 sl49 sl50 sl51 sl52 sl53 sl54 sl55 : Array (Option Value)} {oc0 oc1 oc2 oc3 oc4 oc5 oc6 oc7 oc8 oc9 oc10 oc11 oc12 oc13 oc14 oc15 oc16 oc17 oc18 oc19 oc20 oc21 oc22 oc23 oc24 oc25 oc26 oc27 oc28 oc29 oc30 oc31 oc32 oc33 oc34 oc35 oc36 oc37 oc38 oc39 oc40 oc41 oc42 oc43 oc44 oc45 oc46 oc47 oc48 oc49 oc50 oc51 oc52 oc53 oc54 oc55 kV0 kV1 kV2 kV3 kV4 kV5 kV6 kV7 kV8 kV9 kV10 kV11 kV12 kV13 kV14 kV15 kV16 kV17 kV18 kV19 kV20 kV21 kV22 kV23 kV24 kV25 kV26 kV27 kV28 kV29 kV30 kV31 kV32 kV33 kV34 kV35 kV36 kV37 kV38 kV39 kV40 kV41 kV42 kV43 kV44 kV45 kV46 kV47 kV48 kV49 kV50 kV51 kV52 kV53 kV54 kV55 dc0 dc1 dc2 dc3 dc4 dc5 dc6 dc7 dc8 dc9 dc10 dc11 dc12 dc13 dc14 dc15 dc16 dc17 dc18 dc19 dc20 dc21 dc22 dc23 dc24 dc25 dc26 dc27 dc28 dc29 dc30 dc31 dc32 dc33 dc34 dc35 dc36 dc37 dc38 dc39 dc40 dc41 dc42 dc43 dc44 dc45 dc46 dc47 dc48 dc49 dc50 dc51 dc52 dc53 dc54 dc55 pm0 pm1 pm2 pm3 pm4 pm5 pm6 pm7 pm8 pm9 pm10 pm11 pm12 pm13 pm14 pm15 pm16 pm17 pm18 pm19 pm20 pm21 pm22 pm23 pm24 pm25 pm26 pm27 pm28 pm29 pm30 pm31 pm32 pm33 pm34 pm35 pm36 pm37 pm38 pm39 pm40 pm41 pm42 pm43 pm44 pm45 pm46 pm47 pm48 pm49 pm50 pm51 pm52 pm53 pm54 pm55 cd0 cd1 cd2 cd3 cd4 cd5 cd6 cd7 cd8 cd9 cd10 cd11 cd12 cd13 cd14 cd15 cd16 cd17 cd18 cd19 cd20 cd21 cd22 cd23 cd24 cd25 cd26 cd27 cd28 cd29 cd30 cd31 cd32 cd33 cd34 cd35 cd36 cd37 cd38 cd39 cd40 cd41 cd42 cd43 cd44 cd45 cd46 cd47 cd48 cd49 cd50 cd51 cd52 cd53 cd54 cd55 ct0 ct1 ct2 ct3 ct4 ct5 ct6 ct7 ct8 ct9 ct10 ct11 ct12 ct13 ct14 ct15 ct16 ct17 ct18 ct19 ct20 ct21 ct22 ct23 ct24 ct25 ct26 ct27 ct28 ct29 ct30 ct31 ct32 ct33 ct34 ct35 ct36 ct37 ct38 ct39 ct40 ct41 ct42 ct43 ct44 ct45 ct46 ct47 ct48 ct49 ct50 ct51 ct52 ct53 ct54 ct55 : Value}
    {t_MOST_LETTERS : Tok}
    {t_MOST_PLACES : Tok}
    {t_MOST_STATES : Tok}
    (aC_Alphabet : PySem.W.nsIn K mainGlobals "Alphabet" = some (some (.ref c_Alphabet)))
    (aC_Automaton : PySem.W.nsIn K mainGlobals "Automaton" = some (some (.ref c_Automaton)))
    (aC_Machines : PySem.W.nsIn K mainGlobals "Machines" = some (some (.ref c_Machines)))
    (aC_Player : PySem.W.nsIn K mainGlobals "Player" = some (some (.ref c_Player)))
    (a0 : PySem.W.nsIn K mainGlobals "_law_take" = some (some (.ref f__law_take)))
    (l0 : K.lookup f__law_take = some ⟨oc0, od0, .func (PySem.W.fnOf "_law_take" "_law_take" (defArgs s__law_take) (defBody s__law_take) (defScope s__law_take) .none kV0 dc0 pm0 an0 cd0 ct0), sl0⟩)
    (c0 : PySem.W.codeIn K cd0 "_law_take" = true)
    (k0 : PySem.W.keepIn K (.ref f__law_take) = true)
    (a1 : PySem.W.nsIn K mainGlobals "_law_draws" = some (some (.ref f__law_draws)))
    (l1 : K.lookup f__law_draws = some ⟨oc1, od1, .func (PySem.W.fnOf "_law_draws" "_law_draws" (defArgs s__law_draws) (defBody s__law_draws) (defScope s__law_draws) .none kV1 dc1 pm1 an1 cd1 ct1), sl1⟩)
    (c1 : PySem.W.codeIn K cd1 "_law_draws" = true)
    (k1 : PySem.W.keepIn K (.ref f__law_draws) = true)
    (a2 : PySem.W.nsIn K mainGlobals "_check_letter" = some (some (.ref f__check_letter)))
    (l2 : K.lookup f__check_letter = some ⟨oc2, od2, .func (PySem.W.fnOf "_check_letter" "_check_letter" (defArgs s__check_letter) (defBody s__check_letter) (defScope s__check_letter) .none kV2 dc2 pm2 an2 cd2 ct2), sl2⟩)
    (c2 : PySem.W.codeIn K cd2 "_check_letter" = true)
    (k2 : PySem.W.keepIn K (.ref f__check_letter) = true)
    (a3 : PySem.W.findIn K (.ref c_Alphabet) "__init__" = some (some (.ref f_Alphabet_init)))
    (i3 : PySem.W.isFn K (.ref f_Alphabet_init) = true)
    (l3 : K.lookup f_Alphabet_init = some ⟨oc3, od3, .func (PySem.W.fnOf "__init__" "Alphabet.__init__" (defArgs s_Alphabet_init) (defBody s_Alphabet_init) (defScope s_Alphabet_init) .none kV3 dc3 pm3 an3 cd3 ct3), sl3⟩)
    (c3 : PySem.W.codeIn K cd3 "Alphabet.__init__" = true)
    (k3 : PySem.W.keepIn K (.ref f_Alphabet_init) = true)
    (a4 : PySem.W.nsIn K mainGlobals "_law_alphabet" = some (some (.ref f__law_alphabet)))
    (l4 : K.lookup f__law_alphabet = some ⟨oc4, od4, .func (PySem.W.fnOf "_law_alphabet" "_law_alphabet" (defArgs s__law_alphabet) (defBody s__law_alphabet) (defScope s__law_alphabet) .none kV4 dc4 pm4 an4 cd4 ct4), sl4⟩)
    (c4 : PySem.W.codeIn K cd4 "_law_alphabet" = true)
    (k4 : PySem.W.keepIn K (.ref f__law_alphabet) = true)
    (a5 : PySem.W.nsIn K mainGlobals "_law_word" = some (some (.ref f__law_word)))
    (l5 : K.lookup f__law_word = some ⟨oc5, od5, .func (PySem.W.fnOf "_law_word" "_law_word" (defArgs s__law_word) (defBody s__law_word) (defScope s__law_word) .none kV5 dc5 pm5 an5 cd5 ct5), sl5⟩)
    (c5 : PySem.W.codeIn K cd5 "_law_word" = true)
    (k5 : PySem.W.keepIn K (.ref f__law_word) = true)
    (a6 : PySem.W.nsIn K mainGlobals "_law_place" = some (some (.ref f__law_place)))
    (l6 : K.lookup f__law_place = some ⟨oc6, od6, .func (PySem.W.fnOf "_law_place" "_law_place" (defArgs s__law_place) (defBody s__law_place) (defScope s__law_place) .none kV6 dc6 pm6 an6 cd6 ct6), sl6⟩)
    (c6 : PySem.W.codeIn K cd6 "_law_place" = true)
    (k6 : PySem.W.keepIn K (.ref f__law_place) = true)
    (a7 : PySem.W.nsIn K mainGlobals "independent" = some (some (.ref f_independent)))
    (l7 : K.lookup f_independent = some ⟨oc7, od7, .func (PySem.W.fnOf "independent" "independent" (defArgs s_independent) (defBody s_independent) (defScope s_independent) .none kV7 dc7 pm7 an7 cd7 ct7), sl7⟩)
    (c7 : PySem.W.codeIn K cd7 "independent" = true)
    (k7 : PySem.W.keepIn K (.ref f_independent) = true)
    (a8 : PySem.W.nsIn K mainGlobals "is_ready" = some (some (.ref f_is_ready)))
    (l8 : K.lookup f_is_ready = some ⟨oc8, od8, .func (PySem.W.fnOf "is_ready" "is_ready" (defArgs s_is_ready) (defBody s_is_ready) (defScope s_is_ready) .none kV8 dc8 pm8 an8 cd8 ct8), sl8⟩)
    (c8 : PySem.W.codeIn K cd8 "is_ready" = true)
    (k8 : PySem.W.keepIn K (.ref f_is_ready) = true)
    (a9 : PySem.W.nsIn K mainGlobals "ready_letters" = some (some (.ref f_ready_letters)))
    (l9 : K.lookup f_ready_letters = some ⟨oc9, od9, .func (PySem.W.fnOf "ready_letters" "ready_letters" (defArgs s_ready_letters) (defBody s_ready_letters) (defScope s_ready_letters) .none kV9 dc9 pm9 an9 cd9 ct9), sl9⟩)
    (c9 : PySem.W.codeIn K cd9 "ready_letters" = true)
    (k9 : PySem.W.keepIn K (.ref f_ready_letters) = true)
    (a10 : PySem.W.nsIn K mainGlobals "moved_heads" = some (some (.ref f_moved_heads)))
    (l10 : K.lookup f_moved_heads = some ⟨oc10, od10, .func (PySem.W.fnOf "moved_heads" "moved_heads" (defArgs s_moved_heads) (defBody s_moved_heads) (defScope s_moved_heads) .none kV10 dc10 pm10 an10 cd10 ct10), sl10⟩)
    (c10 : PySem.W.codeIn K cd10 "moved_heads" = true)
    (k10 : PySem.W.keepIn K (.ref f_moved_heads) = true)
    (a11 : PySem.W.nsIn K mainGlobals "_check_states" = some (some (.ref f__check_states)))
    (l11 : K.lookup f__check_states = some ⟨oc11, od11, .func (PySem.W.fnOf "_check_states" "_check_states" (defArgs s__check_states) (defBody s__check_states) (defScope s__check_states) .none kV11 dc11 pm11 an11 cd11 ct11), sl11⟩)
    (c11 : PySem.W.codeIn K cd11 "_check_states" = true)
    (k11 : PySem.W.keepIn K (.ref f__check_states) = true)
    (a12 : PySem.W.findIn K (.ref c_Automaton) "__init__" = some (some (.ref f_Automaton_init)))
    (i12 : PySem.W.isFn K (.ref f_Automaton_init) = true)
    (l12 : K.lookup f_Automaton_init = some ⟨oc12, od12, .func (PySem.W.fnOf "__init__" "Automaton.__init__" (defArgs s_Automaton_init) (defBody s_Automaton_init) (defScope s_Automaton_init) .none kV12 dc12 pm12 an12 cd12 ct12), sl12⟩)
    (c12 : PySem.W.codeIn K cd12 "Automaton.__init__" = true)
    (k12 : PySem.W.keepIn K (.ref f_Automaton_init) = true)
    (a13 : PySem.W.nsIn K mainGlobals "final_marks" = some (some (.ref f_final_marks)))
    (l13 : K.lookup f_final_marks = some ⟨oc13, od13, .func (PySem.W.fnOf "final_marks" "final_marks" (defArgs s_final_marks) (defBody s_final_marks) (defScope s_final_marks) .none kV13 dc13 pm13 an13 cd13 ct13), sl13⟩)
    (c13 : PySem.W.codeIn K cd13 "final_marks" = true)
    (k13 : PySem.W.keepIn K (.ref f_final_marks) = true)
    (a14 : PySem.W.nsIn K mainGlobals "_reached_states" = some (some (.ref f__reached_states)))
    (l14 : K.lookup f__reached_states = some ⟨oc14, od14, .func (PySem.W.fnOf "_reached_states" "_reached_states" (defArgs s__reached_states) (defBody s__reached_states) (defScope s__reached_states) .none kV14 dc14 pm14 an14 cd14 ct14), sl14⟩)
    (c14 : PySem.W.codeIn K cd14 "_reached_states" = true)
    (k14 : PySem.W.keepIn K (.ref f__reached_states) = true)
    (a15 : PySem.W.nsIn K mainGlobals "state_classes" = some (some (.ref f_state_classes)))
    (l15 : K.lookup f_state_classes = some ⟨oc15, od15, .func (PySem.W.fnOf "state_classes" "state_classes" (defArgs s_state_classes) (defBody s_state_classes) (defScope s_state_classes) .none kV15 dc15 pm15 an15 cd15 ct15), sl15⟩)
    (c15 : PySem.W.codeIn K cd15 "state_classes" = true)
    (k15 : PySem.W.keepIn K (.ref f_state_classes) = true)
    (a16 : PySem.W.nsIn K mainGlobals "least" = some (some (.ref f_least)))
    (l16 : K.lookup f_least = some ⟨oc16, od16, .func (PySem.W.fnOf "least" "least" (defArgs s_least) (defBody s_least) (defScope s_least) .none kV16 dc16 pm16 an16 cd16 ct16), sl16⟩)
    (c16 : PySem.W.codeIn K cd16 "least" = true)
    (k16 : PySem.W.keepIn K (.ref f_least) = true)
    (a17 : PySem.W.nsIn K mainGlobals "_law_run" = some (some (.ref f__law_run)))
    (l17 : K.lookup f__law_run = some ⟨oc17, od17, .func (PySem.W.fnOf "_law_run" "_law_run" (defArgs s__law_run) (defBody s__law_run) (defScope s__law_run) .none kV17 dc17 pm17 an17 cd17 ct17), sl17⟩)
    (c17 : PySem.W.codeIn K cd17 "_law_run" = true)
    (k17 : PySem.W.keepIn K (.ref f__law_run) = true)
    (a18 : PySem.W.nsIn K mainGlobals "_law_takes" = some (some (.ref f__law_takes)))
    (l18 : K.lookup f__law_takes = some ⟨oc18, od18, .func (PySem.W.fnOf "_law_takes" "_law_takes" (defArgs s__law_takes) (defBody s__law_takes) (defScope s__law_takes) .none kV18 dc18 pm18 an18 cd18 ct18), sl18⟩)
    (c18 : PySem.W.codeIn K cd18 "_law_takes" = true)
    (k18 : PySem.W.keepIn K (.ref f__law_takes) = true)
    (a19 : PySem.W.nsIn K mainGlobals "_law_made" = some (some (.ref f__law_made)))
    (l19 : K.lookup f__law_made = some ⟨oc19, od19, .func (PySem.W.fnOf "_law_made" "_law_made" (defArgs s__law_made) (defBody s__law_made) (defScope s__law_made) .none kV19 dc19 pm19 an19 cd19 ct19), sl19⟩)
    (c19 : PySem.W.codeIn K cd19 "_law_made" = true)
    (k19 : PySem.W.keepIn K (.ref f__law_made) = true)
    (a20 : PySem.W.nsIn K mainGlobals "independent_pairs" = some (some (.ref f_independent_pairs)))
    (l20 : K.lookup f_independent_pairs = some ⟨oc20, od20, .func (PySem.W.fnOf "independent_pairs" "independent_pairs" (defArgs s_independent_pairs) (defBody s_independent_pairs) (defScope s_independent_pairs) .none kV20 dc20 pm20 an20 cd20 ct20), sl20⟩)
    (c20 : PySem.W.codeIn K cd20 "independent_pairs" = true)
    (k20 : PySem.W.keepIn K (.ref f_independent_pairs) = true)
    (a21 : PySem.W.nsIn K mainGlobals "is_closed" = some (some (.ref f_is_closed)))
    (l21 : K.lookup f_is_closed = some ⟨oc21, od21, .func (PySem.W.fnOf "is_closed" "is_closed" (defArgs s_is_closed) (defBody s_is_closed) (defScope s_is_closed) .none kV21 dc21 pm21 an21 cd21 ct21), sl21⟩)
    (c21 : PySem.W.codeIn K cd21 "is_closed" = true)
    (k21 : PySem.W.keepIn K (.ref f_is_closed) = true)
    (a22 : PySem.W.nsIn K mainGlobals "_law_side" = some (some (.ref f__law_side)))
    (l22 : K.lookup f__law_side = some ⟨oc22, od22, .func (PySem.W.fnOf "_law_side" "_law_side" (defArgs s__law_side) (defBody s__law_side) (defScope s__law_side) .none kV22 dc22 pm22 an22 cd22 ct22), sl22⟩)
    (c22 : PySem.W.codeIn K cd22 "_law_side" = true)
    (k22 : PySem.W.keepIn K (.ref f__law_side) = true)
    (a23 : PySem.W.nsIn K mainGlobals "_law_counter" = some (some (.ref f__law_counter)))
    (l23 : K.lookup f__law_counter = some ⟨oc23, od23, .func (PySem.W.fnOf "_law_counter" "_law_counter" (defArgs s__law_counter) (defBody s__law_counter) (defScope s__law_counter) .none kV23 dc23 pm23 an23 cd23 ct23), sl23⟩)
    (c23 : PySem.W.codeIn K cd23 "_law_counter" = true)
    (k23 : PySem.W.keepIn K (.ref f__law_counter) = true)
    (a24 : PySem.W.nsIn K mainGlobals "_law_closed_automaton" = some (some (.ref f__law_closed_automaton)))
    (l24 : K.lookup f__law_closed_automaton = some ⟨oc24, od24, .func (PySem.W.fnOf "_law_closed_automaton" "_law_closed_automaton" (defArgs s__law_closed_automaton) (defBody s__law_closed_automaton) (defScope s__law_closed_automaton) .none kV24 dc24 pm24 an24 cd24 ct24), sl24⟩)
    (c24 : PySem.W.codeIn K cd24 "_law_closed_automaton" = true)
    (k24 : PySem.W.keepIn K (.ref f__law_closed_automaton) = true)
    (a25 : PySem.W.nsIn K mainGlobals "_law_queues" = some (some (.ref f__law_queues)))
    (l25 : K.lookup f__law_queues = some ⟨oc25, od25, .func (PySem.W.fnOf "_law_queues" "_law_queues" (defArgs s__law_queues) (defBody s__law_queues) (defScope s__law_queues) .none kV25 dc25 pm25 an25 cd25 ct25), sl25⟩)
    (c25 : PySem.W.codeIn K cd25 "_law_queues" = true)
    (k25 : PySem.W.keepIn K (.ref f__law_queues) = true)
    (a26 : PySem.W.nsIn K mainGlobals "_law_ready" = some (some (.ref f__law_ready)))
    (l26 : K.lookup f__law_ready = some ⟨oc26, od26, .func (PySem.W.fnOf "_law_ready" "_law_ready" (defArgs s__law_ready) (defBody s__law_ready) (defScope s__law_ready) .none kV26 dc26 pm26 an26 cd26 ct26), sl26⟩)
    (c26 : PySem.W.codeIn K cd26 "_law_ready" = true)
    (k26 : PySem.W.keepIn K (.ref f__law_ready) = true)
    (a27 : PySem.W.nsIn K mainGlobals "mask_of" = some (some (.ref f_mask_of)))
    (l27 : K.lookup f_mask_of = some ⟨oc27, od27, .func (PySem.W.fnOf "mask_of" "mask_of" (defArgs s_mask_of) (defBody s_mask_of) (defScope s_mask_of) .none kV27 dc27 pm27 an27 cd27 ct27), sl27⟩)
    (c27 : PySem.W.codeIn K cd27 "mask_of" = true)
    (k27 : PySem.W.keepIn K (.ref f_mask_of) = true)
    (a28 : PySem.W.nsIn K mainGlobals "empty_table" = some (some (.ref f_empty_table)))
    (l28 : K.lookup f_empty_table = some ⟨oc28, od28, .func (PySem.W.fnOf "empty_table" "empty_table" (defArgs s_empty_table) (defBody s_empty_table) (defScope s_empty_table) .none kV28 dc28 pm28 an28 cd28 ct28), sl28⟩)
    (c28 : PySem.W.codeIn K cd28 "empty_table" = true)
    (k28 : PySem.W.keepIn K (.ref f_empty_table) = true)
    (a29 : PySem.W.nsIn K mainGlobals "known_row" = some (some (.ref f_known_row)))
    (l29 : K.lookup f_known_row = some ⟨oc29, od29, .func (PySem.W.fnOf "known_row" "known_row" (defArgs s_known_row) (defBody s_known_row) (defScope s_known_row) .none kV29 dc29 pm29 an29 cd29 ct29), sl29⟩)
    (c29 : PySem.W.codeIn K cd29 "known_row" = true)
    (k29 : PySem.W.keepIn K (.ref f_known_row) = true)
    (a30 : PySem.W.nsIn K mainGlobals "known_label" = some (some (.ref f_known_label)))
    (l30 : K.lookup f_known_label = some ⟨oc30, od30, .func (PySem.W.fnOf "known_label" "known_label" (defArgs s_known_label) (defBody s_known_label) (defScope s_known_label) .none kV30 dc30 pm30 an30 cd30 ct30), sl30⟩)
    (c30 : PySem.W.codeIn K cd30 "known_label" = true)
    (k30 : PySem.W.keepIn K (.ref f_known_label) = true)
    (a31 : PySem.W.nsIn K mainGlobals "known_labels" = some (some (.ref f_known_labels)))
    (l31 : K.lookup f_known_labels = some ⟨oc31, od31, .func (PySem.W.fnOf "known_labels" "known_labels" (defArgs s_known_labels) (defBody s_known_labels) (defScope s_known_labels) .none kV31 dc31 pm31 an31 cd31 ct31), sl31⟩)
    (c31 : PySem.W.codeIn K cd31 "known_labels" = true)
    (k31 : PySem.W.keepIn K (.ref f_known_labels) = true)
    (a32 : PySem.W.nsIn K mainGlobals "_is_known" = some (some (.ref f__is_known)))
    (l32 : K.lookup f__is_known = some ⟨oc32, od32, .func (PySem.W.fnOf "_is_known" "_is_known" (defArgs s__is_known) (defBody s__is_known) (defScope s__is_known) .none kV32 dc32 pm32 an32 cd32 ct32), sl32⟩)
    (c32 : PySem.W.codeIn K cd32 "_is_known" = true)
    (k32 : PySem.W.keepIn K (.ref f__is_known) = true)
    (a33 : PySem.W.nsIn K mainGlobals "compare_tables" = some (some (.ref f_compare_tables)))
    (l33 : K.lookup f_compare_tables = some ⟨oc33, od33, .func (PySem.W.fnOf "compare_tables" "compare_tables" (defArgs s_compare_tables) (defBody s_compare_tables) (defScope s_compare_tables) .none kV33 dc33 pm33 an33 cd33 ct33), sl33⟩)
    (c33 : PySem.W.codeIn K cd33 "compare_tables" = true)
    (k33 : PySem.W.keepIn K (.ref f_compare_tables) = true)
    (a34 : PySem.W.nsIn K mainGlobals "best_views" = some (some (.ref f_best_views)))
    (l34 : K.lookup f_best_views = some ⟨oc34, od34, .func (PySem.W.fnOf "best_views" "best_views" (defArgs s_best_views) (defBody s_best_views) (defScope s_best_views) .none kV34 dc34 pm34 an34 cd34 ct34), sl34⟩)
    (c34 : PySem.W.codeIn K cd34 "best_views" = true)
    (k34 : PySem.W.keepIn K (.ref f_best_views) = true)
    (a35 : PySem.W.nsIn K mainGlobals "_new_label" = some (some (.ref f__new_label)))
    (l35 : K.lookup f__new_label = some ⟨oc35, od35, .func (PySem.W.fnOf "_new_label" "_new_label" (defArgs s__new_label) (defBody s__new_label) (defScope s__new_label) .none kV35 dc35 pm35 an35 cd35 ct35), sl35⟩)
    (c35 : PySem.W.codeIn K cd35 "_new_label" = true)
    (k35 : PySem.W.keepIn K (.ref f__new_label) = true)
    (a36 : PySem.W.nsIn K mainGlobals "met_table" = some (some (.ref f_met_table)))
    (l36 : K.lookup f_met_table = some ⟨oc36, od36, .func (PySem.W.fnOf "met_table" "met_table" (defArgs s_met_table) (defBody s_met_table) (defScope s_met_table) .none kV36 dc36 pm36 an36 cd36 ct36), sl36⟩)
    (c36 : PySem.W.codeIn K cd36 "met_table" = true)
    (k36 : PySem.W.keepIn K (.ref f_met_table) = true)
    (a37 : PySem.W.findIn K (.ref c_Machines) "__init__" = some (some (.ref f_Machines_init)))
    (i37 : PySem.W.isFn K (.ref f_Machines_init) = true)
    (l37 : K.lookup f_Machines_init = some ⟨oc37, od37, .func (PySem.W.fnOf "__init__" "Machines.__init__" (defArgs s_Machines_init) (defBody s_Machines_init) (defScope s_Machines_init) .none kV37 dc37 pm37 an37 cd37 ct37), sl37⟩)
    (c37 : PySem.W.codeIn K cd37 "Machines.__init__" = true)
    (k37 : PySem.W.keepIn K (.ref f_Machines_init) = true)
    (a38 : PySem.W.findIn K (.ref c_Machines) "start" = some (some (.ref f_Machines_start)))
    (i38 : PySem.W.isFn K (.ref f_Machines_start) = true)
    (l38 : K.lookup f_Machines_start = some ⟨oc38, od38, .func (PySem.W.fnOf "start" "Machines.start" (defArgs s_Machines_start) (defBody s_Machines_start) (defScope s_Machines_start) .none kV38 dc38 pm38 an38 cd38 ct38), sl38⟩)
    (c38 : PySem.W.codeIn K cd38 "Machines.start" = true)
    (k38 : PySem.W.keepIn K (.ref f_Machines_start) = true)
    (a39 : PySem.W.findIn K (.ref c_Machines) "_table" = some (some (.ref f_Machines__table)))
    (i39 : PySem.W.isFn K (.ref f_Machines__table) = true)
    (l39 : K.lookup f_Machines__table = some ⟨oc39, od39, .func (PySem.W.fnOf "_table" "Machines._table" (defArgs s_Machines__table) (defBody s_Machines__table) (defScope s_Machines__table) .none kV39 dc39 pm39 an39 cd39 ct39), sl39⟩)
    (c39 : PySem.W.codeIn K cd39 "Machines._table" = true)
    (k39 : PySem.W.keepIn K (.ref f_Machines__table) = true)
    (a40 : PySem.W.findIn K (.ref c_Machines) "_newest_rows" = some (some (.ref f_Machines__newest_rows)))
    (i40 : PySem.W.isFn K (.ref f_Machines__newest_rows) = true)
    (l40 : K.lookup f_Machines__newest_rows = some ⟨oc40, od40, .func (PySem.W.fnOf "_newest_rows" "Machines._newest_rows" (defArgs s_Machines__newest_rows) (defBody s_Machines__newest_rows) (defScope s_Machines__newest_rows) .none kV40 dc40 pm40 an40 cd40 ct40), sl40⟩)
    (c40 : PySem.W.codeIn K cd40 "Machines._newest_rows" = true)
    (k40 : PySem.W.keepIn K (.ref f_Machines__newest_rows) = true)
    (a41 : PySem.W.findIn K (.ref c_Machines) "_turn_of" = some (some (.ref f_Machines__turn_of)))
    (i41 : PySem.W.isFn K (.ref f_Machines__turn_of) = true)
    (l41 : K.lookup f_Machines__turn_of = some ⟨oc41, od41, .func (PySem.W.fnOf "_turn_of" "Machines._turn_of" (defArgs s_Machines__turn_of) (defBody s_Machines__turn_of) (defScope s_Machines__turn_of) .none kV41 dc41 pm41 an41 cd41 ct41), sl41⟩)
    (c41 : PySem.W.codeIn K cd41 "Machines._turn_of" = true)
    (k41 : PySem.W.keepIn K (.ref f_Machines__turn_of) = true)
    (a42 : PySem.W.findIn K (.ref c_Machines) "_turn_beyond" = some (some (.ref f_Machines__turn_beyond)))
    (i42 : PySem.W.isFn K (.ref f_Machines__turn_beyond) = true)
    (l42 : K.lookup f_Machines__turn_beyond = some ⟨oc42, od42, .func (PySem.W.fnOf "_turn_beyond" "Machines._turn_beyond" (defArgs s_Machines__turn_beyond) (defBody s_Machines__turn_beyond) (defScope s_Machines__turn_beyond) .none kV42 dc42 pm42 an42 cd42 ct42), sl42⟩)
    (c42 : PySem.W.codeIn K cd42 "Machines._turn_beyond" = true)
    (k42 : PySem.W.keepIn K (.ref f_Machines__turn_beyond) = true)
    (a43 : PySem.W.findIn K (.ref c_Machines) "meet" = some (some (.ref f_Machines_meet)))
    (i43 : PySem.W.isFn K (.ref f_Machines_meet) = true)
    (l43 : K.lookup f_Machines_meet = some ⟨oc43, od43, .func (PySem.W.fnOf "meet" "Machines.meet" (defArgs s_Machines_meet) (defBody s_Machines_meet) (defScope s_Machines_meet) .none kV43 dc43 pm43 an43 cd43 ct43), sl43⟩)
    (c43 : PySem.W.codeIn K cd43 "Machines.meet" = true)
    (k43 : PySem.W.keepIn K (.ref f_Machines_meet) = true)
    (a44 : PySem.W.findIn K (.ref c_Machines) "accepts" = some (some (.ref f_Machines_accepts)))
    (i44 : PySem.W.isFn K (.ref f_Machines_accepts) = true)
    (l44 : K.lookup f_Machines_accepts = some ⟨oc44, od44, .func (PySem.W.fnOf "accepts" "Machines.accepts" (defArgs s_Machines_accepts) (defBody s_Machines_accepts) (defScope s_Machines_accepts) .none kV44 dc44 pm44 an44 cd44 ct44), sl44⟩)
    (c44 : PySem.W.codeIn K cd44 "Machines.accepts" = true)
    (k44 : PySem.W.keepIn K (.ref f_Machines_accepts) = true)
    (a45 : PySem.W.nsIn K mainGlobals "states_behind" = some (some (.ref f_states_behind)))
    (l45 : K.lookup f_states_behind = some ⟨oc45, od45, .func (PySem.W.fnOf "states_behind" "states_behind" (defArgs s_states_behind) (defBody s_states_behind) (defScope s_states_behind) .none kV45 dc45 pm45 an45 cd45 ct45), sl45⟩)
    (c45 : PySem.W.codeIn K cd45 "states_behind" = true)
    (k45 : PySem.W.keepIn K (.ref f_states_behind) = true)
    (a46 : PySem.W.findIn K (.ref c_Player) "__init__" = some (some (.ref f_Player_init)))
    (i46 : PySem.W.isFn K (.ref f_Player_init) = true)
    (l46 : K.lookup f_Player_init = some ⟨oc46, od46, .func (PySem.W.fnOf "__init__" "Player.__init__" (defArgs s_Player_init) (defBody s_Player_init) (defScope s_Player_init) .none kV46 dc46 pm46 an46 cd46 ct46), sl46⟩)
    (c46 : PySem.W.codeIn K cd46 "Player.__init__" = true)
    (k46 : PySem.W.keepIn K (.ref f_Player_init) = true)
    (a47 : PySem.W.findIn K (.ref c_Player) "ready" = some (some (.ref f_Player_ready)))
    (i47 : PySem.W.isFn K (.ref f_Player_ready) = true)
    (l47 : K.lookup f_Player_ready = some ⟨oc47, od47, .func (PySem.W.fnOf "ready" "Player.ready" (defArgs s_Player_ready) (defBody s_Player_ready) (defScope s_Player_ready) .none kV47 dc47 pm47 an47 cd47 ct47), sl47⟩)
    (c47 : PySem.W.codeIn K cd47 "Player.ready" = true)
    (k47 : PySem.W.keepIn K (.ref f_Player_ready) = true)
    (a48 : PySem.W.findIn K (.ref c_Player) "happen" = some (some (.ref f_Player_happen)))
    (i48 : PySem.W.isFn K (.ref f_Player_happen) = true)
    (l48 : K.lookup f_Player_happen = some ⟨oc48, od48, .func (PySem.W.fnOf "happen" "Player.happen" (defArgs s_Player_happen) (defBody s_Player_happen) (defScope s_Player_happen) .none kV48 dc48 pm48 an48 cd48 ct48), sl48⟩)
    (c48 : PySem.W.codeIn K cd48 "Player.happen" = true)
    (k48 : PySem.W.keepIn K (.ref f_Player_happen) = true)
    (a49 : PySem.W.findIn K (.ref c_Player) "is_done" = some (some (.ref f_Player_is_done)))
    (i49 : PySem.W.isFn K (.ref f_Player_is_done) = true)
    (l49 : K.lookup f_Player_is_done = some ⟨oc49, od49, .func (PySem.W.fnOf "is_done" "Player.is_done" (defArgs s_Player_is_done) (defBody s_Player_is_done) (defScope s_Player_is_done) .none kV49 dc49 pm49 an49 cd49 ct49), sl49⟩)
    (c49 : PySem.W.codeIn K cd49 "Player.is_done" = true)
    (k49 : PySem.W.keepIn K (.ref f_Player_is_done) = true)
    (a50 : PySem.W.findIn K (.ref c_Player) "is_stuck" = some (some (.ref f_Player_is_stuck)))
    (i50 : PySem.W.isFn K (.ref f_Player_is_stuck) = true)
    (l50 : K.lookup f_Player_is_stuck = some ⟨oc50, od50, .func (PySem.W.fnOf "is_stuck" "Player.is_stuck" (defArgs s_Player_is_stuck) (defBody s_Player_is_stuck) (defScope s_Player_is_stuck) .none kV50 dc50 pm50 an50 cd50 ct50), sl50⟩)
    (c50 : PySem.W.codeIn K cd50 "Player.is_stuck" = true)
    (k50 : PySem.W.keepIn K (.ref f_Player_is_stuck) = true)
    (a51 : PySem.W.findIn K (.ref c_Player) "accepts" = some (some (.ref f_Player_accepts)))
    (i51 : PySem.W.isFn K (.ref f_Player_accepts) = true)
    (l51 : K.lookup f_Player_accepts = some ⟨oc51, od51, .func (PySem.W.fnOf "accepts" "Player.accepts" (defArgs s_Player_accepts) (defBody s_Player_accepts) (defScope s_Player_accepts) .none kV51 dc51 pm51 an51 cd51 ct51), sl51⟩)
    (c51 : PySem.W.codeIn K cd51 "Player.accepts" = true)
    (k51 : PySem.W.keepIn K (.ref f_Player_accepts) = true)
    (a52 : PySem.W.findIn K (.ref c_Player) "happened" = some (some (.ref f_Player_happened)))
    (i52 : PySem.W.isFn K (.ref f_Player_happened) = true)
    (l52 : K.lookup f_Player_happened = some ⟨oc52, od52, .func (PySem.W.fnOf "happened" "Player.happened" (defArgs s_Player_happened) (defBody s_Player_happened) (defScope s_Player_happened) .none kV52 dc52 pm52 an52 cd52 ct52), sl52⟩)
    (c52 : PySem.W.codeIn K cd52 "Player.happened" = true)
    (k52 : PySem.W.keepIn K (.ref f_Player_happened) = true)
    (a53 : PySem.W.nsIn K mainGlobals "_law_happens" = some (some (.ref f__law_happens)))
    (l53 : K.lookup f__law_happens = some ⟨oc53, od53, .func (PySem.W.fnOf "_law_happens" "_law_happens" (defArgs s__law_happens) (defBody s__law_happens) (defScope s__law_happens) .none kV53 dc53 pm53 an53 cd53 ct53), sl53⟩)
    (c53 : PySem.W.codeIn K cd53 "_law_happens" = true)
    (k53 : PySem.W.keepIn K (.ref f__law_happens) = true)
    (a54 : PySem.W.nsIn K mainGlobals "_law_changed" = some (some (.ref f__law_changed)))
    (l54 : K.lookup f__law_changed = some ⟨oc54, od54, .func (PySem.W.fnOf "_law_changed" "_law_changed" (defArgs s__law_changed) (defBody s__law_changed) (defScope s__law_changed) .none kV54 dc54 pm54 an54 cd54 ct54), sl54⟩)
    (c54 : PySem.W.codeIn K cd54 "_law_changed" = true)
    (k54 : PySem.W.keepIn K (.ref f__law_changed) = true)
    (a55 : PySem.W.nsIn K mainGlobals "law" = some (some (.ref f_law)))
    (l55 : K.lookup f_law = some ⟨oc55, od55, .func (PySem.W.fnOf "law" "law" (defArgs s_law) (defBody s_law) (defScope s_law) .none kV55 dc55 pm55 an55 cd55 ct55), sl55⟩)
    (c55 : PySem.W.codeIn K cd55 "law" = true)
    (k55 : PySem.W.keepIn K (.ref f_law) = true)
    (pg_Alphabet : PySem.W.plainGet K c_Alphabet Str.empty = true)
    (hd_Alphabet : PySem.W.hasDictIn K c_Alphabet = true)
    (po_Alphabet : PySem.W.plainOver K c_Alphabet = true)
    (sa_Alphabet : PySem.W.findIn K (.ref c_Alphabet) "__setattr__" = some (some (.builtin "object.__setattr__")))
    (mk_Alphabet : PySem.W.makesIn K c_Alphabet = true)
    (kc_Alphabet : PySem.W.keepIn K (.ref c_Alphabet) = true)
    (na_Alphabet_places : PySem.W.findIn K (.ref c_Alphabet) "places" = some none)
    (na_Alphabet_letters : PySem.W.findIn K (.ref c_Alphabet) "letters" = some none)
    (pg_Automaton : PySem.W.plainGet K c_Automaton Str.empty = true)
    (hd_Automaton : PySem.W.hasDictIn K c_Automaton = true)
    (po_Automaton : PySem.W.plainOver K c_Automaton = true)
    (sa_Automaton : PySem.W.findIn K (.ref c_Automaton) "__setattr__" = some (some (.builtin "object.__setattr__")))
    (mk_Automaton : PySem.W.makesIn K c_Automaton = true)
    (kc_Automaton : PySem.W.keepIn K (.ref c_Automaton) = true)
    (na_Automaton_letters : PySem.W.findIn K (.ref c_Automaton) "letters" = some none)
    (na_Automaton_start : PySem.W.findIn K (.ref c_Automaton) "start" = some none)
    (na_Automaton_finals : PySem.W.findIn K (.ref c_Automaton) "finals" = some none)
    (na_Automaton_rows : PySem.W.findIn K (.ref c_Automaton) "rows" = some none)
    (pg_Machines : PySem.W.plainGet K c_Machines Str.empty = true)
    (hd_Machines : PySem.W.hasDictIn K c_Machines = true)
    (po_Machines : PySem.W.plainOver K c_Machines = true)
    (sa_Machines : PySem.W.findIn K (.ref c_Machines) "__setattr__" = some (some (.builtin "object.__setattr__")))
    (mk_Machines : PySem.W.makesIn K c_Machines = true)
    (kc_Machines : PySem.W.keepIn K (.ref c_Machines) = true)
    (na_Machines_alphabet : PySem.W.findIn K (.ref c_Machines) "alphabet" = some none)
    (na_Machines_automaton : PySem.W.findIn K (.ref c_Machines) "automaton" = some none)
    (na_Machines_size : PySem.W.findIn K (.ref c_Machines) "size" = some none)
    (pg_Player : PySem.W.plainGet K c_Player Str.empty = true)
    (hd_Player : PySem.W.hasDictIn K c_Player = true)
    (po_Player : PySem.W.plainOver K c_Player = true)
    (sa_Player : PySem.W.findIn K (.ref c_Player) "__setattr__" = some (some (.builtin "object.__setattr__")))
    (mk_Player : PySem.W.makesIn K c_Player = true)
    (kc_Player : PySem.W.keepIn K (.ref c_Player) = true)
    (na_Player_alphabet : PySem.W.findIn K (.ref c_Player) "alphabet" = some none)
    (na_Player_machines : PySem.W.findIn K (.ref c_Player) "machines" = some none)
    (na_Player_queues : PySem.W.findIn K (.ref c_Player) "queues" = some none)
    (na_Player_heads : PySem.W.findIn K (.ref c_Player) "heads" = some none)
    (na_Player_held : PySem.W.findIn K (.ref c_Player) "held" = some none)
    (na_Player_taken : PySem.W.findIn K (.ref c_Player) "taken" = some none)
    (aC_InvalidAutomaton : PySem.W.nsIn K mainGlobals "InvalidAutomaton" = some (some (.ref c_InvalidAutomaton)))
    (x_InvalidAutomaton : PySem.W.excIn K c_InvalidAutomaton [.type "ValueError", .type "Exception", .type "BaseException", .type "object"] "ValueError.__new__" = true)
    (k_InvalidAutomaton : PySem.W.keepIn K (.ref c_InvalidAutomaton) = true)
    (b_InvalidAutomaton : PySem.W.subIn K (.ref c_InvalidAutomaton) (.type "BaseException") = some true)
    (t_InvalidAutomaton : PySem.W.typeIn K (.ref c_InvalidAutomaton) = some (.type "type"))
    (i_InvalidAutomaton : PySem.W.isClsIn K c_InvalidAutomaton = true)
    (s_InvalidAutomaton : PySem.W.subIn K (.ref c_InvalidAutomaton) (.ref c_InvalidAutomaton) = some true)
    (aC_NotClosed : PySem.W.nsIn K mainGlobals "NotClosed" = some (some (.ref c_NotClosed)))
    (x_NotClosed : PySem.W.excIn K c_NotClosed [.type "ValueError", .type "Exception", .type "BaseException", .type "object"] "ValueError.__new__" = true)
    (k_NotClosed : PySem.W.keepIn K (.ref c_NotClosed) = true)
    (b_NotClosed : PySem.W.subIn K (.ref c_NotClosed) (.type "BaseException") = some true)
    (t_NotClosed : PySem.W.typeIn K (.ref c_NotClosed) = some (.type "type"))
    (i_NotClosed : PySem.W.isClsIn K c_NotClosed = true)
    (s_NotClosed : PySem.W.subIn K (.ref c_NotClosed) (.ref c_NotClosed) = some true)
    (aC_TooLarge : PySem.W.nsIn K mainGlobals "TooLarge" = some (some (.ref c_TooLarge)))
    (x_TooLarge : PySem.W.excIn K c_TooLarge [.type "ValueError", .type "Exception", .type "BaseException", .type "object"] "ValueError.__new__" = true)
    (k_TooLarge : PySem.W.keepIn K (.ref c_TooLarge) = true)
    (b_TooLarge : PySem.W.subIn K (.ref c_TooLarge) (.type "BaseException") = some true)
    (t_TooLarge : PySem.W.typeIn K (.ref c_TooLarge) = some (.type "type"))
    (i_TooLarge : PySem.W.isClsIn K c_TooLarge = true)
    (s_TooLarge : PySem.W.subIn K (.ref c_TooLarge) (.ref c_TooLarge) = some true)
    (aC_NotReady : PySem.W.nsIn K mainGlobals "NotReady" = some (some (.ref c_NotReady)))
    (x_NotReady : PySem.W.excIn K c_NotReady [.type "ValueError", .type "Exception", .type "BaseException", .type "object"] "ValueError.__new__" = true)
    (k_NotReady : PySem.W.keepIn K (.ref c_NotReady) = true)
    (b_NotReady : PySem.W.subIn K (.ref c_NotReady) (.type "BaseException") = some true)
    (t_NotReady : PySem.W.typeIn K (.ref c_NotReady) = some (.type "type"))
    (i_NotReady : PySem.W.isClsIn K c_NotReady = true)
    (s_NotReady : PySem.W.subIn K (.ref c_NotReady) (.ref c_NotReady) = some true)
    (z_any : PySem.W.nsIn K mainGlobals "any" = some none)
    (z_enumerate : PySem.W.nsIn K mainGlobals "enumerate" = some none)
    (z_int : PySem.W.nsIn K mainGlobals "int" = some none)
    (z_len : PySem.W.nsIn K mainGlobals "len" = some none)
    (z_list : PySem.W.nsIn K mainGlobals "list" = some none)
    (z_range : PySem.W.nsIn K mainGlobals "range" = some none)
    (z_set : PySem.W.nsIn K mainGlobals "set" = some none)
    (z_sorted : PySem.W.nsIn K mainGlobals "sorted" = some none)
    (z_tuple : PySem.W.nsIn K mainGlobals "tuple" = some none)
    (z_zip : PySem.W.nsIn K mainGlobals "zip" = some none)
    (v_MOST_LETTERS : PySem.W.nsIn K mainGlobals "MOST_LETTERS" = some (some (.int 6 t_MOST_LETTERS)))
    (v_MOST_PLACES : PySem.W.nsIn K mainGlobals "MOST_PLACES" = some (some (.int 4 t_MOST_PLACES)))
    (v_MOST_STATES : PySem.W.nsIn K mainGlobals "MOST_STATES" = some (some (.int 40 t_MOST_STATES)))
    : ∃ fd : FuncData, (∀ (s : Shared) (v : Value), BindsTo s fd ⟨[v], []⟩ [("script", v)]) ∧ ∀ base : Heap, K.In base → base.Ns mainGlobals mg → FnOk l.prog wo K mg base CX0 11 fa fd ["script"] (spLaw K) := by
  have e := hfa.symm.trans (PySem.W.mg_of X G a55)
  cases e
  let T : Txt K mg := {
    f__law_take := f__law_take, d__law_take := PySem.W.fnOf "_law_take" "_law_take" (defArgs s__law_take) (defBody s__law_take) (defScope s__law_take) .none kV0 dc0 pm0 an0 cd0 ct0,
    F__law_take := fun_mk l0 c0 k0,
    m__law_take := PySem.W.mg_of X G a0,
    b__law_take := (fun_mk (st := s__law_take) l0 c0 k0).binds (ps := ["draws", "limit"]) fun _ _ _ _ _ _ us hl => match us, hl with | [_, _], _ => rfl,
    f__law_draws := f__law_draws, d__law_draws := PySem.W.fnOf "_law_draws" "_law_draws" (defArgs s__law_draws) (defBody s__law_draws) (defScope s__law_draws) .none kV1 dc1 pm1 an1 cd1 ct1,
    F__law_draws := fun_mk l1 c1 k1,
    m__law_draws := PySem.W.mg_of X G a1,
    b__law_draws := (fun_mk (st := s__law_draws) l1 c1 k1).binds (ps := ["script", "count"]) fun _ _ _ _ _ _ us hl => match us, hl with | [_, _], _ => rfl,
    f__check_letter := f__check_letter, d__check_letter := PySem.W.fnOf "_check_letter" "_check_letter" (defArgs s__check_letter) (defBody s__check_letter) (defScope s__check_letter) .none kV2 dc2 pm2 an2 cd2 ct2,
    F__check_letter := fun_mk l2 c2 k2,
    m__check_letter := PySem.W.mg_of X G a2,
    b__check_letter := (fun_mk (st := s__check_letter) l2 c2 k2).binds (ps := ["places", "row"]) fun _ _ _ _ _ _ us hl => match us, hl with | [_, _], _ => rfl,
    f_Alphabet_init := f_Alphabet_init, d_Alphabet_init := PySem.W.fnOf "__init__" "Alphabet.__init__" (defArgs s_Alphabet_init) (defBody s_Alphabet_init) (defScope s_Alphabet_init) .none kV3 dc3 pm3 an3 cd3 ct3,
    F_Alphabet_init := fun_mk l3 c3 k3,
    b_Alphabet_init := (fun_mk (st := s_Alphabet_init) l3 c3 k3).binds (ps := ["self", "places", "letters"]) fun _ _ _ _ _ _ us hl => match us, hl with | [_, _, _], _ => rfl,
    f__law_alphabet := f__law_alphabet, d__law_alphabet := PySem.W.fnOf "_law_alphabet" "_law_alphabet" (defArgs s__law_alphabet) (defBody s__law_alphabet) (defScope s__law_alphabet) .none kV4 dc4 pm4 an4 cd4 ct4,
    F__law_alphabet := fun_mk l4 c4 k4,
    m__law_alphabet := PySem.W.mg_of X G a4,
    b__law_alphabet := (fun_mk (st := s__law_alphabet) l4 c4 k4).binds (ps := ["draws", "places", "most"]) fun _ _ _ _ _ _ us hl => match us, hl with | [_, _, _], _ => rfl,
    f__law_word := f__law_word, d__law_word := PySem.W.fnOf "_law_word" "_law_word" (defArgs s__law_word) (defBody s__law_word) (defScope s__law_word) .none kV5 dc5 pm5 an5 cd5 ct5,
    F__law_word := fun_mk l5 c5 k5,
    m__law_word := PySem.W.mg_of X G a5,
    b__law_word := (fun_mk (st := s__law_word) l5 c5 k5).binds (ps := ["draws", "letters", "most"]) fun _ _ _ _ _ _ us hl => match us, hl with | [_, _, _], _ => rfl,
    f__law_place := f__law_place, d__law_place := PySem.W.fnOf "_law_place" "_law_place" (defArgs s__law_place) (defBody s__law_place) (defScope s__law_place) .none kV6 dc6 pm6 an6 cd6 ct6,
    F__law_place := fun_mk l6 c6 k6,
    m__law_place := PySem.W.mg_of X G a6,
    b__law_place := (fun_mk (st := s__law_place) l6 c6 k6).binds (ps := ["letters", "word", "place"]) fun _ _ _ _ _ _ us hl => match us, hl with | [_, _, _], _ => rfl,
    f_independent := f_independent, d_independent := PySem.W.fnOf "independent" "independent" (defArgs s_independent) (defBody s_independent) (defScope s_independent) .none kV7 dc7 pm7 an7 cd7 ct7,
    F_independent := fun_mk l7 c7 k7,
    m_independent := PySem.W.mg_of X G a7,
    b_independent := (fun_mk (st := s_independent) l7 c7 k7).binds (ps := ["alphabet", "first", "second"]) fun _ _ _ _ _ _ us hl => match us, hl with | [_, _, _], _ => rfl,
    f_is_ready := f_is_ready, d_is_ready := PySem.W.fnOf "is_ready" "is_ready" (defArgs s_is_ready) (defBody s_is_ready) (defScope s_is_ready) .none kV8 dc8 pm8 an8 cd8 ct8,
    F_is_ready := fun_mk l8 c8 k8,
    m_is_ready := PySem.W.mg_of X G a8,
    b_is_ready := (fun_mk (st := s_is_ready) l8 c8 k8).binds (ps := ["alphabet", "queues", "heads", "letter"]) fun _ _ _ _ _ _ us hl => match us, hl with | [_, _, _, _], _ => rfl,
    f_ready_letters := f_ready_letters, d_ready_letters := PySem.W.fnOf "ready_letters" "ready_letters" (defArgs s_ready_letters) (defBody s_ready_letters) (defScope s_ready_letters) .none kV9 dc9 pm9 an9 cd9 ct9,
    F_ready_letters := fun_mk l9 c9 k9,
    m_ready_letters := PySem.W.mg_of X G a9,
    b_ready_letters := (fun_mk (st := s_ready_letters) l9 c9 k9).binds (ps := ["alphabet", "queues", "heads"]) fun _ _ _ _ _ _ us hl => match us, hl with | [_, _, _], _ => rfl,
    f_moved_heads := f_moved_heads, d_moved_heads := PySem.W.fnOf "moved_heads" "moved_heads" (defArgs s_moved_heads) (defBody s_moved_heads) (defScope s_moved_heads) .none kV10 dc10 pm10 an10 cd10 ct10,
    F_moved_heads := fun_mk l10 c10 k10,
    m_moved_heads := PySem.W.mg_of X G a10,
    b_moved_heads := (fun_mk (st := s_moved_heads) l10 c10 k10).binds (ps := ["alphabet", "heads", "letter"]) fun _ _ _ _ _ _ us hl => match us, hl with | [_, _, _], _ => rfl,
    f__check_states := f__check_states, d__check_states := PySem.W.fnOf "_check_states" "_check_states" (defArgs s__check_states) (defBody s__check_states) (defScope s__check_states) .none kV11 dc11 pm11 an11 cd11 ct11,
    F__check_states := fun_mk l11 c11 k11,
    m__check_states := PySem.W.mg_of X G a11,
    b__check_states := (fun_mk (st := s__check_states) l11 c11 k11).binds (ps := ["many", "states"]) fun _ _ _ _ _ _ us hl => match us, hl with | [_, _], _ => rfl,
    f_Automaton_init := f_Automaton_init, d_Automaton_init := PySem.W.fnOf "__init__" "Automaton.__init__" (defArgs s_Automaton_init) (defBody s_Automaton_init) (defScope s_Automaton_init) .none kV12 dc12 pm12 an12 cd12 ct12,
    F_Automaton_init := fun_mk l12 c12 k12,
    b_Automaton_init := (fun_mk (st := s_Automaton_init) l12 c12 k12).binds (ps := ["self", "letters", "start", "finals", "rows"]) fun _ _ _ _ _ _ us hl => match us, hl with | [_, _, _, _, _], _ => rfl,
    f_final_marks := f_final_marks, d_final_marks := PySem.W.fnOf "final_marks" "final_marks" (defArgs s_final_marks) (defBody s_final_marks) (defScope s_final_marks) .none kV13 dc13 pm13 an13 cd13 ct13,
    F_final_marks := fun_mk l13 c13 k13,
    m_final_marks := PySem.W.mg_of X G a13,
    b_final_marks := (fun_mk (st := s_final_marks) l13 c13 k13).binds (ps := ["automaton"]) fun _ _ _ _ _ _ us hl => match us, hl with | [_], _ => rfl,
    f__reached_states := f__reached_states, d__reached_states := PySem.W.fnOf "_reached_states" "_reached_states" (defArgs s__reached_states) (defBody s__reached_states) (defScope s__reached_states) .none kV14 dc14 pm14 an14 cd14 ct14,
    F__reached_states := fun_mk l14 c14 k14,
    m__reached_states := PySem.W.mg_of X G a14,
    b__reached_states := (fun_mk (st := s__reached_states) l14 c14 k14).binds (ps := ["automaton"]) fun _ _ _ _ _ _ us hl => match us, hl with | [_], _ => rfl,
    f_state_classes := f_state_classes, d_state_classes := PySem.W.fnOf "state_classes" "state_classes" (defArgs s_state_classes) (defBody s_state_classes) (defScope s_state_classes) .none kV15 dc15 pm15 an15 cd15 ct15,
    F_state_classes := fun_mk l15 c15 k15,
    m_state_classes := PySem.W.mg_of X G a15,
    b_state_classes := (fun_mk (st := s_state_classes) l15 c15 k15).binds (ps := ["automaton", "states", "letters"]) fun _ _ _ _ _ _ us hl => match us, hl with | [_, _, _], _ => rfl,
    f_least := f_least, d_least := PySem.W.fnOf "least" "least" (defArgs s_least) (defBody s_least) (defScope s_least) .none kV16 dc16 pm16 an16 cd16 ct16,
    F_least := fun_mk l16 c16 k16,
    m_least := PySem.W.mg_of X G a16,
    b_least := (fun_mk (st := s_least) l16 c16 k16).binds (ps := ["automaton"]) fun _ _ _ _ _ _ us hl => match us, hl with | [_], _ => rfl,
    f__law_run := f__law_run, d__law_run := PySem.W.fnOf "_law_run" "_law_run" (defArgs s__law_run) (defBody s__law_run) (defScope s__law_run) .none kV17 dc17 pm17 an17 cd17 ct17,
    F__law_run := fun_mk l17 c17 k17,
    m__law_run := PySem.W.mg_of X G a17,
    b__law_run := (fun_mk (st := s__law_run) l17 c17 k17).binds (ps := ["automaton", "word"]) fun _ _ _ _ _ _ us hl => match us, hl with | [_, _], _ => rfl,
    f__law_takes := f__law_takes, d__law_takes := PySem.W.fnOf "_law_takes" "_law_takes" (defArgs s__law_takes) (defBody s__law_takes) (defScope s__law_takes) .none kV18 dc18 pm18 an18 cd18 ct18,
    F__law_takes := fun_mk l18 c18 k18,
    m__law_takes := PySem.W.mg_of X G a18,
    b__law_takes := (fun_mk (st := s__law_takes) l18 c18 k18).binds (ps := ["automaton", "word"]) fun _ _ _ _ _ _ us hl => match us, hl with | [_, _], _ => rfl,
    f__law_made := f__law_made, d__law_made := PySem.W.fnOf "_law_made" "_law_made" (defArgs s__law_made) (defBody s__law_made) (defScope s__law_made) .none kV19 dc19 pm19 an19 cd19 ct19,
    F__law_made := fun_mk l19 c19 k19,
    m__law_made := PySem.W.mg_of X G a19,
    b__law_made := (fun_mk (st := s__law_made) l19 c19 k19).binds (ps := ["letters", "automaton"]) fun _ _ _ _ _ _ us hl => match us, hl with | [_, _], _ => rfl,
    f_independent_pairs := f_independent_pairs, d_independent_pairs := PySem.W.fnOf "independent_pairs" "independent_pairs" (defArgs s_independent_pairs) (defBody s_independent_pairs) (defScope s_independent_pairs) .none kV20 dc20 pm20 an20 cd20 ct20,
    F_independent_pairs := fun_mk l20 c20 k20,
    m_independent_pairs := PySem.W.mg_of X G a20,
    b_independent_pairs := (fun_mk (st := s_independent_pairs) l20 c20 k20).binds (ps := ["alphabet"]) fun _ _ _ _ _ _ us hl => match us, hl with | [_], _ => rfl,
    f_is_closed := f_is_closed, d_is_closed := PySem.W.fnOf "is_closed" "is_closed" (defArgs s_is_closed) (defBody s_is_closed) (defScope s_is_closed) .none kV21 dc21 pm21 an21 cd21 ct21,
    F_is_closed := fun_mk l21 c21 k21,
    m_is_closed := PySem.W.mg_of X G a21,
    b_is_closed := (fun_mk (st := s_is_closed) l21 c21 k21).binds (ps := ["alphabet", "automaton"]) fun _ _ _ _ _ _ us hl => match us, hl with | [_, _], _ => rfl,
    f__law_side := f__law_side, d__law_side := PySem.W.fnOf "_law_side" "_law_side" (defArgs s__law_side) (defBody s__law_side) (defScope s__law_side) .none kV22 dc22 pm22 an22 cd22 ct22,
    F__law_side := fun_mk l22 c22 k22,
    m__law_side := PySem.W.mg_of X G a22,
    b__law_side := (fun_mk (st := s__law_side) l22 c22 k22).binds (ps := ["draws", "letters", "place", "most"]) fun _ _ _ _ _ _ us hl => match us, hl with | [_, _, _, _], _ => rfl,
    f__law_counter := f__law_counter, d__law_counter := PySem.W.fnOf "_law_counter" "_law_counter" (defArgs s__law_counter) (defBody s__law_counter) (defScope s__law_counter) .none kV23 dc23 pm23 an23 cd23 ct23,
    F__law_counter := fun_mk l23 c23 k23,
    m__law_counter := PySem.W.mg_of X G a23,
    b__law_counter := (fun_mk (st := s__law_counter) l23 c23 k23).binds (ps := ["draws", "letters"]) fun _ _ _ _ _ _ us hl => match us, hl with | [_, _], _ => rfl,
    f__law_closed_automaton := f__law_closed_automaton, d__law_closed_automaton := PySem.W.fnOf "_law_closed_automaton" "_law_closed_automaton" (defArgs s__law_closed_automaton) (defBody s__law_closed_automaton) (defScope s__law_closed_automaton) .none kV24 dc24 pm24 an24 cd24 ct24,
    F__law_closed_automaton := fun_mk l24 c24 k24,
    m__law_closed_automaton := PySem.W.mg_of X G a24,
    b__law_closed_automaton := (fun_mk (st := s__law_closed_automaton) l24 c24 k24).binds (ps := ["draws", "count", "letters", "most"]) fun _ _ _ _ _ _ us hl => match us, hl with | [_, _, _, _], _ => rfl,
    f__law_queues := f__law_queues, d__law_queues := PySem.W.fnOf "_law_queues" "_law_queues" (defArgs s__law_queues) (defBody s__law_queues) (defScope s__law_queues) .none kV25 dc25 pm25 an25 cd25 ct25,
    F__law_queues := fun_mk l25 c25 k25,
    m__law_queues := PySem.W.mg_of X G a25,
    b__law_queues := (fun_mk (st := s__law_queues) l25 c25 k25).binds (ps := ["count", "letters", "word"]) fun _ _ _ _ _ _ us hl => match us, hl with | [_, _, _], _ => rfl,
    f__law_ready := f__law_ready, d__law_ready := PySem.W.fnOf "_law_ready" "_law_ready" (defArgs s__law_ready) (defBody s__law_ready) (defScope s__law_ready) .none kV26 dc26 pm26 an26 cd26 ct26,
    F__law_ready := fun_mk l26 c26 k26,
    m__law_ready := PySem.W.mg_of X G a26,
    b__law_ready := (fun_mk (st := s__law_ready) l26 c26 k26).binds (ps := ["letters", "queues", "heads"]) fun _ _ _ _ _ _ us hl => match us, hl with | [_, _, _], _ => rfl,
    f_mask_of := f_mask_of, d_mask_of := PySem.W.fnOf "mask_of" "mask_of" (defArgs s_mask_of) (defBody s_mask_of) (defScope s_mask_of) .none kV27 dc27 pm27 an27 cd27 ct27,
    F_mask_of := fun_mk l27 c27 k27,
    m_mask_of := PySem.W.mg_of X G a27,
    b_mask_of := (fun_mk (st := s_mask_of) l27 c27 k27).binds (ps := ["bits"]) fun _ _ _ _ _ _ us hl => match us, hl with | [_], _ => rfl,
    f_empty_table := f_empty_table, d_empty_table := PySem.W.fnOf "empty_table" "empty_table" (defArgs s_empty_table) (defBody s_empty_table) (defScope s_empty_table) .none kV28 dc28 pm28 an28 cd28 ct28,
    F_empty_table := fun_mk l28 c28 k28,
    m_empty_table := PySem.W.mg_of X G a28,
    b_empty_table := (fun_mk (st := s_empty_table) l28 c28 k28).binds (ps := ["many"]) fun _ _ _ _ _ _ us hl => match us, hl with | [_], _ => rfl,
    f_known_row := f_known_row, d_known_row := PySem.W.fnOf "known_row" "known_row" (defArgs s_known_row) (defBody s_known_row) (defScope s_known_row) .none kV29 dc29 pm29 an29 cd29 ct29,
    F_known_row := fun_mk l29 c29 k29,
    m_known_row := PySem.W.mg_of X G a29,
    b_known_row := (fun_mk (st := s_known_row) l29 c29 k29).binds (ps := ["many", "table", "place"]) fun _ _ _ _ _ _ us hl => match us, hl with | [_, _, _], _ => rfl,
    f_known_label := f_known_label, d_known_label := PySem.W.fnOf "known_label" "known_label" (defArgs s_known_label) (defBody s_known_label) (defScope s_known_label) .none kV30 dc30 pm30 an30 cd30 ct30,
    F_known_label := fun_mk l30 c30 k30,
    m_known_label := PySem.W.mg_of X G a30,
    b_known_label := (fun_mk (st := s_known_label) l30 c30 k30).binds (ps := ["many", "table", "place"]) fun _ _ _ _ _ _ us hl => match us, hl with | [_, _, _], _ => rfl,
    f_known_labels := f_known_labels, d_known_labels := PySem.W.fnOf "known_labels" "known_labels" (defArgs s_known_labels) (defBody s_known_labels) (defScope s_known_labels) .none kV31 dc31 pm31 an31 cd31 ct31,
    F_known_labels := fun_mk l31 c31 k31,
    m_known_labels := PySem.W.mg_of X G a31,
    b_known_labels := (fun_mk (st := s_known_labels) l31 c31 k31).binds (ps := ["many", "table"]) fun _ _ _ _ _ _ us hl => match us, hl with | [_, _], _ => rfl,
    f__is_known := f__is_known, d__is_known := PySem.W.fnOf "_is_known" "_is_known" (defArgs s__is_known) (defBody s__is_known) (defScope s__is_known) .none kV32 dc32 pm32 an32 cd32 ct32,
    F__is_known := fun_mk l32 c32 k32,
    m__is_known := PySem.W.mg_of X G a32,
    b__is_known := (fun_mk (st := s__is_known) l32 c32 k32).binds (ps := ["many", "first", "second", "place"]) fun _ _ _ _ _ _ us hl => match us, hl with | [_, _, _, _], _ => rfl,
    f_compare_tables := f_compare_tables, d_compare_tables := PySem.W.fnOf "compare_tables" "compare_tables" (defArgs s_compare_tables) (defBody s_compare_tables) (defScope s_compare_tables) .none kV33 dc33 pm33 an33 cd33 ct33,
    F_compare_tables := fun_mk l33 c33 k33,
    m_compare_tables := PySem.W.mg_of X G a33,
    b_compare_tables := (fun_mk (st := s_compare_tables) l33 c33 k33).binds (ps := ["many", "first", "second", "place"]) fun _ _ _ _ _ _ us hl => match us, hl with | [_, _, _, _], _ => rfl,
    f_best_views := f_best_views, d_best_views := PySem.W.fnOf "best_views" "best_views" (defArgs s_best_views) (defBody s_best_views) (defScope s_best_views) .none kV34 dc34 pm34 an34 cd34 ct34,
    F_best_views := fun_mk l34 c34 k34,
    m_best_views := PySem.W.mg_of X G a34,
    b_best_views := (fun_mk (st := s_best_views) l34 c34 k34).binds (ps := ["many", "tables"]) fun _ _ _ _ _ _ us hl => match us, hl with | [_, _], _ => rfl,
    f__new_label := f__new_label, d__new_label := PySem.W.fnOf "_new_label" "_new_label" (defArgs s__new_label) (defBody s__new_label) (defScope s__new_label) .none kV35 dc35 pm35 an35 cd35 ct35,
    F__new_label := fun_mk l35 c35 k35,
    m__new_label := PySem.W.mg_of X G a35,
    b__new_label := (fun_mk (st := s__new_label) l35 c35 k35).binds (ps := ["letters", "letter", "tables"]) fun _ _ _ _ _ _ us hl => match us, hl with | [_, _, _], _ => rfl,
    f_met_table := f_met_table, d_met_table := PySem.W.fnOf "met_table" "met_table" (defArgs s_met_table) (defBody s_met_table) (defScope s_met_table) .none kV36 dc36 pm36 an36 cd36 ct36,
    F_met_table := fun_mk l36 c36 k36,
    m_met_table := PySem.W.mg_of X G a36,
    b_met_table := (fun_mk (st := s_met_table) l36 c36 k36).binds (ps := ["alphabet", "letter", "tables"]) fun _ _ _ _ _ _ us hl => match us, hl with | [_, _, _], _ => rfl,
    f_Machines_init := f_Machines_init, d_Machines_init := PySem.W.fnOf "__init__" "Machines.__init__" (defArgs s_Machines_init) (defBody s_Machines_init) (defScope s_Machines_init) .none kV37 dc37 pm37 an37 cd37 ct37,
    F_Machines_init := fun_mk l37 c37 k37,
    b_Machines_init := (fun_mk (st := s_Machines_init) l37 c37 k37).binds (ps := ["self", "alphabet", "automaton"]) fun _ _ _ _ _ _ us hl => match us, hl with | [_, _, _], _ => rfl,
    f_Machines_start := f_Machines_start, d_Machines_start := PySem.W.fnOf "start" "Machines.start" (defArgs s_Machines_start) (defBody s_Machines_start) (defScope s_Machines_start) .none kV38 dc38 pm38 an38 cd38 ct38,
    F_Machines_start := fun_mk l38 c38 k38,
    b_Machines_start := (fun_mk (st := s_Machines_start) l38 c38 k38).binds (ps := ["self"]) fun _ _ _ _ _ _ us hl => match us, hl with | [_], _ => rfl,
    f_Machines__table := f_Machines__table, d_Machines__table := PySem.W.fnOf "_table" "Machines._table" (defArgs s_Machines__table) (defBody s_Machines__table) (defScope s_Machines__table) .none kV39 dc39 pm39 an39 cd39 ct39,
    F_Machines__table := fun_mk l39 c39 k39,
    b_Machines__table := (fun_mk (st := s_Machines__table) l39 c39 k39).binds (ps := ["self", "state"]) fun _ _ _ _ _ _ us hl => match us, hl with | [_, _], _ => rfl,
    f_Machines__newest_rows := f_Machines__newest_rows, d_Machines__newest_rows := PySem.W.fnOf "_newest_rows" "Machines._newest_rows" (defArgs s_Machines__newest_rows) (defBody s_Machines__newest_rows) (defScope s_Machines__newest_rows) .none kV40 dc40 pm40 an40 cd40 ct40,
    F_Machines__newest_rows := fun_mk l40 c40 k40,
    b_Machines__newest_rows := (fun_mk (st := s_Machines__newest_rows) l40 c40 k40).binds (ps := ["self", "tables"]) fun _ _ _ _ _ _ us hl => match us, hl with | [_, _], _ => rfl,
    f_Machines__turn_of := f_Machines__turn_of, d_Machines__turn_of := PySem.W.fnOf "_turn_of" "Machines._turn_of" (defArgs s_Machines__turn_of) (defBody s_Machines__turn_of) (defScope s_Machines__turn_of) .none kV41 dc41 pm41 an41 cd41 ct41,
    F_Machines__turn_of := fun_mk l41 c41 k41,
    b_Machines__turn_of := (fun_mk (st := s_Machines__turn_of) l41 c41 k41).binds (ps := ["self", "state", "chosen"]) fun _ _ _ _ _ _ us hl => match us, hl with | [_, _, _], _ => rfl,
    f_Machines__turn_beyond := f_Machines__turn_beyond, d_Machines__turn_beyond := PySem.W.fnOf "_turn_beyond" "Machines._turn_beyond" (defArgs s_Machines__turn_beyond) (defBody s_Machines__turn_beyond) (defScope s_Machines__turn_beyond) .none kV42 dc42 pm42 an42 cd42 ct42,
    F_Machines__turn_beyond := fun_mk l42 c42 k42,
    b_Machines__turn_beyond := (fun_mk (st := s_Machines__turn_beyond) l42 c42 k42).binds (ps := ["self", "states", "rows"]) fun _ _ _ _ _ _ us hl => match us, hl with | [_, _, _], _ => rfl,
    f_Machines_meet := f_Machines_meet, d_Machines_meet := PySem.W.fnOf "meet" "Machines.meet" (defArgs s_Machines_meet) (defBody s_Machines_meet) (defScope s_Machines_meet) .none kV43 dc43 pm43 an43 cd43 ct43,
    F_Machines_meet := fun_mk l43 c43 k43,
    b_Machines_meet := (fun_mk (st := s_Machines_meet) l43 c43 k43).binds (ps := ["self", "letter", "states"]) fun _ _ _ _ _ _ us hl => match us, hl with | [_, _, _], _ => rfl,
    f_Machines_accepts := f_Machines_accepts, d_Machines_accepts := PySem.W.fnOf "accepts" "Machines.accepts" (defArgs s_Machines_accepts) (defBody s_Machines_accepts) (defScope s_Machines_accepts) .none kV44 dc44 pm44 an44 cd44 ct44,
    F_Machines_accepts := fun_mk l44 c44 k44,
    b_Machines_accepts := (fun_mk (st := s_Machines_accepts) l44 c44 k44).binds (ps := ["self", "states"]) fun _ _ _ _ _ _ us hl => match us, hl with | [_, _], _ => rfl,
    f_states_behind := f_states_behind, d_states_behind := PySem.W.fnOf "states_behind" "states_behind" (defArgs s_states_behind) (defBody s_states_behind) (defScope s_states_behind) .none kV45 dc45 pm45 an45 cd45 ct45,
    F_states_behind := fun_mk l45 c45 k45,
    m_states_behind := PySem.W.mg_of X G a45,
    b_states_behind := (fun_mk (st := s_states_behind) l45 c45 k45).binds (ps := ["machines", "alphabet", "states", "letter"]) fun _ _ _ _ _ _ us hl => match us, hl with | [_, _, _, _], _ => rfl,
    f_Player_init := f_Player_init, d_Player_init := PySem.W.fnOf "__init__" "Player.__init__" (defArgs s_Player_init) (defBody s_Player_init) (defScope s_Player_init) .none kV46 dc46 pm46 an46 cd46 ct46,
    F_Player_init := fun_mk l46 c46 k46,
    b_Player_init := (fun_mk (st := s_Player_init) l46 c46 k46).binds (ps := ["self", "alphabet", "machines", "queues"]) fun _ _ _ _ _ _ us hl => match us, hl with | [_, _, _, _], _ => rfl,
    f_Player_ready := f_Player_ready, d_Player_ready := PySem.W.fnOf "ready" "Player.ready" (defArgs s_Player_ready) (defBody s_Player_ready) (defScope s_Player_ready) .none kV47 dc47 pm47 an47 cd47 ct47,
    F_Player_ready := fun_mk l47 c47 k47,
    b_Player_ready := (fun_mk (st := s_Player_ready) l47 c47 k47).binds (ps := ["self"]) fun _ _ _ _ _ _ us hl => match us, hl with | [_], _ => rfl,
    f_Player_happen := f_Player_happen, d_Player_happen := PySem.W.fnOf "happen" "Player.happen" (defArgs s_Player_happen) (defBody s_Player_happen) (defScope s_Player_happen) .none kV48 dc48 pm48 an48 cd48 ct48,
    F_Player_happen := fun_mk l48 c48 k48,
    b_Player_happen := (fun_mk (st := s_Player_happen) l48 c48 k48).binds (ps := ["self", "letter"]) fun _ _ _ _ _ _ us hl => match us, hl with | [_, _], _ => rfl,
    f_Player_is_done := f_Player_is_done, d_Player_is_done := PySem.W.fnOf "is_done" "Player.is_done" (defArgs s_Player_is_done) (defBody s_Player_is_done) (defScope s_Player_is_done) .none kV49 dc49 pm49 an49 cd49 ct49,
    F_Player_is_done := fun_mk l49 c49 k49,
    b_Player_is_done := (fun_mk (st := s_Player_is_done) l49 c49 k49).binds (ps := ["self"]) fun _ _ _ _ _ _ us hl => match us, hl with | [_], _ => rfl,
    f_Player_is_stuck := f_Player_is_stuck, d_Player_is_stuck := PySem.W.fnOf "is_stuck" "Player.is_stuck" (defArgs s_Player_is_stuck) (defBody s_Player_is_stuck) (defScope s_Player_is_stuck) .none kV50 dc50 pm50 an50 cd50 ct50,
    F_Player_is_stuck := fun_mk l50 c50 k50,
    b_Player_is_stuck := (fun_mk (st := s_Player_is_stuck) l50 c50 k50).binds (ps := ["self"]) fun _ _ _ _ _ _ us hl => match us, hl with | [_], _ => rfl,
    f_Player_accepts := f_Player_accepts, d_Player_accepts := PySem.W.fnOf "accepts" "Player.accepts" (defArgs s_Player_accepts) (defBody s_Player_accepts) (defScope s_Player_accepts) .none kV51 dc51 pm51 an51 cd51 ct51,
    F_Player_accepts := fun_mk l51 c51 k51,
    b_Player_accepts := (fun_mk (st := s_Player_accepts) l51 c51 k51).binds (ps := ["self"]) fun _ _ _ _ _ _ us hl => match us, hl with | [_], _ => rfl,
    f_Player_happened := f_Player_happened, d_Player_happened := PySem.W.fnOf "happened" "Player.happened" (defArgs s_Player_happened) (defBody s_Player_happened) (defScope s_Player_happened) .none kV52 dc52 pm52 an52 cd52 ct52,
    F_Player_happened := fun_mk l52 c52 k52,
    b_Player_happened := (fun_mk (st := s_Player_happened) l52 c52 k52).binds (ps := ["self"]) fun _ _ _ _ _ _ us hl => match us, hl with | [_], _ => rfl,
    f__law_happens := f__law_happens, d__law_happens := PySem.W.fnOf "_law_happens" "_law_happens" (defArgs s__law_happens) (defBody s__law_happens) (defScope s__law_happens) .none kV53 dc53 pm53 an53 cd53 ct53,
    F__law_happens := fun_mk l53 c53 k53,
    m__law_happens := PySem.W.mg_of X G a53,
    b__law_happens := (fun_mk (st := s__law_happens) l53 c53 k53).binds (ps := ["player", "letter"]) fun _ _ _ _ _ _ us hl => match us, hl with | [_, _], _ => rfl,
    f__law_changed := f__law_changed, d__law_changed := PySem.W.fnOf "_law_changed" "_law_changed" (defArgs s__law_changed) (defBody s__law_changed) (defScope s__law_changed) .none kV54 dc54 pm54 an54 cd54 ct54,
    F__law_changed := fun_mk l54 c54 k54,
    m__law_changed := PySem.W.mg_of X G a54,
    b__law_changed := (fun_mk (st := s__law_changed) l54 c54 k54).binds (ps := ["draws", "letters", "queues"]) fun _ _ _ _ _ _ us hl => match us, hl with | [_, _, _], _ => rfl,
    f_law := fa, d_law := PySem.W.fnOf "law" "law" (defArgs s_law) (defBody s_law) (defScope s_law) .none kV55 dc55 pm55 an55 cd55 ct55,
    F_law := fun_mk l55 c55 k55,
    m_law := PySem.W.mg_of X G a55,
    b_law := (fun_mk (st := s_law) l55 c55 k55).binds (ps := ["script"]) fun _ _ _ _ _ _ us hl => match us, hl with | [_], _ => rfl,
    c_Alphabet := c_Alphabet, mc_Alphabet := PySem.W.mg_of X G aC_Alphabet, mk_Alphabet := mk_Alphabet, in_Alphabet := a3, if_Alphabet := i3, kc_Alphabet := kc_Alphabet, cl_Alphabet := ⟨pg_Alphabet, hd_Alphabet, po_Alphabet, sa_Alphabet⟩,
    na_Alphabet_places := na_Alphabet_places,
    na_Alphabet_letters := na_Alphabet_letters,
    c_Automaton := c_Automaton, mc_Automaton := PySem.W.mg_of X G aC_Automaton, mk_Automaton := mk_Automaton, in_Automaton := a12, if_Automaton := i12, kc_Automaton := kc_Automaton, cl_Automaton := ⟨pg_Automaton, hd_Automaton, po_Automaton, sa_Automaton⟩,
    na_Automaton_letters := na_Automaton_letters,
    na_Automaton_start := na_Automaton_start,
    na_Automaton_finals := na_Automaton_finals,
    na_Automaton_rows := na_Automaton_rows,
    c_Machines := c_Machines, mc_Machines := PySem.W.mg_of X G aC_Machines, mk_Machines := mk_Machines, in_Machines := a37, if_Machines := i37, kc_Machines := kc_Machines, cl_Machines := ⟨pg_Machines, hd_Machines, po_Machines, sa_Machines⟩,
    na_Machines_alphabet := na_Machines_alphabet,
    na_Machines_automaton := na_Machines_automaton,
    na_Machines_size := na_Machines_size,
    c_Player := c_Player, mc_Player := PySem.W.mg_of X G aC_Player, mk_Player := mk_Player, in_Player := a46, if_Player := i46, kc_Player := kc_Player, cl_Player := ⟨pg_Player, hd_Player, po_Player, sa_Player⟩,
    na_Player_alphabet := na_Player_alphabet,
    na_Player_machines := na_Player_machines,
    na_Player_queues := na_Player_queues,
    na_Player_heads := na_Player_heads,
    na_Player_held := na_Player_held,
    na_Player_taken := na_Player_taken,
    c_InvalidAutomaton := c_InvalidAutomaton, mc_InvalidAutomaton := PySem.W.mg_of X G aC_InvalidAutomaton, x_InvalidAutomaton := x_InvalidAutomaton, k_InvalidAutomaton := k_InvalidAutomaton, b_InvalidAutomaton := b_InvalidAutomaton, t_InvalidAutomaton := t_InvalidAutomaton, e_InvalidAutomaton := exm_self b_InvalidAutomaton i_InvalidAutomaton t_InvalidAutomaton s_InvalidAutomaton,
    c_NotClosed := c_NotClosed, mc_NotClosed := PySem.W.mg_of X G aC_NotClosed, x_NotClosed := x_NotClosed, k_NotClosed := k_NotClosed, b_NotClosed := b_NotClosed, t_NotClosed := t_NotClosed, e_NotClosed := exm_self b_NotClosed i_NotClosed t_NotClosed s_NotClosed,
    c_TooLarge := c_TooLarge, mc_TooLarge := PySem.W.mg_of X G aC_TooLarge, x_TooLarge := x_TooLarge, k_TooLarge := k_TooLarge, b_TooLarge := b_TooLarge, t_TooLarge := t_TooLarge, e_TooLarge := exm_self b_TooLarge i_TooLarge t_TooLarge s_TooLarge,
    c_NotReady := c_NotReady, mc_NotReady := PySem.W.mg_of X G aC_NotReady, x_NotReady := x_NotReady, k_NotReady := k_NotReady, b_NotReady := b_NotReady, t_NotReady := t_NotReady, e_NotReady := exm_self b_NotReady i_NotReady t_NotReady s_NotReady,
    me_Machines_start := ⟨a38, i38, k38⟩,
    me_Machines__table := ⟨a39, i39, k39⟩,
    me_Machines__newest_rows := ⟨a40, i40, k40⟩,
    me_Machines__turn_of := ⟨a41, i41, k41⟩,
    me_Machines__turn_beyond := ⟨a42, i42, k42⟩,
    me_Machines_meet := ⟨a43, i43, k43⟩,
    me_Machines_accepts := ⟨a44, i44, k44⟩,
    me_Player_ready := ⟨a47, i47, k47⟩,
    me_Player_happen := ⟨a48, i48, k48⟩,
    me_Player_is_done := ⟨a49, i49, k49⟩,
    me_Player_is_stuck := ⟨a50, i50, k50⟩,
    me_Player_accepts := ⟨a51, i51, k51⟩,
    me_Player_happened := ⟨a52, i52, k52⟩,
    z_any := PySem.W.mg_none_of X G z_any,
    z_enumerate := PySem.W.mg_none_of X G z_enumerate,
    z_int := PySem.W.mg_none_of X G z_int,
    z_len := PySem.W.mg_none_of X G z_len,
    z_list := PySem.W.mg_none_of X G z_list,
    z_range := PySem.W.mg_none_of X G z_range,
    z_set := PySem.W.mg_none_of X G z_set,
    z_sorted := PySem.W.mg_none_of X G z_sorted,
    z_tuple := PySem.W.mg_none_of X G z_tuple,
    z_zip := PySem.W.mg_none_of X G z_zip,
    t_MOST_LETTERS := t_MOST_LETTERS, v_MOST_LETTERS := PySem.W.mg_of X G v_MOST_LETTERS,
    t_MOST_PLACES := t_MOST_PLACES, v_MOST_PLACES := PySem.W.mg_of X G v_MOST_PLACES,
    t_MOST_STATES := t_MOST_STATES, v_MOST_STATES := PySem.W.mg_of X G v_MOST_STATES }
  exact ⟨_, fun s v => .of_eq rfl, fun base _ _ => ok_law T⟩
theorem walk {l : PySem.W.OpenLaw} {q : Program} {loose : List Str} {XP : (Str → Option Value) → Heap → Prop} {YP : World → Heap → Prop} {d : DefRec} {K : Params → PySem.W.Frag} (hn : l.most = some 63) (hdf : d.params.defaults = [])
    (hY : ∀ (w : World) (h : Heap), YP w h → (K w.params).In h)
    (F : ∀ (w : World) (mg : Str → Option Value) (fa : Addr) (h : Heap), (K w.params).In h → h.Ns mainGlobals mg → mg d.name = some (.ref fa) →
      ∃ fd : FuncData, (∀ (s : Shared) (u : Value), BindsTo s fd ⟨[u], []⟩ [("script", u)]) ∧ ∀ base : Heap, (K w.params).In base → base.Ns mainGlobals mg → FnOk l.prog w (K w.params) mg base CX0 11 fa fd ["script"] (spLaw (K w.params))) :
    PySem.W.WalkO q loose XP YP l.row.toRowW d [] (fun f vs => PySem.call f vs) :=
  L2.walk_of (n := 63) (k := 11) (x := "script") (CX := fun _ => CX0) (sp := fun w => spLaw (K w.params)) hn (by decide) hdf ⟨rfl, by decide, by decide⟩ hY F (fun _ _ a ns hl _ hS => ⟨a, ns, rfl, hS, hl, fun _ => rfl⟩) fun _ _ _ _ _ z => z
end My
open PySem PySem.W PyProof.Rows in
set_option maxRecDepth 100000 in
set_option maxHeartbeats 0 in
theorem PySem.Challenge.cw_placewords_k24_players_holds : PySem.Challenge.rw_placewords_k24_players.Holds := by
  w_on; o_law; k_head; (case hw => w_witness2)
  k_fill
  refine My.walk (l := PySem.Challenge.rw_placewords_k24_players) rfl rfl (fun w h Y => PySem.W.kIn_of Y) ?F
  case F =>
    intro w mg fa h KX G hmg
    refine' My.all_mk KX G hmg ?aC_Alphabet ?aC_Automaton ?aC_Machines ?aC_Player ?a0 ?l0 ?c0 ?k0 ?a1 ?l1 ?c1 ?k1 ?a2 ?l2 ?c2 ?k2 ?a3 ?i3 ?l3 ?c3 ?k3 ?a4 ?l4 ?c4 ?k4 ?a5 ?l5 ?c5 ?k5 ?a6 ?l6 ?c6 ?k6 ?a7 ?l7 ?c7 ?k7 ?a8 ?l8 ?c8 ?k8 ?a9 ?l9 ?c9 ?k9 ?a10 ?l10 ?c10 ?k10 ?a11 ?l11 ?c11 ?k11 ?a12 ?i12 ?l12 ?c12 ?k12 ?a13 ?l13 ?c13 ?k13 ?a14 ?l14 ?c14 ?k14 ?a15 ?l15 ?c15 ?k15 ?a16 ?l16 ?c16 ?k16 ?a17 ?l17 ?c17 ?k17 ?a18 ?l18 ?c18 ?k18 ?a19 ?l19 ?c19 ?k19 ?a20 ?l20 ?c20 ?k20 ?a21 ?l21 ?c21 ?k21 ?a22 ?l22 ?c22 ?k22 ?a23 ?l23 ?c23 ?k23 ?a24 ?l24 ?c24 ?k24 ?a25 ?l25 ?c25 ?k25 ?a26 ?l26 ?c26 ?k26 ?a27 ?l27 ?c27 ?k27 ?a28 ?l28 ?c28 ?k28 ?a29 ?l29 ?c29 ?k29 ?a30 ?l30 ?c30 ?k30 ?a31 ?l31 ?c31 ?k31 ?a32 ?l32 ?c32 ?k32 ?a33 ?l33 ?c33 ?k33 ?a34 ?l34 ?c34 ?k34 ?a35 ?l35 ?c35 ?k35 ?a36 ?l36 ?c36 ?k36 ?a37 ?i37 ?l37 ?c37 ?k37 ?a38 ?i38 ?l38 ?c38 ?k38 ?a39 ?i39 ?l39 ?c39 ?k39 ?a40 ?i40 ?l40 ?c40 ?k40 ?a41 ?i41 ?l41 ?c41 ?k41 ?a42 ?i42 ?l42 ?c42 ?k42 ?a43 ?i43 ?l43 ?c43 ?k43 ?a44 ?i44 ?l44 ?c44 ?k44 ?a45 ?l45 ?c45 ?k45 ?a46 ?i46 ?l46 ?c46 ?k46 ?a47 ?i47 ?l47 ?c47 ?k47 ?a48 ?i48 ?l48 ?c48 ?k48 ?a49 ?i49 ?l49 ?c49 ?k49 ?a50 ?i50 ?l50 ?c50 ?k50 ?a51 ?i51 ?l51 ?c51 ?k51 ?a52 ?i52 ?l52 ?c52 ?k52 ?a53 ?l53 ?c53 ?k53 ?a54 ?l54 ?c54 ?k54 ?a55 ?l55 ?c55 ?k55 ?pg_Alphabet ?hd_Alphabet ?po_Alphabet ?sa_Alphabet ?mk_Alphabet ?kc_Alphabet ?na_Alphabet_places ?na_Alphabet_letters ?pg_Automaton ?hd_Automaton ?po_Automaton ?sa_Automaton ?mk_Automaton ?kc_Automaton ?na_Automaton_letters ?na_Automaton_start ?na_Automaton_finals ?na_Automaton_rows ?pg_Machines ?hd_Machines ?po_Machines ?sa_Machines ?mk_Machines ?kc_Machines ?na_Machines_alphabet ?na_Machines_automaton ?na_Machines_size ?pg_Player ?hd_Player ?po_Player ?sa_Player ?mk_Player ?kc_Player ?na_Player_alphabet ?na_Player_machines ?na_Player_queues ?na_Player_heads ?na_Player_held ?na_Player_taken ?aC_InvalidAutomaton ?x_InvalidAutomaton ?k_InvalidAutomaton ?b_InvalidAutomaton ?t_InvalidAutomaton ?i_InvalidAutomaton ?s_InvalidAutomaton ?aC_NotClosed ?x_NotClosed ?k_NotClosed ?b_NotClosed ?t_NotClosed ?i_NotClosed ?s_NotClosed ?aC_TooLarge ?x_TooLarge ?k_TooLarge ?b_TooLarge ?t_TooLarge ?i_TooLarge ?s_TooLarge ?aC_NotReady ?x_NotReady ?k_NotReady ?b_NotReady ?t_NotReady ?i_NotReady ?s_NotReady ?z_any ?z_enumerate ?z_int ?z_len ?z_list ?z_range ?z_set ?z_sorted ?z_tuple ?z_zip ?v_MOST_LETTERS ?v_MOST_PLACES ?v_MOST_STATES
    (case aC_Alphabet => k_is)
    (case aC_Automaton => k_is)
    (case aC_Machines => k_is)
    (case aC_Player => k_is)
    (case a0 => k_is)
    (case l0 => k_is)
    (case c0 => k_is)
    (case k0 => k_is)
    (case a1 => k_is)
    (case l1 => k_is)
    (case c1 => k_is)
    (case k1 => k_is)
    (case a2 => k_is)
    (case l2 => k_is)
    (case c2 => k_is)
    (case k2 => k_is)
    (case a3 => k_is)
    (case i3 => k_is)
    (case l3 => k_is)
    (case c3 => k_is)
    (case k3 => k_is)
    (case a4 => k_is)
    (case l4 => k_is)
    (case c4 => k_is)
    (case k4 => k_is)
    (case a5 => k_is)
    (case l5 => k_is)
    (case c5 => k_is)
    (case k5 => k_is)
    (case a6 => k_is)
    (case l6 => k_is)
    (case c6 => k_is)
    (case k6 => k_is)
    (case a7 => k_is)
    (case l7 => k_is)
    (case c7 => k_is)
    (case k7 => k_is)
    (case a8 => k_is)
    (case l8 => k_is)
    (case c8 => k_is)
    (case k8 => k_is)
    (case a9 => k_is)
    (case l9 => k_is)
    (case c9 => k_is)
    (case k9 => k_is)
    (case a10 => k_is)
    (case l10 => k_is)
    (case c10 => k_is)
    (case k10 => k_is)
    (case a11 => k_is)
    (case l11 => k_is)
    (case c11 => k_is)
    (case k11 => k_is)
    (case a12 => k_is)
    (case i12 => k_is)
    (case l12 => k_is)
    (case c12 => k_is)
    (case k12 => k_is)
    (case a13 => k_is)
    (case l13 => k_is)
    (case c13 => k_is)
    (case k13 => k_is)
    (case a14 => k_is)
    (case l14 => k_is)
    (case c14 => k_is)
    (case k14 => k_is)
    (case a15 => k_is)
    (case l15 => k_is)
    (case c15 => k_is)
    (case k15 => k_is)
    (case a16 => k_is)
    (case l16 => k_is)
    (case c16 => k_is)
    (case k16 => k_is)
    (case a17 => k_is)
    (case l17 => k_is)
    (case c17 => k_is)
    (case k17 => k_is)
    (case a18 => k_is)
    (case l18 => k_is)
    (case c18 => k_is)
    (case k18 => k_is)
    (case a19 => k_is)
    (case l19 => k_is)
    (case c19 => k_is)
    (case k19 => k_is)
    (case a20 => k_is)
    (case l20 => k_is)
    (case c20 => k_is)
    (case k20 => k_is)
    (case a21 => k_is)
    (case l21 => k_is)
    (case c21 => k_is)
    (case k21 => k_is)
    (case a22 => k_is)
    (case l22 => k_is)
    (case c22 => k_is)
    (case k22 => k_is)
    (case a23 => k_is)
    (case l23 => k_is)
    (case c23 => k_is)
    (case k23 => k_is)
    (case a24 => k_is)
    (case l24 => k_is)
    (case c24 => k_is)
    (case k24 => k_is)
    (case a25 => k_is)
    (case l25 => k_is)
    (case c25 => k_is)
    (case k25 => k_is)
    (case a26 => k_is)
    (case l26 => k_is)
    (case c26 => k_is)
    (case k26 => k_is)
    (case a27 => k_is)
    (case l27 => k_is)
    (case c27 => k_is)
    (case k27 => k_is)
    (case a28 => k_is)
    (case l28 => k_is)
    (case c28 => k_is)
    (case k28 => k_is)
    (case a29 => k_is)
    (case l29 => k_is)
    (case c29 => k_is)
    (case k29 => k_is)
    (case a30 => k_is)
    (case l30 => k_is)
    (case c30 => k_is)
    (case k30 => k_is)
    (case a31 => k_is)
    (case l31 => k_is)
    (case c31 => k_is)
    (case k31 => k_is)
    (case a32 => k_is)
    (case l32 => k_is)
    (case c32 => k_is)
    (case k32 => k_is)
    (case a33 => k_is)
    (case l33 => k_is)
    (case c33 => k_is)
    (case k33 => k_is)
    (case a34 => k_is)
    (case l34 => k_is)
    (case c34 => k_is)
    (case k34 => k_is)
    (case a35 => k_is)
    (case l35 => k_is)
    (case c35 => k_is)
    (case k35 => k_is)
    (case a36 => k_is)
    (case l36 => k_is)
    (case c36 => k_is)
    (case k36 => k_is)
    (case a37 => k_is)
    (case i37 => k_is)
    (case l37 => k_is)
    (case c37 => k_is)
    (case k37 => k_is)
    (case a38 => k_is)
    (case i38 => k_is)
    (case l38 => k_is)
    (case c38 => k_is)
    (case k38 => k_is)
    (case a39 => k_is)
    (case i39 => k_is)
    (case l39 => k_is)
    (case c39 => k_is)
    (case k39 => k_is)
    (case a40 => k_is)
    (case i40 => k_is)
    (case l40 => k_is)
    (case c40 => k_is)
    (case k40 => k_is)
    (case a41 => k_is)
    (case i41 => k_is)
    (case l41 => k_is)
    (case c41 => k_is)
    (case k41 => k_is)
    (case a42 => k_is)
    (case i42 => k_is)
    (case l42 => k_is)
    (case c42 => k_is)
    (case k42 => k_is)
    (case a43 => k_is)
    (case i43 => k_is)
    (case l43 => k_is)
    (case c43 => k_is)
    (case k43 => k_is)
    (case a44 => k_is)
    (case i44 => k_is)
    (case l44 => k_is)
    (case c44 => k_is)
    (case k44 => k_is)
    (case a45 => k_is)
    (case l45 => k_is)
    (case c45 => k_is)
    (case k45 => k_is)
    (case a46 => k_is)
    (case i46 => k_is)
    (case l46 => k_is)
    (case c46 => k_is)
    (case k46 => k_is)
    (case a47 => k_is)
    (case i47 => k_is)
    (case l47 => k_is)
    (case c47 => k_is)
    (case k47 => k_is)
    (case a48 => k_is)
    (case i48 => k_is)
    (case l48 => k_is)
    (case c48 => k_is)
    (case k48 => k_is)
    (case a49 => k_is)
    (case i49 => k_is)
    (case l49 => k_is)
    (case c49 => k_is)
    (case k49 => k_is)
    (case a50 => k_is)
    (case i50 => k_is)
    (case l50 => k_is)
    (case c50 => k_is)
    (case k50 => k_is)
    (case a51 => k_is)
    (case i51 => k_is)
    (case l51 => k_is)
    (case c51 => k_is)
    (case k51 => k_is)
    (case a52 => k_is)
    (case i52 => k_is)
    (case l52 => k_is)
    (case c52 => k_is)
    (case k52 => k_is)
    (case a53 => k_is)
    (case l53 => k_is)
    (case c53 => k_is)
    (case k53 => k_is)
    (case a54 => k_is)
    (case l54 => k_is)
    (case c54 => k_is)
    (case k54 => k_is)
    (case a55 => k_is)
    (case l55 => k_is)
    (case c55 => k_is)
    (case k55 => k_is)
    (case pg_Alphabet => k_is)
    (case hd_Alphabet => k_is)
    (case po_Alphabet => k_is)
    (case sa_Alphabet => k_is)
    (case mk_Alphabet => k_is)
    (case kc_Alphabet => k_is)
    (case na_Alphabet_places => k_is)
    (case na_Alphabet_letters => k_is)
    (case pg_Automaton => k_is)
    (case hd_Automaton => k_is)
    (case po_Automaton => k_is)
    (case sa_Automaton => k_is)
    (case mk_Automaton => k_is)
    (case kc_Automaton => k_is)
    (case na_Automaton_letters => k_is)
    (case na_Automaton_start => k_is)
    (case na_Automaton_finals => k_is)
    (case na_Automaton_rows => k_is)
    (case pg_Machines => k_is)
    (case hd_Machines => k_is)
    (case po_Machines => k_is)
    (case sa_Machines => k_is)
    (case mk_Machines => k_is)
    (case kc_Machines => k_is)
    (case na_Machines_alphabet => k_is)
    (case na_Machines_automaton => k_is)
    (case na_Machines_size => k_is)
    (case pg_Player => k_is)
    (case hd_Player => k_is)
    (case po_Player => k_is)
    (case sa_Player => k_is)
    (case mk_Player => k_is)
    (case kc_Player => k_is)
    (case na_Player_alphabet => k_is)
    (case na_Player_machines => k_is)
    (case na_Player_queues => k_is)
    (case na_Player_heads => k_is)
    (case na_Player_held => k_is)
    (case na_Player_taken => k_is)
    (case aC_InvalidAutomaton => k_is)
    (case x_InvalidAutomaton => k_exc)
    (case k_InvalidAutomaton => k_is)
    (case b_InvalidAutomaton => k_is)
    (case t_InvalidAutomaton => k_is)
    (case i_InvalidAutomaton => k_is)
    (case s_InvalidAutomaton => first | rfl | k_is)
    (case aC_NotClosed => k_is)
    (case x_NotClosed => k_exc)
    (case k_NotClosed => k_is)
    (case b_NotClosed => k_is)
    (case t_NotClosed => k_is)
    (case i_NotClosed => k_is)
    (case s_NotClosed => first | rfl | k_is)
    (case aC_TooLarge => k_is)
    (case x_TooLarge => k_exc)
    (case k_TooLarge => k_is)
    (case b_TooLarge => k_is)
    (case t_TooLarge => k_is)
    (case i_TooLarge => k_is)
    (case s_TooLarge => first | rfl | k_is)
    (case aC_NotReady => k_is)
    (case x_NotReady => k_exc)
    (case k_NotReady => k_is)
    (case b_NotReady => k_is)
    (case t_NotReady => k_is)
    (case i_NotReady => k_is)
    (case s_NotReady => first | rfl | k_is)
    (case z_any => k_is)
    (case z_enumerate => k_is)
    (case z_int => k_is)
    (case z_len => k_is)
    (case z_list => k_is)
    (case z_range => k_is)
    (case z_set => k_is)
    (case z_sorted => k_is)
    (case z_tuple => k_is)
    (case z_zip => k_is)
    (case v_MOST_LETTERS => k_is)
    (case v_MOST_PLACES => k_is)
    (case v_MOST_STATES => k_is)
