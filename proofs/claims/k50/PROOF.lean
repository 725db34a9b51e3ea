import PyProof.Rows.All
import Wide.All
import OpenK.AllK
import Wide.FinOn
import HandS.ForMost
import HandS.ForExc
import HandS.Evl
import HandS.Zip
import HandS.TupAny
import HandS.SetFor
import HandS.Conv
import HandS.IsInst
import HandS.SortInts
import HandS.Strs
import HandS.RevRange
import PyProof.SeqIndex
import HandS.Deep
import KE.KDictDisplayH
import KE.SortData
import HandS.Style
import KE.GoesEnum
import HandS.Walk
import HandS.Star
import KE.DataMinMax
import HandS.DictComp
import HandS.TupMul
import KE.KUnpack
import HandS.TryOnly
import HandS.Gcd
import HandS.SortKw
import HandS.Rev
import HandS.DictTup
import KE.KDictList
import KE.KDictWalk
import KE.GoesZip
import KE.GoesMore
import KE.KDictKeyed
import KE.KeyNested
import HandS.WordsDict
import HandS.ExcIs
import HandS.More
import PyProof.FString3
import PyProof.Rows.StrIntSpec
import HandS.Nested
import HandS.EndTab
import KE.KNestM
import KE.KDictZip
import HandS.Iter
import KE.KMathGC
import HandS.Comp
import HandS.StrMore
import HandS.Text
import PyProof.StrOps2
import PyProof.StrLawsTight
import PyProof.FitsReplace
import KE.KWords
import KE.IntTextLaws
import PySem.Challenge.RW_placewords_k50_texts_of_alphabets_and_au
set_option Elab.async false
set_option linter.all false
set_option maxRecDepth 100000
namespace Hq
open PySem L2
abbrev Ex := Evl.Ex
structure MP where
  p : Hp → V → Prop
  mono : ∀ {F F' : Hp} {v : V}, Ex F F' → p F v → p F' v
structure MO where
  p : Hp → HO → Prop
  mono : ∀ {F F' : Hp} {o : HO}, Ex F F' → p F o → p F' o
  nt : ∀ {F : Hp} {o : HO}, p F o → ∀ xs, o ≠ .tup xs
abbrev Ms := List (Addr × MO)
abbrev Gm := List (Option MP)
def keys (M : Ms) : List Addr := M.map (·.1)
structure Wd (F : Hp) (M : Ms) (H : Hp) : Prop where
  ex : Ex F H
  nd : (keys M).Nodup
  own : ∀ q ∈ M, F q.1 = none ∧ ∃ o, H q.1 = some o ∧ q.2.p F o
structure Gr (ks : List Addr) (F H F' H' : Hp) : Prop where
  ex : Ex F F'
  keep : ∀ a o, a ∉ ks → H a = some o → H' a = some o
  off : ∀ a, F a = none → H a ≠ none → (∀ xs, H a ≠ some (.tup xs)) → F' a = none
  stay : ∀ a, H a ≠ none → H' a ≠ none
  nott : ∀ a, H a ≠ none → (∀ xs, H a ≠ some (.tup xs)) → ∀ xs, H' a ≠ some (.tup xs)
structure Ent where
  F : Hp
  H : Hp
  ks : List Addr
structure Pt (E : Ent) (F : Hp) (M : Ms) (H : Hp) : Prop where
  gr : Gr E.ks E.F E.H F H
  wd : Wd F M H
  fr : ∀ q ∈ M, q.1 ∈ E.ks ∨ E.H q.1 = none
theorem Gr.refl {ks F H} : Gr ks F H F H := ⟨Evl.Ex.refl _, fun _ _ _ h => h, fun _ h _ _ => h, fun _ h => h, fun _ _ h => h⟩
theorem Pt.start {F M H} (w : Wd F M H) : Pt ⟨F, H, keys M⟩ F M H := ⟨Gr.refl, w, fun q hq => .inl (List.mem_map_of_mem hq)⟩
theorem Pt.enter {E F M H} (h : Pt E F M H) : Pt ⟨F, H, keys M⟩ F M H := Pt.start h.wd
theorem Pt.back {E F M H F' M' H'} (h : Pt E F M H) (g : Pt ⟨F, H, keys M⟩ F' M' H') : Pt E F' M' H' := by
  have notin : ∀ a o, a ∉ E.ks → E.H a = some o → a ∉ keys M := by
    intro a o h1 h2 h3
    obtain ⟨q, hq, rfl⟩ := List.mem_map.mp h3
    rcases h.fr q hq with h4 | h4
    · exact h1 h4
    · rw [h4] at h2; cases h2
  refine ⟨⟨h.gr.ex.trans g.gr.ex, fun a o h1 h2 => ?_, fun a h1 h2 h3 => ?_, fun a h1 => ?_, fun a h1 h2 => ?_⟩, g.wd, fun q hq => ?_⟩
  · exact g.gr.keep a o (notin a o h1 h2) (h.gr.keep a o h1 h2)
  · exact g.gr.off a (h.gr.off a h1 h2 h3) (h.gr.stay a h2) (h.gr.nott a h2 h3)
  · exact g.gr.stay a (h.gr.stay a h1)
  · exact g.gr.nott a (h.gr.stay a h1) (h.gr.nott a h1 h2)
  · rcases g.fr q hq with h1 | h1
    · obtain ⟨r, hr, e⟩ := List.mem_map.mp h1
      rw [← e]
      exact h.fr r hr
    · right
      refine Classical.byContradiction fun h2 => ?_
      exact h.gr.stay _ h2 h1
structure Le (E' E : Ent) : Prop where
  to : ∀ F M H, Pt E' F M H → Pt E F M H
  new : ∀ a, E'.H a = none → E.H a = none
theorem Pt.le {E F M H} (h : Pt E F M H) : Le ⟨F, H, keys M⟩ E := ⟨fun _ _ _ g => h.back g, fun a e => Classical.byContradiction fun n => h.gr.stay a n e⟩
theorem Le.refl {E : Ent} : Le E E := ⟨fun _ _ _ h => h, fun _ h => h⟩
theorem Le.trans {E1 E2 E3 : Ent} (a : Le E1 E2) (b : Le E2 E3) : Le E1 E3 := ⟨fun _ _ _ h => b.to _ _ _ (a.to _ _ _ h), fun x h => b.new x (a.new x h)⟩
def EnvOk (F : Hp) (σ : St) (Γ : Gm) : Prop := Paired (fun (s : Option V) (g : Option MP) => ∀ P, g = some P → ∃ v, s = some v ∧ P.p F v) σ Γ
theorem EnvOk.mono {F F' σ Γ} (e : Ex F F') (h : EnvOk F σ Γ) : EnvOk F' σ Γ :=
  Paired.mapP h fun _ _ k P hP => let ⟨v, a, b⟩ := k P hP; ⟨v, a, P.mono e b⟩
theorem paired_get {α β : Type} {R : α → β → Prop} : ∀ {xs : List α} {ys : List β} {i : Nat} {y : β}, Paired R xs ys → ys[i]? = some y → ∃ x, xs[i]? = some x ∧ R x y
  | _, _, _, _, .nil, h => by simp at h
  | _, _, 0, _, .cons a _, h => by
    have e := Option.some.inj h
    subst e
    exact ⟨_, rfl, a⟩
  | _, _, i + 1, y, .cons _ t, h => paired_get (i := i) t h
theorem paired_get' {α β : Type} {R : α → β → Prop} : ∀ {xs : List α} {ys : List β} {i : Nat} {x : α}, Paired R xs ys → xs[i]? = some x → ∃ y, ys[i]? = some y ∧ R x y
  | _, _, _, _, .nil, h => by simp at h
  | _, _, 0, _, .cons a _, h => by
    have e := Option.some.inj h
    subst e
    exact ⟨_, rfl, a⟩
  | _, _, i + 1, y, .cons _ t, h => paired_get' (i := i) t h
theorem paired_set {α β : Type} {R : α → β → Prop} {x : α} {y : β} (r : R x y) : ∀ {xs : List α} {ys : List β} (i : Nat), Paired R xs ys → Paired R (xs.set i x) (ys.set i y)
  | _, _, _, .nil => .nil
  | _, _, 0, .cons _ t => .cons r t
  | _, _, i + 1, .cons a t => .cons a (paired_set r i t)
theorem paired_len {α β : Type} {R : α → β → Prop} : ∀ {xs : List α} {ys : List β}, Paired R xs ys → xs.length = ys.length
  | _, _, .nil => rfl
  | _, _, .cons _ t => by rw [List.length_cons, List.length_cons, paired_len t]
theorem paired_app {α β : Type} {R : α → β → Prop} : ∀ {xs xs' : List α} {ys ys' : List β}, Paired R xs ys → Paired R xs' ys' → Paired R (xs ++ xs') (ys ++ ys')
  | _, _, _, _, .nil, h => h
  | _, _, _, _, .cons a t, h => .cons a (paired_app t h)
theorem EnvOk.set {F σ} {Γ : Gm} {P : MP} {v : V} (i : Nat) (h : EnvOk F σ Γ) (hv : P.p F v) : EnvOk F (σ.set i (some v)) (Γ.set i (some P)) :=
  paired_set (fun Q hQ => by cases hQ; exact ⟨v, rfl, hv⟩) i h
theorem EnvOk.forget {F σ} {Γ : Gm} (i : Nat) (h : EnvOk F σ Γ) : EnvOk F (σ.set i none) (Γ.set i none) := paired_set (fun Q hQ => by cases hQ) i h
theorem EnvOk.get {F σ} {Γ : Gm} {i : Nat} {P : MP} (h : EnvOk F σ Γ) (e : Γ[i]? = some (some P)) : ∃ v, σ[i]? = some (some v) ∧ P.p F v := by
  obtain ⟨s, hs, k⟩ := paired_get h e
  obtain ⟨v, rfl, hv⟩ := k P rfl
  exact ⟨v, hs, hv⟩
def At (E : Ent) (Γ : Gm) (M : Ms) (σ : St) (H : Hp) : Prop := ∃ F, Pt E F M H ∧ EnvOk F σ Γ
def Nx (E : Ent) (Γ : Gm) (M : Ms) (f : St → Hp → Prop) : Prop := ∀ σ H, At E Γ M σ H → f σ H
def Rt (E : Ent) (M : Ms) (P : MP) (f : VK) : Prop := ∀ v F H, Pt E F M H → P.p F v → f v H
theorem At.le {E E' Γ M σ H} (l : Le E' E) (h : At E' Γ M σ H) : At E Γ M σ H := let ⟨F, a, b⟩ := h; ⟨F, l.to _ _ _ a, b⟩
theorem Nx.le {E E' Γ M f} (l : Le E' E) (h : Nx E Γ M f) : Nx E' Γ M f := fun σ H a => h σ H (a.le l)
theorem Rt.le {E E' M P f} (l : Le E' E) (h : Rt E M P f) : Rt E' M P f := fun v F H a b => h v F H (l.to _ _ _ a) b
def Ev (te : TE) (Γ : Gm) (M : Ms) (P : MP) (M' : Ms) : Prop := ∀ E F σ H, Pt E F M H → EnvOk F σ Γ → ∀ Q : VK, (∀ v F' H', Ex F F' → Pt E F' M' H' → P.p F' v → Q v H') → te σ H Q
def EvT (t : TT) (Γ : Gm) (M : Ms) (B : Bool → Prop) (M' : Ms) : Prop := ∀ E F σ H, Pt E F M H → EnvOk F σ Γ → ∀ Q : Bool → Hp → Prop, (∀ b F' H', Ex F F' → Pt E F' M' H' → B b → Q b H') → t σ H Q
/-- arguments: their predicates -/
def Ps (F : Hp) (vs : List V) (ps : List MP) : Prop := Paired (fun (v : V) (P : MP) => P.p F v) vs ps
theorem Ps.mono {F F' vs ps} (e : Ex F F') (h : Ps F vs ps) : Ps F' vs ps := Paired.mapP h fun _ P k => P.mono e k
def EvA (ta : TA) (Γ : Gm) (M : Ms) (ps : List MP) (M' : Ms) : Prop := ∀ E F σ H, Pt E F M H → EnvOk F σ Γ → ∀ Q : List V → Hp → Prop, (∀ vs F' H', Ex F F' → Pt E F' M' H' → Ps F' vs ps → Q vs H') → ta σ H Q
def MP.le (P P' : MP) : Prop := ∀ F v, P.p F v → P'.p F v
theorem Ev.weak {te Γ M P P' M'} (h : Ev te Γ M P M') (l : P.le P') : Ev te Γ M P' M' := fun E F σ H a b Q k => h E F σ H a b Q fun v F' H' e p q => k v F' H' e p (l _ _ q)
theorem EvT.is {t Γ M M'} {b b' : Bool} (h : EvT t Γ M (· = b) M') (e : b = b') : EvT t Γ M (· = b') M' := by rw [← e]; exact h
/-! ### data -/
mutual
theorem Dp.mono {K : PySem.W.Frag} {F F' : Hp} (e : Ex F F') : ∀ {v d}, Dp K F v d → Dp K F' v d
  | _, _, .non => .non
  | _, _, .bl b => .bl b
  | _, _, .int i => .int i
  | _, _, .str x => .str x
  | _, _, .lst h a => .lst (Evl.ex_l e h) (DpAll.mono e a)
  | _, _, .tup h a => .tup (Evl.ex_t e h) (DpAll.mono e a)
theorem DpAll.mono {K : PySem.W.Frag} {F F' : Hp} (e : Ex F F') : ∀ {vs ds}, DpAll K F vs ds → DpAll K F' vs ds
  | _, _, .nil => .nil
  | _, _, .cons a t => .cons (Dp.mono e a) (DpAll.mono e t)
end
def D (K : PySem.W.Frag) (d : PyData) : MP := ⟨fun F v => Dp K F v d, fun e h => Dp.mono e h⟩
theorem dp_int {K F v i} (h : Dp K F v (.int i)) : v = .int i := by cases h; rfl
theorem dp_bl {K F v b} (h : Dp K F v (.bool b)) : v = .bl b := by cases h; rfl
theorem dp_non {K F v} (h : Dp K F v .none) : v = .non := by cases h; rfl
theorem dp_lst {K F v ds} (h : Dp K F v (.list ds)) : ∃ a xs, v = .ref a ∧ SqL K F a xs ∧ DpAll K F xs ds := by cases h with | lst a b => exact ⟨_, _, rfl, a, b⟩
theorem dp_tup {K F v ds} (h : Dp K F v (.tuple ds)) : ∃ a xs, v = .ref a ∧ SqT K F a xs ∧ DpAll K F xs ds := by cases h with | tup a b => exact ⟨_, _, rfl, a, b⟩
theorem all_ps {K F} : ∀ {vs ds}, DpAll K F vs ds → Ps F vs (ds.map (D K))
  | _, _, .nil => .nil
  | _, _, .cons a t => .cons a (all_ps t)
theorem ps_all {K F} : ∀ {ds : List PyData} {vs}, Ps F vs (ds.map (D K)) → DpAll K F vs ds
  | [], _, h => by cases h; exact .nil
  | d :: ds, _, h => by cases h with | cons a t => exact .cons a (ps_all t)
/-- a list, a tuple that stands, of predicates -/
def PLi (K : PySem.W.Frag) (ps : List MP) : MP := ⟨fun F v => ∃ a vs, v = .ref a ∧ SqL K F a vs ∧ Ps F vs ps, fun e ⟨a, vs, h, s, q⟩ => ⟨a, vs, h, Evl.ex_l e s, q.mono e⟩⟩
def PTu (K : PySem.W.Frag) (ps : List MP) : MP := ⟨fun F v => ∃ a vs, v = .ref a ∧ SqT K F a vs ∧ Ps F vs ps, fun e ⟨a, vs, h, s, q⟩ => ⟨a, vs, h, Evl.ex_t e s, q.mono e⟩⟩
theorem D_PLi {K ds} : MP.le (D K (.list ds)) (PLi K (ds.map (D K))) := fun F v h => let ⟨a, xs, e, s, q⟩ := dp_lst h; ⟨a, xs, e, s, all_ps q⟩
theorem D_PTu {K ds} : MP.le (D K (.tuple ds)) (PTu K (ds.map (D K))) := fun F v h => let ⟨a, xs, e, s, q⟩ := dp_tup h; ⟨a, xs, e, s, all_ps q⟩
theorem PLi_D {K ds} : MP.le (PLi K (ds.map (D K))) (D K (.list ds)) := fun F v ⟨a, xs, e, s, q⟩ => by subst e; exact .lst s (ps_all q)
theorem PTu_D {K ds} : MP.le (PTu K (ds.map (D K))) (D K (.tuple ds)) := fun F v ⟨a, xs, e, s, q⟩ => by subst e; exact .tup s (ps_all q)
/-- some -/
def PEx {α : Type} (P : α → MP) : MP := ⟨fun F v => ∃ x, (P x).p F v, fun e ⟨x, h⟩ => ⟨x, (P x).mono e h⟩⟩
/-- with a fact -/
def PAn (φ : Prop) (P : MP) : MP := ⟨fun F v => φ ∧ P.p F v, fun e h => ⟨h.1, P.mono e h.2⟩⟩
def Own (q : Addr) : MP := ⟨fun _ v => v = .ref q, fun _ h => h⟩
/-- an own list of items -/
def ML (ps : List MP) : MO := ⟨fun F o => ∃ vs, o = .lst vs ∧ Ps F vs ps, fun e ⟨vs, h, q⟩ => ⟨vs, h, q.mono e⟩, fun ⟨vs, h, _⟩ xs z => by rw [h] at z; cases z⟩
def MX {α : Type} (P : α → MO) : MO := ⟨fun F v => ∃ x, (P x).p F v, fun e ⟨x, h⟩ => ⟨x, (P x).mono e h⟩, fun ⟨x, h⟩ => (P x).nt h⟩
def MA (φ : Prop) (P : MO) : MO := ⟨fun F v => φ ∧ P.p F v, fun e h => ⟨h.1, P.mono e h.2⟩, fun h => P.nt h.2⟩
end Hq
namespace Hq
open PySem L2
/-! ### steps of a point -/
theorem keys_set {M : Ms} {j : Nat} {q : Addr} {O O' : MO} : M[j]? = some (q, O) → keys (M.set j (q, O')) = keys M := by
  induction M generalizing j with
  | nil => intro h; simp at h
  | cons m M ih =>
    intro h
    cases j with
    | zero =>
      have e : m = (q, O) := Option.some.inj h
      subst e
      rfl
    | succ j =>
      have h' : M[j]? = some (q, O) := h
      show m.1 :: keys (M.set j (q, O')) = m.1 :: keys M
      rw [ih h']
theorem mem_set_ne {M : Ms} {j : Nat} {q : Addr} {O O' : MO} (nd : (keys M).Nodup) : M[j]? = some (q, O) → ∀ r ∈ M.set j (q, O'), r = (q, O') ∨ (r ∈ M ∧ r.1 ≠ q) := by
  induction M generalizing j with
  | nil => intro h; simp at h
  | cons m M ih =>
    intro h r hr
    have nd' := List.nodup_cons.mp (show (m.1 :: keys M).Nodup from nd)
    cases j with
    | zero =>
      have e : m = (q, O) := Option.some.inj h
      subst e
      have hr' : r ∈ (q, O') :: M := hr
      rcases List.mem_cons.mp hr' with e | hm
      · exact .inl e
      · exact .inr ⟨List.mem_cons_of_mem _ hm, fun e => nd'.1 (by rw [← e]; exact List.mem_map_of_mem (f := (·.1)) hm)⟩
    | succ j =>
      have h' : M[j]? = some (q, O) := h
      have hr' : r ∈ m :: M.set j (q, O') := hr
      have hq : q ∈ keys M := List.mem_map_of_mem (f := (·.1)) (List.mem_of_getElem? h')
      rcases List.mem_cons.mp hr' with e | hm
      · subst e
        exact .inr ⟨List.mem_cons_self, fun e => nd'.1 (by rw [e]; exact hq)⟩
      · rcases ih nd'.2 h' r hm with e | ⟨e, e2⟩
        · exact .inl e
        · exact .inr ⟨List.mem_cons_of_mem _ e, e2⟩
section
variable {K : PySem.W.Frag} {E E' : Ent} {F F' H H' : Hp} {M M' M1 M2 M3 : Ms} {Γ Γ' : Gm} {P P' P1 P2 : MP} {O O' : MO} {q : Addr} {σ : St} {o o' : HO} {j : Nat}
theorem Pt.at (h : Pt E F M H) (e : M[j]? = some (q, O)) : F q = none ∧ ∃ o, H q = some o ∧ O.p F o := h.wd.own _ (List.mem_of_getElem? e)
theorem Pt.ex (h : Pt E F M H) : Ex F H := h.wd.ex
theorem Pt.fresh (h : Pt E F M H) (hp : H q = none) : E.H q = none := Classical.byContradiction fun n => h.gr.stay _ n hp
theorem Pt.new (h : Pt E F M H) (hp : H q = none) (ho : O.p F o) : Pt E F ((q, O) :: M) (upd H q o) := by
  have ne : ∀ {a u}, H a = some u → a ≠ q := fun e => ne_of_none e hp
  refine ⟨⟨h.gr.ex, fun a u h1 h2 => ?_, h.gr.off, fun a h1 => ?_, fun a h1 h2 => ?_⟩, ⟨h.wd.ex.trans (Evl.Ex.new hp), ?_, fun r hr => ?_⟩, fun r hr => ?_⟩
  · have := h.gr.keep a u h1 h2
    rw [upd_ne (ne this)]; exact this
  · by_cases e : a = q
    · subst e; rw [upd_same]; exact fun z => by cases z
    · rw [upd_ne e]; exact h.gr.stay a h1
  · rw [upd_ne (fun e => h.gr.stay a h1 (by rw [e]; exact hp))]; exact h.gr.nott a h1 h2
  · refine List.nodup_cons.mpr ⟨fun hm => ?_, h.wd.nd⟩
    obtain ⟨r, hr, e⟩ := List.mem_map.mp hm
    obtain ⟨_, u, hu, _⟩ := h.wd.own r hr
    exact ne hu e
  · rcases List.mem_cons.mp hr with e | hm
    · subst e; exact ⟨Evl.fresh_back h.wd.ex hp, o, upd_same, ho⟩
    · obtain ⟨a, u, hu, b⟩ := h.wd.own r hm
      exact ⟨a, u, by rw [upd_ne (ne hu)]; exact hu, b⟩
  · rcases List.mem_cons.mp hr with e | hm
    · subst e; exact .inr (h.fresh hp)
    · exact h.fr r hm
theorem Pt.laid (h : Pt E F M H) (hp : H q = none) : Pt E (upd F q o) M (upd H q o) := by
  have ne : ∀ {a u}, H a = some u → a ≠ q := fun e => ne_of_none e hp
  have fq : F q = none := Evl.fresh_back h.wd.ex hp
  refine ⟨⟨h.gr.ex.trans (Evl.Ex.new fq), fun a u h1 h2 => ?_, fun a h1 h2 h3 => ?_, fun a h1 => ?_, fun a h1 h2 => ?_⟩, ⟨fun a u e => ?_, h.wd.nd, fun r hr => ?_⟩, h.fr⟩
  · have := h.gr.keep a u h1 h2
    rw [upd_ne (ne this)]; exact this
  · have n : a ≠ q := fun e => h2 (by rw [e]; exact h.fresh hp)
    rw [upd_ne n]; exact h.gr.off a h1 h2 h3
  · by_cases e : a = q
    · subst e; rw [upd_same]; exact fun z => by cases z
    · rw [upd_ne e]; exact h.gr.stay a h1
  · rw [upd_ne (fun e => h.gr.stay a h1 (by rw [e]; exact hp))]; exact h.gr.nott a h1 h2
  · by_cases e2 : a = q
    · subst e2; rw [upd_same] at e ⊢; exact e
    · rw [upd_ne e2] at e ⊢; exact h.wd.ex a u e
  · obtain ⟨a, u, hu, b⟩ := h.wd.own r hr
    have n : r.1 ≠ q := ne hu
    exact ⟨by rw [upd_ne n]; exact a, u, by rw [upd_ne n]; exact hu, r.2.mono (Evl.Ex.new fq) b⟩
theorem Pt.freeze (h : Pt E F M H) (e : M[j]? = some (q, O)) (hq : E.H q = none) (ho : H q = some o) : Pt E (upd F q o) (M.eraseIdx j) H := by
  obtain ⟨fq, _⟩ := h.at e
  have nd : ∀ r ∈ M.eraseIdx j, r.1 ≠ q := by
    have key : ∀ {M : Ms} {j : Nat}, (keys M).Nodup → M[j]? = some (q, O) → ∀ r ∈ M.eraseIdx j, r.1 ≠ q := by
      intro M
      induction M with
      | nil => intro j _ h; simp at h
      | cons m M ih =>
        intro j nd e r hr
        have nd' := List.nodup_cons.mp (show (m.1 :: keys M).Nodup from nd)
        cases j with
        | zero =>
          have e1 : m = (q, O) := Option.some.inj e
          subst e1
          have hr : r ∈ M := hr
          exact fun z => nd'.1 (by rw [← z]; exact List.mem_map_of_mem (f := (·.1)) hr)
        | succ j =>
          have e1 : M[j]? = some (q, O) := e
          have hr : r ∈ m :: M.eraseIdx j := hr
          have hq : q ∈ keys M := List.mem_map_of_mem (f := (·.1)) (List.mem_of_getElem? e1)
          rcases List.mem_cons.mp hr with z | z
          · subst z; exact fun z => nd'.1 (by rw [z]; exact hq)
          · exact ih nd'.2 e1 r z
    exact key h.wd.nd e
  refine ⟨⟨h.gr.ex.trans (Evl.Ex.new fq), h.gr.keep, fun a h1 h2 h3 => ?_, h.gr.stay, h.gr.nott⟩, ⟨fun a u z => ?_, ?_, fun r hr => ?_⟩, fun r hr => h.fr r (List.mem_of_mem_eraseIdx hr)⟩
  · have n : a ≠ q := fun z => h2 (by rw [z]; exact hq)
    rw [upd_ne n]; exact h.gr.off a h1 h2 h3
  · by_cases e2 : a = q
    · subst e2; rw [upd_same] at z; rw [ho]; exact z
    · rw [upd_ne e2] at z; exact h.wd.ex a u z
  · exact h.wd.nd.sublist ((List.eraseIdx_sublist _ _).map _)
  · obtain ⟨a, u, hu, b⟩ := h.wd.own r (List.mem_of_mem_eraseIdx hr)
    exact ⟨by rw [upd_ne (nd r hr)]; exact a, u, hu, r.2.mono (Evl.Ex.new fq) b⟩
theorem Pt.mut (h : Pt E F M H) (e : M[j]? = some (q, O)) (ho : O'.p F o') : Pt E F (M.set j (q, O')) (upd H q o') := by
  have hm := List.mem_of_getElem? e
  obtain ⟨fq, u0, hu0, _⟩ := h.at e
  refine ⟨⟨h.gr.ex, fun a u h1 h2 => ?_, h.gr.off, fun a h1 => ?_, fun a h1 h2 => ?_⟩, ⟨fun a u z => ?_, by rw [keys_set e]; exact h.wd.nd, fun r hr => ?_⟩, fun r hr => ?_⟩
  · have n : a ≠ q := fun z => by
      subst z
      rcases h.fr _ hm with f | f
      · exact h1 f
      · rw [show E.H a = none from f] at h2; cases h2
    rw [upd_ne n]; exact h.gr.keep a u h1 h2
  · by_cases z : a = q
    · subst z; rw [upd_same]; exact fun z => by cases z
    · rw [upd_ne z]; exact h.gr.stay a h1
  · by_cases z : a = q
    · subst z; rw [upd_same]; exact fun xs e => O'.nt ho xs (Option.some.inj e)
    · rw [upd_ne z]; exact h.gr.nott a h1 h2
  · rw [upd_ne (ne_of_none z fq)]; exact h.wd.ex a u z
  · rcases mem_set_ne h.wd.nd e r hr with z | ⟨z, n⟩
    · subst z; exact ⟨fq, o', upd_same, ho⟩
    · obtain ⟨a, u, hu, b⟩ := h.wd.own r z
      exact ⟨a, u, by rw [upd_ne n]; exact hu, b⟩
  · rcases mem_set_ne h.wd.nd e r hr with z | ⟨z, n⟩
    · subst z; exact (show q ∈ E.ks ∨ E.H q = none from h.fr (q, O) hm)
    · exact h.fr r z
theorem Pt.drop (h : Pt E F M H) (s : List.Sublist M' M) : Pt E F M' H :=
  ⟨h.gr, ⟨h.wd.ex, h.wd.nd.sublist (s.map _), fun r hr => h.wd.own r (s.subset hr)⟩, fun r hr => h.fr r (s.subset hr)⟩
theorem Pt.to (h : Pt E F M H) (l : ∀ F o, O.p F o → O'.p F o) (e : M[j]? = some (q, O)) : Pt E F (M.set j (q, O')) H := by
  obtain ⟨fq, u0, hu0, hO⟩ := h.at e
  have := h.mut (o' := u0) (O' := O') e (l _ _ hO)
  have e2 : upd H q u0 = H := by
    funext a
    by_cases z : a = q
    · subst z; rw [upd_same, hu0]
    · rw [upd_ne z]
  rw [e2] at this
  exact this
/-! ### changes of what is known -/
theorem Nx.imp {f} (h : Nx E Γ' M' f) (i : ∀ σ H, At E Γ M σ H → At E Γ' M' σ H) : Nx E Γ M f := fun σ H a => h σ H (i σ H a)
theorem EnvOk.upd {i : Nat} (h : EnvOk F σ Γ) (e : Γ[i]? = some (some P)) (l : ∀ v, P.p F v → P'.p F v) : EnvOk F σ (Γ.set i (some P')) := by
  have key : ∀ {σ : St} {Γ : Gm} {i : Nat}, EnvOk F σ Γ → Γ[i]? = some (some P) → EnvOk F σ (Γ.set i (some P')) := by
    intro σ Γ
    induction Γ generalizing σ with
    | nil => intro i _ h; simp at h
    | cons g Γ ih =>
      intro i h e
      cases h with
      | cons a t =>
        cases i with
        | zero =>
          have e : g = some P := Option.some.inj e
          refine .cons (fun Q hQ => ?_) t
          cases hQ
          obtain ⟨v, hv, k⟩ := a P e
          exact ⟨v, hv, l v k⟩
        | succ i => exact .cons a (ih t e)
  exact key h e
theorem nx_ex {α : Type} {f} {i : Nat} {R : α → MP} (e : Γ[i]? = some (some (PEx R))) (h : ∀ x, Nx E (Γ.set i (some (R x))) M f) : Nx E Γ M f := by
  rintro σ H ⟨F, a, b⟩
  obtain ⟨v, hv, x, k⟩ := b.get e
  refine h x σ H ⟨F, a, ?_⟩
  have : EnvOk F (σ.set i (some v)) (Γ.set i (some (R x))) := b.set i k
  have e2 : σ.set i (some v) = σ := by
    have hi := (List.getElem?_eq_some_iff.mp hv)
    obtain ⟨hi, hv⟩ := hi
    rw [← hv, List.set_getElem_self]
  rw [e2] at this
  exact this
theorem nx_an {φ : Prop} {f} {i : Nat} {R : MP} (e : Γ[i]? = some (some (PAn φ R))) (h : φ → Nx E (Γ.set i (some R)) M f) : Nx E Γ M f := by
  rintro σ H ⟨F, a, b⟩
  obtain ⟨v, hv, k1, k2⟩ := b.get e
  refine h k1 σ H ⟨F, a, b.upd e fun v q => q.2⟩
/-- an own list is given away: it stands from now on -/
theorem nx_freeze {f} {i : Nat} {ps : List MP} (j : Nat) (e : M[j]? = some (q, ML ps)) (hq : E.H q = none) (hg : Γ[i]? = some (some (Own q))) (h : Nx E (Γ.set i (some (PLi K ps))) (M.eraseIdx j) f) : Nx E Γ M f := by
  rintro σ H ⟨F, a, b⟩
  obtain ⟨fq, o, ho, vs, rfl, hp⟩ := a.at e
  have ex : Ex F (upd F q (.lst vs)) := Evl.Ex.new fq
  refine h σ H ⟨_, a.freeze e hq ho, (b.mono ex).upd hg fun v hv => ⟨q, vs, hv, .inl (.inl upd_same), hp.mono ex⟩⟩
theorem nx_drop {f} (s : List.Sublist M' M) (h : Nx E Γ M' f) : Nx E Γ M f := h.imp fun σ H ⟨F, a, b⟩ => ⟨F, a.drop s, b⟩
/-! ### expressions -/
variable {te ta tb tc tl : TE} {t u : TT} {r : R2}
theorem ev_var {i : Nat} (e : Γ[i]? = some (some P)) : Ev (tVar i) Γ M P M := fun E F σ H a b Q k => by
  obtain ⟨v, hv, hp⟩ := b.get e
  exact ⟨v, hv, k v F H (Evl.Ex.refl _) a hp⟩
theorem ev_cv {v : V} (h : ∀ F, P.p F v) : Ev (tC v) Γ M P M := fun E F σ H a b Q k => k v F H (Evl.Ex.refl _) a (h F)
theorem ev_int {i : Int} : Ev (tC (.int i)) Γ M (D K (.int i)) M := ev_cv fun _ => .int i
theorem ev_non : Ev (tC .non) Γ M (D K .none) M := ev_cv fun _ => .non
def Cont (E : Ent) (F : Hp) (M : Ms) (P : MP) (Q : VK) : Prop := ∀ v F' H', Ex F F' → Pt E F' M H' → P.p F' v → Q v H'
def RV (r : R2) (P1 P2 : MP) (M : Ms) (P : MP) (M' : Ms) : Prop := ∀ E F H x y, Pt E F M H → P1.p F x → P2.p F y → ∀ Q : VK, Cont E F M' P Q → r x y H Q
theorem ev_op (ha : Ev ta Γ M P1 M1) (hb : Ev tb Γ M1 P2 M2) (hr : RV r P1 P2 M2 P M3) : Ev (tOp r ta tb) Γ M P M3 := fun E F σ H a b Q k =>
  ha E F σ H a b _ fun x F1 H1 e1 a1 p1 => hb E F1 σ H1 a1 (b.mono e1) _ fun y F2 H2 e2 a2 p2 =>
    hr E F2 H2 x y a2 (P1.mono e2 p1) p2 Q fun v F3 H3 e3 a3 p3 => k v F3 H3 ((e1.trans e2).trans e3) a3 p3
theorem RV.ex1 {α : Type} {R : α → MP} (h : ∀ x, RV r (R x) P2 M P M') : RV r (PEx R) P2 M P M' := fun E F H x y a ⟨z, p1⟩ p2 Q k => h z E F H x y a p1 p2 Q k
theorem RV.ex2 {α : Type} {R : α → MP} (h : ∀ x, RV r P1 (R x) M P M') : RV r P1 (PEx R) M P M' := fun E F H x y a p1 ⟨z, p2⟩ Q k => h z E F H x y a p1 p2 Q k
theorem RV.an1 {φ : Prop} {R : MP} (h : φ → RV r R P2 M P M') : RV r (PAn φ R) P2 M P M' := fun E F H x y a p1 p2 Q k => h p1.1 E F H x y a p1.2 p2 Q k
theorem RV.an2 {φ : Prop} {R : MP} (h : φ → RV r P1 R M P M') : RV r P1 (PAn φ R) M P M' := fun E F H x y a p1 p2 Q k => h p2.1 E F H x y a p1 p2.2 Q k
theorem RV.weak (h : RV r P1 P2 M P M') (l : P.le P') : RV r P1 P2 M P' M' := fun E F H x y a p1 p2 Q k => h E F H x y a p1 p2 Q fun v F' H' e g p => k v F' H' e g (l _ _ p)
theorem PEx.in {α : Type} {R : α → MP} (x : α) : (R x).le (PEx R) := fun _ _ h => ⟨x, h⟩
theorem PAn.in {φ : Prop} {R : MP} (h : φ) : R.le (PAn φ R) := fun _ _ k => ⟨h, k⟩
theorem MP.le_trans {A B C : MP} (h : A.le B) (k : B.le C) : A.le C := fun F v q => k F v (h F v q)
theorem rv_val {z : V} (hz : ∀ F, P.p F z) (h : ∀ F H x y, P1.p F x → P2.p F y → Ex F H → ∀ Q : VK, Q z H → r x y H Q) : RV r P1 P2 M P M := fun E F H x y a p1 p2 Q k =>
  h F H x y p1 p2 a.ex Q (k z F H (Evl.Ex.refl _) a (hz F))
theorem rv_i0 {g : Int → Int → Int} {i j : Int} : RV (rI0 fun i j => .int (g i j)) (D K (.int i)) (D K (.int j)) M (D K (.int (g i j))) M := rv_val (z := .int (g i j)) (fun _ => .int _) fun F H x y p1 p2 _ Q q => by
  cases dp_int p1; cases dp_int p2
  exact ⟨i, j, rfl, rfl, q⟩
theorem rv_b0 {g : Int → Int → Bool} {i j : Int} : RV (rI0 fun i j => .bl (g i j)) (D K (.int i)) (D K (.int j)) M (D K (.bool (g i j))) M := rv_val (z := .bl (g i j)) (fun _ => .bl _) fun F H x y p1 p2 _ Q q => by
  cases dp_int p1; cases dp_int p2
  exact ⟨i, j, rfl, rfl, q⟩
theorem rv_ic {C : Int → Int → Prop} {g : Int → Int → Int} {i j : Int} (hc : C i j) : RV (rI C fun i j => .int (g i j)) (D K (.int i)) (D K (.int j)) M (D K (.int (g i j))) M := rv_val (z := .int (g i j)) (fun _ => .int _) fun F H x y p1 p2 _ Q q => by
  cases dp_int p1; cases dp_int p2
  exact ⟨i, j, rfl, rfl, hc, q⟩
theorem rv_eqD {d e : PyData} (hd : SeqAt.shaped d = true) (he : SeqAt.shaped e = true) : RV (rEqD K) (D K d) (D K e) M (D K (.bool (PyData.eqv d e))) M := rv_val (z := .bl _) (fun _ => .bl _) fun F H x y p1 p2 ex Q q =>
  ⟨d, e, Dp.mono ex p1, Dp.mono ex p2, hd, he, q⟩
theorem rv_neD {d e : PyData} (hd : SeqAt.shaped d = true) (he : SeqAt.shaped e = true) : RV (rNeD K) (D K d) (D K e) M (D K (.bool (!PyData.eqv d e))) M := rv_val (z := .bl _) (fun _ => .bl _) fun F H x y p1 p2 ex Q q =>
  ⟨d, e, Dp.mono ex p1, Dp.mono ex p2, hd, he, q⟩
theorem atI_of {xs : List V} {i : Int} {v : V} (h0 : 0 ≤ i) (h : xs[i.toNat]? = some v) : atI xs i = some v := by
  have hl := (List.getElem?_eq_some_iff.mp h).1
  obtain ⟨n, rfl⟩ := Int.eq_ofNat_of_zero_le h0
  unfold atI
  rw [Evl.ixN_nat (by simpa using hl)]
  simpa using h
theorem rv_ixL {ps : List MP} {i : Int} (h0 : 0 ≤ i) (h : ps[i.toNat]? = some P) : RV (rIx K) (PLi K ps) (D K (.int i)) M P M := fun E F H x y a p1 p2 Q k => by
  cases dp_int p2
  obtain ⟨b, vs, rfl, s, q⟩ := p1
  obtain ⟨v, hv, hp⟩ := paired_get q h
  exact .inl ⟨b, vs, i, v, rfl, rfl, Evl.ex_l a.ex s, atI_of h0 hv, k v F H (Evl.Ex.refl _) a hp⟩
theorem rv_ixT {ps : List MP} {i : Int} (h0 : 0 ≤ i) (h : ps[i.toNat]? = some P) : RV (rIx K) (PTu K ps) (D K (.int i)) M P M := fun E F H x y a p1 p2 Q k => by
  cases dp_int p2
  obtain ⟨b, vs, rfl, s, q⟩ := p1
  obtain ⟨v, hv, hp⟩ := paired_get q h
  exact .inr (.inl ⟨b, vs, i, v, rfl, rfl, Evl.ex_t a.ex s, atI_of h0 hv, k v F H (Evl.Ex.refl _) a hp⟩)
theorem rv_ixDL {ds : List PyData} {i : Int} {d : PyData} (h0 : 0 ≤ i) (h : ds[i.toNat]? = some d) : RV (rIx K) (D K (.list ds)) (D K (.int i)) M (D K d) M := fun E F H x y a p1 p2 Q k =>
  rv_ixL (K := K) (ps := ds.map (D K)) h0 (by rw [List.getElem?_map, h]; rfl) E F H x y a (D_PLi _ _ p1) p2 Q k
theorem rv_ixDT {ds : List PyData} {i : Int} {d : PyData} (h0 : 0 ≤ i) (h : ds[i.toNat]? = some d) : RV (rIx K) (D K (.tuple ds)) (D K (.int i)) M (D K d) M := fun E F H x y a p1 p2 Q k =>
  rv_ixT (K := K) (ps := ds.map (D K)) h0 (by rw [List.getElem?_map, h]; rfl) E F H x y a (D_PTu _ _ p1) p2 Q k
theorem rv_ixO {ps : List MP} {i : Int} {j : Nat} (e : M[j]? = some (q, ML ps)) (h0 : 0 ≤ i) (h : ps[i.toNat]? = some P) : RV (rIx K) (Own q) (D K (.int i)) M P M := fun E F H x y a p1 p2 Q k => by
  cases dp_int p2
  have p1 : x = .ref q := p1
  subst p1
  obtain ⟨fq, o, ho, vs, rfl, s⟩ := a.at e
  obtain ⟨v, hv, hp⟩ := paired_get s h
  exact .inl ⟨q, vs, i, v, rfl, rfl, SqL.of ho, atI_of h0 hv, k v F H (Evl.Ex.refl _) a hp⟩
theorem flat_ints : ∀ {F : Hp} {xs : List V} {ns : List Int}, DpAll K F xs (ns.map PyData.int) → xs = ns.map V.int
  | _, _, [], h => by cases h; rfl
  | _, _, n :: ns, h => by cases h with | cons a t => rw [List.map_cons, ← flat_ints t, dp_int a]
/-! ### arguments, calls -/
theorem ea_nil : EvA tNil Γ M [] M := fun E F σ H a b Q k => k [] F H (Evl.Ex.refl _) a .nil
theorem ea_cons {tr : TA} {ps : List MP} (h : Ev te Γ M P M1) (hr : EvA tr Γ M1 ps M2) : EvA (tCons te tr) Γ M (P :: ps) M2 := fun E F σ H a b Q k =>
  h E F σ H a b _ fun x F1 H1 e1 a1 p1 => hr E F1 σ H1 a1 (b.mono e1) _ fun vs F2 H2 e2 a2 p2 => k (x :: vs) F2 H2 (e1.trans e2) a2 (.cons (P.mono e2 p1) p2)
def RC (rc : List V → Hp → VK → Prop) (ps : List MP) (M : Ms) (P : MP) (M' : Ms) : Prop := ∀ E F H vs, Pt E F M H → Ps F vs ps → ∀ Q : VK, Cont E F M' P Q → rc vs H Q
theorem ev_cb {rc : List V → Hp → VK → Prop} {tr : TA} {ps : List MP} (h : EvA tr Γ M ps M1) (hr : RC rc ps M1 P M2) : Ev (tCB rc tr) Γ M P M2 := fun E F σ H a b Q k =>
  h E F σ H a b _ fun vs F1 H1 e1 a1 p1 => hr E F1 H1 vs a1 p1 Q fun v F2 H2 e2 a2 p2 => k v F2 H2 (e1.trans e2) a2 p2
theorem ev_call {sp : Sp} {dvs : List V} {X : XK} {tr : TA} {ps : List MP} (h : EvA tr Γ M ps M1) (hr : RC (fun vs H Q => sp (vs ++ dvs) H Q X) ps M1 P M2) : Ev (tCall sp dvs X tr) Γ M P M2 := fun E F σ H a b Q k =>
  h E F σ H a b _ fun vs F1 H1 e1 a1 p1 => hr E F1 H1 vs a1 p1 Q fun v F2 H2 e2 a2 p2 => k v F2 H2 (e1.trans e2) a2 p2
theorem RC.weak {rc : List V → Hp → VK → Prop} {ps : List MP} (h : RC rc ps M P M') (l : P.le P') : RC rc ps M P' M' := fun E F H vs a p Q k => h E F H vs a p Q fun v F' H' e g p => k v F' H' e g (l _ _ p)
theorem rc_len {ps : List MP} : RC (fun xs H Q => ∃ p ys, xs = [.ref p] ∧ (SqL K H p ys ∨ SqT K H p ys) ∧ Q (.int ys.length) H) [PLi K ps] M (D K (.int ps.length)) M := fun E F H vs a p Q k => by
  cases p with
  | cons p t =>
    cases t
    obtain ⟨b, ys, rfl, s, q⟩ := p
    refine ⟨b, ys, rfl, .inl (Evl.ex_l a.ex s), k _ F H (Evl.Ex.refl _) a ?_⟩
    rw [← paired_len q]
    exact .int _
theorem rc_lenT {ps : List MP} : RC (fun xs H Q => ∃ p ys, xs = [.ref p] ∧ (SqL K H p ys ∨ SqT K H p ys) ∧ Q (.int ys.length) H) [PTu K ps] M (D K (.int ps.length)) M := fun E F H vs a p Q k => by
  cases p with
  | cons p t =>
    cases t
    obtain ⟨b, ys, rfl, s, q⟩ := p
    refine ⟨b, ys, rfl, .inr (Evl.ex_t a.ex s), k _ F H (Evl.Ex.refl _) a ?_⟩
    rw [← paired_len q]
    exact .int _
theorem rc_lenO {ps : List MP} {j : Nat} (e : M[j]? = some (q, ML ps)) : RC (fun xs H Q => ∃ p ys, xs = [.ref p] ∧ (SqL K H p ys ∨ SqT K H p ys) ∧ Q (.int ys.length) H) [Own q] M (D K (.int ps.length)) M := fun E F H vs a p Q k => by
  cases p with
  | cons p t =>
    cases t
    have p : _ = V.ref q := p
    subst p
    obtain ⟨fq, o, ho, vs, rfl, s⟩ := a.at e
    refine ⟨q, vs, rfl, .inl (SqL.of ho), k _ F H (Evl.Ex.refl _) a ?_⟩
    rw [← paired_len s]
    exact .int _
theorem rc_lenD {ds : List PyData} : RC (fun xs H Q => ∃ p ys, xs = [.ref p] ∧ (SqL K H p ys ∨ SqT K H p ys) ∧ Q (.int ys.length) H) [D K (.list ds)] M (D K (.int ds.length)) M := fun E F H vs a p Q k => by
  cases p with
  | cons p t =>
    cases t
    have := rc_len (K := K) (ps := ds.map (D K)) E F H [_] a (.cons (D_PLi _ _ p) .nil) Q (M := M)
    rw [List.length_map] at this
    exact this k
theorem rc_lenDT {ds : List PyData} : RC (fun xs H Q => ∃ p ys, xs = [.ref p] ∧ (SqL K H p ys ∨ SqT K H p ys) ∧ Q (.int ys.length) H) [D K (.tuple ds)] M (D K (.int ds.length)) M := fun E F H vs a p Q k => by
  cases p with
  | cons p t =>
    cases t
    have := rc_lenT (K := K) (ps := ds.map (D K)) E F H [_] a (.cons (D_PTu _ _ p) .nil) Q (M := M)
    rw [List.length_map] at this
    exact this k
end
end Hq
namespace Hq
open PySem L2
section
variable {K : PySem.W.Frag} {E E' : Ent} {F F' H H' : Hp} {M M' M1 M2 M3 : Ms} {Γ Γ' : Gm} {P P' P1 P2 : MP} {O O' : MO} {q : Addr} {σ : St} {o o' : HO} {j : Nat}
variable {te ta tb tc tl : TE} {t u : TT} {r : R2} {D1 : Ends} {tu tw : TS}
/-! ### new objects -/
def ContN (E : Ent) (F : Hp) (O : MO) (M : Ms) (Q : VK) : Prop := ∀ q F' H', E.H q = none → Ex F F' → Pt E F' ((q, O) :: M) H' → Q (.ref q) H'
def EvN (te : TE) (Γ : Gm) (M : Ms) (O : MO) (M' : Ms) : Prop := ∀ E F σ H, Pt E F M H → EnvOk F σ Γ → ∀ Q : VK, ContN E F O M' Q → te σ H Q
def RCN (rc : List V → Hp → VK → Prop) (ps : List MP) (M : Ms) (O : MO) (M' : Ms) : Prop := ∀ E F H vs, Pt E F M H → Ps F vs ps → ∀ Q : VK, ContN E F O M' Q → rc vs H Q
/-- an object that stands -/
def Fr (O : MO) : MP := ⟨fun F v => ∃ q o, v = .ref q ∧ F q = some o ∧ O.p F o, fun e ⟨q, o, a, b, c⟩ => ⟨q, o, a, e _ _ b, O.mono e c⟩⟩
theorem fr_L {ps : List MP} : (Fr (ML ps)).le (PLi K ps) := fun F v ⟨q, o, a, b, vs, e, h⟩ => by subst e; exact ⟨q, vs, a, SqL.of b, h⟩
theorem fr_X {α : Type} {R : α → MO} : (Fr (MX R)).le (PEx fun x => Fr (R x)) := fun F v ⟨q, o, a, b, x, h⟩ => ⟨x, q, o, a, b, h⟩
theorem fr_A {φ : Prop} {R : MO} : (Fr (MA φ R)).le (PAn φ (Fr R)) := fun F v ⟨q, o, a, b, x, h⟩ => ⟨x, q, o, a, b, h⟩
theorem PEx.le {α : Type} {R R' : α → MP} (h : ∀ x, (R x).le (R' x)) : (PEx R).le (PEx R') := fun F v ⟨x, k⟩ => ⟨x, h x F v k⟩
theorem PAn.le {φ : Prop} {R R' : MP} (h : φ → R.le R') : (PAn φ R).le (PAn φ R') := fun F v k => ⟨k.1, h k.1 F v k.2⟩
theorem ev_fr (h : EvN te Γ M O M') : Ev te Γ M (Fr O) M' := fun E F σ H a b Q k => h E F σ H a b Q fun q F' H' f e g => by
  obtain ⟨fq, o, ho, hO⟩ := g.at (j := 0) rfl
  have ex : Ex F' (upd F' q o) := Evl.Ex.new fq
  exact k _ _ _ (e.trans ex) (g.freeze (j := 0) rfl f ho) ⟨q, o, rfl, upd_same, O.mono ex hO⟩
theorem ev_newL {ps : List MP} (h : EvN te Γ M (ML ps) M') : Ev te Γ M (PLi K ps) M' := (ev_fr h).weak fr_L
theorem EvN.weak (h : EvN te Γ M O M') (l : ∀ F o, O.p F o → O'.p F o) : EvN te Γ M O' M' := fun E F σ H a b Q k => h E F σ H a b Q fun q F' H' f e g => k q F' H' f e (by
  have := g.to (j := 0) (O' := O') l rfl
  exact this)
theorem EvN.is {O2 : MO} (h : EvN te Γ M O M') (e : O = O2) : EvN te Γ M O2 M' := e ▸ h
theorem Ev.is (h : Ev te Γ M P M') (e : P = P') : Ev te Γ M P' M' := e ▸ h
theorem sz_of {n : Nat} (h : n ≤ 100000) : n ≤ sizeLine := Nat.le_trans h (by decide)
theorem sz_lt {n : Nat} (h : n < 100000) : n < sizeLine := Nat.lt_of_lt_of_le h (by decide)
theorem evn_lst {tr : TA} {ps : List MP} (h : EvA tr Γ M ps M1) (hl : ps.length ≤ 100000) : EvN (tLst tr) Γ M (ML ps) M1 := fun E F σ H a b Q k =>
  h E F σ H a b _ fun vs F1 H1 e1 a1 p1 => ⟨sz_of (by rw [paired_len p1]; exact hl), fun p hp => k p F1 _ (a1.fresh hp) e1 (a1.new hp ⟨vs, rfl, p1⟩)⟩
theorem ev_tup {tr : TA} {ps : List MP} (h : EvA tr Γ M ps M1) (hl : ps.length ≤ 100000) : Ev (tTup tr) Γ M (PTu K ps) M1 := fun E F σ H a b Q k =>
  h E F σ H a b _ fun vs F1 H1 e1 a1 p1 => ⟨sz_of (by rw [paired_len p1]; exact hl), fun p hp => k _ _ _ (e1.trans (Evl.Ex.new (Evl.fresh_back a1.ex hp))) (a1.laid hp)
    ⟨p, vs, rfl, SqT.of upd_same, p1.mono (Evl.Ex.new (Evl.fresh_back a1.ex hp))⟩⟩
theorem evn_cb {rc : List V → Hp → VK → Prop} {tr : TA} {ps : List MP} (h : EvA tr Γ M ps M1) (hr : RCN rc ps M1 O M2) : EvN (tCB rc tr) Γ M O M2 := fun E F σ H a b Q k =>
  h E F σ H a b _ fun vs F1 H1 e1 a1 p1 => hr E F1 H1 vs a1 p1 Q fun q F2 H2 f e2 a2 => k q F2 H2 f (e1.trans e2) a2
theorem ps1 {F : Hp} {vs : List V} {P : MP} (h : Ps F vs [P]) : ∃ v, vs = [v] ∧ P.p F v := by cases h with | cons a t => cases t; exact ⟨_, rfl, a⟩
theorem ps2 {F : Hp} {vs : List V} {P P' : MP} (h : Ps F vs [P, P']) : ∃ v w, vs = [v, w] ∧ P.p F v ∧ P'.p F w := by cases h with | cons a t => obtain ⟨w, rfl, b⟩ := ps1 t; exact ⟨_, w, rfl, a, b⟩
/-- list(x) -/
abbrev rList (K : PySem.W.Frag) : List V → Hp → VK → Prop := fun xs H Q => ∃ p ys, xs = [.ref p] ∧ (SqL K H p ys ∨ SqT K H p ys) ∧ ∀ l, H l = none → Q (.ref l) (upd H l (.lst ys))
theorem rcn_listL {ps : List MP} : RCN (rList K) [PLi K ps] M (ML ps) M := fun E F H vs a h Q k => by
  obtain ⟨v, rfl, b, ws, rfl, s, p⟩ := ps1 h
  exact ⟨b, ws, rfl, .inl (Evl.ex_l a.ex s), fun l hl => k l F _ (a.fresh hl) (Evl.Ex.refl _) (a.new hl ⟨ws, rfl, p⟩)⟩
theorem rcn_listT {ps : List MP} : RCN (rList K) [PTu K ps] M (ML ps) M := fun E F H vs a h Q k => by
  obtain ⟨v, rfl, b, ws, rfl, s, p⟩ := ps1 h
  exact ⟨b, ws, rfl, .inr (Evl.ex_t a.ex s), fun l hl => k l F _ (a.fresh hl) (Evl.Ex.refl _) (a.new hl ⟨ws, rfl, p⟩)⟩
/-- tuple(x) -/
abbrev rTuple (K : PySem.W.Frag) : List V → Hp → VK → Prop := fun xs H Q => ∃ p ys, xs = [.ref p] ∧ ((SqL K H p ys ∧ ∀ l, H l = none → Q (.ref l) (upd H l (.tup ys))) ∨ (SqT K H p ys ∧ Q (.ref p) H))
theorem rc_tupleL {ps : List MP} : RC (rTuple K) [PLi K ps] M (PTu K ps) M := fun E F H vs a h Q k => by
  obtain ⟨v, rfl, b, ws, rfl, s, p⟩ := ps1 h
  refine ⟨b, ws, rfl, .inl ⟨Evl.ex_l a.ex s, fun l hl => ?_⟩⟩
  have ex : Ex F (upd F l (.tup ws)) := Evl.Ex.new (Evl.fresh_back a.ex hl)
  exact k _ _ _ ex (a.laid hl) ⟨l, ws, rfl, SqT.of upd_same, p.mono ex⟩
theorem rc_tupleT {ps : List MP} : RC (rTuple K) [PTu K ps] M (PTu K ps) M := fun E F H vs a h Q k => by
  obtain ⟨v, rfl, b, ws, rfl, s, p⟩ := ps1 h
  exact ⟨b, ws, rfl, .inr ⟨Evl.ex_t a.ex s, k _ F H (Evl.Ex.refl _) a ⟨b, ws, rfl, s, p⟩⟩⟩
abbrev rInt : List V → Hp → VK → Prop := fun xs H Q => (∃ i, xs = [.int i] ∧ Q (.int i) H) ∨ ∃ k, xs = [.bl k] ∧ Q (.int (if k then 1 else 0)) H
theorem rc_int {i : Int} : RC rInt [D K (.int i)] M (D K (.int i)) M := fun E F H vs a h Q k => by
  obtain ⟨v, rfl, hv⟩ := ps1 h
  cases dp_int hv
  exact .inl ⟨i, rfl, k _ F H (Evl.Ex.refl _) a (.int i)⟩
theorem RC.ex1 {α : Type} {rc : List V → Hp → VK → Prop} {R : α → MP} {ps : List MP} (h : ∀ x, RC rc (R x :: ps) M P M') : RC rc (PEx R :: ps) M P M' := fun E F H vs a p Q k => by
  cases p with
  | cons b t => obtain ⟨x, b⟩ := b; exact h x E F H _ a (.cons b t) Q k
theorem RC.an1 {φ : Prop} {rc : List V → Hp → VK → Prop} {R : MP} {ps : List MP} (h : φ → RC rc (R :: ps) M P M') : RC rc (PAn φ R :: ps) M P M' := fun E F H vs a p Q k => by
  cases p with
  | cons b t => exact h b.1 E F H _ a (.cons b.2 t) Q k
theorem RC.in1 {rc : List V → Hp → VK → Prop} {R R' : MP} {ps : List MP} (l : R.le R') (h : RC rc (R' :: ps) M P M') : RC rc (R :: ps) M P M' := fun E F H vs a p Q k => by
  cases p with
  | cons b t => exact h E F H _ a (.cons (l _ _ b) t) Q k
theorem RCN.in1 {rc : List V → Hp → VK → Prop} {R R' : MP} {ps : List MP} (l : R.le R') (h : RCN rc (R' :: ps) M O M') : RCN rc (R :: ps) M O M' := fun E F H vs a p Q k => by
  cases p with
  | cons b t => exact h E F H _ a (.cons (l _ _ b) t) Q k
theorem RCN.weak {rc : List V → Hp → VK → Prop} {ps : List MP} (h : RCN rc ps M O M') (l : ∀ F o, O.p F o → O'.p F o) : RCN rc ps M O' M' := fun E F H vs a p Q k => h E F H vs a p Q fun q F' H' f e g => k q F' H' f e (g.to (j := 0) (O' := O') l rfl)
/-! ### tests -/
theorem et_val {b : Bool} (h : Ev te Γ M (D K (.bool b)) M') : EvT (tB te) Γ M (· = b) M' := fun E F σ H a c Q k => h E F σ H a c _ fun v F' H' e g p => by
  cases dp_bl p; exact ⟨b, rfl, k b F' H' e g rfl⟩
theorem et_test {b : Bool} (h : Ev te Γ M (D K (.bool b)) M') : EvT (tTest te) Γ M (· = b) M' := fun E F σ H a c Q k => h E F σ H a c _ fun v F' H' e g p => by
  cases dp_bl p; exact ⟨b, rfl, k b F' H' e g rfl⟩
theorem et_testX {φ : Bool → Prop} (h : Ev te Γ M (PEx fun b => PAn (φ b) (D K (.bool b))) M') : EvT (tTest te) Γ M φ M' := fun E F σ H a c Q k => h E F σ H a c _ fun v F' H' e g ⟨b, hb, p⟩ => by
  cases dp_bl p; exact ⟨b, rfl, k b F' H' e g hb⟩
theorem et_and {a b : Bool} (h1 : EvT t Γ M (· = a) M1) (h2 : a = true → EvT u Γ M1 (· = b) M1) : EvT (tAnd t u) Γ M (· = (a && b)) M1 := fun E F σ H x c Q k => h1 E F σ H x c _ fun z F1 H1 e1 g1 hz => by
  subst hz
  cases z with
  | true => exact h2 rfl E F1 σ H1 g1 (c.mono e1) _ fun z F2 H2 e2 g2 hz => k z F2 H2 (e1.trans e2) g2 hz
  | false => exact k false F1 H1 e1 g1 rfl
theorem et_or {a b : Bool} (h1 : EvT t Γ M (· = a) M1) (h2 : a = false → EvT u Γ M1 (· = b) M1) : EvT (tOr t u) Γ M (· = (a || b)) M1 := fun E F σ H x c Q k => h1 E F σ H x c _ fun z F1 H1 e1 g1 hz => by
  subst hz
  cases z with
  | true => exact k true F1 H1 e1 g1 rfl
  | false => exact h2 rfl E F1 σ H1 g1 (c.mono e1) _ fun z F2 H2 e2 g2 hz => k z F2 H2 (e1.trans e2) g2 hz
theorem et_not {a : Bool} (h : EvT t Γ M (· = a) M') : EvT (tNot t) Γ M (· = !a) M' := fun E F σ H x c Q k => h E F σ H x c _ fun z F1 H1 e1 g1 hz => k _ F1 H1 e1 g1 (by rw [hz])
theorem ev_andV {a b : Bool} (h1 : Ev ta Γ M (D K (.bool a)) M1) (h2 : a = true → Ev tb Γ M1 (D K (.bool b)) M1) : Ev (tAndV ta tb) Γ M (D K (.bool (a && b))) M1 := fun E F σ H x c Q k => h1 E F σ H x c _ fun z F1 H1 e1 g1 hz => by
  cases dp_bl hz
  refine ⟨a, rfl, ?_⟩
  cases a with
  | true => exact h2 rfl E F1 σ H1 g1 (c.mono e1) _ fun z F2 H2 e2 g2 hz => k z F2 H2 (e1.trans e2) g2 hz
  | false => exact k _ F1 H1 e1 g1 (.bl false)
theorem ev_chain {r' : R2} {a b : Bool} {P3 : MP} (ha : Ev ta Γ M P1 M) (hb : Ev tb Γ M P2 M) (hr : RV r P1 P2 M (D K (.bool a)) M) (hc : a = true → Ev tc Γ M P3 M) (hr' : RV r' P2 P3 M (D K (.bool b)) M) : Ev (tChain r r' ta tb tc) Γ M (D K (.bool (a && b))) M := fun E F σ H x c Q k =>
  ha E F σ H x c _ fun v F1 H1 e1 g1 p1 => hb E F1 σ H1 g1 (c.mono e1) _ fun w F2 H2 e2 g2 p2 => hr E F2 H2 v w g2 (P1.mono e2 p1) p2 _ fun z F3 H3 e3 g3 p3 => by
    cases dp_bl p3
    refine ⟨a, rfl, ?_⟩
    cases a with
    | true => exact hc rfl E F3 σ H3 g3 (c.mono ((e1.trans e2).trans e3)) _ fun y F4 H4 e4 g4 p4 => hr' E F4 H4 w y g4 (P2.mono (e3.trans e4) p2) p4 Q fun y F5 H5 e5 g5 p5 => k y F5 H5 ((((e1.trans e2).trans e3).trans e4).trans e5) g5 p5
    | false => exact k _ F3 H3 ((e1.trans e2).trans e3) g3 (.bl false)
/-! ### statements -/
theorem go_asg {i : Nat} (h : Ev te Γ M P M1) (k : Nx E (Γ.set i (some P)) M1 D1.nx) : Nx E Γ M (tAsg te (gName i) D1) := fun σ H ⟨F, a, b⟩ =>
  h E F σ H a b _ fun v F' H' e g p => k _ _ ⟨F', g, (b.mono e).set i p⟩
theorem go_asgN {i : Nat} (h : EvN te Γ M O M1) (k : ∀ q, E.H q = none → Nx E (Γ.set i (some (Own q))) ((q, O) :: M1) D1.nx) : Nx E Γ M (tAsg te (gName i) D1) := fun σ H ⟨F, a, b⟩ =>
  h E F σ H a b _ fun q F' H' f e g => k q f _ _ ⟨F', g, (b.mono e).set i (P := Own q) rfl⟩
theorem go_if {B : Bool → Prop} (h : EvT t Γ M B M1) (h1 : B true → Nx E Γ M1 (tu D1)) (h2 : B false → Nx E Γ M1 (tw D1)) : Nx E Γ M (tIfS t tu tw D1) := fun σ H ⟨F, a, b⟩ => h E F σ H a b _ fun z F' H' e g hz => by
  cases z with
  | true => exact h1 hz σ H' ⟨F', g, b.mono e⟩
  | false => exact h2 hz σ H' ⟨F', g, b.mono e⟩
theorem go_ret {E0 : Ent} (l : Le E E0) (h : Ev te Γ M P M1) (k : Rt E0 M1 P D1.rt) : Nx E Γ M (tRet te D1) := fun σ H ⟨F, a, b⟩ => h E F σ H a b _ fun v F' H' e g p => k v F' H' (l.to _ _ _ g) p
theorem go_next (k : Nx E Γ M D1.nx) : Nx E Γ M (tNext D1) := k
theorem Rt.drop {f : VK} (s : List.Sublist M M') (h : Rt E M P f) : Rt E M' P f := fun v F H a p => h v F H (a.drop s) p
theorem Rt.weak {f : VK} (l : P.le P') (h : Rt E M P' f) : Rt E M P f := fun v F H a p => h v F H a (l _ _ p)
/-- xs.append(e) -/
theorem go_app {ps : List MP} (ho : Ev ta Γ M (Own q) M) (h : Ev te Γ M P M1) (e0 : M[j]? = some (q, ML ps)) (e : M1[j]? = some (q, ML ps)) (hz : ps.length < 100000) (k : Nx E Γ (M1.set j (q, ML (ps ++ [P]))) D1.nx) :
    Nx E Γ M (tDrop (tBM K "list" rAppend ta (tCons te tNil)) D1) := fun σ H ⟨F, a, b⟩ => ho E F σ H a b _ fun v F1 H1 e1 g1 p1 => by
  have p1 : v = .ref q := p1
  subst p1
  obtain ⟨_, o, ho1, ws0, rfl, _⟩ := g1.at e0
  refine ⟨.inl ⟨rfl, ws0, SqL.of ho1⟩, ?_⟩
  refine h E F1 σ H1 g1 (b.mono e1) _ fun w F2 H2 e2 g2 p2 => ?_
  obtain ⟨_, o, ho2, ws, rfl, s⟩ := g2.at e
  refine ⟨q, ws, w, rfl, rfl, ho2, sz_lt (by rw [paired_len s]; exact hz), ?_⟩
  exact k _ _ ⟨F2, g2.mut e ⟨_, rfl, paired_app s (.cons p2 .nil)⟩, b.mono (e1.trans e2)⟩
/-- xs[i] = e -/
theorem go_setL {ps : List MP} {i : Int} (h : Ev te Γ M P M1) (ho : Ev ta Γ M1 (Own q) M1) (hi : Ev tb Γ M1 (D K (.int i)) M2) (e : M2[j]? = some (q, ML ps)) (h0 : 0 ≤ i) (h1 : i.toNat < ps.length) (k : Nx E Γ (M2.set j (q, ML (ps.set i.toNat P))) D1.nx) :
    Nx E Γ M (tAsg te (gSub ta tb rSetL) D1) := fun σ H ⟨F, a, b⟩ => h E F σ H a b _ fun w F0 H0 e0 g0 p0 => ho E F0 σ H0 g0 (b.mono e0) _ fun v F1 H1 e1 g1 p1 => by
  have p1 : v = .ref q := p1
  subst p1
  refine hi E F1 σ H1 g1 (b.mono (e0.trans e1)) _ fun x F2 H2 e2 g2 p2 => ?_
  cases dp_int p2
  obtain ⟨_, o, ho2, ws, rfl, s⟩ := g2.at e
  obtain ⟨n, rfl⟩ := Int.eq_ofNat_of_zero_le h0
  have hn : n < ws.length := by rw [paired_len s]; exact h1
  refine ⟨q, ws, n, n, rfl, rfl, ho2, Evl.ixN_nat hn, ?_⟩
  exact k _ _ ⟨F2, g2.mut e ⟨_, rfl, paired_set (R := fun (v : V) (P : MP) => P.p F2 v) (P.mono (e1.trans e2) p0) n s⟩, b.mono ((e0.trans e1).trans e2)⟩
/-- xs.reverse() -/
theorem go_rev {ps : List MP} (ho : Ev ta Γ M (Own q) M) (e : M[j]? = some (q, ML ps)) (k : Nx E Γ (M.set j (q, ML ps.reverse)) D1.nx) : Nx E Γ M (tDrop (tBM0 K "list" rReverse ta) D1) := fun σ H ⟨F, a, b⟩ => ho E F σ H a b _ fun v F1 H1 e1 g1 p1 => by
  have p1 : v = .ref q := p1
  subst p1
  obtain ⟨_, o, ho1, ws, rfl, s⟩ := g1.at e
  refine ⟨.inl ⟨rfl, ws, SqL.of ho1⟩, q, ws, rfl, rfl, ho1, ?_⟩
  have srev : ∀ {ws : List V} {ps : List MP}, Ps F1 ws ps → Ps F1 ws.reverse ps.reverse := by
    intro ws ps s
    induction s with
    | nil => exact .nil
    | cons a t ih => rw [List.reverse_cons, List.reverse_cons]; exact paired_app ih (.cons a .nil)
  exact k _ _ ⟨F1, g1.mut e ⟨_, rfl, srev s⟩, b.mono e1⟩
/-! ### loops -/
def JA (E : Ent) (J : Gm → Ms → Prop) (σ : St) (H : Hp) : Prop := ∃ Γ M, J Γ M ∧ At E Γ M σ H
theorem JA.of {J : Gm → Ms → Prop} (h : J Γ M) : Nx E Γ M (JA E J) := fun σ H a => ⟨Γ, M, h, a⟩
theorem go_forL {ps : List MP} {i : Nat} (h : Ev tl Γ M (PLi K ps) M1) (J : Nat → Gm → Ms → Prop) (h0 : J 0 Γ M1)
    (hs : ∀ E', Le E' E → ∀ n P, ps[n]? = some P → ∀ Γ' M', J n Γ' M' → Nx E' (Γ'.set i (some P)) M' (tu { D1 with nx := JA E' (J (n + 1)), ct := JA E' (J (n + 1)), bk := D1.nx }))
    (hd : ∀ Γ' M', J ps.length Γ' M' → Nx E Γ' M' D1.nx) : Nx E Γ M (tFor (iList K tl) (gName i) tu D1) := fun σ H ⟨F, a, b⟩ => h E F σ H a b _ fun v F1 H1 e1 g1 ⟨p, vs, hp, s, q⟩ => by
  refine ⟨p, hp, ⟨vs, Evl.ex_l g1.ex s⟩, for_list (xs := vs) (fun n σ H => JA ⟨F1, H1, keys M1⟩ (J n) σ H) ⟨Γ, M1, h0, F1, g1.enter, b.mono e1⟩ (fun n σ2 H2 _ ⟨Γ', M', _, F2, g2, _⟩ => Evl.ex_l (g2.gr.ex.trans g2.ex) s)
    (fun n x σ2 H2 hx ⟨Γ', M', hJ, F2, g2, b2⟩ => ?_) (fun σ2 H2 hJ => ?_)⟩
  · obtain ⟨P, hP, hx2⟩ := paired_get' q hx
    exact hs ⟨F1, H1, keys M1⟩ g1.le n P hP Γ' M' hJ _ _ ⟨F2, g2, b2.set i (P.mono g2.gr.ex hx2)⟩
  · rw [paired_len q] at hJ
    obtain ⟨Γ', M', hJ, at2⟩ := hJ
    exact hd Γ' M' hJ _ _ (at2.le g1.le)
theorem go_forT {ps : List MP} {i : Nat} (h : Ev tl Γ M (PTu K ps) M1) (J : Nat → Gm → Ms → Prop) (h0 : J 0 Γ M1)
    (hs : ∀ E', Le E' E → ∀ n P, ps[n]? = some P → ∀ Γ' M', J n Γ' M' → Nx E' (Γ'.set i (some P)) M' (tu { D1 with nx := JA E' (J (n + 1)), ct := JA E' (J (n + 1)), bk := D1.nx }))
    (hd : ∀ Γ' M', J ps.length Γ' M' → Nx E Γ' M' D1.nx) : Nx E Γ M (tFor (iTup K tl) (gName i) tu D1) := fun σ H ⟨F, a, b⟩ => h E F σ H a b _ fun v F1 H1 e1 g1 ⟨p, vs, hp, s, q⟩ => by
  refine ⟨p, hp, ⟨vs, Evl.ex_t g1.ex s⟩, for_tup (xs := vs) (fun n σ H => JA ⟨F1, H1, keys M1⟩ (J n) σ H) ⟨Γ, M1, h0, F1, g1.enter, b.mono e1⟩ (fun n σ2 H2 _ ⟨Γ', M', _, F2, g2, _⟩ => Evl.ex_t (g2.gr.ex.trans g2.ex) s)
    (fun n x σ2 H2 hx ⟨Γ', M', hJ, F2, g2, b2⟩ => ?_) (fun σ2 H2 hJ => ?_)⟩
  · obtain ⟨P, hP, hx2⟩ := paired_get' q hx
    exact hs ⟨F1, H1, keys M1⟩ g1.le n P hP Γ' M' hJ _ _ ⟨F2, g2, b2.set i (P.mono g2.gr.ex hx2)⟩
  · rw [paired_len q] at hJ
    obtain ⟨Γ', M', hJ, at2⟩ := hJ
    exact hd Γ' M' hJ _ _ (at2.le g1.le)
theorem go_forR {tr : TA} {z : Int} {i : Nat} (h : EvA tr Γ M [D K (.int z)] M1) (hz : z ≤ 1000000) (hz2 : -1000000 ≤ z) (J : Nat → Gm → Ms → Prop) (h0 : J 0 Γ M1)
    (hs : ∀ n : Nat, (n : Int) < z → ∀ Γ' M', J n Γ' M' → Nx E (Γ'.set i (some (D K (.int n)))) M' (tu { D1 with nx := JA E (J (n + 1)), ct := JA E (J (n + 1)), bk := D1.nx }))
    (hd : ∀ Γ' M', J z.toNat Γ' M' → Nx E Γ' M' D1.nx) : Nx E Γ M (tFor (iRng1 tr) (gName i) tu D1) := fun σ H ⟨F, a, b⟩ => h E F σ H a b _ fun vs F1 H1 e1 g1 p => by
  obtain ⟨v, rfl, hv⟩ := ps1 p
  cases dp_int hv
  refine ⟨z, rfl, by omega, by omega, for_range (lo := 0) (n := z.toNat) (fun n σ H => JA E (J n) σ H) ⟨Γ, M1, h0, F1, g1, b.mono e1⟩ (fun n σ2 H2 hn ⟨Γ', M', hJ, F2, g2, b2⟩ => ?_) (fun σ2 H2 ⟨Γ', M', hJ, at2⟩ => hd Γ' M' hJ _ _ at2)⟩
  refine hs n (by omega) Γ' M' hJ _ _ ⟨F2, g2, b2.set i ?_⟩
  have e0 : (0 : Int) + (n : Int) = (n : Int) := Int.zero_add _
  rw [e0]
  exact .int _
theorem go_forR2 {tr : TA} {lo z : Int} {i : Nat} (h : EvA tr Γ M [D K (.int lo), D K (.int z)] M1) (hz : z ≤ 1000000 ∧ -1000000 ≤ z ∧ lo ≤ 1000000 ∧ -1000000 ≤ lo) (J : Nat → Gm → Ms → Prop) (h0 : J 0 Γ M1)
    (hs : ∀ n : Nat, lo + (n : Int) < z → ∀ Γ' M', J n Γ' M' → Nx E (Γ'.set i (some (D K (.int (lo + n))))) M' (tu { D1 with nx := JA E (J (n + 1)), ct := JA E (J (n + 1)), bk := D1.nx }))
    (hd : ∀ Γ' M', J (z - lo).toNat Γ' M' → Nx E Γ' M' D1.nx) : Nx E Γ M (tFor (iRng2 tr) (gName i) tu D1) := fun σ H ⟨F, a, b⟩ => h E F σ H a b _ fun vs F1 H1 e1 g1 p => by
  obtain ⟨v, w, rfl, hv, hw⟩ := ps2 p
  cases dp_int hv; cases dp_int hw
  refine ⟨lo, z, rfl, ⟨by omega, by omega, by omega, by omega⟩, for_range (lo := lo) (n := (z - lo).toNat) (fun n σ H => JA E (J n) σ H) ⟨Γ, M1, h0, F1, g1, b.mono e1⟩ (fun n σ2 H2 hn ⟨Γ', M', hJ, F2, g2, b2⟩ => ?_) (fun σ2 H2 ⟨Γ', M', hJ, at2⟩ => hd Γ' M' hJ _ _ at2)⟩
  exact hs n (by omega) Γ' M' hJ _ _ ⟨F2, g2, b2.set i (P := D K (.int (lo + n))) (.int _)⟩
/-! ### comprehensions -/
theorem wipe_one {σ : St} {i : Nat} {x : V} : wipe ((wipe σ [i]).set i (some x)) [i] = wipe σ [i] := by
  show ((σ.set i none).set i (some x)).set i none = σ.set i none
  rw [List.set_set, List.set_set]
theorem env_wipe {i : Nat} (h : EnvOk F σ Γ) : EnvOk F (wipe σ [i]) (Γ.set i none) := h.forget i
/-- one turn of a comprehension -/
theorem lc_turn {Γ2 : Gm} {σ2 : St} {D2 : Addr} {ps : List MP} {b : Bool} {F1 H1 : Hp} (g1 : Pt E F1 ((D2, ML ps) :: M) H1) (bo : EnvOk F1 σ2 Γ2) (ht : EvT t Γ2 M (· = b) M) (he : b = true → Ev te Γ2 M P M) (hz : ps.length < 100000) (Nxt : Hp → Prop)
    (hN : ∀ F2 H2, Ex F1 F2 → Pt E F2 ((D2, ML (if b = true then ps ++ [P] else ps)) :: M) H2 → Nxt H2) : t σ2 H1 fun c H3 => if c = true then te σ2 H3 fun y H4 => ∃ acc, H4 D2 = some (.lst acc) ∧ acc.length < sizeLine ∧ Nxt (upd H4 D2 (.lst (acc ++ [y]))) else Nxt H3 := by
  have gM : Pt ⟨F1, H1, keys M⟩ F1 M H1 := Pt.start (g1.drop (List.sublist_cons_self _ _)).wd
  have nk : D2 ∉ keys M := (List.nodup_cons.mp (show (D2 :: keys M).Nodup from g1.wd.nd)).1
  obtain ⟨fD, o, hD, ws, rfl, s⟩ := g1.at (j := 0) rfl
  -- a point of M alone, the list beside it
  have up : ∀ {F' H'}, Pt ⟨F1, H1, keys M⟩ F' M H' → Pt E F' ((D2, ML ps) :: M) H' := fun {F' H'} g => by
    have hh : F' D2 = none := g.gr.off D2 fD (show H1 D2 ≠ none by rw [hD]; exact fun z => by cases z) (fun xs z => by have z : H1 D2 = some (HO.tup xs) := z; rw [hD] at z; cases z)
    have hd : H' D2 = some (.lst ws) := g.gr.keep D2 _ nk hD
    have big : Pt ⟨F1, H1, keys ((D2, ML ps) :: M)⟩ F' ((D2, ML ps) :: M) H' := by
      refine ⟨⟨g.gr.ex, fun a u h1 h2 => g.gr.keep a u (fun z => h1 (List.mem_cons_of_mem _ z)) h2, g.gr.off, g.gr.stay, g.gr.nott⟩, ⟨g.wd.ex, List.nodup_cons.mpr ⟨nk, g.wd.nd⟩, fun r hr => ?_⟩, fun r hr => ?_⟩
      · rcases List.mem_cons.mp hr with e | hm
        · subst e; exact ⟨hh, _, hd, ws, rfl, s.mono g.gr.ex⟩
        · exact g.wd.own r hm
      · rcases List.mem_cons.mp hr with e | hm
        · subst e; exact .inl List.mem_cons_self
        · rcases g.fr r hm with z | z
          · exact .inl (List.mem_cons_of_mem _ z)
          · exact .inr z
    exact g1.back big
  refine ht _ F1 σ2 H1 gM bo _ fun c F3 H3 e3 g3 hc => ?_
  subst hc
  cases c with
  | true =>
    refine he rfl _ F3 σ2 H3 g3 (bo.mono e3) _ fun y F4 H4 e4 g4 p4 => ?_
    have g5 := up g4
    obtain ⟨_, o5, h5, ws5, rfl, s5⟩ := g5.at (j := 0) rfl
    refine ⟨ws5, h5, sz_lt (by rw [paired_len s5]; exact hz), ?_⟩
    exact hN F4 _ (e3.trans e4) (g5.mut (j := 0) (O' := ML (ps ++ [P])) rfl ⟨_, rfl, paired_app s5 (.cons p4 .nil)⟩)
  | false => exact hN F3 _ e3 (up g3)
theorem take_filter {α : Type} (xs : List α) (f : α → Bool) (n : Nat) (x : α) (h : xs[n]? = some x) : (xs.take (n + 1)).filter f = (xs.take n).filter f ++ (if f x = true then [x] else []) := by
  rw [List.take_add_one, h, List.filter_append]
  congr 1
  cases hf : f x <;> simp [hf]
theorem evn_lcL {α : Type} {xs : List α} {R G : α → MP} {i : Nat} (f : α → Bool) (h : Ev tl Γ M (PLi K (xs.map R)) M1) (hz : xs.length ≤ 50000)
    (ht : ∀ x ∈ xs, EvT t ((Γ.set i none).set i (some (R x))) M1 (· = f x) M1) (he : ∀ x ∈ xs, f x = true → Ev te ((Γ.set i none).set i (some (R x))) M1 (G x) M1) :
    EvN (tLc (iList K tl) (gName i) t te [i]) Γ M (ML ((xs.filter f).map G)) M1 := fun E F σ H a b Q k => h E F σ H a b _ fun v F1 H1 e1 g1 ⟨p, vs, hp, s, q⟩ => by
  refine ⟨p, hp, ⟨vs, Evl.ex_l g1.ex s⟩, fun D2 hD => ?_⟩
  have gn : Pt ⟨F1, H1, keys M1⟩ F1 ((D2, ML []) :: M1) (upd H1 D2 (.lst [])) := g1.enter.new hD ⟨[], rfl, .nil⟩
  refine lc_list (xs := vs) (fun n H' => ∃ F', Pt ⟨F1, H1, keys M1⟩ F' ((D2, ML (((xs.take n).filter f).map G)) :: M1) H') ⟨F1, gn⟩ (fun n H2 _ ⟨F2, g2⟩ => Evl.ex_l (g2.gr.ex.trans g2.ex) s) (fun n x H2 hx ⟨F2, g2⟩ => ⟨wipe_one, ?_⟩) (fun H2 ⟨F2, g2⟩ => ?_)
  · obtain ⟨P, hP, hx2⟩ := paired_get' q hx
    rw [List.getElem?_map] at hP
    cases hy : xs[n]? with
    | none => rw [hy] at hP; cases hP
    | some y =>
      rw [hy] at hP
      have hP : R y = P := Option.some.inj hP
      subst hP
      have hm := List.mem_of_getElem? hy
      refine lc_turn g2 ((env_wipe (b.mono (e1.trans g2.gr.ex))).set i ((R y).mono g2.gr.ex hx2)) (ht y hm) (he y hm) ?_ _ fun F3 H3 e3 g3 => ⟨F3, ?_⟩
      · rw [List.length_map]
        exact Nat.lt_of_le_of_lt (Nat.le_trans (List.length_filter_le _ _) (by rw [List.length_take]; omega)) (by omega : xs.length < 100000)
      · rw [take_filter xs f n y hy, List.map_append]
        cases hf : f y
        · rw [hf] at g3; simpa using g3
        · rw [hf] at g3; simpa using g3
  · rw [paired_len q, List.length_map, List.take_length] at g2
    exact k D2 F2 H2 (g1.fresh hD) (e1.trans g2.gr.ex) (g1.back g2)
theorem evn_lcT {α : Type} {xs : List α} {R G : α → MP} {i : Nat} (f : α → Bool) (h : Ev tl Γ M (PTu K (xs.map R)) M1) (hz : xs.length ≤ 50000)
    (ht : ∀ x ∈ xs, EvT t ((Γ.set i none).set i (some (R x))) M1 (· = f x) M1) (he : ∀ x ∈ xs, f x = true → Ev te ((Γ.set i none).set i (some (R x))) M1 (G x) M1) :
    EvN (tLc (iTup K tl) (gName i) t te [i]) Γ M (ML ((xs.filter f).map G)) M1 := fun E F σ H a b Q k => h E F σ H a b _ fun v F1 H1 e1 g1 ⟨p, vs, hp, s, q⟩ => by
  refine ⟨p, hp, ⟨vs, Evl.ex_t g1.ex s⟩, fun D2 hD => ?_⟩
  have gn : Pt ⟨F1, H1, keys M1⟩ F1 ((D2, ML []) :: M1) (upd H1 D2 (.lst [])) := g1.enter.new hD ⟨[], rfl, .nil⟩
  refine lc_tup (xs := vs) (fun n H' => ∃ F', Pt ⟨F1, H1, keys M1⟩ F' ((D2, ML (((xs.take n).filter f).map G)) :: M1) H') ⟨F1, gn⟩ (fun n H2 _ ⟨F2, g2⟩ => Evl.ex_t (g2.gr.ex.trans g2.ex) s) (fun n x H2 hx ⟨F2, g2⟩ => ⟨wipe_one, ?_⟩) (fun H2 ⟨F2, g2⟩ => ?_)
  · obtain ⟨P, hP, hx2⟩ := paired_get' q hx
    rw [List.getElem?_map] at hP
    cases hy : xs[n]? with
    | none => rw [hy] at hP; cases hP
    | some y =>
      rw [hy] at hP
      have hP : R y = P := Option.some.inj hP
      subst hP
      have hm := List.mem_of_getElem? hy
      refine lc_turn g2 ((env_wipe (b.mono (e1.trans g2.gr.ex))).set i ((R y).mono g2.gr.ex hx2)) (ht y hm) (he y hm) ?_ _ fun F3 H3 e3 g3 => ⟨F3, ?_⟩
      · rw [List.length_map]
        exact Nat.lt_of_le_of_lt (Nat.le_trans (List.length_filter_le _ _) (by rw [List.length_take]; omega)) (by omega : xs.length < 100000)
      · rw [take_filter xs f n y hy, List.map_append]
        cases hf : f y
        · rw [hf] at g3; simpa using g3
        · rw [hf] at g3; simpa using g3
  · rw [paired_len q, List.length_map, List.take_length] at g2
    exact k D2 F2 H2 (g1.fresh hD) (e1.trans g2.gr.ex) (g1.back g2)
theorem evn_lcR {tr : TA} {z : Int} {i : Nat} {G : Nat → MP} (f : Nat → Bool) (h : EvA tr Γ M [D K (.int z)] M1) (hz : z ≤ 50000 ∧ -50000 ≤ z)
    (ht : ∀ x : Nat, (x : Int) < z → EvT t ((Γ.set i none).set i (some (D K (.int x)))) M1 (· = f x) M1) (he : ∀ x : Nat, (x : Int) < z → f x = true → Ev te ((Γ.set i none).set i (some (D K (.int x)))) M1 (G x) M1) :
    EvN (tLc (iRng1 tr) (gName i) t te [i]) Γ M (ML (((List.range z.toNat).filter f).map G)) M1 := fun E F σ H a b Q k => h E F σ H a b _ fun vs F1 H1 e1 g1 p => by
  obtain ⟨v, rfl, hv⟩ := ps1 p
  cases dp_int hv
  refine ⟨z, rfl, by omega, by omega, fun D2 hD => ?_⟩
  have gn : Pt ⟨F1, H1, keys M1⟩ F1 ((D2, ML []) :: M1) (upd H1 D2 (.lst [])) := g1.enter.new hD ⟨[], rfl, .nil⟩
  refine lc_range (lo := 0) (n := z.toNat) (fun n H' => ∃ F', Pt ⟨F1, H1, keys M1⟩ F' ((D2, ML (((List.range n).filter f).map G)) :: M1) H') ⟨F1, gn⟩ (fun n H2 hn ⟨F2, g2⟩ => ⟨wipe_one, ?_⟩) (fun H2 ⟨F2, g2⟩ => ?_)
  · have e0 : (0 : Int) + (n : Int) = (n : Int) := Int.zero_add _
    rw [e0]
    have hn2 : (n : Int) < z := by omega
    refine lc_turn g2 ((env_wipe (b.mono (e1.trans g2.gr.ex))).set i (P := D K (.int n)) (.int _)) (ht n hn2) (he n hn2) ?_ _ fun F3 H3 e3 g3 => ⟨F3, ?_⟩
    · rw [List.length_map]
      exact Nat.lt_of_le_of_lt (List.length_filter_le _ _) (by rw [List.length_range]; omega)
    · rw [List.range_succ, List.filter_append, List.map_append]
      cases hf : f n
      · rw [hf] at g3; simpa [hf] using g3
      · rw [hf] at g3; simpa [hf] using g3
  · exact k D2 F2 H2 (g1.fresh hD) (e1.trans g2.gr.ex) (g1.back g2)
theorem et_yes : EvT tYes Γ M (· = true) M := fun E F σ H a b Q k => k true F H (Evl.Ex.refl _) a rfl
end
end Hq
/-! set(x) of a list of ints, told with the order of its table -/
namespace Hq
open PySem PySem.Spec PyProof.Rows L2
/-- the set as it is made -/
abbrev bareSet (w : World) : Obj := { cls := .type "set", dict := none, data := .set #[] 0 (.fresh 0 0 (!w.params.followText "set-order")) }
section
variable {P : Program} {w : World} {A : Around} {E : Value → Shared → Prop} {s : Shared}
set_option maxHeartbeats 3200000 in
theorem setL_call {l : Addr} {its : Array Value} (ns : List Int) {Q : Value → Shared → Prop} (calm : A.handled = none) (hl : s.heap.IsList l its) (hn : IntsAre its.toList ns) (few : ns.length + 1 < scanBound)
    (fin : ∀ (g : Heap) (tk c : Nat), SetR w g s.heap.objs.size (fun j => decide (j ∈ ns)) c → c ≤ ns.length → (∀ b o, s.heap.get? b = some o → g.get? b = some o) → Q (.ref s.heap.objs.size) { s with heap := g, toks := tk }) :
    wpAny (model P w) A (call (.type "set") [.ref l]) Q E s := by
  have same : its.size = ns.length := by simpa using IntsAre.length hn
  obtain ⟨c0, r0, walk0⟩ := F.called_set.mro
  have fact1 := F.called_set.made; have fact2 := F.called_set.sub
  apply wpAny_call; apply codeAny_of_tree
  show wpAny _ _ (callAny (.type "set") ⟨_, _⟩) _ _ _
  apply wpAny_pure; refine ⟨Code.quiet_builtin _ (by decide +kernel), ?_⟩; apply codeAny_builtin F.entry_type_call
  rw [show _ = _ from Around.under_plain (weight_type_call_type "set" [Value.ref l] []) rfl]
  have fact3 := F.called_set.notType; have fact4 := F.called_set.canCreate
  have fact5 := F.typeCall_set_1 (Value.ref l)
  repeat any_goals (first | assumption | wp_step)
  apply codeAny_mono (code_set_led1 (P := P) (w := w) (s := s) (.ref l) (E := E) (Q₁ := fun v z => v = .ref s.heap.objs.size ∧ z = { s with heap := s.heap.push (bareSet w) }) ⟨rfl, rfl⟩)
  intro res z hz
  match res, hz with
  | .error _, hz => exact hz
  | .ok fl, hz => ?_
  cases fl with
  | ret v =>
    obtain ⟨rfl, rfl⟩ := hz
    have at0 : (s.heap.push (bareSet w)).get? s.heap.objs.size = some (bareSet w) := Heap.get?_push_size _ rfl
    have ty0 : Shared.TypeIs { s with heap := s.heap.push (bareSet w) } (.ref s.heap.objs.size) "set" := ⟨bareSet w, at0, rfl⟩
    have fact6 := F.called_set.init.lookup
    have fact7 := F.called_set.init.bind (Value.ref s.heap.objs.size)
    repeat any_goals (first | assumption | wp_step)
    apply codeAny_mono (codeAny_call_builtin (R := wants (fun v z => v = Value.none ∧ ∃ g tk c, z = { s with heap := g, toks := tk } ∧ SetR w g s.heap.objs.size (fun j => decide (j ∈ ns)) c ∧ c ≤ ns.length ∧
      ∀ b o, s.heap.get? b = some o → g.get? b = some o) E) F.called_set.init.plain F.entry_set_init (check_set_init_1 ty0 ?first))
    case first =>
      obtain ⟨ob, hob, hcls, cnt, hdat⟩ := hl
      obtain ⟨k1, k2, k3, k4⟩ := ob
      dsimp only at hcls hdat; subst hcls hdat
      have at1 : (s.heap.push (bareSet w)).get? l = some ⟨.type "list", k2, .seq its cnt, k4⟩ := Heap.get?_push_of_some _ hob
      have n1 := F.sub_list_set; have n2 := F.sub_list_frozenset
      have n3 : (Value.type "list" == Value.type "dict") = false := by decide
      have l1 : (s.heap.push (bareSet w)).IsList l its := ⟨_, at1, rfl, cnt, rfl⟩
      unfold Builtin.«set.__init__» Builtin.Frozenset.updateFrom noKeywords
      generalize iter_is : pyIter = walkers
      wp_walk
      subst iter_is
      apply wpAny_pyIter_list l1
      apply wpAny_bind; apply wpAny_runValue
      have lt0 : l < s.heap.objs.size := Heap.lt_size hob
      have sz1 : (s.heap.push (bareSet w)).objs.size = s.heap.objs.size + 1 := Heap.size_push ..
      have off1 : l ≠ (s.heap.push (bareSet w)).objs.size := by rw [sz1]; exact Nat.ne_of_lt (Nat.lt_succ_of_lt lt0)
      have off2 : s.heap.objs.size ∉ [(s.heap.push (bareSet w)).objs.size, l] := by
        rw [sz1]; intro m
        rcases List.mem_cons.mp m with e | m
        · exact Nat.ne_of_lt (Nat.lt_succ_self _) e
        · exact Nat.ne_of_gt lt0 (List.mem_singleton.mp m)
      have vals : ∀ (i : Nat) (v : Value), its[i]? = some v → ∃ k t, ns[i]? = some k ∧ v = .int k t := by
        intro i v hv
        obtain ⟨h1, h2⟩ := Array.getElem?_eq_some_iff.mp hv
        have h3 : i < ns.length := same ▸ h1
        obtain ⟨t, e⟩ := IntsAre.int_at hn i v (by simpa using hv)
        refine ⟨ns[i], t, List.getElem?_eq_getElem h3, e.trans ?_⟩
        rw [List.getD_eq_getElem?_getD, List.getElem?_eq_getElem h3]; rfl
      apply set_update_ints ((Walks.list (show A.in1.in1.in1.handled = none by simp [calm]) _ l off1 its).toS) s.heap.objs.size off2 ns same few vals (its.size - 0) 0 _ (by omega) (Nat.zero_le _)
        ⟨⟨_, Heap.get?_push_size _ rfl, rfl, rfl⟩, l1.push _⟩
      · exact ⟨0, Nat.le_refl 0, setR_new_at (Heap.get?_push_of_some _ at0)⟩
      · rintro ⟨g, g2, g3, g4, g5⟩ c moved hc hS
        obtain rfl : g2 = s.gens := moved.gens
        obtain rfl : g3 = s.drawn := moved.drawn
        obtain rfl : g5 = s.os := moved.os
        show wpAny _ _ (pure _) _ _ _
        apply wpAny_pure
        show wpAny _ _ (ret Value.none) _ _ _
        refine wpAny_pure ⟨rfl, g, g4, c, rfl, hS, same ▸ hc, fun b o e => ?_⟩
        have lt1 : b < s.heap.objs.size := Heap.lt_size e
        refine moved.heap b o (fun m => ?_) (Heap.get?_push_of_some _ (Heap.get?_push_of_some _ e))
        rcases List.mem_cons.mp m with e | m
        · exact Nat.ne_of_lt lt1 e
        · rw [sz1] at m; exact Nat.ne_of_lt (Nat.lt_succ_of_lt lt1) (List.mem_singleton.mp m)
    · intro res z hz
      match res, hz with
      | .error _, hz => exact hz
      | .ok fl, hz => ?_
      cases fl with
      | ret v =>
        obtain ⟨rfl, g, tk, c, rfl, hS, hc, stood⟩ := hz
        repeat any_goals (first | assumption | wp_step)
        exact fin g tk c hS hc stood
      | _ => exact hz.elim
  | _ => exact hz.elim
end
end Hq
namespace Hq
open PySem L2
/-! ### promises -/
def Prom (ps : List MP) (M : Ms) (P : MP) (M' : Ms) (vs : List V) (H : Hp) (Q : VK) : Prop := ∃ F, Wd F M H ∧ Ps F vs ps ∧ Rt ⟨F, H, keys M⟩ M' P Q
section
variable {K : PySem.W.Frag} {E E' : Ent} {F F' H H' : Hp} {M M' Mc Mc' M1 M2 M3 : Ms} {Γ Γ' : Gm} {P P' P1 P2 : MP} {O O' : MO} {q : Addr} {σ : St} {o o' : HO} {j : Nat}
variable {te ta tb tc tl : TE} {t u : TT} {r : R2} {D1 : Ends} {tu tw : TS} {ps : List MP} {sp : Sp} {X : XK} {tr : TA} {C : Addr} {fps : List (Str × MP)}
theorem Pt.frame {ks : List Addr} (h : Pt E F M H) (g : Pt ⟨F, H, ks⟩ F' Mc H') (hk : ∀ a ∈ ks, a ∈ keys M) (hM : keys M' = keys M) (hr : ∀ r ∈ M', (r.1 ∉ ks ∧ r ∈ M) ∨ r ∈ Mc) : Pt E F' M' H' := by
  refine h.back ⟨⟨g.gr.ex, fun a u h1 h2 => g.gr.keep a u (fun z => h1 (hk a z)) h2, g.gr.off, g.gr.stay, g.gr.nott⟩, ⟨g.wd.ex, by rw [hM]; exact h.wd.nd, fun r hm => ?_⟩, fun r hm => .inl ?_⟩
  · rcases hr r hm with ⟨n, hm2⟩ | hm2
    · obtain ⟨a, u, hu, b⟩ := h.wd.own r hm2
      exact ⟨g.gr.off _ a (show H r.1 ≠ none by rw [hu]; exact fun z => by cases z) (fun xs z => r.2.nt b xs (by have z : H r.1 = some (HO.tup xs) := z; rw [hu] at z; exact Option.some.inj z)), u, g.gr.keep _ _ n hu, r.2.mono g.gr.ex b⟩
    · exact g.wd.own r hm2
  · show r.1 ∈ keys M
    rw [← hM]
    exact List.mem_map_of_mem (f := (·.1)) hm
theorem set_same {α : Type} {l : List α} {j : Nat} {x : α} (e : l[j]? = some x) : l.set j x = l := by
  obtain ⟨h, e⟩ := List.getElem?_eq_some_iff.mp e
  rw [← e, List.set_getElem_self]
theorem rc_prom0 {dvs : List V} (hs : ∀ vs H Q, Prom ps [] P [] vs H Q → sp (vs ++ dvs) H Q X) : RC (fun vs H Q => sp (vs ++ dvs) H Q X) ps M P M := fun E F H vs a p Q k =>
  hs vs H Q ⟨F, ⟨a.ex, List.nodup_nil, fun r hr => by cases hr⟩, p, fun v F' H' g hp => k v F' H' g.gr.ex (a.frame g (fun _ z => by cases z) rfl fun r hr => .inl ⟨by simp [keys], hr⟩) hp⟩
theorem rc_prom1 {dvs : List V} (e : M[j]? = some (q, O)) (hs : ∀ vs H Q, Prom ps [(q, O)] P [(q, O')] vs H Q → sp (vs ++ dvs) H Q X) : RC (fun vs H Q => sp (vs ++ dvs) H Q X) ps M P (M.set j (q, O')) := fun E F H vs a p Q k => by
  have hm := List.mem_of_getElem? e
  refine hs vs H Q ⟨F, ⟨a.ex, by simp [keys], fun r hr => ?_⟩, p, fun v F' H' g hp => k v F' H' g.gr.ex (a.frame g (fun z hz => ?_) (keys_set e) fun r hr => ?_) hp⟩
  · rw [List.mem_singleton.mp hr]; exact a.wd.own _ hm
  · rw [List.mem_singleton.mp hz]; exact List.mem_map_of_mem (f := (·.1)) hm
  · rcases mem_set_ne a.wd.nd e r hr with z | ⟨z, n⟩
    · rw [z]; exact .inr List.mem_cons_self
    · exact .inl ⟨fun w => n (List.mem_singleton.mp w), z⟩
theorem rc_prom1s {dvs : List V} (e : M[j]? = some (q, O)) (hs : ∀ vs H Q, Prom ps [(q, O)] P [(q, O)] vs H Q → sp (vs ++ dvs) H Q X) : RC (fun vs H Q => sp (vs ++ dvs) H Q X) ps M P M := by
  have := rc_prom1 (O' := O) e hs
  rw [set_same e] at this
  exact this
/-- calls -/
theorem ev_call0 (h : EvA tr Γ M ps M1) (hs : ∀ vs H Q, Prom ps [] P [] vs H Q → sp (vs ++ []) H Q X) : Ev (tCall sp [] X tr) Γ M P M1 := ev_call h (rc_prom0 hs)
theorem ev_call1 (h : EvA tr Γ M ps M1) (e : M1[j]? = some (q, O)) (hs : ∀ vs H Q, Prom ps [(q, O)] P [(q, O)] vs H Q → sp (vs ++ []) H Q X) : Ev (tCall sp [] X tr) Γ M P M1 := ev_call h (rc_prom1s e hs)
/-- the beginning of a def -/
theorem go_start {N : List Str} {vs : List V} {f : St → Hp → Prop} (w : Wd F M H) (p : Ps F vs ps) (hΓ : Γ = ps.map some ++ List.replicate (N.length - ps.length) none) (h : Nx ⟨F, H, keys M⟩ Γ M f) : f (L2.start N vs) H := by
  refine h _ _ ⟨F, Pt.start w, ?_⟩
  subst hΓ
  unfold L2.start
  rw [paired_len p]
  have base : ∀ {vs : List V} {ps : List MP}, Ps F vs ps → EnvOk F (vs.map some) (ps.map some) := by
    intro vs ps p
    induction p with
    | nil => exact .nil
    | cons a t ih => exact .cons (fun Q hQ => by cases hQ; exact ⟨_, rfl, a⟩) ih
  refine paired_app (base p) ?_
  · generalize N.length - ps.length = n
    induction n with
    | zero => exact .nil
    | succ n ih => exact .cons (fun Q hQ => by cases hQ) ih
theorem nx_exM {α : Type} {R : α → MO} {f} (e : M[j]? = some (q, MX R)) (h : ∀ x, Nx E Γ (M.set j (q, R x)) f) : Nx E Γ M f := by
  rintro σ H ⟨F, a, b⟩
  obtain ⟨fq, u, hu, x, hx⟩ := a.at e
  refine h x σ H ⟨F, ?_, b⟩
  have g := a.mut (o' := u) (O' := R x) e hx
  have e2 : upd H q u = H := by
    funext z
    by_cases y : z = q
    · subst y; rw [upd_same, hu]
    · rw [upd_ne y]
  rw [e2] at g
  exact g
theorem nx_anM {φ : Prop} {R : MO} {f} (e : M[j]? = some (q, MA φ R)) (h : φ → Nx E Γ (M.set j (q, R)) f) : Nx E Γ M f := by
  rintro σ H ⟨F, a, b⟩
  obtain ⟨fq, u, hu, hx⟩ := a.at e
  exact h hx.1 σ H ⟨F, a.to (O := MA φ R) (O' := R) (fun _ _ z => z.2) e, b⟩
theorem Rt.to {f : VK} (h : Rt E M' P f) (e : M[j]? = some (q, O)) (l : ∀ F o, O.p F o → O'.p F o) (hM : M' = M.set j (q, O')) : Rt E M P f := fun v F H a p => h v F H (by rw [hM]; exact a.to l e) p
/-- xs.pop() -/
theorem ev_pop (ho : Ev ta Γ M (Own q) M) (e : M[j]? = some (q, ML ps)) (hp : ps[ps.length - 1]? = some P) : Ev (tBM0 K "list" rPop ta) Γ M P (M.set j (q, ML ps.dropLast)) := fun E F σ H a b Q k => ho E F σ H a b _ fun v F1 H1 e1 g1 p1 => by
  have p1 : v = .ref q := p1
  subst p1
  obtain ⟨_, o, ho1, ws, rfl, s⟩ := g1.at e
  obtain ⟨x, hx, px⟩ := paired_get s hp
  refine ⟨.inl ⟨rfl, ws, SqL.of ho1⟩, q, ws, x, rfl, rfl, ho1, by rw [paired_len s]; exact hx, ?_⟩
  have sd : ∀ {ws : List V} {ps : List MP}, Ps F1 ws ps → Ps F1 ws.dropLast ps.dropLast := by
    intro ws ps s
    induction s with
    | nil => exact .nil
    | cons a t ih =>
      cases t with
      | nil => exact .nil
      | cons a2 t2 => exact .cons a ih
  exact k x F1 _ e1 (g1.mut e ⟨_, rfl, sd s⟩) px
/-! ### instances -/
def PIns (C : Addr) (fps : List (Str × MP)) : MP := ⟨fun F v => ∃ a dx fs, v = .ref a ∧ F a = some (.ins C dx fs) ∧ ∀ f ∈ fps, ∃ x, fs.lookup f.1 = some x ∧ f.2.p F x,
  fun e ⟨a, dx, fs, h1, h2, h3⟩ => ⟨a, dx, fs, h1, e _ _ h2, fun f hf => let ⟨x, y, z⟩ := h3 f hf; ⟨x, y, f.2.mono e z⟩⟩⟩
def MIns (C : Addr) (n : Nat) (fps : List (Str × MP)) : MO := ⟨fun F o => ∃ dx fs, o = .ins C dx fs ∧ fs.length ≤ n ∧ ∀ f ∈ fps, ∃ x, fs.lookup f.1 = some x ∧ f.2.p F x,
  fun e ⟨dx, fs, h1, h2, h3⟩ => ⟨dx, fs, h1, h2, fun f hf => let ⟨x, y, z⟩ := h3 f hf; ⟨x, y, f.2.mono e z⟩⟩, fun ⟨dx, fs, h, _⟩ xs z => by rw [h] at z; cases z⟩
theorem fr_Ins {n : Nat} : (Fr (MIns C n fps)).le (PIns C fps) := fun F v ⟨q, o, a, b, dx, fs, e, h⟩ => by subst e; exact ⟨q, dx, fs, a, b, h.2⟩
theorem ev_fld {f : Str} (h : Ev ta Γ M (PIns C fps) M1) (hf : (f, P) ∈ fps) (hc : Cls K C) (hn : NoAttr K C f) : Ev (tFld K ta f) Γ M P M1 := fun E F σ H a b Q k => h E F σ H a b _ fun v F1 H1 e1 g1 ⟨p, dx, fs, h1, h2, h3⟩ => by
  obtain ⟨x, hx, px⟩ := h3 _ hf
  exact ⟨p, C, dx, fs, x, h1, g1.ex _ _ h2, hc, hn, hx, k x F1 H1 e1 g1 px⟩
theorem putF_le (f : Str) (v : V) : ∀ fs : List (Str × V), (putF f v fs).length ≤ fs.length + 1
  | [] => Nat.le_refl _
  | (g, x) :: r => by
    unfold putF
    split
    · exact Nat.le_succ _
    · exact Nat.succ_le_succ (putF_le f v r)
theorem go_fld {f : Str} {n : Nat} (hv : Ev tb Γ M P M1) (ho : Ev ta Γ M1 (Own q) M1) (e : M1[j]? = some (q, MIns C n fps)) (hz : n < 999) (hf : ∀ g ∈ fps, g.1 ≠ f) (hc : Cls K C) (hn : NoAttr K C f) (k : Nx E Γ (M1.set j (q, MIns C (n + 1) ((f, P) :: fps))) D1.nx) :
    Nx E Γ M (sFld K ta tb f D1) := fun σ H ⟨F, a, b⟩ => hv E F σ H a b _ fun y F1 H1 e1 g1 p1 => ho E F1 σ H1 g1 (b.mono e1) _ fun v F2 H2 e2 g2 p2 => by
  have p2 : v = .ref q := p2
  subst p2
  obtain ⟨_, o, ho1, dx, fs, rfl, hl, h3⟩ := g2.at e
  refine ⟨q, C, dx, fs, rfl, ho1, hc, hn, by omega, ?_⟩
  refine k _ _ ⟨F2, g2.mut e ⟨dx, _, rfl, Nat.le_trans (putF_le f y fs) (by omega), fun g hg => ?_⟩, b.mono (e1.trans e2)⟩
  rcases List.mem_cons.mp hg with z | z
  · subst z
    exact ⟨y, by rw [lookup_putF, if_pos rfl], P.mono e2 p1⟩
  · obtain ⟨x, hx, px⟩ := h3 g z
    exact ⟨x, by rw [lookup_putF, if_neg (hf g z)]; exact hx, px⟩
theorem Pt.junk (h : Pt E F M H) (hp : H q = none) : Pt E F M (upd H q o) := by
  have ne : ∀ {a u}, H a = some u → a ≠ q := fun e => ne_of_none e hp
  refine ⟨⟨h.gr.ex, fun a u h1 h2 => ?_, h.gr.off, fun a h1 => ?_, fun a h1 h2 => ?_⟩, ⟨h.wd.ex.trans (Evl.Ex.new hp), h.wd.nd, fun r hr => ?_⟩, h.fr⟩
  · have := h.gr.keep a u h1 h2
    rw [upd_ne (ne this)]; exact this
  · by_cases e : a = q
    · subst e; rw [upd_same]; exact fun z => by cases z
    · rw [upd_ne e]; exact h.gr.stay a h1
  · rw [upd_ne (fun e => h.gr.stay a h1 (by rw [e]; exact hp))]; exact h.gr.nott a h1 h2
  · obtain ⟨a, u, hu, b⟩ := h.wd.own r hr
    exact ⟨a, u, by rw [upd_ne (ne hu)]; exact hu, b⟩
theorem evn_make (h : EvA tr Γ M ps M1) (hs : ∀ x vs H Q, Prom (Own x :: ps) [(x, MIns C 0 [])] (D K .none) [(x, O)] vs H Q → sp (vs ++ []) H Q X) : EvN (tMake C sp [] X tr) Γ M O M1 := fun E F σ H a b Q k =>
  h E F σ H a b _ fun vs F1 H1 e1 g1 p1 => fun x dx hx hdx hne => by
    have hx2 : upd H1 dx (.own x) x = none := by rw [upd_ne hne.symm]; exact hx
    have g2 : Pt E F1 ((x, MIns C 0 []) :: M1) (upd (upd H1 dx (.own x)) x (.ins C dx [])) := (g1.junk hdx).new hx2 ⟨dx, [], rfl, Nat.le_refl _, fun f hf => by cases hf⟩
    refine hs x (.ref x :: vs) _ _ ⟨F1, ⟨g2.ex, by simp [keys], fun r hr => ?_⟩, .cons rfl p1, fun v F' H' g hv => ⟨dp_non hv, ?_⟩⟩
    · rw [List.mem_singleton.mp hr]; exact g2.wd.own _ List.mem_cons_self
    · refine k x F' H' (g1.fresh hx) (e1.trans g.gr.ex) (g2.frame g (fun z hz => ?_) rfl fun r hr => ?_)
      · rw [List.mem_singleton.mp hz]; exact List.mem_cons_self
      · rcases List.mem_cons.mp hr with z | z
        · rw [z]; exact .inr List.mem_cons_self
        · exact .inl ⟨fun w => (List.nodup_cons.mp (show (x :: keys M1).Nodup from g2.wd.nd)).1 (by rw [show x = r.1 from (List.mem_singleton.mp w).symm]; exact List.mem_map_of_mem (f := (·.1)) z), List.mem_cons_of_mem _ z⟩
/-! ### isinstance of data -/
/-! ### sorted -/
theorem ints_map {ns : List Int} {vs : List V} (h : Ps F vs (ns.map fun n => D K (.int n))) : vs = ns.map V.int := by
  have := ps_all (K := K) (ds := ns.map PyData.int) (by rw [List.map_map]; exact h)
  exact flat_ints this
theorem map_ints (ns : List Int) : Ps F (ns.map V.int) (ns.map fun n => D K (.int n)) := by
  induction ns with
  | nil => exact .nil
  | cons n ns ih => exact .cons (.int n) ih
abbrev MInts (K : PySem.W.Frag) (ns : List Int) : MO := ML (ns.map fun n => D K (.int n))
/-- set(x): a list or tuple of ints -/
def rSetI (K : PySem.W.Frag) (w : World) : List V → Hp → VK → Prop := fun xs H Q => ∃ (a : Addr) (ns : List Int), xs = [V.ref a] ∧ (SqL K H a (ns.map V.int) ∨ SqT K H a (ns.map V.int)) ∧ ns.length < 63 ∧
  ∀ p c, H p = none → c ≤ ns.length → Q (.ref p) (upd H p (SetO w p (fun j => decide (j ∈ ns)) c))
theorem vals_ints {ns : List Int} {us : List Value} (r : Vals (ns.map V.int) us) : PyProof.Rows.IntsAre us ns := by
  induction ns generalizing us with
  | nil => cases r; exact .nil
  | cons n ns ih =>
    cases r with
    | cons a t =>
      obtain ⟨tk, rfl⟩ := a
      exact .cons n tk (ih t)
theorem cr_setI {X : Cx} (hc : X.calm = true) : CallR X (.type "set") (rSetI X.K X.w) := by
  intro pins s σ H xs us Q I r h
  obtain ⟨a, ns, rfl, hs, few, q⟩ := h
  have few2 : ns.length + 1 < scanBound := Nat.lt_trans (by omega : ns.length + 1 < 64) (by decide)
  rw [Vals.ref1 r]
  have fin : ∀ (g : Heap) (tk c : Nat), SetR X.w g s.heap.objs.size (fun j => decide (j ∈ ns)) c → c ≤ ns.length → (∀ b o, s.heap.get? b = some o → g.get? b = some o) → EP X pins σ Q (.ref s.heap.objs.size) { s with heap := g, toks := tk } := by
    intro g tk c hS hc k
    exact ⟨.ref _, upd H s.heap.objs.size (SetO X.w s.heap.objs.size (fun j => decide (j ∈ ns)) c), I.laid (t' := tk) k (Nat.le_refl _) (setO_new hS), rfl, q _ c (I.hok.fresh (Nat.le_refl _)) hc⟩
  rcases hs with hs | hs
  · obtain ⟨its, rv, hl, _⟩ := I.list hs
    exact setL_call ns (I.ok.hd hc) hl.isList (by simpa using vals_ints rv) few2 fin
  · obtain ⟨its, rv, hl, _⟩ := I.tuple hs
    exact call_set_tupI ns (I.ok.hd hc) hl (by simpa using vals_ints rv) few2 fin
theorem evn_sortedSet {w : World} {ns : List Int} (h : Ev te Γ M P M1) (hP : ∀ E F H v, Pt E F M1 H → P.p F v → ∃ a, v = .ref a ∧ (SqL K H a (ns.map V.int) ∨ SqT K H a (ns.map V.int))) (hn : ns.length < 63) :
    EvN (tCB (rSortedSet w) (tCons (tCB (rSetI K w) (tCons te tNil)) tNil)) Γ M (MX fun ns' : List Int => MA (ns'.Pairwise (· < ·) ∧ ∀ k, k ∈ ns' ↔ k ∈ ns) (MInts K ns')) M1 := fun E F σ H a b Q k => h E F σ H a b _ fun v F1 H1 e1 g1 p1 => by
  obtain ⟨x, rfl, hs⟩ := hP _ _ _ _ g1 p1
  refine ⟨x, ns, rfl, hs, hn, fun p c hp hc => ⟨p, _, c, rfl, upd_same, by omega, fun ns' l h1 h2 h3 hl => ?_⟩⟩
  have g2 : Pt E F1 M1 (upd H1 p (SetO w p (fun j => decide (j ∈ ns)) c)) := g1.junk hp
  exact k l F1 _ (g2.fresh hl) e1 (g2.new hl ⟨ns', ⟨h1, fun k => by rw [h2]; exact decide_eq_true_iff⟩, _, rfl, map_ints ns'⟩)
theorem pli_ints {ns : List Int} : ∀ E F H v, Pt E F M1 H → (PLi K (ns.map fun n => D K (.int n))).p F v → ∃ a, v = .ref a ∧ (SqL K H a (ns.map V.int) ∨ SqT K H a (ns.map V.int)) := fun E F H v g ⟨a, vs, e, s, p⟩ => by cases ints_map p; exact ⟨a, e, .inl (Evl.ex_l g.ex s)⟩
theorem own_ints {ns : List Int} (h : M1[j]? = some (q, MInts K ns)) : ∀ E F H v, Pt E F M1 H → (Own q).p F v → ∃ a, v = .ref a ∧ (SqL K H a (ns.map V.int) ∨ SqT K H a (ns.map V.int)) := fun E F H v g p => by
  obtain ⟨_, o, ho, vs, rfl, s⟩ := g.at h
  cases ints_map s
  exact ⟨q, p, .inl (SqL.of ho)⟩
/-! ### the draws -/
def MDr (K : PySem.W.Frag) : MO := MX fun ns : List Int => MA (ns.length ≤ 1000) (MInts K ns)
abbrev PIn (K : PySem.W.Frag) (lo hi : Int) : MP := PEx fun x : Int => PAn (lo ≤ x ∧ x < hi) (D K (.int x))
end
end Hq
namespace Hq
open PySem L2
section
variable {K : PySem.W.Frag} {E E' : Ent} {F F' H H' : Hp} {M M' Mc Mc' M1 M2 M3 : Ms} {Γ Γ' : Gm} {P P' P1 P2 : MP} {O O' : MO} {q : Addr} {σ : St} {o o' : HO} {j : Nat}
variable {te ta tb tc tl : TE} {t u : TT} {r : R2} {D1 : Ends} {tu tw : TS} {ps : List MP} {sp : Sp} {X : XK} {tr : TA} {C : Addr} {fps : List (Str × MP)}
theorem Prom.len {vs : List V} {Q : VK} (h : Prom ps M P M' vs H Q) : vs.length = ps.length := by obtain ⟨F, _, p, _⟩ := h; exact paired_len p
theorem rv_eqI {i k : Int} : RV rEq (D K (.int i)) (D K (.int k)) M (D K (.bool (decide (i = k)))) M := rv_val (z := .bl _) (fun _ => .bl _) fun F H x y p1 p2 _ Q q => by
  cases dp_int p1; cases dp_int p2
  refine ⟨rfl, ?_⟩
  have e : decide (V.int i = V.int k) = decide (i = k) := by simp
  rw [e]; exact q
theorem rv_neI {i k : Int} : RV rNe (D K (.int i)) (D K (.int k)) M (D K (.bool (!decide (i = k)))) M := rv_val (z := .bl _) (fun _ => .bl _) fun F H x y p1 p2 _ Q q => by
  cases dp_int p1; cases dp_int p2
  refine ⟨rfl, ?_⟩
  have e : decide (V.int i = V.int k) = decide (i = k) := by simp
  rw [e]; exact q
theorem ev_neg {i : Int} (h : Ev ta Γ M (D K (.int i)) M1) : Ev (tUn (rU fun i => .int (-i)) ta) Γ M (D K (.int (-i))) M1 := fun E F σ H a b Q k => h E F σ H a b _ fun v F1 H1 e1 g1 p1 => by
  cases dp_int p1
  exact ⟨i, rfl, k _ F1 H1 e1 g1 (.int _)⟩
theorem call0 (h : EvA tr Γ M ps M1) (hs : ∀ vs H Q, Prom ps [] P [] vs H Q → sp vs H Q X) : Ev (tCall sp [] X tr) Γ M P M1 := ev_call0 h fun vs H Q z => by rw [List.append_nil]; exact hs vs H Q z
theorem call1 (h : EvA tr Γ M ps M1) (e : M1[j]? = some (q, O)) (hs : ∀ vs H Q, Prom ps [(q, O)] P [(q, O)] vs H Q → sp vs H Q X) : Ev (tCall sp [] X tr) Γ M P M1 := ev_call1 h e fun vs H Q z => by rw [List.append_nil]; exact hs vs H Q z
theorem make0 (h : EvA tr Γ M ps M1) (hs : ∀ x vs H Q, Prom (Own x :: ps) [(x, MIns C 0 [])] (D K .none) [(x, O)] vs H Q → sp vs H Q X) : EvN (tMake C sp [] X tr) Γ M O M1 := evn_make h fun x vs H Q z => by rw [List.append_nil]; exact hs x vs H Q z
theorem EvA.in1 {R R' : MP} (l : R.le R') (h : EvA tr Γ M (R :: ps) M1) : EvA tr Γ M (R' :: ps) M1 := fun E F σ H a b Q k => h E F σ H a b Q fun vs F' H' e g p => k vs F' H' e g (by
  cases p with
  | cons z t => exact .cons (l _ _ z) t)
/-- a list of items each of which is some x with φ x -/
theorem ps_name {α : Type} {φ : α → Prop} {R : α → MP} : ∀ {n : Nat} {vs : List V}, Ps F vs (List.replicate n (PEx fun x => PAn (φ x) (R x))) → ∃ xs : List α, xs.length = n ∧ (∀ x ∈ xs, φ x) ∧ Ps F vs (xs.map R)
  | 0, _, h => by cases h; exact ⟨[], rfl, fun _ h => (by cases h), .nil⟩
  | n + 1, _, h => by
    cases h with
    | cons a t =>
      obtain ⟨x, hx, p⟩ := a
      obtain ⟨xs, h1, h2, h3⟩ := ps_name t
      exact ⟨x :: xs, by rw [List.length_cons, h1], fun y hy => by
        rcases List.mem_cons.mp hy with e | e
        · rw [e]; exact hx
        · exact h2 y e, .cons p h3⟩
/-- the same as an own list -/
theorem ml_name {α : Type} {φ : α → Prop} {R : α → MP} {n : Nat} : ∀ F o, (ML (List.replicate n (PEx fun x => PAn (φ x) (R x)))).p F o → (MX fun xs : List α => MA (xs.length = n ∧ ∀ x ∈ xs, φ x) (ML (xs.map R))).p F o := fun F o ⟨vs, e, p⟩ => by
  obtain ⟨xs, h1, h2, h3⟩ := ps_name p
  exact ⟨xs, ⟨h1, h2⟩, vs, e, h3⟩
theorem map_const {α β : Type} (l : List α) (b : β) : l.map (fun _ => b) = List.replicate l.length b := by
  induction l with
  | nil => rfl
  | cons a l ih => rw [List.map_cons, ih]; rfl
theorem filter_true {α : Type} (l : List α) : l.filter (fun _ => true) = l := by simp
end
end Hq
namespace Hq
open PySem L2
section
variable {K : PySem.W.Frag} {E E' : Ent} {F F' H H' : Hp} {M M' Mc Mc' M1 M2 M3 : Ms} {Γ Γ' : Gm} {P P' P1 P2 : MP} {O O' : MO} {q : Addr} {σ : St} {o o' : HO} {j : Nat}
variable {te ta tb tc tl : TE} {t u : TT} {r : R2} {D1 : Ends} {tu tw : TS} {ps : List MP} {sp : Sp} {X : XK} {tr : TA} {C : Addr} {fps : List (Str × MP)}
variable {tz : TS}
theorem q_asg {i : Nat} (h : Ev te Γ M P M1) (k : Nx E (Γ.set i (some P)) M1 (tz D1)) : Nx E Γ M (tSeq (tAsg te (gName i)) tz D1) :=
  go_asg (D1 := { D1 with nx := tz D1 }) h k
theorem q_asgN {i : Nat} (h : EvN te Γ M O M1) (k : ∀ q, E.H q = none → Nx E (Γ.set i (some (Own q))) ((q, O) :: M1) (tz D1)) : Nx E Γ M (tSeq (tAsg te (gName i)) tz D1) :=
  go_asgN (D1 := { D1 with nx := tz D1 }) h k
theorem q_if {B : Bool → Prop} (h : EvT t Γ M B M1) (h1 : B true → Nx E Γ M1 (tu { D1 with nx := tz D1 })) (h2 : B false → Nx E Γ M1 (tw { D1 with nx := tz D1 })) : Nx E Γ M (tSeq (tIfS t tu tw) tz D1) :=
  go_if (D1 := { D1 with nx := tz D1 }) h h1 h2
theorem q_app {ps : List MP} (ho : Ev ta Γ M (Own q) M) (h : Ev te Γ M P M1) (e0 : M[j]? = some (q, ML ps)) (e : M1[j]? = some (q, ML ps)) (hz : ps.length < 100000) (k : Nx E Γ (M1.set j (q, ML (ps ++ [P]))) (tz D1)) :
    Nx E Γ M (tSeq (tDrop (tBM K "list" rAppend ta (tCons te tNil))) tz D1) :=
  go_app (D1 := { D1 with nx := tz D1 }) ho h e0 e hz k
theorem q_rev {ps : List MP} (ho : Ev ta Γ M (Own q) M) (e : M[j]? = some (q, ML ps)) (k : Nx E Γ (M.set j (q, ML ps.reverse)) (tz D1)) : Nx E Γ M (tSeq (tDrop (tBM0 K "list" rReverse ta)) tz D1) :=
  go_rev (D1 := { D1 with nx := tz D1 }) ho e k
theorem q_forL {ps : List MP} {i : Nat} (h : Ev tl Γ M (PLi K ps) M1) (J : Nat → Gm → Ms → Prop) (h0 : J 0 Γ M1)
    (hs : ∀ E', Le E' E → ∀ n P, ps[n]? = some P → ∀ Γ' M', J n Γ' M' → Nx E' (Γ'.set i (some P)) M' (tu { D1 with nx := JA E' (J (n + 1)), ct := JA E' (J (n + 1)), bk := tz D1 }))
    (hd : ∀ Γ' M', J ps.length Γ' M' → Nx E Γ' M' (tz D1)) : Nx E Γ M (tSeq (tFor (iList K tl) (gName i) tu) tz D1) :=
  go_forL (D1 := { D1 with nx := tz D1 }) h J h0 hs hd
theorem q_forT {ps : List MP} {i : Nat} (h : Ev tl Γ M (PTu K ps) M1) (J : Nat → Gm → Ms → Prop) (h0 : J 0 Γ M1)
    (hs : ∀ E', Le E' E → ∀ n P, ps[n]? = some P → ∀ Γ' M', J n Γ' M' → Nx E' (Γ'.set i (some P)) M' (tu { D1 with nx := JA E' (J (n + 1)), ct := JA E' (J (n + 1)), bk := tz D1 }))
    (hd : ∀ Γ' M', J ps.length Γ' M' → Nx E Γ' M' (tz D1)) : Nx E Γ M (tSeq (tFor (iTup K tl) (gName i) tu) tz D1) :=
  go_forT (D1 := { D1 with nx := tz D1 }) h J h0 hs hd
theorem q_forR {tr : TA} {z : Int} {i : Nat} (h : EvA tr Γ M [D K (.int z)] M1) (hz : z ≤ 1000000) (hz2 : -1000000 ≤ z) (J : Nat → Gm → Ms → Prop) (h0 : J 0 Γ M1)
    (hs : ∀ n : Nat, (n : Int) < z → ∀ Γ' M', J n Γ' M' → Nx E (Γ'.set i (some (D K (.int n)))) M' (tu { D1 with nx := JA E (J (n + 1)), ct := JA E (J (n + 1)), bk := tz D1 }))
    (hd : ∀ Γ' M', J z.toNat Γ' M' → Nx E Γ' M' (tz D1)) : Nx E Γ M (tSeq (tFor (iRng1 tr) (gName i) tu) tz D1) :=
  go_forR (D1 := { D1 with nx := tz D1 }) h hz hz2 J h0 hs hd
theorem q_forR2 {tr : TA} {lo z : Int} {i : Nat} (h : EvA tr Γ M [D K (.int lo), D K (.int z)] M1) (hz : z ≤ 1000000 ∧ -1000000 ≤ z ∧ lo ≤ 1000000 ∧ -1000000 ≤ lo) (J : Nat → Gm → Ms → Prop) (h0 : J 0 Γ M1)
    (hs : ∀ n : Nat, lo + (n : Int) < z → ∀ Γ' M', J n Γ' M' → Nx E (Γ'.set i (some (D K (.int (lo + n))))) M' (tu { D1 with nx := JA E (J (n + 1)), ct := JA E (J (n + 1)), bk := tz D1 }))
    (hd : ∀ Γ' M', J (z - lo).toNat Γ' M' → Nx E Γ' M' (tz D1)) : Nx E Γ M (tSeq (tFor (iRng2 tr) (gName i) tu) tz D1) :=
  go_forR2 (D1 := { D1 with nx := tz D1 }) h hz J h0 hs hd
/-- hands back an object of the caller's own -/
def RtN (E : Ent) (M : Ms) (O : MO) (f : VK) : Prop := ∀ q F H, E.H q = none → Pt E F ((q, O) :: M) H → f (.ref q) H
def PromN (ps : List MP) (M : Ms) (O : MO) (M' : Ms) (vs : List V) (H : Hp) (Q : VK) : Prop := ∃ F, Wd F M H ∧ Ps F vs ps ∧ RtN ⟨F, H, keys M⟩ M' O Q
theorem PromN.len {vs : List V} {Q : VK} (h : PromN ps M O M' vs H Q) : vs.length = ps.length := by obtain ⟨F, _, p, _⟩ := h; exact paired_len p
theorem Pt.frameN {ks : List Addr} (h : Pt E F M H) (hq : H q = none) (g : Pt ⟨F, H, ks⟩ F' ((q, O) :: Mc) H') (hk : ∀ a ∈ ks, a ∈ keys M) (hM : keys M' = keys M) (hr : ∀ r ∈ M', (r.1 ∉ ks ∧ r ∈ M) ∨ r ∈ Mc) : Pt E F' ((q, O) :: M') H' := by
  have nq : q ∉ keys M := fun z => by
    obtain ⟨r, hr, e⟩ := List.mem_map.mp z
    obtain ⟨_, u, hu, _⟩ := h.wd.own r hr
    rw [e, hq] at hu; cases hu
  refine h.back ⟨⟨g.gr.ex, fun a u h1 h2 => g.gr.keep a u (fun z => h1 (hk a z)) h2, g.gr.off, g.gr.stay, g.gr.nott⟩, ⟨g.wd.ex, List.nodup_cons.mpr ⟨by rw [show List.map _ M' = keys M from hM]; exact nq, by rw [show List.map _ M' = keys M from hM]; exact h.wd.nd⟩, fun r hm => ?_⟩, fun r hm => ?_⟩
  · rcases List.mem_cons.mp hm with z | hm
    · rw [z]; exact g.wd.own _ List.mem_cons_self
    · rcases hr r hm with ⟨n, hm2⟩ | hm2
      · obtain ⟨a, u, hu, b⟩ := h.wd.own r hm2
        exact ⟨g.gr.off _ a (show H r.1 ≠ none by rw [hu]; exact fun z => by cases z) (fun xs z => r.2.nt b xs (by have z : H r.1 = some (HO.tup xs) := z; rw [hu] at z; exact Option.some.inj z)), u, g.gr.keep _ _ n hu, r.2.mono g.gr.ex b⟩
      · exact g.wd.own r (List.mem_cons_of_mem _ hm2)
  · rcases List.mem_cons.mp hm with z | hm
    · rw [z]; exact .inr hq
    · refine .inl ?_
      show r.1 ∈ keys M
      rw [← hM]
      exact List.mem_map_of_mem (f := (·.1)) hm
theorem calln0 (h : EvA tr Γ M ps M1) (hs : ∀ vs H Q, PromN ps [] O [] vs H Q → sp vs H Q X) : EvN (tCall sp [] X tr) Γ M O M1 := fun E F σ H a b Q k =>
  h E F σ H a b _ fun vs F1 H1 e1 a1 p1 => by
    show sp (vs ++ []) H1 Q X
    rw [List.append_nil]
    exact hs vs H1 Q ⟨F1, ⟨a1.ex, List.nodup_nil, fun r hr => by cases hr⟩, p1, fun q F' H' hq g => k q F' H' (a1.fresh hq) (e1.trans g.gr.ex) (a1.frameN hq g (fun _ z => by cases z) rfl fun r hr => .inl ⟨by simp [keys], hr⟩)⟩
theorem go_retO {E0 : Ent} (l : Le E E0) (h : Ev te Γ M (Own q) M1) (hq : E0.H q = none) (hM : M1 = (q, O) :: M2) (k : RtN E0 M2 O D1.rt) : Nx E Γ M (tRet te D1) := fun σ H ⟨F, a, b⟩ => h E F σ H a b _ fun v F' H' e g p => by
  have p : v = .ref q := p
  subst p
  subst hM
  exact k q F' H' hq (l.to _ _ _ g)
theorem RtN.to {f : VK} (h : RtN E M O' f) (l : ∀ F o, O.p F o → O'.p F o) : RtN E M O f := fun q F H hq a => h q F H hq (a.to (j := 0) (O' := O') l rfl)
theorem RtN.drop {f : VK} (h : RtN E M O f) (s : List.Sublist M M') : RtN E M' O f := fun q F H hq a => h q F H hq (a.drop (s.cons₂ _))
theorem go_cut (J : Gm → Ms → Prop) (h1 : Nx E Γ M (tu { D1 with nx := JA E J })) (h2 : ∀ Γ' M', J Γ' M' → Nx E Γ' M' (tw D1)) : Nx E Γ M (Evl.tCut tu tw D1) := fun σ H a =>
  ⟨JA E J, h1 σ H a, fun σ' H' ⟨Γ', M', hJ, a'⟩ => h2 Γ' M' hJ σ' H' a'⟩
end
end Hq
namespace Hq
open PySem L2
def dT (l : List Int) : PyData := .tuple (l.map .int)
def dL (l : List Int) : PyData := .list (l.map .int)
def dTT (ls : List (List Int)) : PyData := .tuple (ls.map dT)
def dLT (ls : List (List Int)) : PyData := .list (ls.map dT)
section
variable {K : PySem.W.Frag} {E E' : Ent} {F F' H H' : Hp} {M M' Mc Mc' M1 M2 M3 : Ms} {Γ Γ' : Gm} {P P' P1 P2 : MP} {O O' : MO} {q : Addr} {σ : St} {o o' : HO} {j : Nat}
variable {te ta tb tc tl : TE} {t u : TT} {r : R2} {D1 : Ends} {tu tw tz : TS} {ps : List MP} {sp : Sp} {X : XK} {tr : TA} {C : Addr} {fps : List (Str × MP)}
theorem le_dT {l : List Int} : (D K (dT l)).le (PTu K (l.map fun n => D K (.int n))) := fun F v h => by
  have := D_PTu (K := K) (ds := l.map PyData.int) F v h
  rw [List.map_map] at this
  exact this
theorem dT_le {l : List Int} : (PTu K (l.map fun n => D K (.int n))).le (D K (dT l)) := fun F v h => PTu_D (K := K) (ds := l.map PyData.int) F v (by rw [List.map_map]; exact h)
theorem le_dL {l : List Int} : (D K (dL l)).le (PLi K (l.map fun n => D K (.int n))) := fun F v h => by
  have := D_PLi (K := K) (ds := l.map PyData.int) F v h
  rw [List.map_map] at this
  exact this
theorem dL_le {l : List Int} : (PLi K (l.map fun n => D K (.int n))).le (D K (dL l)) := fun F v h => PLi_D (K := K) (ds := l.map PyData.int) F v (by rw [List.map_map]; exact h)
theorem le_Lm {α : Type} {f : α → PyData} {l : List α} : (D K (.list (l.map f))).le (PLi K (l.map fun n => D K (f n))) := fun F v h => by
  have := D_PLi (K := K) (ds := l.map f) F v h
  rw [List.map_map] at this
  exact this
theorem Lm_le {α : Type} {f : α → PyData} {l : List α} : (PLi K (l.map fun n => D K (f n))).le (D K (.list (l.map f))) := fun F v h => PLi_D (K := K) (ds := l.map f) F v (by rw [List.map_map]; exact h)
theorem le_Tm {α : Type} {f : α → PyData} {l : List α} : (D K (.tuple (l.map f))).le (PTu K (l.map fun n => D K (f n))) := fun F v h => by
  have := D_PTu (K := K) (ds := l.map f) F v h
  rw [List.map_map] at this
  exact this
theorem Tm_le {α : Type} {f : α → PyData} {l : List α} : (PTu K (l.map fun n => D K (f n))).le (D K (.tuple (l.map f))) := fun F v h => PTu_D (K := K) (ds := l.map f) F v (by rw [List.map_map]; exact h)
theorem rv_addIn {a lo hi : Int} : RV (rI0 fun i j => .int (i + j)) (D K (.int a)) (PIn K lo hi) M (PIn K (a + lo) (a + hi)) M :=
  RV.ex2 fun x => RV.an2 fun hx => rv_i0.weak (MP.le_trans (PAn.in (φ := a + lo ≤ a + x ∧ a + x < a + hi) (by omega)) (PEx.in (R := fun z : Int => PAn (a + lo ≤ z ∧ z < a + hi) (D K (.int z))) (a + x)))
theorem q_forRX {i : Nat} {φ : Int → Prop} (h : Ev te Γ M (PEx fun z : Int => PAn (φ z) (D K (.int z))) M1) (k : ∀ z, φ z → ∀ tr', EvA tr' Γ M1 [D K (.int z)] M1 → Nx E Γ M1 (tSeq (tFor (iRng1 tr') (gName i) tu) tz D1)) : Nx E Γ M (tSeq (tFor (iRng1 (tCons te tNil)) (gName i) tu) tz D1) := fun σ H ⟨F, a, b⟩ => h E F σ H a b _ fun v F1 H1 e1 g1 ⟨z, hz, p1⟩ => by
  cases dp_int p1
  exact k z hz (tCons (tC (.int z)) tNil) (ea_cons ev_int ea_nil) σ H1 ⟨F1, g1, b.mono e1⟩
theorem ev_tupOf {φ : List Int → Prop} (h : EvN te Γ M (MX fun ns : List Int => MA (φ ns) (MInts K ns)) M1) : Ev (tCB (rTuple K) (tCons te tNil)) Γ M (PEx fun ns : List Int => PAn (φ ns) (D K (dT ns))) M1 :=
  ev_cb (ea_cons ((ev_fr h).weak (MP.le_trans fr_X (PEx.le fun x => MP.le_trans fr_A (PAn.le fun _ => fr_L (K := K))))) ea_nil) (RC.ex1 fun ns => RC.an1 fun hφ => rc_tupleL.weak (MP.le_trans dT_le (MP.le_trans (PAn.in hφ) (PEx.in (R := fun ns : List Int => PAn (φ ns) (D K (dT ns))) ns))))
theorem nx_lastM {α : Type} {f} {φ : α → Prop} {R : α → MP} (e : M[j]? = some (q, ML (ps ++ [PEx fun x => PAn (φ x) (R x)]))) (h : ∀ x, φ x → Nx E Γ (M.set j (q, ML (ps ++ [R x]))) f) : Nx E Γ M f := by
  rintro σ H ⟨F, a, b⟩
  obtain ⟨fq, o, ho, vs, rfl, s⟩ := a.at e
  have key : ∀ {ps : List MP} {vs : List V}, Ps F vs (ps ++ [PEx fun x => PAn (φ x) (R x)]) → ∃ x, φ x ∧ Ps F vs (ps ++ [R x]) := by
    intro ps
    induction ps with
    | nil =>
      intro vs s
      obtain ⟨v, rfl, x, hx, hp⟩ := ps1 s
      exact ⟨x, hx, .cons hp .nil⟩
    | cons p ps ih =>
      intro vs s
      cases s with
      | cons a t =>
        obtain ⟨x, hx, t2⟩ := ih t
        exact ⟨x, hx, .cons a t2⟩
  obtain ⟨x, hx, s2⟩ := key s
  refine h x hx σ H ⟨F, ?_, b⟩
  have g := a.mut (o' := .lst vs) (O' := ML (ps ++ [R x])) e ⟨vs, rfl, s2⟩
  have e2 : upd H q (.lst vs) = H := by
    funext z
    by_cases y : z = q
    · subst y; rw [upd_same, ho]
    · rw [upd_ne y]
  rw [e2] at g
  exact g
theorem q_fld {f : Str} {n : Nat} (hv : Ev tb Γ M P M1) (ho : Ev ta Γ M1 (Own q) M1) (e : M1[j]? = some (q, MIns C n fps)) (hz : n < 999) (hf : ∀ g ∈ fps, g.1 ≠ f) (hc : Cls K C) (hn : NoAttr K C f) (k : Nx E Γ (M1.set j (q, MIns C (n + 1) ((f, P) :: fps))) (tz D1)) :
    Nx E Γ M (tSeq (sFld K ta tb f) tz D1) := go_fld (D1 := { D1 with nx := tz D1 }) hv ho e hz hf hc hn k
/-! rules with the written part named -/
variable {Y : Cx}
abbrev rLn (K : PySem.W.Frag) : List V → Hp → VK → Prop := fun xs H Q => ∃ p ys, xs = [.ref p] ∧ (SqL K H p ys ∨ SqT K H p ys) ∧ Q (.int ys.length) H
theorem c_len (e : Y.K = K) : CallR Y (.builtin "len") (rLn K) := e ▸ call_len_seq
theorem c_list (e : Y.K = K) : CallR Y (.type "list") (rList K) := e ▸ call_list_of
theorem c_tuple (e : Y.K = K) : CallR Y (.type "tuple") (rTuple K) := e ▸ call_tuple_of
theorem c_ix (e : Y.K = K) : IxR Y (rIx K) := e ▸ ix_seq
theorem c_eq (e : Y.K = K) (hu : Y.A.units + 64 < cLine) : OpR Y (compareOp .Eq) (rEqD K) := e ▸ op_eqD hu
theorem c_ne (e : Y.K = K) (hu : Y.A.units + 64 < cLine) : OpR Y (compareOp .NotEq) (rNeD K) := e ▸ op_neD hu
theorem c_max (e : Y.K = K) (hc : Y.calm = true) : CallR Y (.builtin "max") (rMax K) := e ▸ cr_max hc
theorem c_min (e : Y.K = K) (hc : Y.calm = true) : CallR Y (.builtin "min") (rMin K) := e ▸ cr_min hc
theorem c_sortedSet {w : World} (e : Y.w = w) (hc : Y.calm = true) : CallR Y (.builtin "sorted") (rSortedSet w) := e ▸ cr_sortedSet hc
theorem c_set {w : World} (e : Y.K = K) (e2 : Y.w = w) (hc : Y.calm = true) : CallR Y (.type "set") (rSetI K w) := by subst e; subst e2; exact cr_setI hc
theorem c_slL (e : Y.K = K) : SlR Y (rSlL K) := e ▸ sl_list
end
end Hq
namespace Hq
open PySem L2
/-- a way to write values of a type as data, faithfully -/
structure Enc {α : Type} [DecidableEq α] (f : α → PyData) (n : Nat) : Prop where
  eq : ∀ x y, PyData.eqv (f x) (f y) = decide (x = y)
  lay : ∀ x, PyData.canLay0 (f x) = true
  deep : ∀ x, PyData.depth (f x) ≤ n
theorem Enc.shaped {α : Type} [DecidableEq α] {f : α → PyData} {n : Nat} (e : Enc f n) (h : n ≤ 64) (x : α) : SeqAt.shaped (f x) = true := by
  unfold SeqAt.shaped
  rw [e.lay x, Bool.true_and]
  exact decide_eq_true (Nat.le_trans (e.deep x) h)
theorem enc_int : Enc PyData.int 1 := ⟨fun x y => by
    show (x == y) = decide (x = y)
    rw [Bool.eq_iff_iff]; simp, fun _ => rfl, fun _ => by show PyData.depth (.int _) ≤ 1; simp [PyData.depth]⟩
section
variable {α : Type} [DecidableEq α] {f : α → PyData} {n : Nat}
theorem eqvAll_map (e : Enc f n) : ∀ (xs ys : List α), PyData.eqvAll (xs.map f) (ys.map f) = decide (xs = ys)
  | [], [] => rfl
  | x :: xs, y :: ys => by
    show (PyData.eqv (f x) (f y) && PyData.eqvAll (xs.map f) (ys.map f)) = _
    rw [e.eq, eqvAll_map e xs ys]
    by_cases h1 : x = y <;> by_cases h2 : xs = ys <;> simp [h1, h2]
  | [], _ :: _ => rfl
  | _ :: _, [] => rfl
theorem depthAll_map (e : Enc f n) : ∀ (xs : List α), PyData.depthAll (xs.map f) ≤ n
  | [] => Nat.zero_le _
  | x :: xs => by
    have h1 := e.deep x
    have h2 := depthAll_map e xs
    simp only [List.map_cons, PyData.depthAll]
    omega
theorem enc_list (e : Enc f n) : Enc (fun xs : List α => PyData.list (xs.map f)) (n + 1) := ⟨fun x y => eqvAll_map e x y, fun xs => by
    simp only [PyData.canLay0]
    first | (rw [List.all_eq_true]; intro d hd; obtain ⟨x, _, rfl⟩ := List.mem_map.mp hd; exact e.lay x) | (induction xs with | nil => rfl | cons x xs ih => simp_all [PyData.canLay0, PyData.canLayAll0, e.lay]), fun xs => by
    have := depthAll_map e xs
    simp only [PyData.depth]
    omega⟩
theorem enc_tuple (e : Enc f n) : Enc (fun xs : List α => PyData.tuple (xs.map f)) (n + 1) := ⟨fun x y => eqvAll_map e x y, fun xs => by
    simp only [PyData.canLay0]
    first | (rw [List.all_eq_true]; intro d hd; obtain ⟨x, _, rfl⟩ := List.mem_map.mp hd; exact e.lay x) | (induction xs with | nil => rfl | cons x xs ih => simp_all [PyData.canLay0, PyData.canLayAll0, e.lay]), fun xs => by
    have := depthAll_map e xs
    simp only [PyData.depth]
    omega⟩
end
theorem enc_dT : Enc dT 2 := enc_tuple enc_int
theorem enc_dL : Enc dL 2 := enc_list enc_int
theorem enc_dTT : Enc dTT 3 := enc_tuple enc_dT
section
variable {K : PySem.W.Frag} {M : Ms} {α : Type} [DecidableEq α] {f : α → PyData} {n : Nat}
theorem rv_neE (e : Enc f n) (h : n ≤ 64) {x y : α} : RV (rNeD K) (D K (f x)) (D K (f y)) M (D K (.bool (!decide (x = y)))) M := by
  have := rv_neD (K := K) (M := M) (e.shaped h x) (e.shaped h y)
  rw [e.eq] at this
  exact this
end
/-! ### a list or a tuple -/
def iOr (wi wj : TI) : TI := fun σ H R => wi σ H R ∨ wj σ H R
theorem pi_or {X : Cx} {tg l : PySem.Expr} {wi wj : TI} (h : PI X tg l wi) (h' : PI X tg l wj) : PI X tg l (iOr wi wj) := ⟨fun pins s σ H R I q => q.elim (h.run pins s σ H R I) (h'.run pins s σ H R I)⟩
section
variable {K : PySem.W.Frag} {E : Ent} {M M1 : Ms} {Γ : Gm} {O : MO} {wi wj : TI} {g : TG} {tu tz : TS} {D1 : Ends} {t : TT} {te : TE} {vs : List Nat}
theorem lc_or1 (h : EvN (tLc wi g t te vs) Γ M O M1) : EvN (tLc (iOr wi wj) g t te vs) Γ M O M1 := fun E F σ H a b Q k => .inl (h E F σ H a b Q k)
theorem lc_or2 (h : EvN (tLc wj g t te vs) Γ M O M1) : EvN (tLc (iOr wi wj) g t te vs) Γ M O M1 := fun E F σ H a b Q k => .inr (h E F σ H a b Q k)
end
/-- the word as a tuple or as a list -/
def dW (b : Bool) (l : List Int) : PyData := if b then dT l else dL l
section
variable {K : PySem.W.Frag} {E : Ent} {M M1 : Ms} {Γ : Gm} {O : MO} {P : MP} {wi wj : TI} {g : TG} {tu tz : TS} {D1 : Ends} {t : TT} {te ta tb : TE} {vs : List Nat} {l : List Int} {b : Bool} {v i : Nat}
theorem evn_lcW {G : Int → MP} (f : Int → Bool) (e : Γ[v]? = some (some (D K (dW b l)))) (hz : l.length ≤ 50000)
    (ht : ∀ x ∈ l, EvT t ((Γ.set i none).set i (some (D K (.int x)))) M (· = f x) M) (he : ∀ x ∈ l, f x = true → Ev te ((Γ.set i none).set i (some (D K (.int x)))) M (G x) M) :
    EvN (tLc (iOr (iTup K (tVar v)) (iList K (tVar v))) (gName i) t te [i]) Γ M (ML ((l.filter f).map G)) M := by
  cases b with
  | true => exact lc_or1 (evn_lcT f ((ev_var (P := D K (dT l)) e).weak le_dT) hz ht he)
  | false => exact lc_or2 (evn_lcL f ((ev_var (P := D K (dL l)) e).weak le_dL) hz ht he)
end
/-! ### a, b = e -/
section
variable {K : PySem.W.Frag} {E : Ent} {M M1 : Ms} {Γ : Gm} {D1 : Ends} {tz : TS} {te : TE} {i j : Nat}
theorem q_unp2 {α : Type} {φ : α → Prop} {R1 R2 : α → MP} (h : Ev te Γ M (PEx fun x => PAn (φ x) (PTu K [R1 x, R2 x])) M1) (k : ∀ x, φ x → Nx E ((Γ.set i (some (R1 x))).set j (some (R2 x))) M1 (tz D1)) :
    Nx E Γ M (tSeq (tAsg te (gTup K 2 (gCons (gName i) (gCons (gName j) gNil)))) tz D1) := fun σ H ⟨F, a, b⟩ => h E F σ H a b _ fun v F1 H1 e1 g1 ⟨x, hx, p, vs, ev, s, q⟩ => by
  obtain ⟨y, z, rfl, hy, hz⟩ := ps2 q
  exact ⟨p, [y, z], ev, Evl.ex_t g1.ex s, rfl, y, [z], rfl, z, [], rfl, rfl, k x hx _ _ ⟨F1, g1, ((b.mono e1).set i hy).set j hz⟩⟩
end
section
variable {K : PySem.W.Frag} {M M1 : Ms} {Γ : Gm} {te : TE} {α : Type} {f : α → PyData} {xs : List α}
theorem ev_lenM (h : Ev te Γ M (D K (.list (xs.map f))) M1) : Ev (tCB (rLn K) (tCons te tNil)) Γ M (D K (.int xs.length)) M1 := by
  have := ev_cb (ea_cons h ea_nil) (rc_lenD (K := K) (ds := xs.map f) (M := M1))
  rw [List.length_map] at this
  exact this
theorem ev_lenMT (h : Ev te Γ M (D K (.tuple (xs.map f))) M1) : Ev (tCB (rLn K) (tCons te tNil)) Γ M (D K (.int xs.length)) M1 := by
  have := ev_cb (ea_cons h ea_nil) (rc_lenDT (K := K) (ds := xs.map f) (M := M1))
  rw [List.length_map] at this
  exact this
end
end Hq
namespace Hq
open PySem L2
theorem pi_listK {Y : Cx} {K : PySem.W.Frag} {tg l : PySem.Expr} {tl : TE} (e : Y.K = K) (hl : PE Y l tl) : PI Y tg l (iList K tl) := e ▸ pi_list hl
theorem pi_tupK {Y : Cx} {K : PySem.W.Frag} {tg l : PySem.Expr} {tl : TE} (e : Y.K = K) (hl : PE Y l tl) : PI Y tg l (iTup K tl) := e ▸ pi_tup hl
end Hq
namespace Hq
open PySem L2
/-! ### xs.index(y, lo): an item of a list of ints from a place on -/
section
variable {K : PySem.W.Frag} {E : Ent} {M M1 M2 : Ms} {Γ : Gm} {P : MP} {O : MO} {q : Addr} {j : Nat} {te ta tb ta2 tb2 tl : TE} {tr : TA} {D1 : Ends} {tz : TS}
/-! ### xs[i] += e -/
theorem c_fld {Y : Cx} {e : PySem.Expr} {f : Str} {pos : Pos} (e2 : Y.K = K) (he : PE Y e ta) (hb : attributeBase e f Y.env (eval e Y.env) = eval e Y.env) : PE Y (.Attribute e f pos) (tFld K ta f) := e2 ▸ pe_fld he hb
/-! ### xs[i], xs[i2] = x, y -/
/-! ### t[lo:hi] -/
def EvP (to : TO) (Γ : Gm) (M : Ms) (o : Option Int) : Prop := ∀ E F σ H, Pt E F M H → EnvOk F σ Γ → ∀ Q : Option Int → Hp → Prop, (∀ F' H', Ex F F' → Pt E F' M H' → Q o H') → to σ H Q
theorem ep_none : EvP tNoPart Γ M none := fun E F σ H a b Q k => k F H (Evl.Ex.refl _) a
theorem ep_some {i : Int} (h : Ev te Γ M (D K (.int i)) M) : EvP (tPart te) Γ M (some i) := fun E F σ H a b Q k => h E F σ H a b _ fun v F1 H1 e1 g1 p1 => by
  cases dp_int p1
  exact ⟨i, rfl, k _ _ e1 g1⟩
/-! ### x is None -/
end
end Hq
namespace Hq
open PySem L2
end Hq
namespace Hq
open PySem L2
/-! ### {t: e} with a tuple as key -/
/-! ### tuples made here; a dict with them as keys -/
/-- a tuple of ints that stands in the heap itself -/
def NT (l : List Int) : MP := ⟨fun F v => ∃ b, v = .ref b ∧ F b = some (.tup (l.map V.int)), fun e ⟨b, h1, h2⟩ => ⟨b, h1, e _ _ h2⟩⟩
section
variable {K : PySem.W.Frag} {E : Ent} {F H : Hp} {M M1 M2 : Ms} {Γ : Gm} {P : MP} {O : MO} {q : Addr} {j : Nat} {te ta tb tk tv td : TE} {tr : TA} {D1 : Ends} {tz : TS} {t u : TT} {l a b : List Int} {L : List (List Int)}
theorem nt_T : (NT l).le (PTu K (l.map fun n => D K (.int n))) := fun F v ⟨p, h1, h2⟩ => ⟨p, l.map V.int, h1, SqT.of h2, map_ints l⟩
theorem nt_D : (NT l).le (D K (dT l)) := MP.le_trans nt_T dT_le
/-! made here: tuple(t), (x, y), t[a:b], t + u -/
theorem rc_tupleNL {l : List Int} : RC (rTuple K) [PLi K (l.map fun n => D K (.int n))] M (NT l) M := fun E F H vs g h Q k => by
  obtain ⟨v, rfl, b, ws, rfl, s, p⟩ := ps1 h
  have es := ints_map p
  subst es
  refine ⟨b, _, rfl, .inl ⟨Evl.ex_l g.ex s, fun r hr => ?_⟩⟩
  exact k _ _ _ (Evl.Ex.new (Evl.fresh_back g.ex hr)) (g.laid hr) ⟨r, rfl, upd_same⟩
end
end Hq
namespace Hq
open PySem L2
/-! ### sorted(xs) of tuples of ints, none of them empty -/
end Hq
namespace Hq
open PySem L2
end Hq
namespace Hq
open PySem L2
section
variable {K : PySem.W.Frag} {E : Ent} {F H : Hp} {M M1 M2 : Ms} {Γ : Gm} {P : MP} {O : MO} {q : Addr} {j : Nat} {te ta tb tk tv td : TE} {tr : TA} {D1 : Ends} {tz : TS} {t u : TT} {l a b : List Int} {L : List (List Int)} {ps : List MP}
theorem MP.of_eq {P P' : MP} (h : P = P') : P.le P' := fun _ _ p => h ▸ p
end
end Hq
namespace Hq
open PySem PySem.Spec PyProof.Rows L2
/-! ### enumerate(t), a tuple -/
end Hq
namespace Hq
open PySem L2
section
variable {K : PySem.W.Frag} {E : Ent} {F H : Hp} {M M1 M2 : Ms} {Γ : Gm} {P : MP} {O : MO} {q : Addr} {te ta tb tl tk : TE} {tr : TA} {D1 : Ends} {tu tz : TS} {t u : TT} {ps : List MP} {i j : Nat}
theorem pg_tupK {X : Cx} {es : List PySem.Expr} {k : Nat} {t : TGs} {n : Nat} {pos : Pos} (eK : X.K = K) (hc : X.calm = true) (h : PGs X es t)
    (hn : (assignEach es X.env).length = n := by rfl) (hst : (assignEach es X.env).findIdx? (·.1) = none := by rfl) : PG X (.Tuple es k pos) (gTup K n t) := eK ▸ pg_tup hc h hn hst
/-! the walks, told over what stands -/
variable {α : Type} {xs : List α} {R : α → MP}
end
end Hq
namespace Hq
open PySem L2
section
variable {K : PySem.W.Frag} {E : Ent} {F H : Hp} {M M1 M2 : Ms} {Γ : Gm} {P P1 : MP} {O : MO} {q : Addr} {te ta tb tl tk : TE} {tr : TA} {D1 : Ends} {tu tz : TS} {t u : TT} {ps : List MP} {i j : Nat} {l : List Int}
/-- a slice of a list that stands -/
def cutG {α : Type} (l : List α) (lo hi : Option Int) : List α := (l.drop (HT.sIx l.length 0 lo)).take (HT.sIx l.length l.length hi - HT.sIx l.length 0 lo)
theorem cutG_take {α : Type} {l : List α} {a : Nat} : cutG l none (some (a : Int)) = l.take a := by
  unfold cutG
  rw [HT.sIx_none, HT.sIx_nat]
  simp
theorem cutG_drop {α : Type} {l : List α} {a : Nat} : cutG l (some (a : Int)) none = l.drop a := by
  unfold cutG
  rw [HT.sIx_none, HT.sIx_nat]
  by_cases h : a ≤ l.length
  · rw [Nat.min_eq_left h]
    apply List.take_of_length_le
    rw [List.length_drop]; omega
  · rw [List.drop_of_length_le (by omega : l.length ≤ min a l.length), List.drop_of_length_le (by omega : l.length ≤ a)]; simp
theorem paired_drop {α β : Type} {R : α → β → Prop} : ∀ {xs : List α} {ys : List β} (n : Nat), Paired R xs ys → Paired R (xs.drop n) (ys.drop n)
  | _, _, 0, h => h
  | _, _, n + 1, .nil => .nil
  | _, _, n + 1, .cons _ t => paired_drop n t
theorem paired_take {α β : Type} {R : α → β → Prop} : ∀ {xs : List α} {ys : List β} (n : Nat), Paired R xs ys → Paired R (xs.take n) (ys.take n)
  | _, _, 0, _ => .nil
  | _, _, n + 1, .nil => .nil
  | _, _, n + 1, .cons a t => .cons a (paired_take n t)
theorem evn_slM {α : Type} {R : α → MP} {xs : List α} {lo hi : Option Int} {tl th : TO} (h : Ev ta Γ M (PLi K (xs.map R)) M1) (h1 : EvP tl Γ M1 lo) (h2 : EvP th Γ M1 hi) : EvN (tSl (rSlL K) ta tl th) Γ M (ML ((cutG xs lo hi).map R)) M1 := fun E F σ H a b Q k =>
  h E F σ H a b _ fun v F1 H1 e1 g1 p1 => h1 E F1 σ H1 g1 (b.mono e1) _ fun F2 H2 e2 g2 => h2 E F2 σ H2 g2 (b.mono (e1.trans e2)) _ fun F3 H3 e3 g3 => by
    obtain ⟨p, vs, rfl, s, qq⟩ := (PLi K (xs.map R)).mono (e2.trans e3) p1
    refine ⟨p, vs, rfl, Evl.ex_l g3.ex s, fun r hr => ?_⟩
    refine k r F3 _ (g3.fresh hr) ((e1.trans e2).trans e3) (g3.new hr ⟨cutV vs lo hi, rfl, ?_⟩)
    have hl : vs.length = xs.length := by have := paired_len qq; rwa [List.length_map] at this
    unfold cutV cutG
    rw [hl, List.map_take, List.map_drop]
    exact paired_take _ (paired_drop _ qq)
end
end Hq
namespace Hq
open PySem L2
section
variable {K : PySem.W.Frag} {E : Ent} {F H : Hp} {M M1 M2 : Ms} {Γ : Gm} {P P1 : MP} {O : MO} {q : Addr} {te ta tb tl tk : TE} {tr : TA} {D1 : Ends} {tu tz : TS} {t u : TT} {ps qs : List MP} {i j v : Nat} {l : List Int} {b : Bool}
theorem ea_starL (h : Ev te Γ M (PLi K qs) M1) (hr : EvA tr Γ M1 ps M2) : EvA (StX.tStar K te tr) Γ M (qs ++ ps) M2 := fun E F σ H a b Q k =>
  h E F σ H a b _ fun x F1 H1 e1 a1 ⟨p, vs, ex, s, q⟩ => ⟨p, vs, ex, .inr (Evl.ex_l a1.ex s), hr E F1 σ H1 a1 (b.mono e1) _ fun ws F2 H2 e2 a2 p2 => k _ F2 H2 (e1.trans e2) a2 (paired_app (q.mono e2) p2)⟩
end
end Hq
namespace Hq
open PySem L2
section
variable {K : PySem.W.Frag} {E : Ent} {F H : Hp} {M M1 M2 : Ms} {Γ : Gm} {P P1 : MP} {O : MO} {q : Addr} {te ta tb tl tk : TE} {tr : TA} {D1 : Ends} {tu tz : TS} {t u : TT} {ps qs : List MP} {i j v : Nat} {l : List Int} {b : Bool}
/-- sorted(set(xs)), as something that stands -/
theorem ev_sorts {w : World} {ns : List Int} (h : Ev te Γ M (PLi K (ns.map fun n => D K (.int n))) M1) (hn : ns.length < 63) :
    Ev (tCB (rSortedSet w) (tCons (tCB (rSetI K w) (tCons te tNil)) tNil)) Γ M (PEx fun ns' : List Int => PAn (ns'.Pairwise (· < ·) ∧ ∀ k, k ∈ ns' ↔ k ∈ ns) (PLi K (ns'.map fun n => D K (.int n)))) M1 :=
  (ev_fr (evn_sortedSet h pli_ints hn)).weak (MP.le_trans fr_X (PEx.le fun _ => MP.le_trans fr_A (PAn.le fun _ => fr_L (K := K))))
end
end Hq
namespace Hq
open PySem L2
/-! ### min(xs) of tuples of ints: where the first is a least one -/
section
variable {K : PySem.W.Frag} {E : Ent} {F H : Hp} {M M1 M2 : Ms} {Γ : Gm} {P : MP} {O : MO} {q : Addr} {te ta tb tl tl1 : TE} {tr : TA} {D1 : Ends} {tu tz : TS} {t t0 u : TT} {ps : List MP} {i j : Nat}
/-! ### a comprehension with two generators -/
theorem ev_str {x : Str} : Ev (tC (.str x)) Γ M (D K (.str x)) M := ev_cv fun _ => .str x
end
end Hq
namespace Hq
open PySem L2
/-! ### objects with all their fields known, and their methods -/
/-! zip -/
end Hq
namespace Hq
open PySem L2
/-! ### a comprehension with two generators, the inner list by the outer item; comprehensions over zip -/
/-! a dict by a comprehension, kept under a name -/
end Hq
set_option maxHeartbeats 4000000
namespace Hq
open PySem PySem.Spec PyProof.Rows L2
/-! ### tuple * int, any -/
/-! ### a, b = a list of that length -/
def gLst (K : PySem.W.Frag) (n : Nat) (t : TGs) : TG := fun v σ H Q => ∃ a xs, v = .ref a ∧ SqL K H a xs ∧ xs.length = n ∧ t xs σ H Q
theorem pg_lst {X : Cx} {es : List Expr} {k : Nat} {pos : Pos} {t : TGs} {n : Nat} (hc : X.calm = true) (h : PGs X es t)
    (hn : (assignEach es X.env).length = n := by rfl) (hst : (assignEach es X.env).findIdx? (·.1) = none := by rfl) : PG X (.Tuple es k pos) (gLst X.K n t) := by
  refine ⟨fun pins s σ H v u Q I r hw => ?_⟩
  obtain ⟨a, xs, e1, hq, hl, hw⟩ := hw
  subst e1
  cases r
  obtain ⟨its, rv, ht, hz⟩ := I.list hq
  rw [assign_Tuple]
  refine wpAny_bind (wpAny_standAt ?_)
  unfold unpack
  rw [hst, show (assignEach es X.env).length = its.toArray.size by simp [hn, ← hl, rv.length]]
  refine wpAny_bind (wpAny_holding (PySem.W.kun_itemsOf (I.ok.hd hc) (by obtain ⟨o, n, h1, h2, _, h3⟩ := ht; exact ⟨o, h1, h2, n, h3⟩) fun h' hx => ?_))
  have I1 : Inv X pins σ H { s with heap := h' } := I.kept (t' := s.toks) fun b o e => hx b o (Nat.ne_of_lt (Heap.lt_size e)) e
  exact h.run pins _ σ H xs _ Q I1 (by simpa using rv) hw
theorem pg_lstK {X : Cx} {K : PySem.W.Frag} {es : List Expr} {k : Nat} {pos : Pos} {t : TGs} {n : Nat} (eK : X.K = K) (hc : X.calm = true) (h : PGs X es t)
    (hn : (assignEach es X.env).length = n := by rfl) (hst : (assignEach es X.env).findIdx? (·.1) = none := by rfl) : PG X (.Tuple es k pos) (gLst K n t) := eK ▸ pg_lst hc h hn hst
section
variable {K : PySem.W.Frag} {E : Ent} {M M1 : Ms} {Γ : Gm} {D1 : Ends} {tz : TS} {te : TE} {i j : Nat}
theorem q_unpL2 {R1 R2 : MP} (h : Ev te Γ M (PLi K [R1, R2]) M1) (k : Nx E ((Γ.set i (some R1)).set j (some R2)) M1 (tz D1)) :
    Nx E Γ M (tSeq (tAsg te (gLst K 2 (gCons (gName i) (gCons (gName j) gNil)))) tz D1) := fun σ H ⟨F, a, b⟩ => h E F σ H a b _ fun v F1 H1 e1 g1 ⟨p, vs, ev, s, q⟩ => by
  obtain ⟨y, z, rfl, hy, hz⟩ := ps2 q
  exact ⟨p, [y, z], ev, Evl.ex_l g1.ex s, rfl, y, [z], rfl, z, [], rfl, rfl, k _ _ ⟨F1, g1, ((b.mono e1).set i hy).set j hz⟩⟩
theorem rv_eqX {lo hi c : Int} : RV rEq (PIn K lo hi) (D K (.int c)) M (PEx fun b : Bool => PAn True (D K (.bool b))) M := RV.ex1 fun x => RV.an1 fun _ => rv_eqI.weak (MP.le_trans (PAn.in trivial) (PEx.in (R := fun b : Bool => PAn True (D K (.bool b))) _))
end
end Hq
namespace Hq
open PySem L2
section
variable {K : PySem.W.Frag} {E : Ent} {F H : Hp} {M M1 M2 : Ms} {Γ : Gm} {P P1 : MP} {O : MO} {q : Addr} {te ta tb tl tk : TE} {tr : TA} {D1 : Ends} {tu tz : TS} {t u : TT} {ps : List MP} {i j : Nat} {l : List Int}
/-! ### comprehensions with a drawn test -/
theorem lc_turnX {Γ2 : Gm} {σ2 : St} {D2 : Addr} {ps : List MP} {B : Bool → Prop} {F1 H1 : Hp} (g1 : Pt E F1 ((D2, ML ps) :: M) H1) (bo : EnvOk F1 σ2 Γ2) (ht : EvT t Γ2 M B M) (he : B true → Ev te Γ2 M P M) (hz : ps.length < 100000) (Nxt : Hp → Prop)
    (hN : ∀ b F2 H2, B b → Ex F1 F2 → Pt E F2 ((D2, ML (if b = true then ps ++ [P] else ps)) :: M) H2 → Nxt H2) : t σ2 H1 fun c H3 => if c = true then te σ2 H3 fun y H4 => ∃ acc, H4 D2 = some (.lst acc) ∧ acc.length < sizeLine ∧ Nxt (upd H4 D2 (.lst (acc ++ [y]))) else Nxt H3 := by
  have gM : Pt ⟨F1, H1, keys M⟩ F1 M H1 := Pt.start (g1.drop (List.sublist_cons_self _ _)).wd
  have nk : D2 ∉ keys M := (List.nodup_cons.mp (show (D2 :: keys M).Nodup from g1.wd.nd)).1
  obtain ⟨fD, o, hD, ws, rfl, s⟩ := g1.at (j := 0) rfl
  have up : ∀ {F' H'}, Pt ⟨F1, H1, keys M⟩ F' M H' → Pt E F' ((D2, ML ps) :: M) H' := fun {F' H'} g => by
    have hh : F' D2 = none := g.gr.off D2 fD (show H1 D2 ≠ none by rw [hD]; exact fun z => by cases z) (fun xs z => by have z : H1 D2 = some (HO.tup xs) := z; rw [hD] at z; cases z)
    have hd : H' D2 = some (.lst ws) := g.gr.keep D2 _ nk hD
    have big : Pt ⟨F1, H1, keys ((D2, ML ps) :: M)⟩ F' ((D2, ML ps) :: M) H' := by
      refine ⟨⟨g.gr.ex, fun a u h1 h2 => g.gr.keep a u (fun z => h1 (List.mem_cons_of_mem _ z)) h2, g.gr.off, g.gr.stay, g.gr.nott⟩, ⟨g.wd.ex, List.nodup_cons.mpr ⟨nk, g.wd.nd⟩, fun r hr => ?_⟩, fun r hr => ?_⟩
      · rcases List.mem_cons.mp hr with e | hm
        · subst e; exact ⟨hh, _, hd, ws, rfl, s.mono g.gr.ex⟩
        · exact g.wd.own r hm
      · rcases List.mem_cons.mp hr with e | hm
        · subst e; exact .inl List.mem_cons_self
        · rcases g.fr r hm with z | z
          · exact .inl (List.mem_cons_of_mem _ z)
          · exact .inr z
    exact g1.back big
  refine ht _ F1 σ2 H1 gM bo _ fun c F3 H3 e3 g3 hc => ?_
  cases c with
  | true =>
    refine he hc _ F3 σ2 H3 g3 (bo.mono e3) _ fun y F4 H4 e4 g4 p4 => ?_
    have g5 := up g4
    obtain ⟨_, o5, h5, ws5, rfl, s5⟩ := g5.at (j := 0) rfl
    refine ⟨ws5, h5, sz_lt (by rw [paired_len s5]; exact hz), ?_⟩
    exact hN true F4 _ hc (e3.trans e4) (g5.mut (j := 0) (O' := ML (ps ++ [P])) rfl ⟨_, rfl, paired_app s5 (.cons p4 .nil)⟩)
  | false => exact hN false F3 _ hc e3 (up g3)
theorem evn_lcRD {z : Int} {G : Nat → MP} (h : EvA tr Γ M [D K (.int z)] M1) (hz : z ≤ 50000 ∧ -50000 ≤ z)
    (ht : ∀ x : Nat, (x : Int) < z → EvT t ((Γ.set i none).set i (some (D K (.int x)))) M1 (fun _ => True) M1) (he : ∀ x : Nat, (x : Int) < z → Ev te ((Γ.set i none).set i (some (D K (.int x)))) M1 (G x) M1) :
    EvN (tLc (iRng1 tr) (gName i) t te [i]) Γ M (MX fun L : List Nat => MA (L.Sublist (List.range z.toNat)) (ML (L.map G))) M1 := fun E F σ H a b Q k => h E F σ H a b _ fun vs F1 H1 e1 g1 p => by
  obtain ⟨v, rfl, hv⟩ := ps1 p
  cases dp_int hv
  refine ⟨z, rfl, by omega, by omega, fun D2 hD => ?_⟩
  have gn : Pt ⟨F1, H1, keys M1⟩ F1 ((D2, ML []) :: M1) (upd H1 D2 (.lst [])) := g1.enter.new hD ⟨[], rfl, .nil⟩
  refine lc_range (lo := 0) (n := z.toNat) (fun n H' => ∃ F' L, L.Sublist (List.range n) ∧ Pt ⟨F1, H1, keys M1⟩ F' ((D2, ML (L.map G)) :: M1) H') ⟨F1, [], List.nil_sublist _, gn⟩ (fun n H2 hn ⟨F2, L, hL, g2⟩ => ⟨wipe_one, ?_⟩) (fun H2 ⟨F2, L, hL, g2⟩ => ?_)
  · have e0 : (0 : Int) + (n : Int) = (n : Int) := Int.zero_add _
    rw [e0]
    have hn2 : (n : Int) < z := by omega
    have hl := hL.length_le
    rw [List.length_range] at hl
    refine lc_turnX g2 ((env_wipe (b.mono (e1.trans g2.gr.ex))).set i (P := D K (.int n)) (.int _)) (ht n hn2) (fun _ => he n hn2) (by rw [List.length_map]; omega) _ fun b F3 H3 _ e3 g3 => ?_
    cases b with
    | true => exact ⟨F3, L ++ [n], by rw [List.range_succ]; exact hL.append (List.Sublist.refl _), by rw [List.map_append]; exact g3⟩
    | false => exact ⟨F3, L, by rw [List.range_succ]; exact hL.trans (List.sublist_append_left _ _), g3⟩
  · exact k D2 F2 H2 (g1.fresh hD) (e1.trans g2.gr.ex) ((g1.back g2).to (j := 0) (O' := MX fun L : List Nat => MA (L.Sublist (List.range z.toNat)) (ML (L.map G))) (fun F o p => ⟨L, hL, p⟩) rfl)
/-! xs[::-1] -/
end
end Hq
namespace Hq
open PySem L2
def MAny : MO := ⟨fun _ o => ∀ xs, o ≠ .tup xs, fun _ h => h, fun h => h⟩
/-- what is wanted if an exception of the class at C leaves -/
def RtE (E : Ent) (M : Ms) (C : Addr) (X : XK) : Prop := ∀ F H, Pt E F M H → X (.ref C) none H
section
variable {K : PySem.W.Frag} {E E0 : Ent} {F H : Hp} {M M1 M2 M' : Ms} {Γ : Gm} {P P1 : MP} {O O' : MO} {q : Addr} {te ta tb tl tk : TE} {tr : TA} {D1 : Ends} {tu tz : TS} {t u : TT} {ps : List MP} {i j : Nat} {C Cx : Addr} {X : XK} {sp : Sp}
theorem RtE.drop (s : List.Sublist M M') (h : RtE E M C X) : RtE E M' C X := fun F H a => h F H (a.drop s)
theorem RtE.le (l : Le E E0) (h : RtE E0 M C X) : RtE E M C X := fun F H a => h F H (l.to _ _ _ a)
theorem RtE.any (h : RtE E [(q, MAny)] C X) (e : M[j]? = some (q, O)) : RtE E M C X := fun F H a => by
  have s : List.Sublist [(q, O)] M := List.singleton_sublist.mpr (List.mem_of_getElem? e)
  exact h F H ((a.drop s).to (j := 0) (O' := MAny) (fun _ _ h => O.nt h) rfl)
theorem go_raise (k : RtE E M C X) : Nx E Γ M (fun σ H => X (.ref C) none H) := fun σ H ⟨F, a, b⟩ => k F H a
/-- f(..) as a statement, f may raise -/
theorem q_callB {ok : Bool} (h : EvA tr Γ M ps M1) (hs : ∀ vs H Q X, (∃ F, Wd F [] H ∧ Ps F vs ps ∧ (ok = true → Rt ⟨F, H, keys []⟩ [] P Q) ∧ (ok = false → RtE ⟨F, H, keys []⟩ [] Cx X)) → sp vs H Q X)
    (k1 : ok = true → Nx E Γ M1 D1.nx) (k2 : ok = false → RtE E M1 Cx X) : Nx E Γ M (tDrop (tCall sp [] X tr) D1) := fun σ H ⟨F, a, b⟩ => h E F σ H a b _ fun vs F1 H1 e1 a1 p1 => by
  show sp (vs ++ []) H1 _ X
  rw [List.append_nil]
  have w : Wd F1 [] H1 := ⟨a1.wd.ex, List.nodup_nil, fun r hr => by cases hr⟩
  have fr : ∀ {F' H'}, Pt ⟨F1, H1, keys []⟩ F' [] H' → Pt E F' M1 H' := fun g => a1.frame g (fun z hz => by cases hz) rfl fun r hr => .inl ⟨fun z => (by cases z), hr⟩
  exact hs vs H1 _ X ⟨F1, w, p1, fun e v F' H' g hv => k1 e σ H' ⟨F', fr g, b.mono (e1.trans g.gr.ex)⟩, fun e F' H' g => k2 e F' H' (fr g)⟩
/-- try: return C(..) except X: return None -/
theorem try_no {c : Value} {Wout : WX} (he : PySem.W.exmOne K (.ref Cx) c = some true) (l : Le E E0) (k : Rt E0 M (D K .none) D1.rt) : RtE E M Cx (fun cls d H => ∀ σ, wOnly K c (fun _ _ _ => tRet (tC .non)) Wout D1 cls d σ H) := fun F H a σ => ⟨true, he, fun _ _ _ => k .non F H (l.to _ _ _ a) .non, fun z => by cases z⟩
theorem exm_self {S : Addr} (h1 : PySem.W.subIn K (.ref S) (.type "BaseException") = some true) (h2 : PySem.W.isClsIn K S = true) (h3 : PySem.W.typeIn K (.ref S) = some (.type "type")) (h4 : PySem.W.subIn K (.ref S) (.ref S) = some true) :
    PySem.W.exmOne K (.ref S) (.ref S) = some true := by
  have e1 : (PySem.W.subIn K (.ref S) (.type "BaseException") == some true) = true := by rw [h1] <;> rfl
  have e2 : ((PySem.W.clsIn K S).isSome && PySem.W.typeIn K (.ref S) == some (.type "type")) = true := by
    have h2' : (PySem.W.clsIn K S).isSome = true := h2
    rw [h2', h3] <;> rfl
  show (if (PySem.W.subIn K (.ref S) (.type "BaseException") == some true) = true then (if ((PySem.W.clsIn K S).isSome && PySem.W.typeIn K (.ref S) == some (.type "type")) = true then PySem.W.subIn K (.ref S) (.ref S) else none) else none) = some true
  rw [if_pos e1, if_pos e2]
  exact h4
end
end Hq
namespace Hq
open PySem L2
end Hq
namespace Hq
open PySem L2
section
variable {K : PySem.W.Frag} {E E0 : Ent} {F H : Hp} {M M1 M2 M' : Ms} {Γ : Gm} {P P1 : MP} {O O' : MO} {q : Addr} {te ta tb tl tk : TE} {tr : TA} {D1 : Ends} {tu tz : TS} {t u : TT} {ps : List MP} {i j : Nat} {C Cx : Addr} {X : XK} {sp : Sp} {f m : Str} {fps : List (Str × MP)}
/-- a comprehension over an own list -/
theorem evn_lcO {α : Type} {xs : List α} {R G : α → MP} {f : α → Bool} (h : Ev tl Γ M (Own q) M) (e : M[j]? = some (q, ML (xs.map R))) (hz : xs.length ≤ 50000)
    (ht : ∀ x ∈ xs, EvT t ((Γ.set i none).set i (some (R x))) (M.eraseIdx j) (· = f x) (M.eraseIdx j)) (he : ∀ x ∈ xs, f x = true → Ev te ((Γ.set i none).set i (some (R x))) (M.eraseIdx j) (G x) (M.eraseIdx j)) :
    EvN (tLc (iList K tl) (gName i) t te [i]) Γ M (ML ((xs.filter f).map G)) M := fun E F σ H a b Q k => h E F σ H a b _ fun v F1 H1 e1 g1 p1 => by
  have p1 : v = .ref q := p1
  subst p1
  obtain ⟨fq, o, ho, vs, rfl, qq⟩ := g1.at e
  have nd := g1.wd.nd
  have sub : List.Sublist (M.eraseIdx j) M := List.eraseIdx_sublist _ _
  have nq : q ∉ keys (M.eraseIdx j) := by
    have key : ∀ {M : Ms} {j : Nat} {O : MO}, (keys M).Nodup → M[j]? = some (q, O) → q ∉ keys (M.eraseIdx j) := by
      intro M
      induction M with
      | nil => intro j O _ h; simp at h
      | cons m M ih =>
        intro j O nd e hm
        have nd' := List.nodup_cons.mp (show (m.1 :: keys M).Nodup from nd)
        cases j with
        | zero =>
          have e1 : m = (q, O) := Option.some.inj e
          subst e1
          exact nd'.1 hm
        | succ j =>
          have e1 : M[j]? = some (q, O) := e
          rcases List.mem_cons.mp (show q ∈ m.1 :: keys (M.eraseIdx j) from hm) with z | z
          · exact nd'.1 (by rw [← z]; exact List.mem_map_of_mem (f := (·.1)) (List.mem_of_getElem? e1))
          · exact ih nd'.2 e1 z
    exact key nd e
  have mem : ∀ r ∈ M, r.1 = q ∨ r ∈ M.eraseIdx j := by
    have key : ∀ {M : Ms} {j : Nat} {O : MO}, M[j]? = some (q, O) → ∀ r ∈ M, r.1 = q ∨ r ∈ M.eraseIdx j := by
      intro M
      induction M with
      | nil => intro j O h; simp at h
      | cons m M ih =>
        intro j O e r hr
        cases j with
        | zero =>
          have e1 : m = (q, O) := Option.some.inj e
          subst e1
          rcases List.mem_cons.mp hr with z | z
          · rw [z]; exact .inl rfl
          · exact .inr z
        | succ j =>
          have e1 : M[j]? = some (q, O) := e
          rcases List.mem_cons.mp hr with z | z
          · rw [z]; exact .inr List.mem_cons_self
          · rcases ih e1 r z with y | y
            · exact .inl y
            · exact .inr (List.mem_cons_of_mem _ y)
    exact key e
  have ga : Pt E F1 (M.eraseIdx j) H1 := g1.drop sub
  refine ⟨q, rfl, ⟨vs, SqL.of ho⟩, fun D2 hD => ?_⟩
  have gn : Pt ⟨F1, H1, keys (M.eraseIdx j)⟩ F1 ((D2, ML []) :: M.eraseIdx j) (upd H1 D2 (.lst [])) := ga.enter.new hD ⟨[], rfl, .nil⟩
  refine lc_list (xs := vs) (fun n H' => ∃ F', Pt ⟨F1, H1, keys (M.eraseIdx j)⟩ F' ((D2, ML (((xs.take n).filter f).map G)) :: M.eraseIdx j) H') ⟨F1, gn⟩ (fun n H2 _ ⟨F2, g2⟩ => SqL.of (g2.gr.keep q _ nq ho)) (fun n x H2 hx ⟨F2, g2⟩ => ⟨wipe_one, ?_⟩) (fun H2 ⟨F2, g2⟩ => ?_)
  · obtain ⟨P, hP, hx2⟩ := paired_get' qq hx
    rw [List.getElem?_map] at hP
    cases hy : xs[n]? with
    | none => rw [hy] at hP; cases hP
    | some y =>
      rw [hy] at hP
      have hP : R y = P := Option.some.inj hP
      subst hP
      have hm := List.mem_of_getElem? hy
      refine lc_turn g2 ((env_wipe (b.mono (e1.trans g2.gr.ex))).set i ((R y).mono g2.gr.ex hx2)) (ht y hm) (he y hm) ?_ _ fun F3 H3 e3 g3 => ⟨F3, ?_⟩
      · rw [List.length_map]
        exact Nat.lt_of_le_of_lt (Nat.le_trans (List.length_filter_le _ _) (by rw [List.length_take]; omega)) (by omega : xs.length < 100000)
      · rw [take_filter xs f n y hy, List.map_append]
        cases hf : f y
        · rw [hf] at g3; simpa using g3
        · rw [hf] at g3; simpa using g3
  · rw [paired_len qq, List.length_map, List.take_length] at g2
    refine k D2 F2 H2 (g1.fresh hD) (e1.trans g2.gr.ex) (g1.frameN hD g2 (fun z hz => ?_) rfl fun r hr => ?_)
    · exact (sub.map _).subset hz
    · rcases mem r hr with z | z
      · exact .inl ⟨by rw [z]; exact nq, hr⟩
      · exact .inr z
end
end Hq
namespace Hq
open PySem L2
end Hq
namespace L2
open PySem PySem.Spec PyProof.Rows
end L2
namespace Hq
open PySem L2
end Hq
namespace Hq
open PySem L2
end Hq
namespace L2
open PySem PySem.Spec PyProof.Rows
end L2
namespace L2
open PySem PySem.Spec PyProof.Rows
end L2
namespace Hq
open PySem L2
end Hq
namespace Hq
open PySem L2
end Hq
namespace L2
open PySem PySem.Spec PyProof.Rows
end L2
namespace Hq
open PySem L2
end Hq
/-! ### zip of a list and a tuple -/
namespace HqA
open PySem PySem.Spec PyProof.Rows L2
theorem sep {I a b : Addr} (ha : a < I) (hb : b < I) : ZipSep2 (I + 4) (I + 2) (I + 3) I (I + 1) [I, a] [I + 1, b] := by
  have ha : @LT.lt Nat _ a I := ha
  have hb : @LT.lt Nat _ b I := hb
  constructor <;> first
    | exact List.mem_cons_self
    | (intro e; have e : ((_ : Nat) = _) := e; omega)
    | (intro h
       rcases List.mem_cons.mp h with e | h
       · have e : ((_ : Nat) = _) := e
         omega
       · have e : ((_ : Nat) = _) := List.mem_singleton.mp h
         omega)
end HqA
namespace Hq
open PySem L2 HqA
end Hq
/-! ### dicts with tuple keys, values of any kind -/
namespace Hq
open PySem L2
end Hq
/-! ### dicts whose keys are tuples of ints and tuples, nested -/
namespace L2
open PySem PySem.Spec PyProof.Rows
mutual
/-- the value is such a key -/
inductive NV (H : Hp) : V → NestedKey → Prop
  | int (i : Int) : NV H (.int i) (.num i)
  | bl (b : Bool) : NV H (.bl b) (.num (if b = true then 1 else 0))
  | non : NV H .non .none
  | tup {b : Addr} {vs : List V} {ks : List NestedKey} : H b = some (.tup vs) → NVs H vs ks → NV H (.ref b) (.tup ks)
inductive NVs (H : Hp) : List V → List NestedKey → Prop
  | nil : NVs H [] []
  | cons {v : V} {k : NestedKey} {vs : List V} {ks : List NestedKey} : NV H v k → NVs H vs ks → NVs H (v :: vs) (k :: ks)
end
mutual
theorem NV.mono {H H' : Hp} (e : ∀ b xs, H b = some (.tup xs) → H' b = some (.tup xs)) : ∀ (k : NestedKey) (v : V), NV H v k → NV H' v k
  | .none, _, h => by cases h; exact .non
  | .num i, _, h => by
    cases h with
    | int => exact .int i
    | bl b => exact .bl b
  | .text _, _, h => by cases h
  | .tup ks, _, h => by
    cases h with
    | tup h1 h2 => exact .tup (e _ _ h1) (NVs.mono e ks _ h2)
theorem NVs.mono {H H' : Hp} (e : ∀ b xs, H b = some (.tup xs) → H' b = some (.tup xs)) : ∀ (ks : List NestedKey) (vs : List V), NVs H vs ks → NVs H' vs ks
  | [], _, h => by cases h; exact .nil
  | k :: ks, _, h => by
    cases h with
    | cons h1 h2 => exact .cons (NV.mono e k _ h1) (NVs.mono e ks _ h2)
end
section
variable {P : Program} {w : World} {H : Hp} {h : Heap}
mutual
theorem NV.is (ok : HOk P w H h) : ∀ (k : NestedKey) (v : V) (u : Value), NV H v k → RelV v u → NestedIs h k u
  | .none, _, u, n, r => by
    cases n
    have r : u = Value.none := r
    subst r; exact .none
  | .num i, _, u, n, r => by
    cases n with
    | int => obtain ⟨t, rfl⟩ := (show ∃ t, u = Value.int i t from r); exact .int i t
    | bl b => have r : u = Value.bool b := r; subst r; exact .bool rfl
  | .text _, _, _, n, _ => by cases n
  | .tup ks, _, u, n, r => by
    cases n with
    | @tup b vs _ h1 h2 =>
      have r : u = Value.ref b := r
      subst r
      obtain ⟨_, its, r2, o, e1, e2, m, e3⟩ := (show ObjOk P w H h b (.tup vs) from ok b _ h1)
      exact .tup e1 e2 e3 (by simpa using NVs.is ok ks vs its h2 r2)
theorem NVs.is (ok : HOk P w H h) : ∀ (ks : List NestedKey) (vs : List V) (us : List Value), NVs H vs ks → Vals vs us → NestedAll h ks us
  | [], _, us, n, r => by cases n; cases r; exact .nil
  | k :: ks, _, us, n, r => by
    cases n with
    | cons n1 n2 =>
      cases r with
      | cons r1 r2 => exact .cons (NV.is ok k _ _ n1 r1) (NVs.is ok ks _ _ n2 r2)
end
end
/-! the terms -/
end L2
namespace Hq
open PySem L2
end Hq
/-! ### sorted lists of lists; try .. except X as e; an object against an int; C(.., an own list) -/
namespace Hq
open PySem L2
section
variable {K : PySem.W.Frag} {E E0 : Ent} {F H : Hp} {M M1 M2 M' : Ms} {Γ : Gm} {P P1 : MP} {O O' O2 : MO} {q : Addr} {te ta tb tl tk tv td tx : TE} {tr : TA} {D1 : Ends} {tu tz : TS} {t u : TT} {ps : List MP} {i j : Nat} {C Cx : Addr} {X : XK} {sp : Sp}
/-! C(.., an own list) -/
theorem one_entry : ∀ {L : Ms}, (keys L).Nodup → ∀ r ∈ L, ∀ s ∈ L, r.1 = s.1 → r = s := by
  intro L
  induction L with
  | nil => intro _ r hr; cases hr
  | cons m L ih =>
    intro nd r hr s hs e
    have nd' := List.nodup_cons.mp (show (m.1 :: keys L).Nodup from nd)
    rcases List.mem_cons.mp hr with e1 | hr <;> rcases List.mem_cons.mp hs with e2 | hs
    · rw [e1, e2]
    · exact absurd (show m.1 ∈ keys L by rw [← e1, e]; exact List.mem_map_of_mem (f := (·.1)) hs) nd'.1
    · exact absurd (show m.1 ∈ keys L by rw [← e2, ← e]; exact List.mem_map_of_mem (f := (·.1)) hr) nd'.1
    · exact ih nd'.2 r hr s hs e
theorem make_pre {x dx : Addr} {F1 H1 : Hp} (g1 : Pt E F1 M1 H1) (hx : H1 x = none) (hdx : H1 dx = none) (hne : x ≠ dx) (e : M1[j]? = some (q, O2)) :
    Pt E F1 ((x, MIns C 0 []) :: M1) (upd (upd H1 dx (.own x)) x (.ins C dx [])) ∧ Wd F1 [(x, MIns C 0 []), (q, O2)] (upd (upd H1 dx (.own x)) x (.ins C dx [])) ∧ x ≠ q := by
  have hx2 : upd H1 dx (.own x) x = none := by rw [upd_ne hne]; exact hx
  have g2 : Pt E F1 ((x, MIns C 0 []) :: M1) (upd (upd H1 dx (.own x)) x (.ins C dx [])) := (g1.junk hdx).new hx2 ⟨dx, [], rfl, Nat.le_refl _, fun f hf => by cases hf⟩
  have hm := List.mem_of_getElem? e
  have nq : x ≠ q := fun z => (List.nodup_cons.mp (show (x :: keys M1).Nodup from g2.wd.nd)).1 (by rw [z]; exact List.mem_map_of_mem (f := (·.1)) hm)
  refine ⟨g2, ⟨g2.ex, by simp [keys, nq], fun r hr => ?_⟩, nq⟩
  rcases List.mem_cons.mp hr with z | z
  · rw [z]; exact g2.wd.own _ List.mem_cons_self
  · rw [List.mem_singleton.mp z]; exact g2.wd.own _ (List.mem_cons_of_mem _ hm)
theorem make_post {x : Addr} {F1 H2 F' H' : Hp} (g2 : Pt E F1 ((x, MIns C 0 []) :: M1) H2) (nq : x ≠ q) (e : M1[j]? = some (q, O2)) (g : Pt ⟨F1, H2, keys [(x, MIns C 0 []), (q, O2)]⟩ F' [(x, O), (q, O2)] H') : Pt E F' ((x, O) :: M1) H' := by
  have hm := List.mem_of_getElem? e
  refine g2.frame g (fun z hz => ?_) rfl fun r hr => ?_
  · rcases List.mem_cons.mp hz with z' | z'
    · rw [z']; exact List.mem_cons_self
    · rw [List.mem_singleton.mp z']; exact List.mem_cons_of_mem _ (List.mem_map_of_mem (f := (·.1)) hm)
  · rcases List.mem_cons.mp hr with z | z
    · rw [z]; exact .inr List.mem_cons_self
    · by_cases c : r.1 = q
      · have nd := (List.nodup_cons.mp (show (x :: keys M1).Nodup from g2.wd.nd)).2
        have := one_entry nd r z (q, O2) hm c
        rw [this]; exact .inr (List.mem_cons_of_mem _ List.mem_cons_self)
      · refine .inl ⟨fun w => ?_, List.mem_cons_of_mem _ z⟩
        rcases List.mem_cons.mp w with w | w
        · exact (List.nodup_cons.mp (show (x :: keys M1).Nodup from g2.wd.nd)).1 (by rw [show x = r.1 from w.symm]; exact List.mem_map_of_mem (f := (·.1)) z)
        · exact c (List.mem_singleton.mp w)
theorem make1 (h : EvA tr Γ M ps M1) (e : M1[j]? = some (q, O2)) (hs : ∀ x vs H Q, Prom (Own x :: ps) [(x, MIns C 0 []), (q, O2)] (D K .none) [(x, O), (q, O2)] vs H Q → sp vs H Q X) : EvN (tMake C sp [] X tr) Γ M O M1 := fun E F σ H a b Q k =>
  h E F σ H a b _ fun vs F1 H1 e1 g1 p1 => fun x dx hx hdx hne => by
    obtain ⟨g2, w2, nq⟩ := make_pre (C := C) g1 hx hdx hne.symm e
    show sp (V.ref x :: (vs ++ [])) _ _ X
    rw [List.append_nil]
    exact hs x (.ref x :: vs) _ _ ⟨F1, w2, .cons rfl p1, fun v F' H' g hv => ⟨dp_non hv, k x F' H' (g1.fresh hx) (e1.trans g.gr.ex) (make_post g2 nq e g)⟩⟩
theorem RtE.any0 {x : Addr} (h : RtE E ((x, MAny) :: M) C X) : RtE E ((x, O) :: M) C X := fun F H a => h F H (a.to (j := 0) (O' := MAny) (fun _ _ h => O.nt h) rfl)
end
end Hq
namespace L2
open PySem PySem.Spec PyProof.Rows
end L2
namespace L2
open PySem PySem.Spec PyProof.Rows
end L2
namespace Hq
open PySem L2
end Hq
namespace L2
open PySem PySem.Spec PyProof.Rows
end L2
namespace L2
open PySem PySem.Spec PyProof.Rows
section
variable {X : Cx}
/-- + of two lists that are read -/
def rCatL (K : PySem.W.Frag) : R2 := fun x y H Q => ∃ l b xs zs, x = .ref l ∧ y = .ref b ∧ SqL K H l xs ∧ SqL K H b zs ∧ xs.length + zs.length ≤ sizeLine ∧ ∀ p, H p = none → Q (.ref p) (upd H p (.lst (xs ++ zs)))
theorem op_catL : OpR X (binaryOp .Add) (rCatL X.K) := by
  intro pins s σ H x y v u Q I rx ry h
  obtain ⟨l, b, xs, zs, rfl, rfl, hH, hB, hz, q⟩ := h
  cases rx
  cases ry
  obtain ⟨its, r, p1, z1⟩ := I.list hH
  obtain ⟨its2, r2, p2, z2⟩ := I.list hB
  have l1 := r.length
  have l2 := r2.length
  obtain ⟨⟨cls, dd, data, sl⟩, ho, hc, n, hd⟩ := p1.isList
  obtain ⟨⟨cls2, dd2, data2, sl2⟩, ho2, hc2, n2, hd2⟩ := p2.isList
  simp only at hc hd hc2 hd2
  subst hc hd hc2 hd2
  have ea : its.toArray ++ its2.toArray = (its ++ its2).toArray := by simp
  refine concat_meets ⟨_, ho, rfl⟩ ⟨_, ho2, rfl⟩ noFill_list_add seq_list_add PySem.F.slot_list_add PySem.F.entry_list_add (PySem.F.args_list_add_2 _ _) (list_addW l b its.toArray its2.toArray n n2 dd dd2 sl sl2 (by rw [List.size_toArray, List.size_toArray]; omega)) ⟨ho, ho2, ?_⟩
  rw [ea]
  exact ⟨.ref _, _, I.lnew (t' := s.toks) (r.append r2) (by rw [List.length_append]; omega), rfl, q _ I.fresh⟩
theorem c_catL {K : PySem.W.Frag} {Y : Cx} (e : Y.K = K) : OpR Y (binaryOp .Add) (rCatL K) := e ▸ op_catL
end
end L2
namespace Hq
open PySem L2
end Hq
namespace Hq
open PySem
end Hq
/-! ### dicts of ints to ints, list(range(..)), unpacking three, isinstance of an own object -/
namespace Hq
open PySem L2
section
variable {K : PySem.W.Frag} {E E0 : Ent} {F H : Hp} {M M1 M2 M' : Ms} {Γ : Gm} {P P1 : MP} {O O' : MO} {q : Addr} {te ta tb tl tk tv td : TE} {tr : TA} {D1 : Ends} {tu tz : TS} {t u : TT} {ps : List MP} {i j : Nat}
/-! the keys alone -/
/-! list(range(n)) -/
/-! a, b, c = e -/
theorem q_unp3 {α : Type} {φ : α → Prop} {R1 R2 R3 : α → MP} {l : Nat} (h : Ev te Γ M (PEx fun x => PAn (φ x) (PTu K [R1 x, R2 x, R3 x])) M1) (k : ∀ x, φ x → Nx E (((Γ.set i (some (R1 x))).set j (some (R2 x))).set l (some (R3 x))) M1 (tz D1)) :
    Nx E Γ M (tSeq (tAsg te (gTup K 3 (gCons (gName i) (gCons (gName j) (gCons (gName l) gNil))))) tz D1) := fun σ H ⟨F, a, b⟩ => h E F σ H a b _ fun v F1 H1 e1 g1 ⟨x, hx, p, vs, ev, s, q⟩ => by
  cases q with
  | @cons y _ _ _ hy q =>
    cases q with
    | @cons z _ _ _ hz q =>
      cases q with
      | @cons u _ _ _ hu q =>
        cases q
        exact ⟨p, [y, z, u], ev, Evl.ex_t g1.ex s, rfl, y, [z, u], rfl, z, [u], rfl, u, [], rfl, rfl, k x hx _ _ ⟨F1, g1, (((b.mono e1).set i hy).set j hz).set l hu⟩⟩
/-! isinstance(o, C) -/
end
end Hq
namespace Hq
open PySem L2
end Hq
/-! ### own lists of own lists: read by a call and owned after it -/
namespace Hq
open PySem L2
end Hq
/-! HqSa: the text of a number's bits. -/
namespace Hq
open PySem PyProof.Rows
open PySem.Builtin PySem.Builtin.Float
end Hq
set_option maxHeartbeats 1000000
/-! HqSb: enumerate(reversed(text)). -/
namespace Hq
open PySem PySem.Spec PyProof.Rows L2 RT
/-- reversed(text), the next place i -/
def IsRs (h : Heap) (a : Addr) (x : Str) (t : Tok) (i : Int) : Prop := ∃ o, h.get? a = some o ∧ o.cls = .type "reversed" ∧ o.data = .fields #[.str x t, rawInt i]
theorem IsRs.at {h h' : Heap} {a : Addr} {x : Str} {t : Tok} {i : Int} (k : IsRs h a x t i) (e : ∀ o, h.get? a = some o → h'.get? a = some o) : IsRs h' a x t i := let ⟨o, ho, r⟩ := k; ⟨o, e _ ho, r⟩
end Hq
/-! HqSc: the bits of a number by its text. -/
namespace Hq
open PySem PySem.Spec PyProof.Rows L2
end Hq
/-! HqSd: bits_of: the bits that are set in a number, in their order. -/
namespace Hq
open PySem PySem.Spec L2
end Hq
/-! ### tuple(range(n)) -/
namespace Hq
open PySem L2
section
variable {K : PySem.W.Frag} {E E0 : Ent} {F H : Hp} {M M1 M2 M' : Ms} {Γ : Gm} {P P1 : MP} {O O' : MO} {q : Addr} {te ta tb tl tk tv td : TE} {tr : TA} {D1 : Ends} {tu tz : TS} {t u : TT} {ps : List MP} {i j : Nat}
/-! a dict {t: x} whose key is read out of what is owned -/
/-! comprehensions over a tuple of ints that give ints -/
theorem ev_tupNg {xs : List Int} (h : EvN te Γ M (MInts K xs) M1) : Ev (tCB (rTuple K) (tCons te tNil)) Γ M (NT xs) M1 := ev_cb (ea_cons (ev_newL (K := K) h) ea_nil) rc_tupleNL
theorem ev_tupDg {xs : List Int} (h : EvN te Γ M (MInts K xs) M1) : Ev (tCB (rTuple K) (tCons te tNil)) Γ M (D K (dT xs)) M1 := (ev_tupNg h).weak nt_D
end
end Hq
/-! ### searches: dicts with tuple keys and values of any kind read by d[t], t not in d; tuple(reversed(xs)) -/
namespace Hq
open PySem L2 RT
end Hq
/-! ### all([..]), min of two, xs.extend(ys), for a, b in zip of lists, return f(..) that raises -/
namespace Hq
open PySem L2
section
variable {K : PySem.W.Frag} {E E0 : Ent} {F H : Hp} {M M1 M2 M' : Ms} {Γ : Gm} {P P1 : MP} {O O' : MO} {q q2 : Addr} {te ta tb tl tk tv td tx : TE} {tr : TA} {D1 : Ends} {tu tz : TS} {t u : TT} {ps qs : List MP} {i j j2 v jj : Nat} {γ : Type} {zs : List γ} {RA RB : γ → MP} {CE0 : Addr} {X : XK} {sp : Sp}
theorem c_star {Y : Cx} {e : PySem.Expr} {es : List PySem.Expr} {p : Pos} (eK : Y.K = K) (he : PE Y e te) (hr : PA Y es tr) (hs : starEach (.Starred e p :: es) Y.env = (true, eval e Y.env) :: starEach es Y.env := by rfl) : PA Y (.Starred e p :: es) (StX.tStar K te tr) := eK ▸ StX.pa_star he hr hs
/-! rows that are lists of lists or tuples of tuples -/
end
end Hq
namespace Hq
open PySem L2
/-! cells and made functions: tracked while a call runs to which the functions are handed -/
/-- the object at a is just o -/
def PinO (a : Addr) (o : Obj) : HO := .ext fun h => h.get? a = some o
abbrev Pins := List (Addr × Obj)
section
variable {C : Pins} {H H' F F' : Hp} {a c : Addr} {o : Obj} {E : Ent} {M M' B : Ms}
theorem look_of_mem (nd : (C.map (·.1)).Nodup) {p : Addr × Obj} (h : p ∈ C) : C.lookup p.1 = some p.2 := by
  induction C with
  | nil => cases h
  | cons r t ih =>
    rw [List.map_cons, List.nodup_cons] at nd
    rcases List.mem_cons.mp h with z | z
    · rw [z, List.lookup_cons, beq_self_eq_true]
    · have ne : (p.1 == r.1) = false := by
        rw [beq_eq_false_iff_ne]
        intro e
        exact nd.1 (e ▸ List.mem_map_of_mem z)
      rw [List.lookup_cons, ne]
      exact ih nd.2 z
/-- B owns just C's cells -/
structure Holds (C : Pins) (B : Ms) : Prop where
  nd : (C.map (·.1)).Nodup
  key : keys B = C.map (·.1)
  pin : ∀ q ∈ B, ∀ o, C.lookup q.1 = some o → ∀ F u, q.2.p F u → u = PinO q.1 o
end
/-! a made function as a value: what stands of it, what its calls give -/
section
variable (P : Program) (w : World) (K : PySem.W.Frag) (mg : Str → Option Value) (base : Heap)
/-- f's call with vs at H ends as Q tells -/
def Ans (j : Nat) (f : Addr) (vs : List V) (H : Hp) (Q : VK) : Prop := ∀ (A : Around) (outer : List Env) (s : Shared) (us : List Value), Room j A → Env0 P w K mg base A outer s H → Vals vs us →
  codeAny (model P w) A (.call (.ref f) ⟨us, []⟩) (CR L2.CX0 outer P w H s Q L2.E0) s
/-- where Mc is owned, f's calls with such arguments give R -/
def Clo (j : Nat) (Mc : Ms) (f : Addr) (Fs : List (Addr × HO)) (ps : List MP) (R : MP) : Prop := ∀ (E : Ent) (F : Hp) (M : Ms) (H : Hp) (vs : List V) (Q : VK), (∀ q ∈ Mc, q ∈ M) → Pt E F M H → (∀ p ∈ Fs, F p.1 = some p.2) → Ps F vs ps → Cont E F M R Q → Ans P w K mg base j f vs H Q
end
end Hq
namespace Hq
open PySem L2 NdefX LamX
/-! a call to which functions made here are handed: the captured cells are tracked meanwhile -/
/-- the cells of the names ys, one after the other, with what they hold -/
inductive Capt (cells : List (Str × Addr)) : List Str → List V → Pins → Prop
  | nil : Capt cells [] [] []
  | cons {y : Str} {c : Addr} {o : Obj} {u : Value} {v : V} {ys : List Str} {ws : List V} {C : Pins} : cells.lookup y = some c → o.data = .cell (some u) → RelV v u → Capt cells ys ws C → Capt cells (y :: ys) (v :: ws) ((c, o) :: C)
section
variable {cells : List (Str × Addr)} {ys : List Str} {ws : List V} {C : Pins}
theorem Capt.len (h : Capt cells ys ws C) : ws.length = ys.length := by
  induction h with
  | nil => rfl
  | cons _ _ _ _ ih => rw [List.length_cons, List.length_cons, ih]
theorem Capt.mem (h : Capt cells ys ws C) {c : Addr} {o : Obj} : (c, o) ∈ C → ∃ y ∈ ys, cells.lookup y = some c := by
  induction h with
  | nil => intro z; cases z
  | cons a b r t ih =>
    intro z
    rcases List.mem_cons.mp z with e | e
    · cases e; exact ⟨_, List.mem_cons_self, a⟩
    · obtain ⟨y, hy, q⟩ := ih e
      exact ⟨y, List.mem_cons_of_mem _ hy, q⟩
theorem Capt.nd (inj : ∀ x y c, cells.lookup x = some c → cells.lookup y = some c → x = y) (h : Capt cells ys ws C) (nd : ys.Nodup) : (C.map (·.1)).Nodup := by
  induction h with
  | nil => exact List.nodup_nil
  | cons a b r t ih =>
    rw [List.nodup_cons] at nd
    rw [List.map_cons, List.nodup_cons]
    refine ⟨fun z => ?_, ih nd.2⟩
    obtain ⟨p, hp, e⟩ := List.mem_map.mp z
    obtain ⟨y, hy, q⟩ := t.mem (c := p.1) (o := p.2) hp
    have e : p.1 = _ := e
    rw [e] at q
    have := inj _ _ _ a q
    exact nd.1 (this ▸ hy)
theorem Capt.at (nd : (C.map (·.1)).Nodup) (h : Capt cells ys ws C) {y : Str} {i : Nat} (e : ys[i]? = some y) : ∃ c o u v, cells.lookup y = some c ∧ C.lookup c = some o ∧ o.data = .cell (some u) ∧ ws[i]? = some v ∧ RelV v u := by
  have key : ∃ c o u v, cells.lookup y = some c ∧ (c, o) ∈ C ∧ o.data = .cell (some u) ∧ ws[i]? = some v ∧ RelV v u := by
    clear nd
    induction h generalizing i with
    | nil => simp at e
    | cons a b r t ih =>
      cases i with
      | zero =>
        simp at e
        subst e
        exact ⟨_, _, _, _, a, List.mem_cons_self, b, rfl, r⟩
      | succ i =>
        obtain ⟨c, o, u, v, h1, h2, h3⟩ := ih (i := i) (by simpa using e)
        exact ⟨c, o, u, v, h1, List.mem_cons_of_mem _ h2, by simpa using h3⟩
  obtain ⟨c, o, u, v, h1, h2, h3⟩ := key
  exact ⟨c, o, u, v, h1, look_of_mem (p := (c, o)) nd h2, h3⟩
end
/-! what a made function's calls give -/
end Hq
namespace Hq
open PySem L2 NdefX LamX
/-! making functions: nested defs, lambdas with parameters -/
/-- a table's entries tell code objects of the names that their places have -/
def Told (nm : Nat → Nat → Str) (ps : Array Value) (H : Hp) : Prop := TriplesOk ps.toList ∧ ∀ (pos : Pos) (cv : Value), codeAmong pos ps.toList = some cv → ∃ c, cv = .ref c ∧ H c = some (CodeO c (nm pos.line pos.col))
theorem Told.ext {nm : Nat → Nat → Str} {ps : Array Value} {H H' : Hp} (t : Told nm ps H) (e : Ex H H') : Told nm ps H' := ⟨t.1, fun pos cv h => let ⟨c, a, b⟩ := t.2 pos cv h; ⟨c, a, e _ _ b⟩⟩
/-- a function is made by the table at P: q its name, u its object's words -/
def MkFn (P : Addr) (nm : Nat → Nat → Str) (q : Str) (u : Addr → Addr → HO) (H : Hp) (k : Addr → Hp → Prop) : Prop := ∃ ps : Array Value, H P = some (.tbl ps) ∧ Told nm ps H ∧
  (∀ (f c' : Addr) (ps' : Array Value), H c' = none → H f = none → c' ≠ f → c' ≠ P → f ≠ P → (∀ F0 : Hp, Told nm ps F0 → F0 c' = none → Told nm ps' (upd F0 c' (CodeO c' q))) → k f (upd (upd (upd H P (.tbl ps')) c' (CodeO c' q)) f (u f c'))) ∧
  (∀ (f c' : Addr), (∀ F0 : Hp, Told nm ps F0 → F0 c' = some (CodeO c' q)) → H f = none → k f (upd H f (u f c')))
section
variable {X : Cx}
theorem MkFn.imp {P : Addr} {nm : Nat → Nat → Str} {q : Str} {u : Addr → Addr → HO} {H : Hp} {k k' : Addr → Hp → Prop} (h : MkFn P nm q u H k) (i : ∀ f H1, k f H1 → k' f H1) : MkFn P nm q u H k' :=
  let ⟨ps, a, b, c, d⟩ := h
  ⟨ps, a, b, fun f c' ps' h1 h2 h3 h4 h5 h6 => i _ _ (c f c' ps' h1 h2 h3 h4 h5 h6), fun f c' h1 h2 => i _ _ (d f c' h1 h2)⟩
end
/-! read -/
end Hq
namespace Hq
open PySem L2 NdefX LamX
/-! bodies of made functions -/
end Hq
namespace L2
open PySem PySem.Spec PyProof.Rows
/-! {k: v} with a nested key -/
end L2
namespace Hq
open PySem L2
end Hq
namespace Hq
open PySem L2 NdefX LamX
/-! the law's start and end where the program makes functions -/
end Hq
namespace Hq
open PySem L2 NdefX LamX
/-! a def that returns what it made: its cells are tracked behind it -/
/-! a call that tells what it owns behind it -/
def EvX {ι : Type} (te : TE) (Γ : Gm) (M : Ms) (φ : ι → Prop) (P : ι → MP) (M' : ι → Ms) : Prop := ∀ E F σ H, Pt E F M H → EnvOk F σ Γ → ∀ Q : VK, (∀ i v F' H', φ i → Ex F F' → Pt E F' (M' i) H' → (P i).p F' v → Q v H') → te σ H Q
end Hq
/-! HqSe: calls that change what they own, told by more than one thing; dicts that stand. -/
namespace Hq
open PySem L2
section
variable {ι : Type} {K : PySem.W.Frag} {E : Ent} {F F' H H' : Hp} {Γ : Gm} {M M1 M2 Mc Md B : Ms} {φ : ι → Prop} {P R1 R2 : ι → MP} {M' Bi Mi : ι → Ms} {te td tk : TE} {tr : TA} {ps : List MP} {sp : Sp} {X : XK} {D1 : Ends} {tz : TS} {i j : Nat}
theorem EvX.to {κ : Type} {φ' : κ → Prop} {P' : κ → MP} {N' : κ → Ms} (f : ι → κ) (h : EvX te Γ M φ P M') (l : ∀ i, φ i → φ' (f i) ∧ (P i).le (P' (f i)) ∧ M' i = N' (f i)) : EvX te Γ M φ' P' N' := fun E F σ H a b Q k => h E F σ H a b Q fun i v F' H' hi e g r => by
  obtain ⟨l1, l2, l3⟩ := l i hi
  exact k (f i) v F' H' l1 e (l3 ▸ g) (l2 F' v r)
end
end Hq
/-! ### list(zip(a tuple, a list)) -/
namespace HqJ
open PySem PySem.Spec PyProof.Rows
section
variable {prog : Program} {w : World} {A : Around} {E : Value → Shared → Prop} {s : Shared} {z TI TO T i1 i2 : Addr} {fp1 fp2 : List Addr} {n1 n2 i : Nat} {P1 P2 : Nat → Value → Prop} {St1 St2 : Nat → Heap → Prop} {f : Bool} {oT : Obj}
theorem held_item {Q : Value → Shared → Prop} (S : ZipSep2 z TI TO i1 i2 fp1 fp2) (D1 : Draws prog w A i1 fp1 n1 P1 St1) (D2 : Draws prog w A i2 fp2 n2 P2 St2)
    (hz : IsZipHeld s.heap z TI TO T f) (hT : s.heap.get? T = some oT) (hTI : IsTupOf2 s.heap TI (.ref i1) (.ref i2)) (st1 : St1 i s.heap) (st2 : St2 i s.heap) (hlt1 : i < n1) (hlt2 : i < n2)
    (hQ : ∀ x1 x2 h' tk, P1 i x1 → P2 i x2 → IsZipHeld h' z TI TO T true → St1 (i + 1) h' → St2 (i + 1) h' → IsTupOf2 h' s.heap.objs.size x1 x2 → h'.objs.size = s.heap.objs.size + 1 →
      (∀ c o, c ≠ z → c ≠ i1 → c ≠ i2 → s.heap.get? c = some o → h'.get? c = some o) → Q (.ref s.heap.objs.size) { s with heap := h', toks := tk }) :
    wpAny (model prog w) A (Builtin.«zip.__next__» ⟨[.ref z], []⟩) (fun fin s' => ∃ v, fin = .done (.ret v) ∧ Q v s') E s := by
  obtain ⟨hp, g, d, tk0, os⟩ := s
  show wpAny _ _ (field (.ref z) 2 >>= _) _ _ _
  refine wpAny_bind (wpAny_field hz rfl (x := .bool false) rfl ?_)
  show wpAny _ _ (field (.ref z) 3 >>= _) _ _ _
  refine wpAny_bind (wpAny_field hz rfl (x := .ref TI) rfl ?_)
  refine wpAny_bind (wpAny_seqItems hTI rfl ?_)
  show wpAny _ _ (Builtin.SmallTypes.ownedTupleIsFree (.ref z) >>= _) _ _ _
  refine wpAny_bind (wpAny_tupleHeld_zip hz hT fun h₁ hz₁ hs₁ => ?_)
  replace hs₁ : Heap.SameBut z hp h₁ := hs₁
  simp only [Bool.false_eq_true, if_false]
  refine wpAny_bind ?_
  rw [← Array.forIn_toList]
  simp only [List.forIn_cons, List.forIn_nil]
  refine wpAny_bind (wpAny_bind (wpAny_holding ?_))
  show wpAny _ _ (Builtin.SmallTypes.nextOf (.ref i1) >>= _) _ _ ⟨h₁, g, d, tk0, os⟩
  refine wpAny_bind (D1.item i _ _ _ hlt1 (D1.over st1 hs₁ S.zf1) fun x1 p1 tk1 hx1 sn1 hp1 => wpAny_pure ?_)
  replace hp1 : Heap.SameBut i1 h₁ p1 := hp1
  refine wpAny_pure ?_
  refine wpAny_bind (wpAny_bind (wpAny_holding ?_))
  show wpAny _ _ (Builtin.SmallTypes.nextOf (.ref i2) >>= _) _ _ ⟨p1, g, d, tk1, os⟩
  refine wpAny_bind (D2.item i _ _ _ hlt2 (D2.over (D2.over st2 hs₁ S.zf2) hp1 S.sep1_2) fun x2 p2 tk2 hx2 sn2 hp2 => wpAny_pure ?_)
  replace hp2 : Heap.SameBut i2 p1 p2 := hp2
  refine wpAny_pure (wpAny_pure ?_)
  show wpAny _ _ (newTuple [x1, x2] >>= _) _ _ ⟨p2, g, d, tk2, os⟩
  refine wpAny_bind (wpAny_newTuple ?_)
  have hsz : p2.objs.size = hp.objs.size := by rw [hp2.1, hp1.1, hs₁.1]
  have hz₃ : IsZipHeld p2 z TI TO T true := hp2.extBut _ _ S.zi2 (hp1.extBut _ _ S.zi1 hz₁)
  have hk : ∀ c o, c ≠ z → c ≠ i1 → c ≠ i2 → hp.get? c = some o → p2.get? c = some o := fun c o c1 c2 c3 e => hp2.extBut _ _ c3 (hp1.extBut _ _ c2 (hs₁.extBut _ _ c1 e))
  have j1 : St1 (i + 1) p2 := D1.over sn1 hp2 S.sep2_1
  refine wpAny_pure ⟨_, rfl, ?_⟩
  show Q (.ref p2.objs.size) _
  have hp' : IsTupOf2 (p2.push { cls := .type "tuple", data := .seq #[x1, x2] }) p2.objs.size x1 x2 := Heap.get?_push_size _ rfl
  have hz4 : (p2.push { cls := .type "tuple", data := .seq #[x1, x2] }).objs.size = p2.objs.size + 1 := Heap.size_push ..
  rw [hsz] at hp' hz4 ⊢
  exact hQ x1 x2 _ tk2 hx1 hx2 (Heap.get?_push_of_some _ hz₃) (D1.frame _ _ _ j1 fun b _ o e => Heap.get?_push_of_some _ e) (D2.frame _ _ _ sn2 fun b _ o e => Heap.get?_push_of_some _ e) hp' hz4 fun c o c1 c2 c3 e => Heap.get?_push_of_some _ (hk c o c1 c2 c3 e)
theorem held_end {Q : Fin → Shared → Prop} (S : ZipSep2 z TI TO i1 i2 fp1 fp2) (D1 : Draws prog w A i1 fp1 n1 P1 St1)
    (hz : IsZipHeld s.heap z TI TO T f) (hT : s.heap.get? T = some oT) (hTI : IsTupOf2 s.heap TI (.ref i1) (.ref i2)) (st1 : St1 n1 s.heap)
    (hE : ∀ h' e, (∀ c o, c ≠ z → c ≠ i1 → s.heap.get? c = some o → h'.get? c = some o) → (∃ o, h'.get? e = some o ∧ o.cls = .type "StopIteration") → E (.ref e) { s with heap := h' }) :
    wpAny (model prog w) A (Builtin.«zip.__next__» ⟨[.ref z], []⟩) Q E s := by
  show wpAny _ _ (field (.ref z) 2 >>= _) _ _ _
  refine wpAny_bind (wpAny_field hz rfl (x := .bool false) rfl ?_)
  show wpAny _ _ (field (.ref z) 3 >>= _) _ _ _
  refine wpAny_bind (wpAny_field hz rfl (x := .ref TI) rfl ?_)
  refine wpAny_bind (wpAny_seqItems hTI rfl ?_)
  show wpAny _ _ (Builtin.SmallTypes.ownedTupleIsFree (.ref z) >>= _) _ _ _
  refine wpAny_bind (wpAny_tupleHeld_zip hz hT fun h₁ hz₁ hs₁ => ?_)
  simp only [Bool.false_eq_true, if_false]
  refine wpAny_bind ?_
  rw [← Array.forIn_toList]
  simp only [List.forIn_cons, List.forIn_nil]
  refine wpAny_bind (wpAny_bind (wpAny_holding ?_))
  show wpAny _ _ (Builtin.SmallTypes.nextOf (.ref i1) >>= _) _ _ _
  refine wpAny_bind (D1.done { s with heap := h₁ } _ _ (D1.over st1 hs₁ S.zf1) fun h₂ e hs₂ he => ?_)
  exact hE h₂ e (fun c o c1 c2 x => hs₂ _ _ c2 (hs₁.extBut _ _ c1 x)) he
end
/-- a zip that has given i pairs that live on -/
def ZSt (h : Heap) (z TI TO i1 i2 S t l : Addr) (i : Nat) : Prop :=
  (∃ T f oT, IsZipHeld h z TI TO T f ∧ h.get? T = some oT ∧ T ≠ z ∧ T ≠ i1 ∧ T ≠ i2 ∧ T ≠ S ∨ IsZip h z TI TO .none ∧ T = 0 ∧ f = false ∧ oT = (default : Obj)) ∧
    IsTupOf2 h TI (.ref i1) (.ref i2) ∧ (∃ a b, IsTupOf2 h TO a b) ∧ h.IsTupleIter i1 t i ∧ h.IsListIter i2 l i
structure Ap (z TI TO i1 i2 S t l : Addr) : Prop where
  sep : ZipSep2 z TI TO i1 i2 [i1, t] [i2, l]
  t1 : t ≠ i1
  l2 : l ≠ i2
  lo : z < S ∧ TI < S ∧ TO < S ∧ i1 < S ∧ i2 < S ∧ t < S ∧ l < S
  tz : t ≠ z ∧ t ≠ TO ∧ t ≠ i2 ∧ l ≠ z ∧ l ≠ TO ∧ l ≠ i1
section
variable {prog : Program} {w : World} {A : Around} {E : Value → Shared → Prop} {s : Shared} {z TI TO i1 i2 S t l : Addr} {xs ys : Array Value} {i : Nat}
theorem nxt (a : Ap z TI TO i1 i2 S t l) (hh : A.handled = none) {Q : Option Value → Shared → Prop} (st : ZSt s.heap z TI TO i1 i2 S t l i) (ht : s.heap.IsTuple t xs) (hl : s.heap.IsList l ys) (h1 : i < xs.size) (h2 : i < ys.size) (hSl : S < s.heap.objs.size)
    (hQ : ∀ x1 x2 h' tk, xs[i]? = some x1 → ys[i]? = some x2 → ZSt h' z TI TO i1 i2 S t l (i + 1) → IsTupOf2 h' s.heap.objs.size x1 x2 → h'.objs.size = s.heap.objs.size + 1 →
      (∀ c o, c ≠ z → c ≠ TO → c ≠ i1 → c ≠ i2 → s.heap.get? c = some o → h'.get? c = some o) → Q (some (.ref s.heap.objs.size)) { s with heap := h', toks := tk }) :
    wpAny (model prog w) A (pyNext (.ref z)) Q E s := by
  obtain ⟨⟨T, f, oT, hz⟩, hTI, ⟨b1, b2, hTO⟩, s1, s2⟩ := st
  have D1 := Draws.tuple (prog := prog) (w := w) (A := A.in1) hh i1 t a.t1 xs
  have D2 := Draws.list (prog := prog) (w := w) (A := A.in1) hh i2 l a.l2 ys
  obtain ⟨z0, z1, z2, z3, z4, z5, z6⟩ := a.lo
  rcases hz with ⟨hz, hT, n1, n2, n3, n4⟩ | ⟨hz, _⟩
  · have hTy : s.TypeIs (.ref z) "zip" := ⟨_, hz, rfl⟩
    unfold pyNext
    refine wpAny_bind (wpAny_attempt (wpAny_callSpecial?_slot (name := Str.ofString "__next__") hTy F.slot_zip_next
      (wpAny_call_entry F.slot_zip_next hTy F.entry_zip_next
        (held_item a.sep D1 D2 hz hT hTI ⟨s1, ht⟩ ⟨s2, hl⟩ h1 h2 fun x1 x2 h' tk e1 e2 hz' st1' st2' hp hsz hk => wpAny_pure ?_) (F.args_zip_next_1 _))))
    exact hQ x1 x2 h' tk e1 e2 ⟨⟨T, true, oT, .inl ⟨hz', hk T oT n1 n2 n3 hT, n1, n2, n3, n4⟩⟩, hk _ _ a.sep.TIz a.sep.TIi1 a.sep.TIi2 hTI, ⟨b1, b2, hk _ _ a.sep.TOz a.sep.Ti1 a.sep.Ti2 hTO⟩, st1'.1, st2'.1⟩ hp hsz fun c o c1 _ c3 c4 e => hk c o c1 c3 c4 e
  · refine wpAny_pyNext_zipD2_item a.sep D1 D2 hz hTI hTO ⟨s1, ht⟩ ⟨s2, hl⟩ h1 h2 fun x1 x2 h' tk e1 e2 hz' hTO' st1' st2' hp hsz hk => ?_
    have gt : ∀ c, c < S → s.heap.objs.size ≠ c := fun c hc => Nat.ne_of_gt (Nat.lt_trans hc hSl)
    exact hQ x1 x2 h' tk e1 e2 ⟨⟨s.heap.objs.size, false, _, .inl ⟨hz', hp, gt _ z0, gt _ z3, gt _ z4, Nat.ne_of_gt hSl⟩⟩, hk _ _ a.sep.TIz a.sep.TITO a.sep.TIi1 a.sep.TIi2 hTI, ⟨_, _, hTO'⟩, st1'.1, st2'.1⟩ hp hsz hk
theorem fin (a : Ap z TI TO i1 i2 S t l) (hh : A.handled = none) {Q : Option Value → Shared → Prop} (st : ZSt s.heap z TI TO i1 i2 S t l i) (ht : s.heap.IsTuple t xs) (hl : s.heap.IsList l ys) (h1 : i = xs.size) (h2 : i ≤ ys.size)
    (hQ : ∀ h' tk, (∀ c o, c ≠ z → c ≠ TO → c ≠ i1 → c ≠ i2 → s.heap.get? c = some o → h'.get? c = some o) → Q none { s with heap := h', toks := tk }) :
    wpAny (model prog w) A (pyNext (.ref z)) Q E s := by
  obtain ⟨⟨T, f, oT, hz⟩, hTI, ⟨b1, b2, hTO⟩, s1, s2⟩ := st
  have D1 := Draws.tuple (prog := prog) (w := w) (A := A.in1) hh i1 t a.t1 xs
  have D2 := Draws.list (prog := prog) (w := w) (A := A.in1) hh i2 l a.l2 ys
  rcases hz with ⟨hz, hT, n1, n2, n3, n4⟩ | ⟨hz, _⟩
  · have hTy : s.TypeIs (.ref z) "zip" := ⟨_, hz, rfl⟩
    unfold pyNext
    refine wpAny_bind (wpAny_attempt (wpAny_callSpecial?_slot (name := Str.ofString "__next__") hTy F.slot_zip_next
      (wpAny_call_entry F.slot_zip_next hTy F.entry_zip_next
        (held_end a.sep D1 hz hT hTI (by rw [← h1]; exact ⟨s1, ht⟩) fun h' e hk he => ?_) (F.args_zip_next_1 _))))
    obtain ⟨o, ho, hc⟩ := he
    refine wpAny_bind (wpAny_isInstance (T := "StopIteration") (b := true) ⟨o, ho, hc⟩ isSubtype_stop ?_)
    exact wpAny_pure (hQ h' s.toks fun c o c1 _ c3 _ e => hk c o c1 c3 e)
  · exact wpAny_pyNext_zipD2_end a.sep D1 D2 hz hTI hTO ⟨s1, ht⟩ ⟨s2, hl⟩ (by omega) h2 (.inl h1) hQ
end
end HqJ
namespace L2
open PySem PySem.Spec PyProof.Rows HqJ
end L2
namespace Hq
open PySem L2 HqJ
end Hq
/-! ### a slice of a list or a tuple of ints that stands -/
namespace Hq
open PySem L2
section
variable {K : PySem.W.Frag} {E E0 : Ent} {F H : Hp} {M M1 M2 M' : Ms} {Γ : Gm} {P P1 : MP} {O O' : MO} {q : Addr} {te ta tb tl tk tv td tx : TE} {tr : TA} {D1 : Ends} {tu tz : TS} {t u : TT} {ps : List MP} {i j v jj : Nat} {b : Bool}
theorem cutG_mid {α : Type} {l : List α} {a b : Nat} : cutG l (some (a : Int)) (some (b : Int)) = (l.drop (min a l.length)).take (min b l.length - min a l.length) := by
  unfold cutG
  rw [HT.sIx_nat, HT.sIx_nat]
end
end Hq
namespace Hq
open PySem L2
end Hq
namespace Hq
open PySem L2
section
theorem le_frN {K : PySem.W.Frag} {l : List Nat} : (PLi K (l.map fun x : Nat => D K (.int (x : Int)))).le (D K (dL (l.map fun x : Nat => (x : Int)))) := fun F v h => dL_le (K := K) F v (by rw [List.map_map]; exact h)
end
end Hq
/-! ### a def within a def whose own names are taken by a comprehension in it (own cells beside the captured ones) -/
namespace HqLE
open PySem PySem.Spec PyProof.Rows
end HqLE
namespace Hq
open PySem L2 NdefX LamX HqLE
end Hq
/-! ### zip of a tuple and a list; tuples made here of anything; any -/
namespace HqLC
open PySem PySem.Spec PyProof.Rows L2
theorem sep {I a b : Addr} (ha : a < I) (hb : b < I) : ZipSep2 (I + 4) (I + 2) (I + 3) I (I + 1) [I, a] [I + 1, b] := by
  have ha : @LT.lt Nat _ a I := ha
  have hb : @LT.lt Nat _ b I := hb
  constructor <;> first
    | exact List.mem_cons_self
    | (intro e; have e : ((_ : Nat) = _) := e; omega)
    | (intro h
       rcases List.mem_cons.mp h with e | h
       · have e : ((_ : Nat) = _) := e
         omega
       · have e : ((_ : Nat) = _) := List.mem_singleton.mp h
         omega)
end HqLC
namespace Hq
open PySem L2 HqLC
section
variable {K : PySem.W.Frag} {E E0 : Ent} {F H : Hp} {M M1 M2 M' : Ms} {Γ : Gm} {P P1 : MP} {O O' : MO} {q : Addr} {te ta tb tl tk tv td tx : TE} {tr : TA} {D1 : Ends} {tu tz : TS} {t u : TT} {ps : List MP} {i j v jj : Nat} {b : Bool}
theorem any_of {bs : List Bool} : ∀ {vs : List V}, Ps F vs (bs.map fun b => D K (.bool b)) → vs = bs.map V.bl := by
  induction bs with
  | nil => intro vs h; cases h; rfl
  | cons b bs ih =>
    intro vs h
    cases h with
    | cons a t => cases dp_bl a; rw [ih t]; rfl
theorem rc_any {bs : List Bool} : RC (rAny K) [PLi K (bs.map fun b => D K (.bool b))] M (D K (.bool (bs.any id))) M := fun E F H vs a h Q k => by
  obtain ⟨v, rfl, b, ws, rfl, s, p⟩ := ps1 h
  have e := any_of p
  subst e
  exact ⟨b, bs, rfl, Evl.ex_l a.ex s, k _ F H (Evl.Ex.refl _) a (.bl _)⟩
theorem c_any {Y : Cx} (e : Y.K = K) (hc : Y.calm = true) : CallR Y (.builtin "any") (rAny K) := e ▸ cr_any hc
end
end Hq
/-! ### rows and words that are lists or tuples, as values of any expression -/
namespace Hq
open PySem L2
section
variable {K : PySem.W.Frag} {E : Ent} {M M1 : Ms} {Γ : Gm} {P : MP} {tu tz : TS} {D1 : Ends} {t : TT} {te tl tv : TE} {l : List Int} {b : Bool} {i : Nat}
/-- list(w), w a list or a tuple -/
theorem ev_listW (h : Ev te Γ M (D K (dW b l)) M1) : Ev (tCB (rList K) (tCons te tNil)) Γ M (D K (dL l)) M1 := by
  cases b with
  | true => exact (ev_newL (K := K) (evn_cb (ea_cons (h.weak (P' := PTu K (l.map fun x => D K (.int x))) le_dT) ea_nil) rcn_listT)).weak dL_le
  | false => exact (ev_newL (K := K) (evn_cb (ea_cons (h.weak (P' := PLi K (l.map fun x => D K (.int x))) le_dL) ea_nil) rcn_listL)).weak dL_le
end
end Hq
/-! ### tuples made here, of anything -/
namespace Hq
open PySem L2
end Hq
/-! ### xs + ys of lists that stand -/
namespace Hq
open PySem L2
section
variable {K : PySem.W.Frag} {E : Ent} {F H : Hp} {M M1 M2 : Ms} {Γ : Gm} {ps qs : List MP} {α : Type}
theorem rv_catLP (hz : ps.length + qs.length ≤ 100000) : RV (rCatL K) (PLi K ps) (PLi K qs) M (PLi K (ps ++ qs)) M := fun E F H x y g p1 p2 Q k => by
  obtain ⟨l, xs, rfl, s, q⟩ := p1
  obtain ⟨l2, ys, rfl, s2, q2⟩ := p2
  refine ⟨l, l2, xs, ys, rfl, rfl, Evl.ex_l g.ex s, Evl.ex_l g.ex s2, sz_of (by rw [paired_len q, paired_len q2]; exact hz), fun p hp => ?_⟩
  have ex : Ex F (upd F p (.lst (xs ++ ys))) := Evl.Ex.new (Evl.fresh_back g.ex hp)
  exact k _ _ _ ex (g.laid hp) ⟨p, _, rfl, SqL.of upd_same, Ps.mono ex (paired_app q q2)⟩
end
end Hq
namespace Hq
open PySem L2
section
variable {K : PySem.W.Frag} {E : Ent} {F H : Hp} {M M1 M2 : Ms} {Γ : Gm} {P : MP} {q : Addr} {te ti ta : TE} {i j : Nat}
/-- a slice of a list that stands, as data -/
theorem ev_slLDf {α : Type} {f : α → PyData} {l : List α} {lo hi : Option Int} {tl th : TO} (h : Ev te Γ M (D K (.list (l.map f))) M1) (h1 : EvP tl Γ M1 lo) (h2 : EvP th Γ M1 hi) : Ev (tSl (rSlL K) te tl th) Γ M (D K (.list ((cutG l lo hi).map f))) M1 :=
  (ev_newL (evn_slM (R := fun x => D K (f x)) (h.weak (le_Lm (f := f))) h1 h2)).weak (Lm_le (f := f))
end
end Hq
namespace Hq
open PySem L2 HqA HqLC
end Hq
/-! ### t[:x] where x is one of several; (x,) with a drawn x -/
namespace Hq
open PySem L2
end Hq
/-! ### t > u of tuples of ints -/
namespace L2
open PySem PySem.Spec PyProof.Rows
end L2
namespace Hq
open PySem L2
end Hq
namespace My
/-! ### Pascal's numbers -/
end My
namespace L2
open PySem PySem.Spec PyProof.Rows
end L2
namespace Hq
open PySem L2
end Hq
namespace My
/-! ### letters, places: plain lists -/
abbrev Lets := List (List Int)
/-- the places of a letter -/
def pl (ls : Lets) (a : Int) : List Int := ls.getD a.toNat []
def disj (l m : List Int) : Bool := !(l.any fun x => decide (x ∈ m))
/-- two letters without a common place -/
def free (ls : Lets) (a b : Int) : Bool := disj (pl ls a) (pl ls b)
structure AlphaOk (k : Int) (ls : Lets) : Prop where
  k1 : 1 ≤ k
  k4 : k ≤ 4
  l1 : 1 ≤ ls.length
  l6 : ls.length ≤ 6
  ok : ∀ l ∈ ls, l ≠ [] ∧ l.Pairwise (· < ·) ∧ ∀ x ∈ l, 0 ≤ x ∧ x < k
/-- a word of the letters -/
def WordOk (ls : Lets) (w : List Int) : Prop := ∀ x ∈ w, 0 ≤ x ∧ x < (ls.length : Int)
theorem pl_get {ls : Lets} {a : Int} (h0 : 0 ≤ a) (h : a < (ls.length : Int)) : ls[a.toNat]? = some (pl ls a) := by
  unfold pl
  have : a.toNat < ls.length := by omega
  rw [List.getD_eq_getElem?_getD, List.getElem?_eq_getElem this]; rfl
theorem pl_mem {ls : Lets} {a : Int} (h0 : 0 ≤ a) (h : a < (ls.length : Int)) : pl ls a ∈ ls := List.mem_of_getElem? (pl_get h0 h)
theorem disj_comm (l m : List Int) : disj l m = disj m l := by
  unfold disj
  congr 1
  rw [Bool.eq_iff_iff, List.any_eq_true, List.any_eq_true]
  simp only [decide_eq_true_eq]
  exact ⟨fun ⟨x, a, b⟩ => ⟨x, b, a⟩, fun ⟨x, a, b⟩ => ⟨x, b, a⟩⟩
theorem free_comm (ls : Lets) (a b : Int) : free ls a b = free ls b a := disj_comm _ _
theorem disj_iff {l m : List Int} : disj l m = true ↔ ∀ x ∈ l, x ∉ m := by
  unfold disj
  simp
theorem not_disj {l m : List Int} : disj l m = false ↔ ∃ x ∈ l, x ∈ m := by
  unfold disj
  simp
/-- the word of a place -/
def at_ (ls : Lets) (p : Int) (w : List Int) : List Int := w.filter fun a => decide (p ∈ pl ls a)
/-- swaps of independent neighbours -/
inductive Swp (ls : Lets) : List Int → List Int → Prop where
  | refl (w) : Swp ls w w
  | step {w u v a b} : Swp ls w (u ++ a :: b :: v) → free ls a b = true → Swp ls w (u ++ b :: a :: v)
theorem Swp.word {ls w w'} (h : Swp ls w w') (k : WordOk ls w) : WordOk ls w' ∧ w'.length = w.length := by
  induction h with
  | refl => exact ⟨k, rfl⟩
  | step h f ih =>
    obtain ⟨a, b⟩ := ih
    refine ⟨fun x hx => a x ?_, ?_⟩
    · simp only [List.mem_append, List.mem_cons] at hx ⊢
      rcases hx with h | h | h | h
      · exact .inl h
      · exact .inr (.inr (.inl h))
      · exact .inr (.inl h)
      · exact .inr (.inr (.inr h))
    · rw [← b]; simp
end My
namespace My
/-! ### sorted lists -/
/-- the greatest of some numbers that are not negative -/
def top0 (l : List Int) : Int := l.foldr max 0
theorem top0_le {l : List Int} : ∀ y ∈ l, y ≤ top0 l := by
  induction l with
  | nil => intro y h; cases h
  | cons a l ih =>
    intro y h
    show y ≤ max a (top0 l)
    rcases List.mem_cons.mp h with e | e
    · subst e; omega
    · have := ih y e; omega
theorem top0_mem {l : List Int} (h : l ≠ []) (h0 : ∀ y ∈ l, 0 ≤ y) : top0 l ∈ l := by
  induction l with
  | nil => exact absurd rfl h
  | cons a l ih =>
    show max a (top0 l) ∈ a :: l
    by_cases e : l = []
    · subst e
      have := h0 a List.mem_cons_self
      have : max a (top0 []) = a := by show max a 0 = a; omega
      rw [this]; exact List.mem_cons_self
    · have := ih e fun y hy => h0 y (List.mem_cons_of_mem _ hy)
      by_cases c : a ≤ top0 l
      · rw [show max a (top0 l) = top0 l by omega]; exact List.mem_cons_of_mem _ this
      · rw [show max a (top0 l) = a by omega]; exact List.mem_cons_self
/-! ### layers: a turn for each letter -/
def setAll (hs : List Int) (ps : List Int) (v : Int) : List Int := ps.foldl (fun hs p => hs.set p.toNat v) hs
def addRow (rs : List (List Int)) (h : Nat) (a : Int) : List (List Int) := if h = rs.length then rs ++ [[a]] else rs.set h (rs.getD h [] ++ [a])
def hts (ls : Lets) (hs : List Int) (a : Int) : List Int := (pl ls a).map fun p => hs.getD p.toNat 0
def lstep (ls : Lets) (s : List Int × List (List Int)) (a : Int) : List Int × List (List Int) :=
  (setAll s.1 (pl ls a) (top0 (hts ls s.1 a) + 1), addRow s.2 (top0 (hts ls s.1 a)).toNat a)
def lay (ls : Lets) (k : Int) (w : List Int) : List Int × List (List Int) := w.foldl (lstep ls) (List.replicate k.toNat 0, [])
theorem setAll_len (ps : List Int) (v : Int) : ∀ hs : List Int, (setAll hs ps v).length = hs.length := by
  induction ps with
  | nil => intro hs; rfl
  | cons p ps ih =>
    intro hs
    show (setAll (hs.set p.toNat v) ps v).length = hs.length
    rw [ih, List.length_set]
theorem setAll_get {ps : List Int} {v : Int} (h0 : ∀ p ∈ ps, 0 ≤ p) {q : Nat} : ∀ {hs : List Int}, q < hs.length → (setAll hs ps v).getD q 0 = if (q : Int) ∈ ps then v else hs.getD q 0 := by
  induction ps with
  | nil => intro hs _; simp [setAll]
  | cons p ps ih =>
    intro hs hq
    show (setAll (hs.set p.toNat v) ps v).getD q 0 = _
    rw [ih (fun x hx => h0 x (List.mem_cons_of_mem _ hx)) (by rw [List.length_set]; exact hq)]
    have hp := h0 p List.mem_cons_self
    by_cases h1 : (q : Int) ∈ ps
    · rw [if_pos h1, if_pos (List.mem_cons_of_mem _ h1)]
    · rw [if_neg h1]
      by_cases h2 : p = q
      · subst h2
        rw [if_pos List.mem_cons_self]
        simp [List.getD_eq_getElem?_getD, hq]
      · rw [if_neg (by simp [h1]; omega)]
        have : p.toNat ≠ q := by omega
        simp [List.getD_eq_getElem?_getD, List.getElem?_set, this]
theorem addRow_len {rs : List (List Int)} {h : Nat} {a : Int} (hh : h ≤ rs.length) : (addRow rs h a).length = max rs.length (h + 1) := by
  unfold addRow
  split
  · rw [List.length_append, List.length_singleton]; omega
  · rw [List.length_set]; omega
theorem addRow_get {rs : List (List Int)} {h : Nat} {a : Int} (hh : h ≤ rs.length) (i : Nat) : (addRow rs h a).getD i [] = if i = h then rs.getD h [] ++ [a] else rs.getD i [] := by
  unfold addRow
  split
  · rename_i e
    subst e
    by_cases h1 : i < rs.length
    · rw [if_neg (by omega)]
      simp [List.getD_eq_getElem?_getD, List.getElem?_append_left h1]
    · by_cases h2 : i = rs.length
      · subst h2
        rw [if_pos rfl]
        simp [List.getD_eq_getElem?_getD]
      · rw [if_neg h2]
        have : rs.length ≤ i := by omega
        rw [List.getD_eq_getElem?_getD, List.getD_eq_getElem?_getD, List.getElem?_append_right this, List.getElem?_eq_none (by simp; omega), List.getElem?_eq_none (by omega)]
  · by_cases h2 : i = h
    · subst h2
      rw [if_pos rfl]
      simp [List.getD_eq_getElem?_getD, show i < rs.length by omega]
    · rw [if_neg h2]
      simp [List.getD_eq_getElem?_getD, List.getElem?_set, Ne.symm h2]
/-- what holds between the turns -/
structure LInv (ls : Lets) (k : Int) (w : List Int) (s : List Int × List (List Int)) : Prop where
  len : s.1.length = k.toNat
  hi : ∀ q : Nat, q < k.toNat → 0 ≤ s.1.getD q 0 ∧ s.1.getD q 0 ≤ s.2.length
  word : ∀ p, at_ ls p s.2.flatten = at_ ls p w
  above : ∀ (q : Nat) (i : Nat), q < k.toNat → s.1.getD q 0 ≤ i → at_ ls q (s.2.getD i []) = []
  apart : ∀ i, (s.2.getD i []).Pairwise fun a b => free ls a b = true
  rests : ∀ i a, a ∈ s.2.getD (i + 1) [] → ∃ b ∈ s.2.getD i [], free ls a b = false
  full : ∀ i, i < s.2.length → s.2.getD i [] ≠ []
  some : ∀ (q : Nat), q < k.toNat → 0 < s.1.getD q 0 → at_ ls q (s.2.getD ((s.1.getD q 0).toNat - 1) []) ≠ []
  ok : ∀ i, ∀ x ∈ s.2.getD i [], 0 ≤ x ∧ x < (ls.length : Int)
  cnt : s.2.length ≤ w.length
  few : ∀ i, (s.2.getD i []).length ≤ w.length
theorem at_append (ls : Lets) (p : Int) (u v : List Int) : at_ ls p (u ++ v) = at_ ls p u ++ at_ ls p v := List.filter_append ..
theorem at_flatten (ls : Lets) (p : Int) (rs : List (List Int)) : at_ ls p rs.flatten = (rs.map (at_ ls p)).flatten := by
  induction rs with
  | nil => rfl
  | cons r rs ih => rw [List.flatten_cons, at_append, ih]; rfl
theorem flat_nil {rs : List (List Int)} (h : ∀ r ∈ rs, r = []) : rs.flatten = [] := by
  induction rs with
  | nil => rfl
  | cons r rs ih => rw [List.flatten_cons, h r List.mem_cons_self, ih fun x hx => h x (List.mem_cons_of_mem _ hx)]; rfl
theorem addRow_at {ls : Lets} {rs : List (List Int)} {h : Nat} {a p : Int} (hh : h ≤ rs.length) (hp : p ∈ pl ls a → ∀ i, h ≤ i → at_ ls p (rs.getD i []) = []) : at_ ls p (addRow rs h a).flatten = at_ ls p rs.flatten ++ at_ ls p [a] := by
  unfold addRow
  split
  · rw [List.flatten_append, at_append]
    congr 1
  · have hlt : h < rs.length := by omega
    have e1 : rs.set h (rs.getD h [] ++ [a]) = rs.take h ++ (rs.getD h [] ++ [a]) :: rs.drop (h + 1) := by
      rw [List.set_eq_take_append_cons_drop, if_pos hlt]
    have e2 : rs = rs.take h ++ rs.getD h [] :: rs.drop (h + 1) := by
      conv => lhs; rw [← List.take_append_drop h rs, List.drop_eq_getElem_cons hlt]
      simp [List.getD_eq_getElem?_getD, hlt]
    rw [e1]
    conv => rhs; rw [e2]
    rw [List.flatten_append, List.flatten_cons, List.flatten_append, List.flatten_cons]
    simp only [at_append, List.append_assoc]
    congr 2
    by_cases hpa : p ∈ pl ls a
    · have hn := hp hpa
      have : at_ ls p (rs.drop (h + 1)).flatten = [] := by
        rw [at_flatten]
        apply flat_nil
        intro r hr
        obtain ⟨r0, hr0, rfl⟩ := List.mem_map.mp hr
        obtain ⟨n, hn2, e⟩ := List.getElem_of_mem hr0
        rw [List.getElem_drop] at e
        have := hn (h + 1 + n) (by omega)
        rw [← e]
        rw [List.length_drop] at hn2
        simpa [List.getD_eq_getElem?_getD, show h + 1 + n < rs.length by omega] using this
      rw [this]; simp
    · have : at_ ls p [a] = [] := by simp [at_, hpa]
      rw [this]; simp
theorem at_one {ls : Lets} {p a : Int} : at_ ls p [a] = if p ∈ pl ls a then [a] else [] := by
  by_cases h : p ∈ pl ls a <;> simp [at_, h]
theorem at_nil_iff {ls : Lets} {p : Int} {l : List Int} : at_ ls p l = [] ↔ ∀ x ∈ l, p ∉ pl ls x := by
  unfold at_
  rw [List.filter_eq_nil_iff]
  simp
theorem LInv.step {ls : Lets} {k : Int} {w : List Int} {s : List Int × List (List Int)} (A : AlphaOk k ls) (I : LInv ls k w s) {a : Int} (ha : 0 ≤ a ∧ a < (ls.length : Int)) : LInv ls k (w ++ [a]) (lstep ls s a) := by
  obtain ⟨hs, rs⟩ := s
  obtain ⟨pne, _, pok⟩ := A.ok _ (pl_mem ha.1 ha.2)
  have pin : ∀ p ∈ pl ls a, p.toNat < k.toNat ∧ ((p.toNat : Nat) : Int) = p := fun p hp => by have := pok p hp; omega
  -- the height
  have hmem : top0 (hts ls hs a) ∈ hts ls hs a := top0_mem (by simp [hts, pne]) fun y hy => by
    obtain ⟨p, hp, rfl⟩ := List.mem_map.mp hy
    exact (I.hi _ (pin p hp).1).1
  obtain ⟨p0, hp0, e0⟩ := List.mem_map.mp hmem
  have hge : ∀ p ∈ pl ls a, hs.getD p.toNat 0 ≤ top0 (hts ls hs a) := fun p hp => top0_le _ (List.mem_map_of_mem hp)
  have hb := I.hi _ (pin p0 hp0).1
  generalize hh : top0 (hts ls hs a) = h at *
  obtain ⟨n, rfl⟩ : ∃ n : Nat, h = n := ⟨h.toNat, by dsimp only at hb; omega⟩
  have hn : n ≤ rs.length := by dsimp only at hb; omega
  have E : lstep ls (hs, rs) a = (setAll hs (pl ls a) ((n : Int) + 1), addRow rs n a) := by
    show (setAll hs (pl ls a) (top0 (hts ls hs a) + 1), addRow rs (top0 (hts ls hs a)).toNat a) = _
    rw [hh]; rfl
  rw [E]
  have hl : hs.length = k.toNat := I.len
  have gs : ∀ q : Nat, q < k.toNat → (setAll hs (pl ls a) ((n : Int) + 1)).getD q 0 = if (q : Int) ∈ pl ls a then (n : Int) + 1 else hs.getD q 0 := fun q hq => setAll_get (fun p hp => (pok p hp).1) (by omega)
  have gr := addRow_get (a := a) hn
  have gl := addRow_len (a := a) hn
  have emp : ∀ p ∈ pl ls a, ∀ i, n ≤ i → at_ ls p (rs.getD i []) = [] := fun p hp i hi => by
    have := I.above p.toNat i (pin p hp).1 (by have := hge p hp; dsimp only; omega)
    rw [(pin p hp).2] at this
    exact this
  refine ⟨by rw [setAll_len]; exact hl, fun q hq => ?_, fun p => ?_, fun q i hq hi => ?_, fun i => ?_, fun i b hbm => ?_, fun i hi => ?_, fun q hq h0 => ?_, fun i x hx => ?_, by have := I.cnt; dsimp only at this ⊢; rw [gl, List.length_append, List.length_singleton]; omega, fun i => by
    have := I.few i
    have h2 := I.few n
    dsimp only at this h2 ⊢
    rw [gr, List.length_append, List.length_singleton]
    split
    · rw [List.length_append, List.length_singleton]; omega
    · omega⟩
  · dsimp only
    rw [gs q hq, gl]
    have := I.hi q hq
    dsimp only at this
    split <;> omega
  · dsimp only
    rw [addRow_at hn (fun hp => emp p hp), at_append, I.word p]
  · dsimp only at hi ⊢
    rw [gs q hq] at hi
    rw [gr]
    split at hi
    · rename_i hqa
      rw [if_neg (by omega)]
      exact emp _ hqa i (by omega)
    · rename_i hqa
      split
      · rename_i e
        subst e
        rw [at_append, at_one, if_neg hqa, I.above q i hq hi]; rfl
      · exact I.above q i hq hi
  · dsimp only
    rw [gr]
    split
    · rw [List.pairwise_append]
      refine ⟨I.apart n, List.pairwise_singleton _ _, fun b hb c hc => ?_⟩
      rw [List.mem_singleton.mp hc]
      refine disj_iff.mpr fun p hpb hpa => ?_
      exact at_nil_iff.mp (emp p hpa n (Nat.le_refl _)) b hb hpb
    · exact I.apart i
  · dsimp only at hbm ⊢
    rw [gr] at hbm
    have old : ∀ (c : Int), c ∈ rs.getD i [] → c ∈ (addRow rs n a).getD i [] := fun c hc => by
      rw [gr]
      split
      · rename_i e; subst e; exact List.mem_append_left _ hc
      · exact hc
    have fromold : b ∈ rs.getD (i + 1) [] → ∃ c ∈ (addRow rs n a).getD i [], free ls b c = false := fun h => by
      obtain ⟨c, hc, f⟩ := I.rests i b h
      exact ⟨c, old c hc, f⟩
    split at hbm
    · rename_i e
      rcases List.mem_append.mp hbm with h | h
      · exact fromold (by rw [e]; exact h)
      · rw [List.mem_singleton.mp h]
        have sm := I.some p0.toNat (pin p0 hp0).1 (by dsimp only; omega)
        dsimp only at sm
        rw [show (hs.getD p0.toNat 0).toNat - 1 = i by omega, (pin p0 hp0).2] at sm
        cases hat : at_ ls p0 (rs.getD i []) with
        | nil => exact absurd hat sm
        | cons c cs =>
          have hc : c ∈ at_ ls p0 (rs.getD i []) := by rw [hat]; exact List.mem_cons_self
          unfold at_ at hc
          obtain ⟨h1, h2⟩ := List.mem_filter.mp hc
          exact ⟨c, old c h1, not_disj.mpr ⟨p0, hp0, by simpa using h2⟩⟩
    · exact fromold hbm
  · dsimp only at hi ⊢
    rw [gr]
    rw [gl] at hi
    split
    · simp
    · exact I.full i (by dsimp only; omega)
  · dsimp only at h0 ⊢
    rw [gs q hq] at h0 ⊢
    split
    · rename_i hqa
      rw [show (((n : Int) + 1).toNat - 1) = n by omega, gr, if_pos rfl, at_append, at_one, if_pos hqa]
      simp
    · rename_i hqa
      rw [if_neg hqa] at h0
      have := I.some q hq h0
      dsimp only at this
      rw [gr]
      split
      · rename_i e
        rw [e] at this
        rw [at_append]
        intro z
        exact this (List.append_eq_nil_iff.mp z).1
      · exact this
  · dsimp only at hx
    rw [gr] at hx
    split at hx
    · rcases List.mem_append.mp hx with h | h
      · exact I.ok n x h
      · rw [List.mem_singleton.mp h]; exact ha
    · exact I.ok i x hx
theorem LInv.start {ls : Lets} {k : Int} : LInv ls k [] (List.replicate k.toNat 0, []) := by
  have g : ∀ q : Nat, (List.replicate k.toNat (0 : Int)).getD q 0 = 0 := fun q => by
    rw [List.getD_eq_getElem?_getD, List.getElem?_replicate]; split <;> rfl
  refine ⟨List.length_replicate, fun q _ => ?_, fun p => rfl, fun q i _ _ => rfl, fun i => List.Pairwise.nil, fun i a h => (by cases h), fun i h => (by cases h), fun q _ h => ?_, fun i x h => (by cases h), Nat.le_refl _, fun i => Nat.le_refl _⟩
  · dsimp only; rw [g]; exact ⟨Int.le_refl _, Int.le_refl _⟩
  · dsimp only at h; rw [g] at h; omega
/-! ### the order of free neighbours doesn't matter -/
structure Like (s t : List Int × List (List Int)) : Prop where
  hs : s.1 = t.1
  len : s.2.length = t.2.length
  row : ∀ i, (s.2.getD i []).Perm (t.2.getD i [])
theorem hgt_le {ls : Lets} {k : Int} {w : List Int} {s : List Int × List (List Int)} (A : AlphaOk k ls) (I : LInv ls k w s) {a : Int} (ha : 0 ≤ a ∧ a < (ls.length : Int)) : (top0 (hts ls s.1 a)).toNat ≤ s.2.length ∧ 0 ≤ top0 (hts ls s.1 a) := by
  obtain ⟨pne, _, pok⟩ := A.ok _ (pl_mem ha.1 ha.2)
  have hb : ∀ p ∈ pl ls a, 0 ≤ s.1.getD p.toNat 0 ∧ s.1.getD p.toNat 0 ≤ s.2.length := fun p hp => I.hi _ (by have := pok p hp; omega)
  have hmem : top0 (hts ls s.1 a) ∈ hts ls s.1 a := top0_mem (by simp [hts, pne]) fun y hy => by
    obtain ⟨p, hp, rfl⟩ := List.mem_map.mp hy
    exact (hb p hp).1
  obtain ⟨p, hp, e⟩ := List.mem_map.mp hmem
  have := hb p hp
  omega
theorem Like.step {ls : Lets} {k : Int} {w : List Int} {s t : List Int × List (List Int)} (A : AlphaOk k ls) (I : LInv ls k w s) (L : Like s t) {a : Int} (ha : 0 ≤ a ∧ a < (ls.length : Int)) : Like (lstep ls s a) (lstep ls t a) := by
  have h1 := (hgt_le A I ha).1
  have e : hts ls t.1 a = hts ls s.1 a := by rw [L.hs]
  refine ⟨?_, ?_, fun i => ?_⟩
  · show setAll s.1 _ (top0 (hts ls s.1 a) + 1) = setAll t.1 _ (top0 (hts ls t.1 a) + 1)
    rw [e, L.hs]
  · show (addRow s.2 _ a).length = (addRow t.2 (top0 (hts ls t.1 a)).toNat a).length
    rw [e, addRow_len h1, addRow_len (by rw [← L.len]; exact h1), L.len]
  · show ((addRow s.2 _ a).getD i []).Perm ((addRow t.2 (top0 (hts ls t.1 a)).toNat a).getD i [])
    rw [e, addRow_get h1, addRow_get (by rw [← L.len]; exact h1)]
    split
    · exact (L.row _).append_right _
    · exact L.row i
/-! ### what the law asks of the layers -/
theorem lt_unique : ∀ {l m : List Int}, l.Pairwise (· < ·) → m.Pairwise (· < ·) → (∀ k, k ∈ l ↔ k ∈ m) → l = m
  | [], [], _, _, _ => rfl
  | [], b :: m, _, _, h => absurd ((h b).mpr List.mem_cons_self) (by simp)
  | a :: l, [], _, _, h => absurd ((h a).mp List.mem_cons_self) (by simp)
  | a :: l, b :: m, h1, h2, h => by
    obtain ⟨x1, x2⟩ := List.pairwise_cons.mp h1
    obtain ⟨y1, y2⟩ := List.pairwise_cons.mp h2
    have hab : a = b := by
      rcases List.mem_cons.mp ((h a).mp List.mem_cons_self) with e | e
      · exact e
      · rcases List.mem_cons.mp ((h b).mpr List.mem_cons_self) with e2 | e2
        · exact e2.symm
        · have := x1 b e2; have := y1 a e; omega
    subst hab
    refine congrArg _ (lt_unique x2 y2 fun k => ⟨fun hk => ?_, fun hk => ?_⟩)
    · rcases List.mem_cons.mp ((h k).mp (List.mem_cons_of_mem _ hk)) with e | e
      · subst e; have := x1 k hk; omega
      · exact e
    · rcases List.mem_cons.mp ((h k).mpr (List.mem_cons_of_mem _ hk)) with e | e
      · subst e; have := y1 k hk; omega
      · exact e
end My
namespace My
/-! ### words of places, swaps, least forms -/
/-- the same words of all places -/
def Alk (ls : Lets) (k : Int) (u v : List Int) : Prop := ∀ p : Int, 0 ≤ p → p < k → at_ ls p u = at_ ls p v
theorem Alk.symm {ls k u v} (h : Alk ls k u v) : Alk ls k v u := fun p a b => (h p a b).symm
theorem Alk.trans {ls k u v x} (h : Alk ls k u v) (g : Alk ls k v x) : Alk ls k u x := fun p a b => (h p a b).trans (g p a b)
theorem AlphaOk.pl_ok {k : Int} {ls : Lets} (A : AlphaOk k ls) {a : Int} (ha : 0 ≤ a ∧ a < (ls.length : Int)) : pl ls a ≠ [] ∧ ∀ p ∈ pl ls a, 0 ≤ p ∧ p < k := by
  obtain ⟨h1, _, h3⟩ := A.ok _ (pl_mem ha.1 ha.2)
  exact ⟨h1, h3⟩
theorem AlphaOk.some {k : Int} {ls : Lets} (A : AlphaOk k ls) {a : Int} (ha : 0 ≤ a ∧ a < (ls.length : Int)) : ∃ p ∈ pl ls a, 0 ≤ p ∧ p < k := by
  obtain ⟨h1, h3⟩ := A.pl_ok ha
  obtain ⟨p, hp⟩ := List.exists_mem_of_ne_nil _ h1
  exact ⟨p, hp, h3 p hp⟩
/-- the letter comes next at each of its places -/
def rdy (ls : Lets) (r : List Int) (a : Int) : Bool := (pl ls a).all fun p => decide ((at_ ls p r).head? = some a)
theorem rdy_iff {ls : Lets} {r : List Int} {a : Int} : rdy ls r a = true ↔ ∀ p ∈ pl ls a, (at_ ls p r).head? = some a := by
  unfold rdy; simp
theorem at_cons_in {ls : Lets} {p a : Int} {r : List Int} (h : p ∈ pl ls a) : at_ ls p (a :: r) = a :: at_ ls p r := by
  unfold at_; rw [List.filter_cons, if_pos (by simpa using h)]
theorem at_cons_out {ls : Lets} {p a : Int} {r : List Int} (h : p ∉ pl ls a) : at_ ls p (a :: r) = at_ ls p r := by
  unfold at_; rw [List.filter_cons, if_neg (by simpa using h)]
theorem rdy_first {ls : Lets} {r : List Int} {a : Int} : rdy ls (a :: r) a = true := rdy_iff.mpr fun p hp => by rw [at_cons_in hp]; rfl
theorem WordOk.tail {ls : Lets} {a : Int} {r : List Int} (h : WordOk ls (a :: r)) : WordOk ls r := fun x hx => h x (List.mem_cons_of_mem _ hx)
theorem WordOk.erase {ls : Lets} {a : Int} {r : List Int} (h : WordOk ls r) : WordOk ls (r.erase a) := fun x hx => h x (List.mem_of_mem_erase hx)
theorem rdy_split {k : Int} {ls : Lets} (A : AlphaOk k ls) {a : Int} (ha : 0 ≤ a ∧ a < (ls.length : Int)) : ∀ {r : List Int}, rdy ls r a = true → ∃ r1 r2, r = r1 ++ a :: r2 ∧ a ∉ r1 ∧ (∀ b ∈ r1, free ls b a = true) ∧ r.erase a = r1 ++ r2
  | [], h => by
    obtain ⟨p, hp, _⟩ := A.some ha
    have := rdy_iff.mp h p hp
    simp [at_] at this
  | b :: r, h => by
    by_cases e : b = a
    · subst e
      exact ⟨[], r, rfl, by simp, (by simp), by simp⟩
    · have hp : ∀ p ∈ pl ls a, p ∉ pl ls b := fun p hp hb => by
        have := rdy_iff.mp h p hp
        rw [at_cons_in hb] at this
        exact e (by simpa using this)
      have h2 : rdy ls r a = true := rdy_iff.mpr fun p q => by
        have := rdy_iff.mp h p q
        rwa [at_cons_out (hp p q)] at this
      obtain ⟨r1, r2, e1, n1, f1, x1⟩ := rdy_split A ha h2
      refine ⟨b :: r1, r2, by rw [e1]; rfl, ?_, ?_, ?_⟩
      · intro hm
        rcases List.mem_cons.mp hm with hm | hm
        · exact e hm.symm
        · exact n1 hm
      · intro c hc
        rcases List.mem_cons.mp hc with rfl | hc
        · exact disj_iff.mpr fun p hpb hpa => hp p hpa hpb
        · exact f1 c hc
      · rw [List.erase_cons, if_neg (by simpa using e), x1]; rfl
theorem rdy_at {k : Int} {ls : Lets} (A : AlphaOk k ls) {a : Int} (ha : 0 ≤ a ∧ a < (ls.length : Int)) {r : List Int} (h : rdy ls r a = true) (p : Int) : at_ ls p r = at_ ls p (a :: r.erase a) := by
  obtain ⟨r1, r2, e1, n1, f1, x1⟩ := rdy_split A ha h
  rw [x1]
  by_cases hp : p ∈ pl ls a
  · have : at_ ls p r1 = [] := at_nil_iff.mpr fun b hb q => disj_iff.mp (f1 b hb) p q hp
    rw [at_cons_in hp, e1, at_append, at_append, this, at_cons_in hp]; rfl
  · rw [at_cons_out hp, e1, at_append, at_append, at_cons_out hp]
theorem rdy_mem {k : Int} {ls : Lets} (A : AlphaOk k ls) {a : Int} (ha : 0 ≤ a ∧ a < (ls.length : Int)) {r : List Int} (h : rdy ls r a = true) : a ∈ r := by
  obtain ⟨r1, r2, e1, _⟩ := rdy_split A ha h
  rw [e1]; simp
theorem Swp.trans1 {ls : Lets} {w u v : List Int} {a : Int} : ∀ {r : List Int}, Swp ls w (u ++ (r ++ a :: v)) → (∀ b ∈ r, free ls b a = true) → Swp ls w (u ++ a :: (r ++ v)) := by
  intro r
  induction r generalizing u with
  | nil => intro h _; exact h
  | cons b r ih =>
    intro h hf
    have h1 : Swp ls w ((u ++ [b]) ++ (r ++ a :: v)) := by simpa using h
    have h2 := ih h1 fun c hc => hf c (List.mem_cons_of_mem _ hc)
    have h3 : Swp ls w (u ++ b :: a :: (r ++ v)) := by simpa using h2
    exact .step h3 (hf b List.mem_cons_self)
theorem Alk.nil {k : Int} {ls : Lets} (A : AlphaOk k ls) {u : List Int} (hu : WordOk ls u) (h : Alk ls k u []) : u = [] := by
  cases u with
  | nil => rfl
  | cons a u =>
    obtain ⟨p, hp, h0, h1⟩ := A.some (hu a List.mem_cons_self)
    have := h p h0 h1
    rw [at_cons_in hp] at this
    cases this
theorem Alk.rdy {k : Int} {ls : Lets} (A : AlphaOk k ls) {u v : List Int} (h : Alk ls k u v) {a : Int} (ha : 0 ≤ a ∧ a < (ls.length : Int)) : rdy ls u a = rdy ls v a := by
  have := (A.pl_ok ha).2
  rw [Bool.eq_iff_iff, rdy_iff, rdy_iff]
  exact ⟨fun x p hp => by rw [← h p (this p hp).1 (this p hp).2]; exact x p hp, fun x p hp => by rw [h p (this p hp).1 (this p hp).2]; exact x p hp⟩
theorem Alk.tail {k : Int} {ls : Lets} {a : Int} {u v : List Int} (h : Alk ls k (a :: u) (a :: v)) : Alk ls k u v := fun p h0 h1 => by
  have := h p h0 h1
  by_cases hp : p ∈ pl ls a
  · rw [at_cons_in hp, at_cons_in hp] at this
    exact (List.cons.inj this).2
  · rwa [at_cons_out hp, at_cons_out hp] at this
theorem Alk.erase {k : Int} {ls : Lets} (A : AlphaOk k ls) {u v : List Int} (h : Alk ls k u v) {a : Int} (ha : 0 ≤ a ∧ a < (ls.length : Int)) (r : My.rdy ls u a = true) : Alk ls k (u.erase a) (v.erase a) := by
  have r2 : My.rdy ls v a = true := by rw [← h.rdy A ha]; exact r
  refine Alk.tail (a := a) fun p h0 h1 => ?_
  rw [← rdy_at A ha r, ← rdy_at A ha r2]
  exact h p h0 h1
theorem Alk.head {k : Int} {ls : Lets} (A : AlphaOk k ls) {u v : List Int} {a : Int} (h : Alk ls k u (a :: v)) (ha : 0 ≤ a ∧ a < (ls.length : Int)) : My.rdy ls u a = true ∧ Alk ls k (u.erase a) v := by
  have r : My.rdy ls u a = true := by rw [h.rdy A ha]; exact rdy_first
  have := h.erase A ha r
  rw [List.erase_cons_head] at this
  exact ⟨r, this⟩
theorem swp_of_alk {k : Int} {ls : Lets} (A : AlphaOk k ls) : ∀ {v u w x : List Int}, WordOk ls u → WordOk ls v → Alk ls k u v → Swp ls w (x ++ u) → Swp ls w (x ++ v)
  | [], u, w, x, hu, hv, h, s => by rw [h.nil A hu] at s; exact s
  | a :: v, u, w, x, hu, hv, h, s => by
    have ha := hv a List.mem_cons_self
    obtain ⟨r, h2⟩ := h.head A ha
    obtain ⟨r1, r2, e1, n1, f1, x1⟩ := rdy_split A ha r
    have s2 : Swp ls w (x ++ a :: (r1 ++ r2)) := by
      rw [e1] at s
      exact s.trans1 f1
    rw [← x1] at s2
    have s3 : Swp ls w ((x ++ [a]) ++ u.erase a) := by simpa using s2
    have := swp_of_alk A hu.erase hv.tail h2 s3
    simpa using this
theorem Alk.len {k : Int} {ls : Lets} (A : AlphaOk k ls) {u v : List Int} (hu : WordOk ls u) (hv : WordOk ls v) (h : Alk ls k u v) : v.length = u.length :=
  (swp_of_alk A (x := []) hu hv h (.refl u)).word hu |>.2
/-! least forms -/
def nxt (ls : Lets) (r : List Int) : Option Nat := ((List.range ls.length).filter fun a : Nat => rdy ls r a).head?
def lfN (ls : Lets) : Nat → List Int → List Int
  | 0, _ => []
  | n + 1, r => match nxt ls r with
    | none => []
    | some a => (a : Int) :: lfN ls n (r.erase a)
def lf (ls : Lets) (w : List Int) : List Int := lfN ls w.length w
/-! lists of swaps -/
end My
namespace My
/-! ### swaps counted -/
def tot : List Int → List Int → Nat
  | _, [] => 0
  | x, a :: v => x.idxOf a + tot (x.erase a) v
/-- how often the letter at e stands before e -/
def occ (u : List Int) (e : Nat) : Nat := (u.take e).count (u.getD e 0)
def num (u : List Int) : List (Int × Int) := (List.range u.length).map fun e => (u.getD e 0, (occ u e : Int))
def pk (u : List Int) : List Int → List Int → List Nat
  | _, [] => []
  | pre, a :: v => (num u).idxOf (a, (pre.count a : Int)) :: pk u (pre ++ [a]) v
/-- a run: each time one of what is left is taken -/
inductive Run : List Nat → List Nat → Nat → Prop where
  | nil : Run [] [] 0
  | cons {r1 r2 P e t} : Run (r1 ++ r2) P t → Run (r1 ++ e :: r2) (e :: P) (r1.length + t)
def inv : List Nat → Nat
  | [] => 0
  | e :: P => (P.filter fun p => decide (p < e)).length + inv P
theorem Run.ok {r P t} (h : Run r P t) : r.Pairwise (· < ·) → r.Perm P ∧ t = inv P := by
  induction h with
  | nil => exact fun _ => ⟨.refl _, rfl⟩
  | @cons r1 r2 P e t h ih =>
    intro hp
    have hs : List.Sublist (r1 ++ r2) (r1 ++ e :: r2) := List.Sublist.append_left (List.sublist_cons_self _ _) _
    obtain ⟨p1, p2⟩ := ih (hp.sublist hs)
    refine ⟨List.perm_middle.trans (.cons e p1), ?_⟩
    have hf : (P.filter fun p => decide (p < e)).length = r1.length := by
      rw [← (p1.filter _).length_eq, List.filter_append]
      obtain ⟨q1, q2, q3⟩ := List.pairwise_append.mp hp
      rw [List.filter_eq_self.mpr fun x hx => decide_eq_true (q3 x hx e List.mem_cons_self), List.filter_eq_nil_iff.mpr fun x hx => by
        have := (List.pairwise_cons.mp q2).1 x hx
        simp; omega]
      simp
    unfold inv
    rw [hf, p2]
end My
namespace My
end My
namespace My
/-! ### all orders of a word, found breadth first -/
def ins (a : Int) : List Int → List (List Int)
  | [] => [[a]]
  | b :: l => (a :: b :: l) :: (ins a l).map (b :: ·)
theorem nodup_le {α : Type} [DecidableEq α] : ∀ {l m : List α}, l.Nodup → (∀ x ∈ l, x ∈ m) → l.length ≤ m.length
  | [], m, _, _ => Nat.zero_le _
  | x :: l, m, h, s => by
    obtain ⟨h1, h2⟩ := List.nodup_cons.mp h
    have hx := s x List.mem_cons_self
    have := nodup_le (l := l) (m := m.erase x) h2 fun y hy => by
      have hne : y ≠ x := fun e => h1 (e ▸ hy)
      exact (List.mem_erase_of_ne hne).mpr (s y (List.mem_cons_of_mem _ hy))
    rw [List.length_erase_of_mem hx] at this
    have := List.length_pos_of_mem hx
    rw [List.length_cons]; omega
end My
namespace Hq
open PySem L2
/-! ### sorted(set(t)) of a long tuple with few different items -/
def rSetB (K : PySem.W.Frag) (w : World) : List V → Hp → VK → Prop := fun xs H Q => ∃ (a : Addr) (ns D : List Int), xs = [V.ref a] ∧ SqT K H a (ns.map V.int) ∧ ns.length < 1000 ∧ D.length ≤ 60 ∧ (∀ x ∈ ns, x ∈ D) ∧
  ∀ p c, H p = none → c ≤ D.length → Q (.ref p) (upd H p (SetO w p (fun j => decide (j ∈ ns)) c))
theorem cr_setB {X : Cx} (hc : X.calm = true) : CallR X (.type "set") (rSetB X.K X.w) := by
  intro pins s σ H xs us Q I r h
  obtain ⟨a, ns, D, rfl, hs, few, hD, sub, q⟩ := h
  have few2 : ns.length + 1 < scanBound := Nat.lt_trans (by omega : ns.length + 1 < 1001) (by decide)
  rw [Vals.ref1 r]
  obtain ⟨its, rv, hl, _⟩ := I.tuple hs
  refine call_set_tupI ns (I.ok.hd hc) hl (by simpa using vals_ints rv) few2 fun g tk c hS _ k => ?_
  have hc2 : c ≤ D.length := by
    obtain ⟨o, es, ep, t, _, _, _, _, nd, mem, _, _, hn, _⟩ := id hS
    have := My.nodup_le nd fun x hx => sub x (of_decide_eq_true ((mem x).mpr hx))
    rw [List.length_map, Array.length_toList] at this
    omega
  exact ⟨.ref _, upd H s.heap.objs.size (SetO X.w s.heap.objs.size (fun j => decide (j ∈ ns)) c), I.laid (t' := tk) k (Nat.le_refl _) (setO_new hS), rfl, q _ c (I.hok.fresh (Nat.le_refl _)) hc2⟩
theorem c_setB {K : PySem.W.Frag} {w : World} {Y : Cx} (eK : Y.K = K) (e : Y.w = w) (hc : Y.calm = true) : CallR Y (.type "set") (rSetB K w) := by subst eK e; exact cr_setB hc
section
variable {K : PySem.W.Frag} {E : Ent} {F H : Hp} {M M1 : Ms} {Γ : Gm} {te : TE}
theorem ev_sortsB {w : World} {ns D : List Int} (h : Ev te Γ M (PTu K (ns.map fun n => Hq.D K (.int n))) M1) (hn : ns.length < 1000) (hD : D.length ≤ 60) (sub : ∀ x ∈ ns, x ∈ D) :
    Ev (tCB (rSortedSet w) (tCons (tCB (rSetB K w) (tCons te tNil)) tNil)) Γ M (PEx fun ns' : List Int => PAn (ns'.Pairwise (· < ·) ∧ ∀ k, k ∈ ns' ↔ k ∈ ns) (PLi K (ns'.map fun n => Hq.D K (.int n)))) M1 := by
  refine (ev_fr (?_ : EvN _ Γ M (MX fun ns' : List Int => MA (ns'.Pairwise (· < ·) ∧ ∀ k, k ∈ ns' ↔ k ∈ ns) (MInts K ns')) M1)).weak (MP.le_trans fr_X (PEx.le fun _ => MP.le_trans fr_A (PAn.le fun _ => fr_L (K := K))))
  exact fun E F σ H a b Q k => h E F σ H a b _ fun v F1 H1 e1 g1 p1 => by
    obtain ⟨x, vs, rfl, s, p⟩ := p1
    cases ints_map p
    refine ⟨x, ns, D, rfl, Evl.ex_t g1.ex s, hn, hD, sub, fun p c hp hc => ⟨p, _, c, rfl, upd_same, by omega, fun ns' l h1 h2 h3 hl => ?_⟩⟩
    have g2 : Pt E F1 M1 (upd H1 p (SetO w p (fun j => decide (j ∈ ns)) c)) := g1.junk hp
    exact k l F1 _ (g2.fresh hl) e1 (g2.new hl ⟨ns', ⟨h1, fun k => by rw [h2]; exact decide_eq_true_iff⟩, _, rfl, map_ints ns'⟩)
end
end Hq
/-! ### a comprehension with three generators -/
namespace L2
open PySem PySem.Spec PyProof.Rows
end L2
namespace Hq
open PySem L2
end Hq
/-! ### tuples of tuples, sorted lists of tuples, lists of lists of which the inner ones come to rest -/
namespace Hq
open PySem L2
end Hq
namespace My
/-! ### the least form is the least of all orders -/
end My
namespace My
/-- the words of all places -/
def pws (ls : Lets) (k : Int) (wd : List Int) : List (List Int) := (List.range k.toNat).map fun p : Nat => at_ ls p wd
end My
namespace My
/-! ### queues -/
abbrev Qs := List (List Int)
def qat (Q : Qs) (p : Int) : List Int := Q.getD p.toNat []
/-- the letter comes next in the queue of each of its places -/
def rdyR (ls : Lets) (Q : Qs) (a : Int) : Bool := (pl ls a).all fun p => decide ((qat Q p).head? = some a)
theorem rdyR_iff {ls : Lets} {Q : Qs} {a : Int} : rdyR ls Q a = true ↔ ∀ p ∈ pl ls a, (qat Q p).head? = some a := by
  unfold rdyR; simp
def nxtR (ls : Lets) (Q : Qs) : Option Nat := ((List.range ls.length).filter fun a : Nat => rdyR ls Q a).head?
/-- the letter taken off -/
def mvQ (ls : Lets) (a : Int) (Q : Qs) : Qs := (List.range Q.length).map fun p : Nat => if (p : Int) ∈ pl ls a then (qat Q p).tail else qat Q p
def totQ (Q : Qs) : Nat := (Q.map List.length).sum
def tkN (ls : Lets) : Nat → Qs → List Int
  | 0, _ => []
  | n + 1, Q => match nxtR ls Q with
    | none => []
    | some a => (a : Int) :: tkN ls n (mvQ ls a Q)
/-- the letters that happen if always the first ready one does -/
def tk (ls : Lets) (Q : Qs) : List Int := tkN ls (totQ Q) Q
theorem mvQ_len {ls : Lets} {a : Int} {Q : Qs} : (mvQ ls a Q).length = Q.length := by unfold mvQ; simp
theorem qat_map {n : Nat} {f : Nat → List Int} {p : Nat} (h : p < n) : qat ((List.range n).map f) (p : Int) = f p := by
  unfold qat
  rw [Int.toNat_natCast, List.getD_eq_getElem?_getD, List.getElem?_map, List.getElem?_range h]; rfl
theorem qat_mv {ls : Lets} {a : Int} {Q : Qs} {p : Nat} (h : p < Q.length) : qat (mvQ ls a Q) (p : Int) = if (p : Int) ∈ pl ls a then (qat Q p).tail else qat Q p := by
  unfold mvQ
  rw [qat_map h]
theorem qs_eq {Q : Qs} : Q = (List.range Q.length).map fun p : Nat => qat Q p := by
  apply List.ext_getElem
  · simp
  · intro i h1 h2
    simp only [List.getElem_map, List.getElem_range]
    unfold qat
    rw [Int.toNat_natCast, List.getD_eq_getElem?_getD, List.getElem?_eq_getElem h1]; rfl
theorem qs_ext {Q R : Qs} (hl : Q.length = R.length) (h : ∀ p : Nat, p < Q.length → qat Q p = qat R p) : Q = R := by
  rw [qs_eq (Q := Q), qs_eq (Q := R), ← hl]
  exact List.map_congr_left fun p hp => h p (List.mem_range.mp hp)
theorem totQ_eq {Q : Qs} : totQ Q = ((List.range Q.length).map fun p : Nat => (qat Q p).length).sum := by
  unfold totQ
  conv => lhs; rw [qs_eq (Q := Q), List.map_map]
  rfl
theorem sum_le {l : List Nat} {f g : Nat → Nat} (h : ∀ x ∈ l, f x ≤ g x) : (l.map f).sum ≤ (l.map g).sum := by
  induction l with
  | nil => exact Nat.le_refl _
  | cons a l ih =>
    have := h a List.mem_cons_self
    have := ih fun x hx => h x (List.mem_cons_of_mem _ hx)
    simp only [List.map_cons, List.sum_cons]; omega
theorem sum_lt {l : List Nat} {f g : Nat → Nat} (h : ∀ x ∈ l, f x ≤ g x) {y : Nat} (hy : y ∈ l) (hlt : f y < g y) : (l.map f).sum < (l.map g).sum := by
  induction l with
  | nil => cases hy
  | cons a l ih =>
    have h1 := h a List.mem_cons_self
    have h2 := sum_le fun x hx => h x (List.mem_cons_of_mem _ hx)
    simp only [List.map_cons, List.sum_cons]
    rcases List.mem_cons.mp hy with rfl | hy
    · omega
    · have := ih (fun x hx => h x (List.mem_cons_of_mem _ hx)) hy; omega
theorem totQ_mv {k : Int} {ls : Lets} (A : AlphaOk k ls) {Q : Qs} (hQ : Q.length = k.toNat) {a : Int} (ha : 0 ≤ a ∧ a < (ls.length : Int)) (r : rdyR ls Q a = true) : totQ (mvQ ls a Q) < totQ Q := by
  obtain ⟨p, hp, p0, pk⟩ := A.some ha
  obtain ⟨n, rfl⟩ := Int.eq_ofNat_of_zero_le p0
  have hn : n < Q.length := by omega
  rw [totQ_eq, totQ_eq (Q := Q), mvQ_len]
  refine sum_lt (fun x hx => ?_) (List.mem_range.mpr hn) ?_
  · rw [qat_mv (List.mem_range.mp hx)]
    split
    · rw [List.length_tail]; omega
    · exact Nat.le_refl _
  · rw [qat_mv hn, if_pos hp, List.length_tail]
    have := rdyR_iff.mp r _ hp
    cases e : qat Q (n : Int) with
    | nil => rw [e] at this; cases this
    | cons b l => simp
/-! heads -/
def rq (qs : Qs) (hs : List Int) : Qs := (List.range qs.length).map fun p : Nat => (qat qs p).drop (hs.getD p 0).toNat
def mvH (ls : Lets) (a : Int) (hs : List Int) : List Int := hs.zipIdx.map fun z => z.1 + if (z.2 : Int) ∈ pl ls a then 1 else 0
structure QOk (k : Int) (qs : Qs) (hs : List Int) : Prop where
  ql : qs.length = k.toNat
  hl : hs.length = k.toNat
  h0 : ∀ x ∈ hs, 0 ≤ x
theorem rq_len {qs : Qs} {hs : List Int} : (rq qs hs).length = qs.length := by unfold rq; simp
theorem qat_rq {qs : Qs} {hs : List Int} {p : Nat} (h : p < qs.length) : qat (rq qs hs) (p : Int) = (qat qs p).drop (hs.getD p 0).toNat := qat_map h
theorem mvH_get {ls : Lets} {a : Int} {hs : List Int} {p : Nat} (h : p < hs.length) : (mvH ls a hs).getD p 0 = hs.getD p 0 + if (p : Int) ∈ pl ls a then 1 else 0 := by
  unfold mvH
  rw [List.getD_eq_getElem?_getD, List.getElem?_map, List.getElem?_zipIdx, List.getElem?_eq_getElem h, List.getD_eq_getElem?_getD, List.getElem?_eq_getElem h]
  simp
theorem getD_mem {hs : List Int} {p : Nat} (h : p < hs.length) : hs.getD p 0 ∈ hs := by
  rw [List.getD_eq_getElem?_getD, List.getElem?_eq_getElem h]; exact List.getElem_mem h
theorem QOk.mv {k : Int} {qs : Qs} {hs : List Int} (h : QOk k qs hs) {ls : Lets} {a : Int} : QOk k qs (mvH ls a hs) := by
  refine ⟨h.ql, by unfold mvH; rw [List.length_map, List.length_zipIdx]; exact h.hl, fun x hx => ?_⟩
  unfold mvH at hx
  obtain ⟨z, hz, rfl⟩ := List.mem_map.mp hx
  have := h.h0 z.1 (by
    have := List.mem_zipIdx hz
    rw [this.2.2]; exact List.getElem_mem _)
  split <;> omega
theorem rq_mv {k : Int} {qs : Qs} {hs : List Int} (h : QOk k qs hs) {ls : Lets} {a : Int} : rq qs (mvH ls a hs) = mvQ ls a (rq qs hs) := by
  have hl := h.hl; have ql := h.ql
  refine qs_ext (by rw [mvQ_len, rq_len, rq_len]) fun p hp => ?_
  rw [rq_len] at hp
  rw [qat_rq hp, qat_mv (by rw [rq_len]; exact hp), qat_rq hp, mvH_get (by omega)]
  have := h.h0 _ (getD_mem (hs := hs) (p := p) (by omega))
  split
  · rw [show (hs.getD p 0 + 1).toNat = (hs.getD p 0).toNat + 1 by omega, List.tail_drop]
  · rw [Int.add_zero]
theorem rq_zero {k : Int} {qs : Qs} (h : qs.length = k.toNat) : QOk k qs (List.replicate k.toNat 0) ∧ rq qs (List.replicate k.toNat 0) = qs := by
  refine ⟨⟨h, by simp, fun x hx => by rw [List.eq_of_mem_replicate hx]; exact Int.le_refl _⟩, ?_⟩
  refine qs_ext (by rw [rq_len]) fun p hp => ?_
  rw [rq_len] at hp
  rw [qat_rq hp, List.getD_eq_getElem?_getD, List.getElem?_replicate]
  split <;> rfl
/-! queues of a word -/
def QW (ls : Lets) (k : Int) (Q : Qs) (r : List Int) : Prop := Q.length = k.toNat ∧ ∀ p : Nat, (p : Int) < k → qat Q p = at_ ls p r
theorem QW.rdy {k : Int} {ls : Lets} (A : AlphaOk k ls) {Q : Qs} {r : List Int} (h : QW ls k Q r) {a : Int} (ha : 0 ≤ a ∧ a < (ls.length : Int)) : rdyR ls Q a = rdy ls r a := by
  have pk := (A.pl_ok ha).2
  rw [Bool.eq_iff_iff, rdyR_iff, rdy_iff]
  have key : ∀ p ∈ pl ls a, qat Q p = at_ ls p r := fun p hp => by
    obtain ⟨h0, h1⟩ := pk p hp
    obtain ⟨n, rfl⟩ := Int.eq_ofNat_of_zero_le h0
    exact h.2 n h1
  exact ⟨fun x p hp => by rw [← key p hp]; exact x p hp, fun x p hp => by rw [key p hp]; exact x p hp⟩
theorem QW.mv {k : Int} {ls : Lets} (A : AlphaOk k ls) {Q : Qs} {r : List Int} (h : QW ls k Q r) {a : Int} (ha : 0 ≤ a ∧ a < (ls.length : Int)) (rd : My.rdy ls r a = true) : QW ls k (mvQ ls a Q) (r.erase a) := by
  refine ⟨by rw [mvQ_len]; exact h.1, fun p hp => ?_⟩
  have hq := h.1
  rw [qat_mv (by omega), h.2 p hp, rdy_at A ha rd p]
  split
  · rename_i hm; rw [at_cons_in hm]; rfl
  · rename_i hm; rw [at_cons_out hm]
/-- the ready letters -/
def rdyRL (ls : Lets) (Q : Qs) : List Int := ((List.range ls.length).filter fun a : Nat => rdyR ls Q a).map fun a : Nat => (a : Int)
end My
namespace My
/-! ### the first letter that nothing ahead of it holds back -/
theorem getD_at {r : List Int} {k : Nat} (h : k < r.length) : r.getD k 0 = r[k] := by rw [List.getD_eq_getElem?_getD, List.getElem?_eq_getElem h]; rfl
end My
namespace My
/-! ### runs of queues in any order -/
structure Sch (k : Int) (ls : Lets) (qs : Qs) (f hs : List Int) : Prop where
  q : QOk k qs hs
  wf : WordOk ls f
  hp : ∀ p : Nat, (p : Int) < k → hs.getD p 0 = ((at_ ls p f).length : Int) ∧ at_ ls p f ++ qat (rq qs hs) p = qat qs p
  tot : f.length + totQ (rq qs hs) ≤ totQ qs
  of : ∀ w, WordOk ls w → QW ls k qs w → ∃ r, WordOk ls r ∧ QW ls k (rq qs hs) r
theorem Sch.start {k : Int} {ls : Lets} {qs : Qs} (h : qs.length = k.toNat) : Sch k ls qs [] (List.replicate k.toNat 0) := by
  obtain ⟨z1, z2⟩ := rq_zero (qs := qs) h
  refine ⟨z1, fun x hx => (by cases hx), fun p hp => ⟨?_, by rw [z2]; rfl⟩, by rw [z2]; simp, fun w hw hq => ⟨w, hw, by rw [z2]; exact hq⟩⟩
  rw [List.getD_eq_getElem?_getD, List.getElem?_replicate]
  split <;> rfl
theorem Sch.step {k : Int} {ls : Lets} (A : AlphaOk k ls) {qs : Qs} {f hs : List Int} (h : Sch k ls qs f hs) {a : Int} (ha : 0 ≤ a ∧ a < (ls.length : Int)) (rd : rdyR ls (rq qs hs) a = true) : Sch k ls qs (f ++ [a]) (mvH ls a hs) := by
  have hl := h.q.hl; have ql := h.q.ql
  have mv := rq_mv h.q (ls := ls) (a := a)
  have lt := totQ_mv A (Q := rq qs hs) (by rw [rq_len]; exact ql) ha rd
  refine ⟨h.q.mv, fun x hx => ?_, fun p hp => ?_, ?_, fun w hw hq => ?_⟩
  · rcases List.mem_append.mp hx with hx | hx
    · exact h.wf x hx
    · rw [List.mem_singleton.mp hx]; exact ha
  · obtain ⟨h1, h2⟩ := h.hp p hp
    have hpn : p < qs.length := by omega
    rw [mvH_get (by omega), mv, qat_mv (by rw [rq_len]; exact hpn), at_append]
    by_cases hm : (p : Int) ∈ pl ls a
    · rw [if_pos hm, if_pos hm, at_cons_in hm]
      have hd := rdyR_iff.mp rd _ hm
      cases e : qat (rq qs hs) (p : Int) with
      | nil => rw [e] at hd; cases hd
      | cons b t =>
        rw [e] at hd h2
        have hb : b = a := by simpa using hd
        subst hb
        refine ⟨?_, ?_⟩
        · rw [h1, show at_ ls (p : Int) [] = [] from rfl, List.length_append]; simp
        · rw [← h2]
          simp only [show at_ ls (p : Int) [] = [] from rfl, List.tail_cons, List.append_assoc, List.cons_append, List.nil_append]
    · rw [if_neg hm, if_neg hm, at_cons_out hm, Int.add_zero, show at_ ls (p : Int) [] = [] from rfl, List.append_nil]
      exact ⟨h1, h2⟩
  · rw [mv, List.length_append]; simp only [List.length_singleton]
    have := h.tot
    omega
  · obtain ⟨r, hr, qr⟩ := h.of w hw hq
    rw [qr.rdy A ha] at rd
    exact ⟨r.erase a, hr.erase, by rw [mv]; exact qr.mv A ha rd⟩
end My
namespace My
/-! ### prefixes up to order -/
/-- what is left of a word behind the letters of another one -/
def dif (w u : List Int) : List Int := u.foldl (fun w a => w.erase a) w
theorem dif_cons {w u : List Int} {a : Int} : dif w (a :: u) = dif (w.erase a) u := rfl
def Pre (ls : Lets) (k : Int) (u w : List Int) : Prop := ∀ p : Int, 0 ≤ p → p < k → at_ ls p u <+: at_ ls p w
theorem Pre.head {k : Int} {ls : Lets} (A : AlphaOk k ls) {a : Int} {u w : List Int} (ha : 0 ≤ a ∧ a < (ls.length : Int)) (h : Pre ls k (a :: u) w) : rdy ls w a = true ∧ Pre ls k u (w.erase a) := by
  have pk := (A.pl_ok ha).2
  have r : rdy ls w a = true := rdy_iff.mpr fun p hp => by
    obtain ⟨t, e⟩ := h p (pk p hp).1 (pk p hp).2
    rw [at_cons_in hp] at e
    rw [← e]; rfl
  refine ⟨r, fun p h0 h1 => ?_⟩
  have q := h p h0 h1
  rw [rdy_at A ha r p] at q
  by_cases hp : p ∈ pl ls a
  · rw [at_cons_in hp, at_cons_in hp] at q
    exact (List.cons_prefix_cons.mp q).2
  · rw [at_cons_out hp, at_cons_out hp] at q
    exact q
theorem pre_dif {k : Int} {ls : Lets} (A : AlphaOk k ls) : ∀ {u w : List Int}, WordOk ls u → WordOk ls w → Pre ls k u w → WordOk ls (dif w u) ∧ (dif w u).length + u.length = w.length ∧ ∀ p : Int, 0 ≤ p → p < k → at_ ls p u ++ at_ ls p (dif w u) = at_ ls p w
  | [], w, _, hw, _ => ⟨hw, rfl, fun p _ _ => rfl⟩
  | a :: u, w, hu, hw, h => by
    have ha := hu a List.mem_cons_self
    obtain ⟨r, h2⟩ := h.head A ha
    obtain ⟨i1, i2, i3⟩ := pre_dif A hu.tail hw.erase h2
    have hm := rdy_mem A ha r
    have := List.length_erase_of_mem hm
    have := List.length_pos_of_mem hm
    refine ⟨i1, by rw [dif_cons, List.length_cons]; omega, fun p h0 h1 => ?_⟩
    rw [dif_cons, rdy_at A ha r p]
    by_cases hp : p ∈ pl ls a
    · rw [at_cons_in hp, at_cons_in hp, List.cons_append, i3 p h0 h1]
    · rw [at_cons_out hp, at_cons_out hp, i3 p h0 h1]
theorem Pre.rdy {k : Int} {ls : Lets} (A : AlphaOk k ls) {u w : List Int} (h : Pre ls k u w) {a : Int} (ha : 0 ≤ a ∧ a < (ls.length : Int)) (r : My.rdy ls u a = true) : My.rdy ls w a = true := rdy_iff.mpr fun p hp => by
  obtain ⟨h0, h1⟩ := (A.pl_ok ha).2 p hp
  have := rdy_iff.mp r p hp
  obtain ⟨t, e⟩ := h p h0 h1
  rw [← e]
  cases z : at_ ls p u with
  | nil => rw [z] at this; cases this
  | cons b l => rw [z] at this; exact this
/-! the greatest common prefix -/
/-! without, by counts -/
def inc (ts : List Int) (a : Int) : List Int := ts.set a.toNat (ts.getD a.toNat 0 + 1)
def ebN : List Int → List Int → Nat → List Nat
  | _, [], _ => []
  | ts, x :: w, i => if 0 < ts.getD x.toNat 0 then ebN (ts.set x.toNat (ts.getD x.toNat 0 - 1)) w (i + 1) else i :: ebN ts w (i + 1)
def cnts (ls : Lets) (u : List Int) : List Int := u.foldl inc (List.replicate ls.length 0)
def eb (ls : Lets) (w u : List Int) : List Nat := ebN (cnts ls u) w 0
theorem getD_set {ts : List Int} {i j : Nat} {x : Int} (h : i < ts.length) : (ts.set i x).getD j 0 = if i = j then x else ts.getD j 0 := by
  rw [List.getD_eq_getElem?_getD, List.getElem?_set, List.getD_eq_getElem?_getD]
  by_cases e : i = j
  · subst e; simp [h]
  · simp [e]
end My
namespace My
/-! ### crossings -/
end My
namespace My
/-! ### cuts -/
def okc (ls : Lets) (w : List Int) (k : Nat) (c : List Int) : Bool := (List.range k).all fun j => free ls (w.getD j 0) (w.getD k 0) || decide ((j : Int) ∈ c)
def cutN (ls : Lets) (w : List Int) : Nat → List (List Int)
  | 0 => [[]]
  | k + 1 => cutN ls w k ++ ((cutN ls w k).filter (okc ls w k)).map (· ++ [(k : Int)])
/-! the cut of a prefix -/
/-! the greatest common prefix is the greatest -/
theorem Pre.len {k : Int} {ls : Lets} (A : AlphaOk k ls) {u w : List Int} (hu : WordOk ls u) (hw : WordOk ls w) (h : Pre ls k u w) : u.length ≤ w.length := by
  have := (pre_dif A hu hw h).2.1
  omega
end My
namespace My
/-! ### lines of places, heads, least cuts -/
def lineQ (ls : Lets) (wd : List Int) (p : Int) : List Int := ((List.range wd.length).filter fun e : Nat => decide (p ∈ pl ls (wd.getD e 0))).map fun e : Nat => (e : Int)
def unm (cs : List (List Int)) (l : List Int) : Int := match (List.range l.length).find? fun p => !decide (l.getD p 0 ∈ cs.getD p []) with
  | some p => (p : Int)
  | none => -1
/-! heads of a cut -/
def lastL (qs : List (List Int)) (hs : List Int) : List Int := (qs.zip hs).map fun z => if z.2 > 0 then z.1.getD (z.2 - 1).toNat 0 else -1
/-- what the heads hs take -/
def tkn2 (ls : Lets) (wd hs : List Int) (p : Nat) : List Int := (lineQ ls wd p).take (hs.getD p 0).toNat
def Full (ls : Lets) (wd hs : List Int) (e : Int) : Prop := ∀ q : Nat, (q : Int) ∈ pl ls (wd.getD e.toNat 0) → e ∈ tkn2 ls wd hs q
def rem (ls : Lets) (k : Int) (wd hs : List Int) : Nat := ((List.range k.toNat).map fun p : Nat => (lineQ ls wd p).length - (hs.getD p 0).toNat).sum
theorem tkn2_mono {ls : Lets} {wd hs : List Int} {p q : Nat} {h : Nat} (hp : p < hs.length) (hh : hs.getD p 0 = (h : Int)) {x : Int} (hx : x ∈ tkn2 ls wd hs q) : x ∈ tkn2 ls wd (hs.set p ((h : Int) + 1)) q := by
  unfold tkn2 at hx ⊢
  rw [getD_set hp]
  by_cases e : p = q
  · subst e
    rw [if_pos rfl]
    rw [hh, Int.toNat_natCast] at hx
    rw [show ((h : Int) + 1).toNat = h + 1 by omega]
    exact (List.take_sublist_take_left (by omega)).subset hx
  · rw [if_neg e]; exact hx
theorem Full.mono {ls : Lets} {wd hs : List Int} {p : Nat} {h : Nat} (hp : p < hs.length) (hh : hs.getD p 0 = (h : Int)) {x : Int} (f : Full ls wd hs x) : Full ls wd (hs.set p ((h : Int) + 1)) x := fun q hq => tkn2_mono hp hh (f q hq)
/-! the last letters -/
/-! least cuts in which the conditions hold -/
end My
namespace My
open Hq
/-! ### beginnings of orders, told by their heads; the least of them that avoids some heads -/
def hdF (ls : Lets) (k : Int) (u : List Int) : List Int := u.foldl (fun h a => mvH ls a h) (List.replicate k.toNat 0)
def Bg (ls : Lets) (k : Int) (wd u : List Int) : Prop := WordOk ls u ∧ ∃ r, WordOk ls r ∧ Alk ls k wd (u ++ r)
/-! #### lists of pairs with each first part once -/
/-! #### the rounds -/
def bad (cs qs : List (List Int)) (h : List Int) : Bool := decide (unm cs (lastL qs h) < 0)
def Av (ls : Lets) (k : Int) (wd : List Int) (cs : List (List Int)) (u : List Int) : Prop := ∀ m, m ≤ u.length → bad cs (pws ls k wd) (hdF ls k (u.take m)) = false
structure Dp (ls : Lets) (k : Int) (wd : List Int) (cs : List (List Int)) (r : Nat) (L : List (List Int × List Int)) : Prop where
  nd : (L.map (·.1)).Nodup
  ok : ∀ z ∈ L, z.2.length = r ∧ Bg ls k wd z.2 ∧ hdF ls k z.2 = z.1 ∧ Av ls k wd cs z.2
  le : ∀ u : List Int, u.length = r → Bg ls k wd u → Av ls k wd cs u → ∃ z ∈ L, z.1 = hdF ls k u ∧ z.2 ≤ u
structure Dl (ls : Lets) (k : Int) (wd : List Int) (cs : List (List Int)) (r : Nat) (Pr : List Int → Int → Prop) (L : List (List Int × List Int)) : Prop where
  nd : (L.map (·.1)).Nodup
  ok : ∀ z ∈ L, z.2.length = r + 1 ∧ Bg ls k wd z.2 ∧ hdF ls k z.2 = z.1 ∧ Av ls k wd cs z.2
  le : ∀ (o : List Int) (a : Int), Pr o a → bad cs (pws ls k wd) (mvH ls a (hdF ls k o)) = false → ∃ z ∈ L, z.1 = mvH ls a (hdF ls k o) ∧ z.2 ≤ o ++ [a]
theorem Dl.mono {ls k wd cs r Pr Pr' L} (h : Dl ls k wd cs r Pr L) (hp : ∀ o a, Pr' o a → Pr o a) : Dl ls k wd cs r Pr' L := ⟨h.nd, h.ok, fun o a p => h.le o a (hp o a p)⟩
/-! #### last letters -/
end My
namespace My
open Hq
/-! ### how many orders a word has -/
def rdl (ls : Lets) (r : List Int) : List Int := ((List.range ls.length).filter fun a : Nat => rdy ls r a).map fun a : Nat => (a : Int)
theorem rdl_mem {ls : Lets} {r : List Int} {a : Int} : a ∈ rdl ls r ↔ (0 ≤ a ∧ a < (ls.length : Int)) ∧ rdy ls r a = true := by
  unfold rdl
  constructor
  · intro h
    obtain ⟨b, hb, rfl⟩ := List.mem_map.mp h
    obtain ⟨h1, h2⟩ := List.mem_filter.mp hb
    have := List.mem_range.mp h1
    exact ⟨by omega, h2⟩
  · rintro ⟨⟨h0, h1⟩, h2⟩
    refine List.mem_map.mpr ⟨a.toNat, List.mem_filter.mpr ⟨List.mem_range.mpr (by omega), ?_⟩, Int.toNat_of_nonneg h0⟩
    rw [Int.toNat_of_nonneg h0]; exact h2
def ords (ls : Lets) : Nat → List Int → List (List Int)
  | 0, _ => [[]]
  | n + 1, r => (rdl ls r).flatMap fun a => (ords ls n (r.erase a)).map fun x => a :: x
def cnt (ls : Lets) : Nat → List Int → Nat
  | 0, _ => 1
  | n + 1, r => ((rdl ls r).map fun a => cnt ls n (r.erase a)).sum
theorem ords_len {ls : Lets} : ∀ (n : Nat) (r : List Int), (ords ls n r).length = cnt ls n r
  | 0, _ => rfl
  | n + 1, r => by
    show ((rdl ls r).flatMap _).length = _
    rw [List.length_flatMap]
    congr 1
    refine List.map_congr_left fun a _ => ?_
    rw [List.length_map, ords_len n]
theorem alk_len {ls : Lets} {k : Int} (A : AlphaOk k ls) {u v : List Int} (hu : WordOk ls u) (hv : WordOk ls v) (h : Alk ls k u v) : v.length = u.length := by
  have := ((swp_of_alk A (x := []) hu hv h (.refl _)).word hu).2
  simpa using this
theorem ords_mem {ls : Lets} {k : Int} (A : AlphaOk k ls) : ∀ {n : Nat} {r x : List Int}, WordOk ls r → r.length = n → (x ∈ ords ls n r ↔ WordOk ls x ∧ Alk ls k r x)
  | 0, r, x, hr, hn => by
    have : r = [] := List.eq_nil_of_length_eq_zero hn
    subst this
    show x ∈ [[]] ↔ _
    rw [List.mem_singleton]
    constructor
    · rintro rfl; exact ⟨hr, fun p _ _ => rfl⟩
    · rintro ⟨hx, h⟩
      exact List.eq_nil_of_length_eq_zero (alk_len A hr hx h)
  | n + 1, r, x, hr, hn => by
    show x ∈ (rdl ls r).flatMap _ ↔ _
    rw [List.mem_flatMap]
    constructor
    · rintro ⟨a, ha, hx⟩
      obtain ⟨y, hy, rfl⟩ := List.mem_map.mp hx
      obtain ⟨ha1, ha2⟩ := rdl_mem.mp ha
      have hm := (rdy_split A ha1 ha2)
      obtain ⟨r1, r2, e, hn1, _⟩ := hm
      have hmem : a ∈ r := by rw [e]; simp
      obtain ⟨hy1, hy2⟩ := (ords_mem A hr.erase (by rw [List.length_erase_of_mem hmem]; omega)).mp hy
      refine ⟨fun z hz => ?_, fun p h0 h1 => ?_⟩
      · rcases List.mem_cons.mp hz with rfl | hz
        · exact ha1
        · exact hy1 z hz
      · rw [rdy_at A ha1 ha2 p]
        have := hy2 p h0 h1
        unfold at_ at this ⊢
        rw [List.filter_cons, List.filter_cons, this]
    · rintro ⟨hx, h⟩
      cases x with
      | nil => have := alk_len A hr hx h; simp at this; omega
      | cons a y =>
        have ha := hx a List.mem_cons_self
        obtain ⟨h1, h2⟩ := h.head A ha
        obtain ⟨r1, r2, e, hn1, _⟩ := rdy_split A ha h1
        have hmem : a ∈ r := by rw [e]; simp
        exact ⟨a, rdl_mem.mpr ⟨ha, h1⟩, List.mem_map.mpr ⟨y, (ords_mem A hr.erase (by rw [List.length_erase_of_mem hmem]; omega)).mpr ⟨fun z hz => hx z (List.mem_cons_of_mem _ hz), h2⟩, rfl⟩⟩
/-! #### told by queues -/
def cntQ (ls : Lets) : Nat → Qs → Nat
  | 0, _ => 1
  | n + 1, Q => ((rdyRL ls Q).map fun a => cntQ ls n (mvQ ls a Q)).sum
theorem cntQ_eq {ls : Lets} {k : Int} (A : AlphaOk k ls) : ∀ {n : Nat} {Q : Qs} {r : List Int}, WordOk ls r → QW ls k Q r → cntQ ls n Q = cnt ls n r
  | 0, _, _, _, _ => rfl
  | n + 1, Q, r, hr, h => by
    have e : rdyRL ls Q = rdl ls r := by
      unfold rdyRL rdl
      congr 1
      refine List.filter_congr fun a ha => ?_
      have := List.mem_range.mp ha
      exact h.rdy A ⟨by omega, by omega⟩
    show ((rdyRL ls Q).map _).sum = ((rdl ls r).map _).sum
    rw [e]
    congr 1
    refine List.map_congr_left fun a ha => ?_
    obtain ⟨h1, h2⟩ := rdl_mem.mp ha
    exact cntQ_eq A hr.erase (h.mv A h1 h2)
theorem cnt_pos {ls : Lets} {k : Int} (A : AlphaOk k ls) {r : List Int} (hr : WordOk ls r) : 1 ≤ cnt ls r.length r := by
  rw [← ords_len]
  exact List.length_pos_of_mem ((ords_mem A hr rfl).mpr ⟨hr, fun p _ _ => rfl⟩)
/-! #### two independent parts -/
def Apt (ls : Lets) (S : Int → Bool) (w : List Int) : Prop := ∀ a ∈ w, ∀ b ∈ w, S a = true → S b = false → free ls a b = true
theorem Apt.not {ls S w} (h : Apt ls S w) : Apt ls (fun a => !S a) w := fun a ha b hb h1 h2 => by
  rw [free_comm]
  exact h b hb a ha (by simpa using h2) (by simpa using h1)
end My
namespace My
/-! ### components -/
inductive Rc (ls : Lets) (S : List Int) (a : Int) : Int → Prop
  | refl : Rc ls S a a
  | step {x y : Int} : Rc ls S a x → y ∈ S → free ls x y = false → Rc ls S a y
open Classical in
noncomputable def rch (ls : Lets) (S : List Int) : List Int := S.filter fun x => decide (Rc ls S (S.headD 0) x)
theorem mem_rch {ls : Lets} {S : List Int} {x : Int} : x ∈ rch ls S ↔ x ∈ S ∧ Rc ls S (S.headD 0) x := by
  unfold rch
  rw [List.mem_filter]; simp
theorem rch_up {ls : Lets} {S : List Int} (h : S.Pairwise (· < ·)) : (rch ls S).Pairwise (· < ·) := h.filter _
/-- what the growing list keeps: s letters of it are done -/
structure Rg (ls : Lets) (S P : List Int) (s : Nat) : Prop where
  nd : P.Nodup
  sub : ∀ x ∈ P, x ∈ S ∧ Rc ls S (S.headD 0) x
  hd : S.headD 0 ∈ P
  le : s ≤ P.length
  cl : ∀ i, i < s → ∀ y ∈ S, free ls (P.getD i 0) y = false → y ∈ P
theorem Rg.len {ls : Lets} {S P : List Int} {s : Nat} (h : Rg ls S P s) : P.length ≤ S.length := by
  have : ∀ {P S : List Int}, P.Nodup → (∀ x ∈ P, x ∈ S) → P.length ≤ S.length := by
    intro P
    induction P with
    | nil => intro S _ _; exact Nat.zero_le _
    | cons a P ih =>
      intro S nd sub
      obtain ⟨n1, n2⟩ := List.nodup_cons.mp nd
      have ha := sub a List.mem_cons_self
      have := ih (S := S.erase a) n2 fun x hx => (List.mem_erase_of_ne (fun z : x = a => n1 (z ▸ hx))).mpr (sub x (List.mem_cons_of_mem _ hx))
      rw [List.length_erase_of_mem ha] at this
      have := List.length_pos_of_mem ha
      rw [List.length_cons]; omega
  exact this h.nd fun x hx => (h.sub x hx).1
theorem Rg.start {ls : Lets} {S : List Int} (h : S ≠ []) : Rg ls S [S.headD 0] 0 := by
  obtain ⟨a, S, rfl⟩ := List.exists_cons_of_ne_nil h
  exact ⟨by simp, fun x hx => by rw [List.mem_singleton.mp hx]; exact ⟨List.mem_cons_self, .refl⟩, by simp, Nat.zero_le _, fun i hi => absurd hi (Nat.not_lt_zero _)⟩
theorem Rg.done {ls : Lets} {S P B : List Int} (h : Rg ls S P P.length) (hS : S.Pairwise (· < ·)) (hp : B.Perm P) (hb : B.Pairwise (· ≤ ·)) : B = rch ls S := by
  refine lt_unique ?_ (rch_up hS) fun x => ?_
  · have nb : B.Nodup := hp.nodup_iff.mpr h.nd
    exact (List.Pairwise.and hb nb).imp fun ⟨h1, h2⟩ => by omega
  · rw [hp.mem_iff, mem_rch]
    refine ⟨h.sub x, fun hr => ?_⟩
    have r := hr.2
    clear hr
    induction r with
    | refl => exact h.hd
    | step _ hy hf ih =>
      obtain ⟨i, hi, e⟩ := List.getElem_of_mem ih
      exact h.cl i hi _ hy (by rw [getD_at hi, e]; exact hf)
end My
namespace My
open Hq
/-! ### counts by heads -/
def sumW (g : List Int → Nat) (L : List (List Int × Nat)) : Nat := (L.map fun z => z.2 * g z.1).sum
structure Dc (ls : Lets) (k : Int) (wd : List Int) (rem X : Nat) (L : List (List Int × Nat)) : Prop where
  nd : (L.map (·.1)).Nodup
  ok : ∀ z ∈ L, 1 ≤ z.2 ∧ QOk k (pws ls k wd) z.1 ∧ ∃ r, WordOk ls r ∧ r.length = rem ∧ QW ls k (rq (pws ls k wd) z.1) r
  sum : sumW (fun h => cntQ ls rem (rq (pws ls k wd) h)) L = X
theorem sumW_len {g : List Int → Nat} : ∀ {L : List (List Int × Nat)}, (∀ z ∈ L, 1 ≤ z.2 * g z.1) → L.length ≤ sumW g L
  | [], _ => Nat.zero_le _
  | z :: L, h => by
    have := sumW_len (g := g) fun y hy => h y (List.mem_cons_of_mem _ hy)
    have := h z List.mem_cons_self
    show L.length + 1 ≤ z.2 * g z.1 + sumW g L
    omega
theorem Dc.len {ls : Lets} {k : Int} (A : AlphaOk k ls) {wd : List Int} {rem X : Nat} {L : List (List Int × Nat)} (h : Dc ls k wd rem X L) : L.length ≤ X := by
  rw [← h.sum]
  refine sumW_len fun z hz => ?_
  obtain ⟨h1, _, r, hr, hl, hq⟩ := h.ok z hz
  have := cnt_pos A hr
  rw [hl, ← cntQ_eq A (n := rem) hr hq] at this
  exact Nat.mul_le_mul h1 this
end My
namespace My
open Hq
/-! ### components, one after another -/
end My
namespace My
open Hq
end My
namespace My
open Hq
/-! ### parts that hang together, letter by letter -/
theorem Rc.mono {ls : Lets} {S T : List Int} {a x : Int} (h : Rc ls S a x) (st : ∀ y ∈ S, y ∈ T) : Rc ls T a x := by
  induction h with
  | refl => exact .refl
  | step _ hy hf ih => exact .step ih (st _ hy) hf
theorem Rc.trans {ls : Lets} {S : List Int} {a b x : Int} (h : Rc ls S a b) (h2 : Rc ls S b x) : Rc ls S a x := by
  induction h2 with
  | refl => exact h
  | step _ hy hf ih => exact .step ih hy hf
theorem Rc.mem {ls : Lets} {S : List Int} {a x : Int} (h : Rc ls S a x) (ha : a ∈ S) : x ∈ S := by
  cases h with
  | refl => exact ha
  | step _ hy _ => exact hy
theorem Rc.symm {ls : Lets} {S : List Int} {a x : Int} (h : Rc ls S a x) (ha : a ∈ S) : Rc ls S x a := by
  induction h with
  | refl => exact .refl
  | @step x y h1 hy hf ih => exact Rc.trans (.step .refl (h1.mem ha) (by rw [free_comm]; exact hf)) ih
structure PI (ls : Lets) (T : List Int) (P : List (List Int)) : Prop where
  ne : ∀ p ∈ P, p ≠ [] ∧ p.Pairwise (· < ·)
  pm : P.flatten.Perm T
  cl : ∀ p ∈ P, ∀ x ∈ p, ∀ y ∈ T, (y ∈ p ↔ Rc ls T x y)
theorem PI.sub {ls : Lets} {T : List Int} {P : List (List Int)} (h : PI ls T P) {p : List Int} (hp : p ∈ P) {x : Int} (hx : x ∈ p) : x ∈ T := h.pm.mem_iff.mp (List.mem_flatten.mpr ⟨p, hp, hx⟩)
def tch (ls : Lets) (a : Int) (p : List Int) : Bool := p.any fun x => !free ls x a
theorem tch_iff {ls : Lets} {a : Int} {p : List Int} : tch ls a p = true ↔ ∃ x ∈ p, free ls x a = false := by
  unfold tch
  rw [List.any_eq_true]
  simp
theorem flat_two {f : List Int → Bool} : ∀ (P : List (List Int)), ((P.filter fun p => !f p).flatten ++ (P.filter f).flatten).Perm P.flatten
  | [] => .refl _
  | p :: P => by
    have ih := flat_two (f := f) P
    cases h : f p
    · rw [List.filter_cons, if_pos (by rw [h]; rfl), List.filter_cons, if_neg (by rw [h]; decide), List.flatten_cons, List.flatten_cons, List.append_assoc]
      exact ih.append_left _
    · rw [List.filter_cons, if_neg (by rw [h]; decide), List.filter_cons, if_pos (by rw [h]), List.flatten_cons, List.flatten_cons]
      refine List.Perm.trans ?_ (ih.append_left p)
      rw [← List.append_assoc, ← List.append_assoc]
      exact List.perm_append_comm.append_right _
theorem PI.start {ls : Lets} : PI ls [] [] := ⟨fun p h => (by cases h), .refl _, fun p h => (by cases h)⟩
/-- one letter more -/
theorem PI.step {ls : Lets} {k : Int} (A : AlphaOk k ls) {T : List Int} {P : List (List Int)} (h : PI ls T P) (hnd : T.Nodup) {a : Int} (ha : a ∉ T) {J : List Int} (hJ : J.Perm (a :: (P.filter (tch ls a)).flatten)) (hu : J.Pairwise (· ≤ ·)) :
    PI ls (T ++ [a]) ((P.filter fun p => !tch ls a p) ++ [J]) := by
  have near : ∀ p, p ∈ P.filter (tch ls a) ↔ p ∈ P ∧ ∃ x ∈ p, free ls x a = false := fun p => by rw [List.mem_filter, tch_iff]
  have far : ∀ p, (p ∈ P.filter fun p => !tch ls a p) ↔ p ∈ P ∧ ∀ x ∈ p, free ls x a = true := fun p => by
    rw [List.mem_filter]
    constructor
    · rintro ⟨h1, h2⟩
      refine ⟨h1, fun x hx => ?_⟩
      cases hf : free ls x a with
      | true => rfl
      | false =>
        have := tch_iff.mpr ⟨x, hx, hf⟩
        rw [this] at h2; cases h2
    · rintro ⟨h1, h2⟩
      refine ⟨h1, ?_⟩
      cases ht : tch ls a p with
      | false => rfl
      | true =>
        obtain ⟨x, hx, hf⟩ := tch_iff.mp ht
        rw [h2 x hx] at hf; cases hf
  have memJ : ∀ x, x ∈ J ↔ x = a ∨ ∃ p ∈ P, (∃ z ∈ p, free ls z a = false) ∧ x ∈ p := fun x => by
    rw [hJ.mem_iff, List.mem_cons, List.mem_flatten]
    constructor
    · rintro (h1 | ⟨p, hp, hx⟩)
      · exact .inl h1
      · obtain ⟨h1, h2⟩ := (near p).mp hp
        exact .inr ⟨p, h1, h2, hx⟩
    · rintro (h1 | ⟨p, hp, hz, hx⟩)
      · exact .inl h1
      · exact .inr ⟨p, (near p).mpr ⟨hp, hz⟩, hx⟩
  have pm : (((P.filter fun p => !tch ls a p) ++ [J]).flatten).Perm (T ++ [a]) := by
    rw [List.flatten_append, List.flatten_cons, List.flatten_nil, List.append_nil]
    refine List.Perm.trans (hJ.append_left _) ?_
    refine List.Perm.trans List.perm_middle ?_
    refine List.Perm.trans (List.Perm.cons a ((flat_two P).trans h.pm)) ?_
    exact (List.perm_append_singleton a T).symm
  have nd2 : (T ++ [a]).Nodup := by
    rw [List.nodup_append]
    exact ⟨hnd, by simp, fun x hx y hy => by rw [List.mem_singleton.mp hy]; exact fun z : x = a => ha (z ▸ hx)⟩
  have inT : ∀ y, y ∈ T ++ [a] ↔ y ∈ T ∨ y = a := fun y => by rw [List.mem_append, List.mem_singleton]
  refine ⟨fun p hp => ?_, pm, fun p hp x hx y hy => ?_⟩
  · rcases List.mem_append.mp hp with hp | hp
    · exact h.ne p ((far p).mp hp).1
    · rw [List.mem_singleton.mp hp]
      refine ⟨fun z => ?_, ?_⟩
      · have : a ∈ J := (memJ a).mpr (.inl rfl)
        rw [z] at this; cases this
      · have nj : J.Nodup := by
          have := pm.nodup_iff.mpr nd2
          rw [List.flatten_append, List.flatten_cons, List.flatten_nil, List.append_nil, List.nodup_append] at this
          exact this.2.1
        exact (List.Pairwise.and hu nj).imp fun ⟨h1, h2⟩ => by omega
  · rcases List.mem_append.mp hp with hp | hp
    · obtain ⟨p1, p2⟩ := (far p).mp hp
      have xT := h.sub p1 hx
      constructor
      · intro hyp
        exact ((h.cl p p1 x hx y (h.sub p1 hyp)).mp hyp).mono fun z hz => (inT z).mpr (.inl hz)
      · intro r
        clear hy
        induction r with
        | refl => exact hx
        | @step z y _ hy hf ih =>
          rcases (inT y).mp hy with hyT | rfl
          · have := (h.cl p p1 z ih y hyT).mpr (.step .refl hyT hf)
            exact this
          · rw [p2 z ih] at hf; cases hf
    · rw [List.mem_singleton.mp hp] at hx ⊢
      have up : ∀ {u v : Int}, Rc ls T u v → Rc ls (T ++ [a]) u v := fun r => r.mono fun z hz => (inT z).mpr (.inl hz)
      have toA : ∀ x ∈ J, Rc ls (T ++ [a]) x a := fun x hx => by
        rcases (memJ x).mp hx with rfl | ⟨p, hp, ⟨z, hz, hf⟩, hxp⟩
        · exact .refl
        · exact .step (up ((h.cl p hp x hxp z (h.sub hp hz)).mp hz)) ((inT a).mpr (.inr rfl)) hf
      have fromA : ∀ y ∈ J, Rc ls (T ++ [a]) a y := fun y hy => (toA y hy).symm ((inT y).mpr (by
        rcases (memJ y).mp hy with rfl | ⟨p, hp, _, hyp⟩
        · exact .inr rfl
        · exact .inl (h.sub hp hyp)))
      constructor
      · intro hyJ
        exact (toA x hx).trans (fromA y hyJ)
      · intro r
        clear hy
        induction r with
        | refl => exact hx
        | @step z y _ hy hf ih =>
          rcases (inT y).mp hy with hyT | rfl
          · obtain ⟨p2, hp2, hyp2⟩ := List.mem_flatten.mp (h.pm.mem_iff.mpr hyT)
            rcases (memJ z).mp ih with ez | ⟨p', hp', hz', hzp⟩
            · exact (memJ y).mpr (.inr ⟨p2, hp2, ⟨y, hyp2, by rw [free_comm, ← ez]; exact hf⟩, hyp2⟩)
            · exact (memJ y).mpr (.inr ⟨p', hp', hz', (h.cl p' hp' z hzp y hyT).mpr (.step .refl hyT hf)⟩)
          · exact (memJ y).mpr (.inl rfl)
end My
/-! ### dicts whose keys are None or nested tuples: lookups in the heap -/
namespace HqNa
open PySem PySem.Spec PyProof.Rows
abbrev XV := NestedKey × Value × Value
structure KeyV (h : Heap) (k : NestedKey) (v : Value) : Prop where
  is : NestedIs h k v
  dep : k.depth ≤ 8
  top : v = .none ∨ ∃ b, v = .ref b
def entV (w : World) (x : XV) : DictEntry := ⟨x.1.hash w, x.2.1, x.2.2⟩
section
variable {prog : Program} {w : World} {A : Around} {E : Value → Shared → Prop} {s : Shared} {d : Addr} {key : Value} {k : NestedKey} {xs : List XV}
/-- at d stands a dict with these entries -/
structure DictV (w : World) (h : Heap) (d : Addr) (xs : List XV) : Prop where
  ex : ∃ o es ep, h.get? d = some o ∧ o.ExactDict ∧ o.data = .dict es ep ∧ es.toList = xs.map (entV w)
  keys : ∀ x ∈ xs, KeyV h x.1 x.2.1
  nd : (xs.map (·.1)).Nodup
theorem DictV.new (h : Heap) : DictV w (h.push { cls := .type "dict", data := .dict #[] }) h.objs.size [] :=
  ⟨⟨_, #[], 0, Heap.get?_push_size _ rfl, ⟨rfl, rfl, rfl⟩, rfl, rfl⟩, (fun _ h => nomatch h), List.nodup_nil⟩
end
end HqNa
/-! ### dicts whose keys are None or nested tuples, values of any reading -/
namespace L2
open PySem PySem.Spec PyProof.Rows HqNa
/-! the terms -/
end L2
namespace Hq
open PySem L2
end Hq
/-! HqSf: objects that own what their fields hold. -/
namespace Hq
open PySem L2
end Hq
/-! HqSg: what is owned, in another order. -/
namespace Hq
open PySem L2
end Hq
/-! HqSh: calls that tell what they own, as assignments and as last statements. -/
namespace Hq
open PySem L2
end Hq
/-! HqSi: longer lists and dicts. -/
namespace Hq
open PySem L2
end Hq
/-! HqTa: texts. -/
namespace Hq
open PySem L2
/-- a text by its signs -/
abbrev dS (l : List Nat) : PyData := .str ⟨l.toArray⟩
theorem S_app (a b : List Nat) : ((⟨a.toArray⟩ : Str) ++ ⟨b.toArray⟩) = ⟨(a ++ b).toArray⟩ := by
  show Str.append _ _ = _
  unfold Str.append
  congr 1
  simp
theorem S_inj {a b : List Nat} (h : (⟨a.toArray⟩ : Str) = ⟨b.toArray⟩) : a = b := by
  have : a.toArray = b.toArray := congrArg Str.cps h
  exact List.toArray_inj this
theorem line24 {n : Nat} (h : n ≤ 16000000) : n ≤ sizeLine := Nat.le_trans h (by decide)
section
variable {K : PySem.W.Frag} {E : Ent} {F H : Hp} {M M1 M2 : Ms} {Γ : Gm} {P P1 : MP} {te ta tb : TE} {a b l : List Nat} {i : Int}
theorem ev_strL {x : Str} (h : x = ⟨l.toArray⟩) : Ev (tC (.str x)) Γ M (D K (dS l)) M := by rw [h]; exact ev_str
theorem dp_strS {v : V} {x : Str} (h : (D K (.str x)).p F v) : v = .str x := by cases h; rfl
theorem rv_addS (h : a.length + b.length ≤ 16000000) : RV (fun x y H Q => ∃ i j, x = .str i ∧ y = .str j ∧ i.length + j.length ≤ sizeLine ∧ Q (.str (i ++ j)) H) (D K (dS a)) (D K (dS b)) M (D K (dS (a ++ b))) M := rv_val (z := .str ⟨(a ++ b).toArray⟩) (fun _ => .str _) fun F H x y p1 p2 _ Q q => by
  cases dp_strS p1; cases dp_strS p2
  exact ⟨_, _, rfl, rfl, line24 (by show a.toArray.size + b.toArray.size ≤ _; simpa using h), by rw [S_app]; exact q⟩
theorem rv_ixS {c : Nat} (h0 : 0 ≤ i) (hl : l.length ≤ 16000000) (h : l[i.toNat]? = some c) : RV (rIx K) (D K (dS l)) (D K (.int i)) M (D K (dS [c])) M := rv_val (z := .str ⟨#[c]⟩) (fun _ => .str _) fun F H x y p1 p2 _ Q q => by
  cases dp_strS p1; cases dp_int p2
  refine .inr (.inr ⟨_, i, c, rfl, rfl, line24 (by show l.toArray.size ≤ _; simpa using hl), ?_, q⟩)
  show atI l.toArray.toList i = some c
  have hl := (List.getElem?_eq_some_iff.mp h).1
  obtain ⟨n, rfl⟩ := Int.eq_ofNat_of_zero_le h0
  unfold atI
  rw [List.toList_toArray, Evl.ixN_nat (by simpa using hl)]
  simpa using h
theorem rc_lenS (hl : l.length ≤ 16000000) : RC (fun xs H Q => ∃ z : Str, xs = [.str z] ∧ z.length ≤ sizeLine ∧ Q (.int z.length) H) [D K (dS l)] M (D K (.int (l.length : Int))) M := fun E F H vs g h Q k => by
  cases h with
  | cons h t =>
    cases t
    cases dp_strS h
    refine ⟨_, rfl, line24 (by show l.toArray.size ≤ _; simpa using hl), ?_⟩
    have : (⟨l.toArray⟩ : Str).length = l.length := by show l.toArray.size = _; simp
    rw [this]
    exact k _ F H (Evl.Ex.refl _) g (.int _)
theorem all_strs : ∀ {F : Hp} {xs : List V} {ls : List (List Nat)}, Ps F xs (ls.map fun l => D K (dS l)) → xs = ls.map fun l => V.str ⟨l.toArray⟩
  | _, _, [], h => by cases h; rfl
  | _, _, l :: ls, h => by
    cases h with
    | cons a t => cases dp_strS a; rw [all_strs t]; rfl
theorem dec_S : decide (V.str ⟨a.toArray⟩ = V.str ⟨b.toArray⟩) = decide (a = b) := decide_eq_decide.mpr ⟨fun h => S_inj (V.str.inj h), fun h => by rw [h]⟩
theorem rv_eqS : RV rEq (D K (dS a)) (D K (dS b)) M (D K (.bool (decide (a = b)))) M := rv_val (z := .bl _) (fun _ => .bl _) fun F H x y p1 p2 _ Q q => by
  cases dp_strS p1; cases dp_strS p2
  exact ⟨rfl, by rw [dec_S]; exact q⟩
theorem rv_neS : RV rNe (D K (dS a)) (D K (dS b)) M (D K (.bool (!decide (a = b)))) M := rv_val (z := .bl _) (fun _ => .bl _) fun F H x y p1 p2 _ Q q => by
  cases dp_strS p1; cases dp_strS p2
  exact ⟨rfl, by rw [dec_S]; exact q⟩
theorem ev_eqS (ha : Ev ta Γ M (D K (dS a)) M1) (hb : Ev tb Γ M1 (D K (dS b)) M2) : Ev (tOp rEq ta tb) Γ M (D K (.bool (decide (a = b)))) M2 := ev_op ha hb rv_eqS
theorem ev_neS (ha : Ev ta Γ M (D K (dS a)) M1) (hb : Ev tb Γ M1 (D K (dS b)) M2) : Ev (tOp rNe ta tb) Γ M (D K (.bool (!decide (a = b)))) M2 := ev_op ha hb rv_neS
end
end Hq
namespace Hq
open PySem L2
section
variable {K : PySem.W.Frag} {E : Ent} {F H : Hp} {M M1 M2 : Ms} {Γ : Gm} {P : MP} {O : MO} {q : Addr} {te ta : TE} {D1 : Ends} {ps qs : List MP} {j : Nat}
/-- xs.extend([..]), the second made here -/
theorem go_extN (ho : Ev ta Γ M (Own q) M) (h : EvN te Γ M (ML qs) M) (e : M[j]? = some (q, ML ps)) (hz : ps.length + qs.length ≤ 100000) (k : Nx E Γ (M.set j (q, ML (ps ++ qs))) D1.nx) :
    Nx E Γ M (tDrop (tBM K "list" rExtend ta (tCons te tNil)) D1) := fun σ H ⟨F, a, b⟩ => ho E F σ H a b _ fun v F1 H1 e1 g1 p1 => by
  have p1 : v = .ref q := p1
  subst p1
  obtain ⟨_, o, ho1, ws0, rfl, _⟩ := g1.at e
  refine ⟨.inl ⟨rfl, ws0, SqL.of ho1⟩, ?_⟩
  refine h E F1 σ H1 g1 (b.mono e1) _ fun q2 F2 H2 f e3 g2 => ?_
  obtain ⟨_, o, ho2, ws, rfl, s⟩ := g2.at (j := j + 1) (q := q) (O := ML ps) (by rw [List.getElem?_cons_succ]; exact e)
  obtain ⟨_, o, ho3, us, rfl, s2⟩ := g2.at (j := 0) (q := q2) (O := ML qs) rfl
  refine ⟨q, q2, ws, us, rfl, rfl, ho2, ho3, sz_of (by rw [paired_len s, paired_len s2]; exact hz), ?_⟩
  have g3 := g2.mut (j := j + 1) (q := q) (O := ML ps) (O' := ML (ps ++ qs)) (by rw [List.getElem?_cons_succ]; exact e) ⟨_, rfl, paired_app s s2⟩
  rw [List.set_cons_succ] at g3
  exact k _ _ ⟨F2, g3.drop (List.sublist_cons_self _ _), b.mono (e1.trans e3)⟩
end
end Hq
namespace Hq
open PySem L2
end Hq
namespace My
/-! ### the order of events -/
/-- event j of the word depends on event k -/
def dep (ls : Lets) (w : List Int) (j k : Nat) : Bool := !free ls (w.getD j 0) (w.getD k 0)
inductive Bel (d : Nat → Nat → Bool) : Nat → Nat → Prop where
  | refl (i : Nat) : Bel d i i
  | step {i j k : Nat} : Bel d i j → j < k → d j k = true → Bel d i k
theorem Bel.le {d : Nat → Nat → Bool} {i k : Nat} (h : Bel d i k) : i ≤ k := by
  induction h with
  | refl => exact Nat.le_refl _
  | step _ h _ ih => omega
theorem Bel.cons {d : Nat → Nat → Bool} {i j k : Nat} (h : d i j = true) (l : i < j) (b : Bel d j k) : Bel d i k := by
  induction b with
  | refl => exact .step (.refl i) l h
  | step _ l2 h2 ih => exact .step ih l2 h2
theorem Bel.last {d : Nat → Nat → Bool} {i k : Nat} : Bel d i k ↔ i = k ∨ ∃ j, j < k ∧ d j k = true ∧ Bel d i j := by
  constructor
  · intro b
    cases b with
    | refl => exact .inl rfl
    | step b l h => exact .inr ⟨_, l, h, b⟩
  · rintro (e | ⟨j, l, h, b⟩)
    · subst e; exact .refl i
    · exact .step b l h
/-- a table of truth values at a place -/
def cell (m : List (List Bool)) (r c : Nat) : Bool := (m.getD r []).getD c false
/-! ### masks -/
end My
namespace My
/-! ### what is_below, view and newest say -/
noncomputable def bel (d : Nat → Nat → Bool) (i k : Nat) : Bool := @decide (Bel d i k) (Classical.propDecidable _)
theorem bel_iff {d : Nat → Nat → Bool} {i k : Nat} : bel d i k = true ↔ Bel d i k := by
  unfold bel
  exact @decide_eq_true_iff _ (Classical.propDecidable _)
/-- event e is in the view of the place -/
noncomputable def inView (ls : Lets) (w : List Int) (p : Int) (e : Nat) : Bool := (List.range w.length).any fun k => decide (p ∈ pl ls (w.getD k 0)) && bel (dep ls w) e k
theorem inView_iff {ls : Lets} {w : List Int} {p : Int} {e : Nat} : inView ls w p e = true ↔ ∃ k, k < w.length ∧ p ∈ pl ls (w.getD k 0) ∧ Bel (dep ls w) e k := by
  unfold inView
  rw [List.any_eq_true]
  constructor
  · rintro ⟨k, hk, h⟩
    rw [Bool.and_eq_true, decide_eq_true_iff, bel_iff] at h
    exact ⟨k, List.mem_range.mp hk, h.1, h.2⟩
  · rintro ⟨k, hk, h1, h2⟩
    exact ⟨k, List.mem_range.mpr hk, by rw [Bool.and_eq_true, decide_eq_true_iff, bel_iff]; exact ⟨h1, h2⟩⟩
/-- two letters that share a place -/
theorem dep_iff {ls : Lets} {w : List Int} {j k : Nat} : dep ls w j k = true ↔ ∃ p, p ∈ pl ls (w.getD j 0) ∧ p ∈ pl ls (w.getD k 0) := by
  unfold dep free
  rw [Bool.not_eq_true', not_disj]
end My
namespace My
/-! ### what places know of letters -/
theorem dep_app {ls : Lets} {w v : List Int} {j k : Nat} (hj : j < w.length) (hk : k < w.length) : dep ls (w ++ v) j k = dep ls w j k := by
  unfold dep
  rw [List.getD_eq_getElem?_getD, List.getElem?_append_left hj, List.getD_eq_getElem?_getD, List.getElem?_append_left hk, List.getD_eq_getElem?_getD, List.getD_eq_getElem?_getD]
theorem bel_app {ls : Lets} {w v : List Int} : ∀ {k e : Nat}, k < w.length → (Bel (dep ls (w ++ v)) e k ↔ Bel (dep ls w) e k) := by
  intro k
  induction k using Nat.strongRecOn with
  | ind k ih =>
    intro e hk
    rw [Bel.last, Bel.last (d := dep ls w)]
    constructor
    · rintro (h | ⟨j, h1, h2, h3⟩)
      · exact .inl h
      · exact .inr ⟨j, h1, by rw [dep_app (by omega) hk] at h2; exact h2, (ih j h1 (by omega)).mp h3⟩
    · rintro (h | ⟨j, h1, h2, h3⟩)
      · exact .inl h
      · exact .inr ⟨j, h1, by rw [dep_app (by omega) hk]; exact h2, (ih j h1 (by omega)).mpr h3⟩
theorem getD_app {w v : List Int} {e : Nat} (h : e < w.length) : (w ++ v).getD e 0 = w.getD e 0 := by
  rw [List.getD_eq_getElem?_getD, List.getElem?_append_left h, List.getD_eq_getElem?_getD]
theorem getD_last {w : List Int} {x : Int} : (w ++ [x]).getD w.length 0 = x := by simp [List.getD_eq_getElem?_getD]
theorem view_out {ls : Lets} {w : List Int} {x p : Int} (hp : p ∉ pl ls x) {e : Nat} (he : e ≤ w.length) : inView ls (w ++ [x]) p e = true ↔ e < w.length ∧ inView ls w p e = true := by
  rw [inView_iff, inView_iff]
  constructor
  · rintro ⟨k, h1, h2, h3⟩
    rw [List.length_append, List.length_singleton] at h1
    have hk : k < w.length := by
      rcases Nat.lt_or_ge k w.length with h | h
      · exact h
      · have : k = w.length := by omega
        subst this
        rw [getD_last] at h2
        exact absurd h2 hp
    have := h3.le
    exact ⟨by omega, k, hk, by rw [getD_app hk] at h2; exact h2, (bel_app hk).mp h3⟩
  · rintro ⟨h0, k, h1, h2, h3⟩
    exact ⟨k, by rw [List.length_append]; omega, by rw [getD_app h1]; exact h2, (bel_app h1).mpr h3⟩
theorem view_in {ls : Lets} {w : List Int} {x p : Int} (hp : p ∈ pl ls x) {e : Nat} (he : e < w.length) : inView ls (w ++ [x]) p e = true ↔ ∃ q ∈ pl ls x, inView ls w q e = true := by
  rw [inView_iff]
  constructor
  · rintro ⟨k, h1, h2, h3⟩
    rw [List.length_append, List.length_singleton] at h1
    rcases Nat.lt_or_ge k w.length with hk | h
    · exact ⟨p, hp, inView_iff.mpr ⟨k, hk, by rw [getD_app hk] at h2; exact h2, (bel_app hk).mp h3⟩⟩
    · have : k = w.length := by omega
      subst this
      rcases Bel.last.mp h3 with z | ⟨j, j1, j2, j3⟩
      · omega
      · obtain ⟨q, q1, q2⟩ := dep_iff.mp j2
        rw [getD_last] at q2
        rw [getD_app j1] at q1
        exact ⟨q, q2, inView_iff.mpr ⟨j, j1, q1, (bel_app j1).mp j3⟩⟩
  · rintro ⟨q, hq, h⟩
    obtain ⟨j, j1, j2, j3⟩ := inView_iff.mp h
    refine ⟨w.length, by rw [List.length_append]; simp, by rw [getD_last]; exact hp, .step ((bel_app j1).mpr j3) j1 (dep_iff.mpr ⟨q, by rw [getD_app j1]; exact j2, by rw [getD_last]; exact hq⟩)⟩
theorem view_last {ls : Lets} {w : List Int} {x p : Int} (hp : p ∈ pl ls x) : inView ls (w ++ [x]) p w.length = true :=
  inView_iff.mpr ⟨w.length, by rw [List.length_append]; simp, by rw [getD_last]; exact hp, .refl _⟩
/-! clocks -/
end My
namespace My
end My
namespace My
open Hq
/-! ### facts about words, by views -/
inductive Fact where
  | cnt (l t : Int)
  | neg (f : Fact)
  | both (f g : Fact)
  | kn (p : Int) (f : Fact)
  | com (f : Fact)
def Fact.dep : Fact → Nat
  | .cnt _ _ => 1
  | .neg f => f.dep + 1
  | .both f g => max f.dep g.dep + 1
  | .kn _ f => f.dep + 1
  | .com f => f.dep + 1
/-- its places are there -/
def Fact.ok (k : Int) : Fact → Prop
  | .cnt _ _ => True
  | .neg f => f.ok k
  | .both f g => f.ok k ∧ g.ok k
  | .kn p f => (0 ≤ p ∧ p < k) ∧ f.ok k
  | .com f => f.ok k
end My
namespace My
open Hq
/-! ### the greatest event of a kind; claims about events -/
open Classical in
noncomputable def mx (P : Nat → Prop) : Nat → Int
  | 0 => -1
  | n + 1 => if P n then (n : Int) else mx P n
theorem mx_rng {P : Nat → Prop} : ∀ {n : Nat}, -1 ≤ mx P n ∧ mx P n < (n : Int)
  | 0 => by simp [mx]
  | n + 1 => by
    have := mx_rng (P := P) (n := n)
    unfold mx
    split <;> omega
theorem mx_yes {P : Nat → Prop} {n : Nat} (h : P n) : mx P (n + 1) = (n : Int) := by unfold mx; rw [if_pos h]
theorem mx_skip {P : Nat → Prop} {n : Nat} (h : ¬ P n) : mx P (n + 1) = mx P n := by
  conv => lhs; unfold mx
  rw [if_neg h]
theorem mx_ge {P : Nat → Prop} : ∀ {n e : Nat}, e < n → P e → (e : Int) ≤ mx P n
  | n + 1, e, h, p => by
    unfold mx
    split
    · omega
    · rcases Nat.lt_succ_iff_lt_or_eq.mp h with h | rfl
      · exact mx_ge h p
      · contradiction
theorem mx_in {P : Nat → Prop} : ∀ {n e : Nat}, mx P n = (e : Int) → e < n ∧ P e
  | 0, e, h => by unfold mx at h; omega
  | n + 1, e, h => by
    unfold mx at h
    split at h
    · have : n = e := by omega
      subst this
      exact ⟨by omega, by assumption⟩
    · have := mx_in h
      exact ⟨by omega, this.2⟩
theorem mx_of {P : Nat → Prop} {n e : Nat} (h1 : e < n) (h2 : P e) (h3 : ∀ e', e' < n → P e' → e' ≤ e) : mx P n = (e : Int) := by
  have a := mx_ge h1 h2
  obtain ⟨m, hm⟩ := Int.eq_ofNat_of_zero_le (show 0 ≤ mx P n by omega)
  obtain ⟨b, c⟩ := mx_in hm
  have := h3 m b c
  omega
theorem mx_no {P : Nat → Prop} {n : Nat} (h : ∀ e, e < n → ¬ P e) : mx P n = -1 := by
  have := mx_rng (P := P) (n := n)
  rcases (by omega : mx P n < 0 ∨ 0 ≤ mx P n) with z | z
  · omega
  · obtain ⟨m, hm⟩ := Int.eq_ofNat_of_zero_le z
    obtain ⟨b, c⟩ := mx_in hm
    exact absurd c (h m b)
theorem mx_cong {P Q : Nat → Prop} : ∀ {n : Nat}, (∀ e, e < n → (P e ↔ Q e)) → mx P n = mx Q n
  | 0, _ => rfl
  | n + 1, h => by
    unfold mx
    rw [mx_cong (n := n) fun e he => h e (by omega)]
    have := h n (by omega)
    split <;> split <;> first | rfl | (exfalso; simp_all)
theorem mx_or {ι : Type} {P : ι → Nat → Prop} {l : List ι} {n : Nat} {m : Int} (h1 : m ∈ l.map fun i => mx (P i) n) (h2 : ∀ y ∈ l.map (fun i => mx (P i) n), y ≤ m) : mx (fun e => ∃ i ∈ l, P i e) n = m := by
  obtain ⟨i, hi, rfl⟩ := List.mem_map.mp h1
  have hr := mx_rng (P := P i) (n := n)
  have up : ∀ j ∈ l, ∀ e, e < n → P j e → (e : Int) ≤ mx (P i) n := fun j hj e he hp => by
    have := mx_ge he hp
    have := h2 _ (List.mem_map.mpr ⟨j, hj, rfl⟩)
    omega
  rcases (by omega : mx (P i) n < 0 ∨ 0 ≤ mx (P i) n) with z | z
  · rw [mx_no]
    · omega
    · rintro e he ⟨j, hj, hp⟩
      have := up j hj e he hp
      omega
  · obtain ⟨m, hm⟩ := Int.eq_ofNat_of_zero_le z
    obtain ⟨b, c⟩ := mx_in hm
    rw [hm]
    refine mx_of b ⟨i, hi, c⟩ ?_
    rintro e he ⟨j, hj, hp⟩
    have := up j hj e he hp
    omega
theorem Bel.trans {d : Nat → Nat → Bool} {i j k : Nat} (h : Bel d i j) (h2 : Bel d j k) : Bel d i k := by
  induction h2 with
  | refl => exact h
  | step _ l e ih => exact .step ih l e
theorem dep_comm {ls : Lets} {w : List Int} {j k : Nat} : dep ls w j k = dep ls w k j := by unfold dep; rw [free_comm]
/-- the newest event at q strictly below event k -/
noncomputable def nwk (ls : Lets) (w : List Int) (q : Int) (k : Nat) : Int := mx (fun e => Bel (dep ls w) e k ∧ q ∈ pl ls (w.getD e 0)) k
/-- the newest event at q in the view of p -/
noncomputable def vw (ls : Lets) (w : List Int) (q p : Int) : Int := mx (fun e => inView ls w p e = true ∧ q ∈ pl ls (w.getD e 0)) w.length
theorem nwk_view {ls : Lets} {u v : List Int} {x q : Int} : nwk ls (u ++ x :: v) q u.length = mx (fun e => ∃ p ∈ pl ls x, inView ls u p e = true ∧ q ∈ pl ls (u.getD e 0)) u.length := by
  have e0 : u ++ x :: v = (u ++ [x]) ++ v := by simp
  refine mx_cong fun e he => ?_
  rw [show (u ++ x :: v).getD e 0 = u.getD e 0 from getD_app he]
  have : Bel (dep ls (u ++ x :: v)) e u.length ↔ ∃ p ∈ pl ls x, inView ls u p e = true := by
    rw [e0, bel_app (by simp)]
    constructor
    · intro h
      rcases Bel.last.mp h with z | ⟨j, j1, j2, j3⟩
      · omega
      · obtain ⟨p, p1, p2⟩ := dep_iff.mp j2
        rw [getD_last] at p2
        exact ⟨p, p2, inView_iff.mpr ⟨j, j1, by rw [getD_app j1] at p1; exact p1, (bel_app j1).mp j3⟩⟩
    · rintro ⟨p, hp, h⟩
      obtain ⟨j, j1, j2, j3⟩ := inView_iff.mp h
      exact .step ((bel_app j1).mpr j3) j1 (dep_iff.mpr ⟨p, by rw [getD_app j1]; exact j2, by rw [getD_last]; exact hp⟩)
  rw [this]
  constructor
  · rintro ⟨⟨p, h1, h2⟩, h3⟩; exact ⟨p, h1, h2, h3⟩
  · rintro ⟨p, h1, h2, h3⟩; exact ⟨⟨p, h1, h2⟩, h3⟩
theorem nwk_max {ls : Lets} {u v : List Int} {x q m : Int} (h1 : m ∈ (pl ls x).map fun p => vw ls u q p) (h2 : ∀ y ∈ (pl ls x).map (fun p => vw ls u q p), y ≤ m) : nwk ls (u ++ x :: v) q u.length = m := by
  rw [nwk_view]
  exact mx_or h1 h2
theorem vw_out {ls : Lets} {u : List Int} {x q p : Int} (hp : p ∉ pl ls x) : vw ls (u ++ [x]) q p = vw ls u q p := by
  unfold vw
  rw [List.length_append, List.length_singleton]
  rw [mx_skip fun z => by have := (view_out hp (Nat.le_refl _)).mp z.1; omega]
  refine mx_cong fun e he => ?_
  rw [getD_app he, view_out hp (by omega)]
  exact ⟨fun z => ⟨z.1.2, z.2⟩, fun z => ⟨⟨he, z.1⟩, z.2⟩⟩
theorem vw_in {ls : Lets} {u v : List Int} {x q p : Int} (hp : p ∈ pl ls x) : vw ls (u ++ [x]) q p = if q ∈ pl ls x then (u.length : Int) else nwk ls (u ++ x :: v) q u.length := by
  unfold vw
  rw [List.length_append, List.length_singleton]
  have vl := view_last hp (w := u)
  by_cases c : q ∈ pl ls x
  · rw [mx_yes ⟨vl, by rw [getD_last]; exact c⟩, if_pos c]
  · rw [mx_skip fun z => c (by have := z.2; rw [getD_last] at this; exact this), if_neg c, nwk_view]
    refine mx_cong fun e he => ?_
    rw [getD_app he, view_in hp he]
    constructor
    · rintro ⟨⟨p, h1, h2⟩, h3⟩; exact ⟨p, h1, h2, h3⟩
    · rintro ⟨p, h1, h2, h3⟩; exact ⟨⟨p, h1, h2⟩, h3⟩
inductive Clm where
  | letter (l : Int)
  | neg (c : Clm)
  | once (c : Clm)
  | known (p : Int) (c : Clm)
  | both (c d : Clm)
  | chain (c d : Clm)
deriving DecidableEq
def Clm.dep : Clm → Nat
  | .letter _ => 1
  | .neg c => c.dep + 1
  | .once c => c.dep + 1
  | .known _ c => c.dep + 1
  | .both c d => max c.dep d.dep + 1
  | .chain c d => max c.dep d.dep + 1
def Clm.ok (k : Int) : Clm → Prop
  | .letter _ => True
  | .neg c => c.ok k
  | .once c => c.ok k
  | .known p c => (0 ≤ p ∧ p < k) ∧ c.ok k
  | .both c d => c.ok k ∧ d.ok k
  | .chain c d => c.ok k ∧ d.ok k
inductive ChW (ls : Lets) (w : List Int) (f g : Nat → Prop) : Nat → Prop
  | now {k} : f k → ChW ls w f g k
  | prev {k j : Nat} {p : Int} : g k → p ∈ pl ls (w.getD k 0) → nwk ls w p k = (j : Int) → ChW ls w f g j → ChW ls w f g k
/-- words of which events answer one another -/
structure Iso (ls : Lets) (w w' : List Int) (π σ : Nat → Nat) : Prop where
  len : w'.length = w.length
  a : ∀ k, k < w.length → π k < w.length ∧ σ (π k) = k ∧ w'.getD (π k) 0 = w.getD k 0 ∧ occ w' (π k) = occ w k
  b : ∀ k, k < w.length → σ k < w.length ∧ π (σ k) = k
  o : ∀ j k, j < k → k < w.length → dep ls w j k = true → π j < π k
theorem Iso.dep {ls w w' π σ} (I : Iso ls w w' π σ) {j k : Nat} (hj : j < w.length) (hk : k < w.length) : dep ls w' (π j) (π k) = dep ls w j k := by
  unfold My.dep; rw [(I.a j hj).2.2.1, (I.a k hk).2.2.1]
theorem Iso.symm {ls w w' π σ} (I : Iso ls w w' π σ) : Iso ls w' w σ π where
  len := I.len.symm
  a := fun k hk => by
    rw [I.len] at hk ⊢
    obtain ⟨h1, h2⟩ := I.b k hk
    obtain ⟨_, _, h3, h4⟩ := I.a _ h1
    rw [h2] at h3 h4
    exact ⟨h1, h2, h3.symm, h4.symm⟩
  b := fun k hk => by
    rw [I.len] at hk ⊢
    obtain ⟨h1, h2, _⟩ := I.a k hk
    exact ⟨h1, h2⟩
  o := fun j k hjk hk hd => by
    rw [I.len] at hk
    obtain ⟨j1, j2⟩ := I.b j (by omega)
    obtain ⟨k1, k2⟩ := I.b k hk
    rcases Nat.lt_trichotomy (σ j) (σ k) with h | h | h
    · exact h
    · have := congrArg π h; omega
    · have := I.o _ _ h j1 (by
        rw [← I.dep k1 j1, j2, k2, dep_comm]; exact hd)
      omega
theorem Iso.bel {ls w w' π σ} (I : Iso ls w w' π σ) {j k : Nat} (hk : k < w.length) (h : Bel (My.dep ls w) j k) : Bel (My.dep ls w') (π j) (π k) := by
  induction h with
  | refl => exact .refl _
  | @step j k b l d ih => exact .step (ih (by omega)) (I.o _ _ l hk d) (by rw [I.dep (by omega) hk]; exact d)
theorem Iso.nwk {ls w w' π σ} (I : Iso ls w w' π σ) {j k : Nat} {q : Int} (hk : k < w.length) (h : nwk ls w q k = (j : Int)) : nwk ls w' q (π k) = (π j : Nat) := by
  obtain ⟨h1, h2, h3⟩ := mx_in h
  obtain ⟨ka, kb, kc, _⟩ := I.a k hk
  obtain ⟨ja, jb, jc, _⟩ := I.a j (by omega)
  have bj := I.bel hk h2
  refine mx_of ?_ ⟨bj, by rw [jc]; exact h3⟩ ?_
  · rcases Nat.eq_or_lt_of_le bj.le with e | e
    · rw [e] at jb; omega
    · exact e
  · rintro e he ⟨b, hq⟩
    have el : e < w.length := by omega
    have b2 := I.symm.bel (by rw [I.len]; exact ka) b
    rw [kb] at b2
    obtain ⟨e1, e2⟩ := I.b e el
    obtain ⟨_, _, ec, _⟩ := I.a (σ e) e1
    rw [e2] at ec
    have lt : σ e < k := by
      rcases Nat.eq_or_lt_of_le b2.le with z | z
      · rw [z] at e2; omega
      · exact z
    have := mx_ge (P := fun e => Bel (My.dep ls w) e k ∧ q ∈ pl ls (w.getD e 0)) lt ⟨b2, by rw [← ec]; exact hq⟩
    have h' : mx (fun e => Bel (My.dep ls w) e k ∧ q ∈ pl ls (w.getD e 0)) k = (j : Int) := h
    rw [h'] at this
    rcases Nat.eq_or_lt_of_le (show σ e ≤ j by omega) with z | z
    · rw [z] at e2; omega
    · have := I.o _ _ z (by omega) (dep_iff.mpr ⟨q, by rw [← ec]; exact hq, h3⟩)
      omega
theorem Iso.chain {ls w w' π σ} (I : Iso ls w w' π σ) {f g f' g' : Nat → Prop} (hf : ∀ k, k < w.length → f k → f' (π k)) (hg : ∀ k, k < w.length → g k → g' (π k)) {k : Nat} (hk : k < w.length) (h : ChW ls w f g k) : ChW ls w' f' g' (π k) := by
  induction h with
  | now h => exact .now (hf _ hk h)
  | @prev k j p h1 h2 h3 _ ih => exact .prev (hg _ hk h1) (by rw [(I.a k hk).2.2.1]; exact h2) (I.nwk hk h3) (ih (by have := (mx_in h3).1; omega))
theorem Iso.refl {ls : Lets} {w : List Int} : Iso ls w w id id := ⟨rfl, fun k hk => ⟨hk, rfl, rfl, rfl⟩, fun k hk => ⟨hk, rfl⟩, fun _ _ h _ _ => h⟩
end My
namespace My
open Hq PySem
/-! ### the parts of a claim -/
inductive Kd | letter | not | once | known | both | chain
deriving DecidableEq
def Kd.s : Kd → Str
  | .letter => "letter" | .not => "not" | .once => "once" | .known => "known" | .both => "both" | .chain => "chain"
abbrev Prt := Kd × List Int
/-- what a part says, told by claims for the numbers -/
def PtOk (cs : List Clm) (i : Nat) (p : Prt) : Clm → Prop
  | .letter l => p = (.letter, [l])
  | .neg c => ∃ j : Nat, j < i ∧ cs[j]? = some c ∧ p = (.not, [(j : Int)])
  | .once c => ∃ j : Nat, j < i ∧ cs[j]? = some c ∧ p = (.once, [(j : Int)])
  | .known q c => ∃ j : Nat, j < i ∧ cs[j]? = some c ∧ p = (.known, [q, (j : Int)])
  | .both c d => ∃ j m : Nat, j < i ∧ m < i ∧ cs[j]? = some c ∧ cs[m]? = some d ∧ p = (.both, [(j : Int), (m : Int)])
  | .chain c d => ∃ j m : Nat, j < i ∧ m < i ∧ cs[j]? = some c ∧ cs[m]? = some d ∧ p = (.chain, [(j : Int), (m : Int)])
theorem PtOk.mono {cs cs' : List Clm} {i : Nat} {p : Prt} {c : Clm} (h : PtOk cs i p c) (hp : cs <+: cs') : PtOk cs' i p c := by
  have up : ∀ {j : Nat} {c : Clm}, cs[j]? = some c → cs'[j]? = some c := fun {j c} h => by
    obtain ⟨t, rfl⟩ := hp
    rw [List.getElem?_append_left (List.getElem?_eq_some_iff.mp h).1]; exact h
  cases c with
  | letter l => exact h
  | neg c => obtain ⟨j, a, b, e⟩ := h; exact ⟨j, a, up b, e⟩
  | once c => obtain ⟨j, a, b, e⟩ := h; exact ⟨j, a, up b, e⟩
  | known q c => obtain ⟨j, a, b, e⟩ := h; exact ⟨j, a, up b, e⟩
  | both c d => obtain ⟨j, m, a, a', b, b', e⟩ := h; exact ⟨j, m, a, a', up b, up b', e⟩
  | chain c d => obtain ⟨j, m, a, a', b, b', e⟩ := h; exact ⟨j, m, a, a', up b, up b', e⟩
end My
namespace My
open Hq
/-! ### gossip: newest events of newest events, and labels that are used again -/
section
variable {ls : Lets} {w : List Int}
/-- downward closed sets of events -/
structure Dn (ls : Lets) (w : List Int) (D : Nat → Prop) : Prop where
  dn : ∀ i j, D j → Bel (dep ls w) i j → D i
  lt : ∀ j, D j → j < w.length
/-- the newest event at q in a set -/
noncomputable def nd (ls : Lets) (w : List Int) (D : Nat → Prop) (q : Int) : Int := mx (fun e => D e ∧ q ∈ pl ls (w.getD e 0)) w.length
theorem nd_in {D : Nat → Prop} {q : Int} {j : Nat} (h : nd ls w D q = (j : Int)) : D j ∧ q ∈ pl ls (w.getD j 0) ∧ j < w.length := ⟨(mx_in h).2.1, (mx_in h).2.2, (mx_in h).1⟩
theorem nd_ge {D : Nat → Prop} (hD : Dn ls w D) {q : Int} {j : Nat} (h : D j) (hq : q ∈ pl ls (w.getD j 0)) : (j : Int) ≤ nd ls w D q := mx_ge (hD.lt j h) ⟨h, hq⟩
theorem nd_nat {D : Nat → Prop} (hD : Dn ls w D) {q : Int} {j : Nat} (h : D j) (hq : q ∈ pl ls (w.getD j 0)) : ∃ m : Nat, nd ls w D q = (m : Int) ∧ j ≤ m := by
  have := nd_ge hD h hq
  obtain ⟨m, hm⟩ := Int.eq_ofNat_of_zero_le (show 0 ≤ nd ls w D q by omega)
  exact ⟨m, hm, by omega⟩
theorem nd_rng {D : Nat → Prop} {q : Int} : -1 ≤ nd ls w D q ∧ nd ls w D q < (w.length : Int) := mx_rng
theorem same_bel {q : Int} {i j : Nat} (hi : q ∈ pl ls (w.getD i 0)) (hj : q ∈ pl ls (w.getD j 0)) (h : i ≤ j) : Bel (dep ls w) i j := by
  rcases Nat.eq_or_lt_of_le h with rfl | h
  · exact .refl _
  · exact .step (.refl _) h (dep_iff.mpr ⟨q, hi, hj⟩)
theorem dn_bel {g : Nat} (hg : g < w.length) : Dn ls w fun e => Bel (dep ls w) e g := ⟨fun i j h b => b.trans h, fun j h => by have := h.le; omega⟩
theorem dn_view {p : Int} : Dn ls w fun e => inView ls w p e = true := ⟨fun i j h b => by
  obtain ⟨k, hk, hp, h⟩ := inView_iff.mp h
  exact inView_iff.mpr ⟨k, hk, hp, b.trans h⟩, fun j h => by
  obtain ⟨k, hk, hp, h⟩ := inView_iff.mp h
  have := h.le; omega⟩
/-- what leads out of a closed set passes one of its newest events -/
theorem nd_cross {D : Nat → Prop} (hD : Dn ls w D) {f g : Nat} (b : Bel (dep ls w) f g) (hf : D f) : D g ∨ ∃ (j : Int) (h : Nat), nd ls w D j = (h : Int) ∧ Bel (dep ls w) f h ∧ Bel (dep ls w) h g := by
  induction b with
  | refl => exact .inl hf
  | @step j k b l d ih =>
    rcases ih with ih | ⟨q, h, h1, h2, h3⟩
    · by_cases c : D k
      · exact .inl c
      · obtain ⟨q, q1, q2⟩ := dep_iff.mp d
        obtain ⟨m, hm, jm⟩ := nd_nat hD ih q1
        obtain ⟨dm, qm, _⟩ := nd_in hm
        refine .inr ⟨q, m, hm, b.trans (same_bel q1 qm jm), ?_⟩
        rcases Nat.lt_or_ge m k with h | h
        · exact same_bel qm q2 (by omega)
        · exact absurd (hD.dn k m dm (same_bel q2 qm h)) c
    · exact .inr ⟨q, h, h1, h2, .step h3 l d⟩
/-- the newest event at q below an event, or it -/
noncomputable def nb (ls : Lets) (w : List Int) (q m : Int) : Int := if m < 0 then -1 else nd ls w (fun e => Bel (dep ls w) e m.toNat) q
theorem nb_nat {q : Int} {m : Nat} : nb ls w q (m : Int) = nd ls w (fun e => Bel (dep ls w) e m) q := by
  unfold nb
  rw [if_neg (by omega), Int.toNat_natCast]
theorem nb_neg {q m : Int} (h : m < 0) : nb ls w q m = -1 := by unfold nb; rw [if_pos h]
theorem nb_rng {q m : Int} : -1 ≤ nb ls w q m ∧ nb ls w q m < (w.length : Int) ∨ (nb ls w q m = -1) := by
  unfold nb
  split
  · exact .inr rfl
  · exact .inl nd_rng
/-- it is told by what it is -/
theorem nd_is {D : Nat → Prop} (hD : Dn ls w D) {q : Int} {j : Nat} (h1 : D j) (h2 : q ∈ pl ls (w.getD j 0)) (h3 : ∀ i, D i → q ∈ pl ls (w.getD i 0) → i ≤ j) : nd ls w D q = (j : Int) := mx_of (hD.lt j h1) ⟨h1, h2⟩ fun e _ h => h3 e h.1 h.2
theorem nb_self {q : Int} {m : Nat} (hm : m < w.length) (h : q ∈ pl ls (w.getD m 0)) : nb ls w q (m : Int) = (m : Int) := by
  rw [nb_nat]
  exact nd_is (dn_bel hm) (.refl _) h fun i b _ => b.le
/-- between: if f is the newest at q of a set and h of the set is above f, it is the newest below h -/
theorem nb_mid {D : Nat → Prop} (hD : Dn ls w D) {q : Int} {f h : Nat} (hf : nd ls w D q = (f : Int)) (hh : D h) (b : Bel (dep ls w) f h) : nb ls w q (h : Int) = (f : Int) := by
  obtain ⟨df, qf, _⟩ := nd_in hf
  rw [nb_nat]
  refine nd_is (dn_bel (hD.lt h hh)) b qf fun i bi qi => ?_
  have := nd_ge hD (hD.dn i h hh bi) qi
  omega
/-- a view is what lies below its own last event -/
theorem view_own {p : Int} {e : Nat} (h : inView ls w p e = true) : ∃ g : Nat, vw ls w p p = (g : Int) ∧ Bel (dep ls w) e g ∧ inView ls w p g = true ∧ p ∈ pl ls (w.getD g 0) ∧ g < w.length := by
  obtain ⟨k, hk, hp, b⟩ := inView_iff.mp h
  have vk : inView ls w p k = true := inView_iff.mpr ⟨k, hk, hp, .refl _⟩
  obtain ⟨g, hg, kg⟩ := nd_nat (D := fun e => inView ls w p e = true) dn_view vk hp
  obtain ⟨d, q, l⟩ := nd_in hg
  exact ⟨g, hg, b.trans (same_bel hp q kg), d, q, l⟩
theorem own_view {p : Int} {g e : Nat} (hg : vw ls w p p = (g : Int)) (b : Bel (dep ls w) e g) : inView ls w p e = true := dn_view.dn e g (nd_in hg).1 b
/-- every event of a place is in its view -/
theorem at_view {p : Int} {e : Nat} (he : e < w.length) (h : p ∈ pl ls (w.getD e 0)) : inView ls w p e = true := inView_iff.mpr ⟨e, he, h, .refl _⟩
/-- the last event of a place, in another closed set, is its newest there -/
theorem own_newest {p : Int} {D : Nat → Prop} (hD : Dn ls w D) {g : Nat} (hg : vw ls w p p = (g : Int)) (h : D g) : nd ls w D p = (g : Int) := by
  obtain ⟨_, q, _⟩ := nd_in (D := fun e => inView ls w p e = true) hg
  refine nd_is hD h q fun i di qi => ?_
  have := nd_ge (D := fun e => inView ls w p e = true) dn_view (at_view (hD.lt i di) qi) qi
  have hg : nd ls w (fun e => inView ls w p e = true) p = (g : Int) := hg
  omega
/-- two steps away from a place -/
def Sec (ls : Lets) (w : List Int) (e : Nat) : Prop := ∃ x q r : Int, nb ls w r (vw ls w q x) = (e : Int)
theorem sec_prim {q x : Int} {e : Nat} (h : vw ls w q x = (e : Int)) : Sec ls w e := ⟨x, q, q, by
  obtain ⟨_, hq, hl⟩ := nd_in (D := fun e => inView ls w x e = true) h
  rw [h, nb_self hl hq]⟩
/-- an event two steps away that is in a view is three steps away there -/
theorem ter {x q r p : Int} {f : Nat} (h : nb ls w r (vw ls w q x) = (f : Int)) (hf : inView ls w p f = true) : ∃ q' r' s' : Int, nb ls w s' (nb ls w r' (vw ls w q' p)) = (f : Int) := by
  have gn : 0 ≤ vw ls w q x := Int.not_lt.mp fun c => by rw [nb_neg c] at h; omega
  obtain ⟨g, hg⟩ := Int.eq_ofNat_of_zero_le gn
  rw [hg, nb_nat] at h
  obtain ⟨vg, qg, lg⟩ := nd_in (D := fun e => inView ls w x e = true) hg
  obtain ⟨bf, rf, lf⟩ := nd_in h
  rcases nd_cross (D := fun e => inView ls w p e = true) dn_view bf hf with vpg | ⟨j, h0, hj, b1, b2⟩
  · obtain ⟨gx, e1, e2, e3, e4, e5⟩ := view_own vg
    rcases nd_cross (D := fun e => inView ls w p e = true) dn_view e2 vpg with vgx | ⟨j, h0, hj, b1, b2⟩
    · have := own_newest (D := fun e => inView ls w p e = true) dn_view e1 vgx
      refine ⟨x, q, r, ?_⟩
      rw [show vw ls w x p = (gx : Int) from this, nb_mid (D := fun e => inView ls w x e = true) dn_view hg e3 e2, nb_nat]
      exact h
    · refine ⟨j, q, r, ?_⟩
      rw [show vw ls w j p = (h0 : Int) from hj, nb_mid (D := fun e => inView ls w x e = true) dn_view hg (own_view e1 b2) b1, nb_nat]
      exact h
  · refine ⟨j, r, r, ?_⟩
    rw [show vw ls w j p = (h0 : Int) from hj, nb_mid (D := fun e => Bel (dep ls w) e g) (dn_bel lg) h b2 b1, nb_self lf rf]
end
end My
namespace My
open Hq
/-! ### labels of events, tables of labels -/
section
variable {ls : Lets} {w lam : List Int}
theorem list_max : ∀ {l : List Int}, l ≠ [] → ∃ m ∈ l, ∀ y ∈ l, y ≤ m
  | [a], _ => ⟨a, List.mem_cons_self, fun y hy => by rw [List.mem_singleton.mp hy]; omega⟩
  | a :: b :: l, _ => by
    obtain ⟨m, hm, ub⟩ := list_max (l := b :: l) (by simp)
    rcases Int.lt_or_le a m with h | h
    · exact ⟨m, List.mem_cons_of_mem _ hm, fun y hy => (List.mem_cons.mp hy).elim (fun e => by omega) (ub y)⟩
    · exact ⟨a, List.mem_cons_self, fun y hy => (List.mem_cons.mp hy).elim (fun e => by omega) fun h' => by have := ub y h'; omega⟩
/-- old events know what they knew -/
theorem nb_old {q a : Int} {m : Nat} (hm : m < w.length) : nb ls (w ++ [a]) q (m : Int) = nb ls w q (m : Int) := by
  rw [nb_nat, nb_nat]
  unfold nd
  rw [List.length_append, List.length_singleton, mx_skip fun z => by have := z.1.le; omega]
  exact mx_cong fun e he => by
    show Bel (dep ls (w ++ [a])) e m ∧ _ ↔ Bel (dep ls w) e m ∧ _
    rw [bel_app hm, getD_app he]
theorem nb_oldI {q a m : Int} (hm : m < (w.length : Int)) : nb ls (w ++ [a]) q m = nb ls w q m := by
  rcases Int.lt_or_le m 0 with h | h
  · rw [nb_neg h, nb_neg h]
  · obtain ⟨n, rfl⟩ := Int.eq_ofNat_of_zero_le h
    exact nb_old (by omega)
/-- the newest at q of the places of a letter -/
noncomputable def mq (ls : Lets) (w : List Int) (a q : Int) : Int := nwk ls (w ++ [a]) q w.length
theorem mq_is {a q m : Int} (h1 : m ∈ (pl ls a).map fun y => vw ls w q y) (h2 : ∀ y ∈ (pl ls a).map (fun y => vw ls w q y), y ≤ m) : mq ls w a q = m := nwk_max (v := []) h1 h2
theorem mq_ex {a q : Int} (h : pl ls a ≠ []) : ∃ y ∈ pl ls a, mq ls w a q = vw ls w q y ∧ ∀ y' ∈ pl ls a, vw ls w q y' ≤ vw ls w q y := by
  obtain ⟨m, hm, ub⟩ := list_max (l := (pl ls a).map fun y => vw ls w q y) (by simpa using h)
  obtain ⟨y, hy, rfl⟩ := List.mem_map.mp hm
  exact ⟨y, hy, mq_is hm ub, fun y' hy' => ub _ (List.mem_map.mpr ⟨y', hy', rfl⟩)⟩
theorem mq_lt {a q : Int} (h : pl ls a ≠ []) : mq ls w a q < (w.length : Int) := by
  obtain ⟨y, _, e, _⟩ := mq_ex (w := w) (q := q) h
  rw [e]
  exact (nd_rng (D := fun e => inView ls w y e = true)).2
/-- the new event -/
theorem nb_new {a q : Int} : nb ls (w ++ [a]) q (w.length : Int) = if q ∈ pl ls a then (w.length : Int) else mq ls w a q := by
  have hl : w.length < (w ++ [a]).length := by simp
  by_cases c : q ∈ pl ls a
  · rw [if_pos c]
    exact nb_self hl (by rw [getD_last]; exact c)
  · rw [if_neg c, nb_nat]
    unfold nd
    rw [List.length_append, List.length_singleton, mx_skip fun z => c (by have := z.2; rw [getD_last] at this; exact this)]
    rfl
theorem vw_new {a q x : Int} (hx : x ∈ pl ls a) : vw ls (w ++ [a]) q x = nb ls (w ++ [a]) q (w.length : Int) := by
  rw [nb_new]
  exact vw_in (v := []) hx
theorem vw_lt {q x : Int} : vw ls w q x < (w.length : Int) := (nd_rng (D := fun e => inView ls w x e = true)).2
/-- what is two steps away behind a new event -/
theorem sec_step {k : Int} (A : AlphaOk k ls) {a : Int} (ha : 0 ≤ a ∧ a < (ls.length : Int)) {f : Nat} (h : Sec ls (w ++ [a]) f) (hf : f ≠ w.length) :
    (f < w.length ∧ Sec ls w f) ∧ ((w.getD f 0 = a) → ∃ p ∈ pl ls a, ∃ q r s : Int, nb ls w s (nb ls w r (vw ls w q p)) = (f : Int)) := by
  have pne := (A.pl_ok ha).1
  obtain ⟨x, q, r, h⟩ := h
  have lf : f < (w ++ [a]).length := by
    rcases nb_rng (ls := ls) (w := w ++ [a]) (q := r) (m := vw ls (w ++ [a]) q x) with z | z <;> omega
  have lf : f < w.length := by rw [List.length_append, List.length_singleton] at lf; omega
  have prim : ∀ {q y : Int}, y ∈ pl ls a → vw ls w q y = (f : Int) → (f < w.length ∧ Sec ls w f) ∧ ((w.getD f 0 = a) → ∃ p ∈ pl ls a, ∃ q r s : Int, nb ls w s (nb ls w r (vw ls w q p)) = (f : Int)) := fun {q y} hy e => by
    obtain ⟨_, qf, _⟩ := nd_in (D := fun e => inView ls w y e = true) e
    exact ⟨⟨lf, sec_prim e⟩, fun _ => ⟨y, hy, q, q, q, by rw [e, nb_self lf qf, nb_self lf qf]⟩⟩
  by_cases hx : x ∈ pl ls a
  · rw [vw_new hx, nb_new] at h
    by_cases hq : q ∈ pl ls a
    · rw [if_pos hq, nb_new] at h
      by_cases hr : r ∈ pl ls a
      · rw [if_pos hr] at h; omega
      · rw [if_neg hr] at h
        obtain ⟨y, hy, e, _⟩ := mq_ex (w := w) (q := r) pne
        rw [e] at h
        exact prim hy h
    · rw [if_neg hq, nb_oldI (mq_lt pne)] at h
      obtain ⟨y, hy, e, _⟩ := mq_ex (w := w) (q := q) pne
      rw [e] at h
      refine ⟨⟨lf, ⟨y, q, r, h⟩⟩, fun _ => ⟨y, hy, q, q, r, ?_⟩⟩
      have gn : 0 ≤ vw ls w q y := Int.not_lt.mp fun c => by rw [nb_neg c] at h; omega
      obtain ⟨g, hg⟩ := Int.eq_ofNat_of_zero_le gn
      obtain ⟨_, qg, lg⟩ := nd_in (D := fun e => inView ls w y e = true) hg
      rw [hg, nb_self lg qg, ← hg]
      exact h
  · rw [vw_out hx, nb_oldI vw_lt] at h
    refine ⟨⟨lf, ⟨x, q, r, h⟩⟩, fun e => ?_⟩
    obtain ⟨p, hp⟩ : ∃ p, p ∈ pl ls a := List.exists_mem_of_ne_nil _ pne
    obtain ⟨q', r', s', z⟩ := ter h (at_view lf (by rw [e]; exact hp))
    exact ⟨p, hp, q', r', s', z⟩
/-- a label, 0 for none -/
def lb (lam : List Int) (m : Int) : Int := if m < 0 then 0 else lam.getD m.toNat 0
theorem lb_nat {m : Nat} : lb lam (m : Int) = lam.getD m 0 := by unfold lb; rw [if_neg (by omega), Int.toNat_natCast]
/-- the labels are told apart where it matters -/
structure LbOk (ls : Lets) (w lam : List Int) : Prop where
  len : lam.length = w.length
  res : ∀ e, e < w.length → 1 ≤ lam.getD e 0 ∧ (lam.getD e 0 - 1) % (ls.length : Int) = w.getD e 0
  uq : ∀ e f, Sec ls w e → Sec ls w f → lam.getD e 0 = lam.getD f 0 → e = f
/-- an entry of a table -/
noncomputable def ent (ls : Lets) (w lam : List Int) (q r s p : Int) : Int := lb lam (nb ls w s (nb ls w r (vw ls w q p)))
theorem LbOk.step {k : Int} (A : AlphaOk k ls) {a c : Int} (ha : 0 ≤ a ∧ a < (ls.length : Int)) (hw : WordOk ls w) (L : LbOk ls w lam) (h1 : 1 ≤ c) (hc : (c - 1) % (ls.length : Int) = a)
    (fresh : ∀ p ∈ pl ls a, ∀ q r s : Int, (0 ≤ q ∧ q < k) → (0 ≤ r ∧ r < k) → (0 ≤ s ∧ s < k) → ent ls w lam q r s p ≠ c) : LbOk ls (w ++ [a]) (lam ++ [c]) := by
  have gl : (lam ++ [c]).getD w.length 0 = c := by rw [← L.len]; exact getD_last
  have old : ∀ {e : Nat}, e < w.length → (lam ++ [c]).getD e 0 = lam.getD e 0 := fun {e} h => getD_app (by rw [L.len]; exact h)
  have inr : ∀ {q : Int} {e : Nat}, e < w.length → q ∈ pl ls (w.getD e 0) → 0 ≤ q ∧ q < k := fun {q e} he hq => by
    have hx := hw (w.getD e 0) (by rw [List.getD_eq_getElem?_getD, List.getElem?_eq_getElem he]; exact List.getElem_mem he)
    exact (A.ok _ (pl_mem hx.1 hx.2)).2.2 q hq
  have new : ∀ {f : Nat}, Sec ls (w ++ [a]) f → f ≠ w.length → lam.getD f 0 ≠ c := fun {f} hf ne e => by
    obtain ⟨⟨lf, _⟩, z⟩ := sec_step A ha hf ne
    have := (L.res f lf).2
    rw [e, hc] at this
    obtain ⟨p, hp, q, r, s, h⟩ := z this.symm
    -- the three places are there
    have g2 : 0 ≤ nb ls w r (vw ls w q p) := Int.not_lt.mp fun c => by rw [nb_neg c] at h; omega
    obtain ⟨m2, e2⟩ := Int.eq_ofNat_of_zero_le g2
    have g1 : 0 ≤ vw ls w q p := Int.not_lt.mp fun c => by rw [nb_neg c] at e2; omega
    obtain ⟨m1, e1⟩ := Int.eq_ofNat_of_zero_le g1
    have i1 := nd_in (D := fun e => inView ls w p e = true) e1
    have e2' := e2
    rw [e1, nb_nat] at e2'
    have i2 := nd_in e2'
    have h' := h
    rw [e2, nb_nat] at h'
    have i3 := nd_in h'
    refine fresh p hp q r s (inr i1.2.2 i1.2.1) (inr i2.2.2 i2.2.1) (inr i3.2.2 i3.2.1) ?_
    unfold ent
    rw [h, lb_nat, e]
  refine ⟨by rw [List.length_append, List.length_append, L.len]; rfl, fun e he => ?_, fun e f he hf eq => ?_⟩
  · rw [List.length_append, List.length_singleton] at he
    rcases Nat.lt_succ_iff_lt_or_eq.mp he with h | rfl
    · rw [old h, getD_app h]; exact L.res e h
    · rw [gl, getD_last]; exact ⟨h1, hc⟩
  · by_cases ce : e = w.length
    · by_cases cf : f = w.length
      · rw [ce, cf]
      · obtain ⟨⟨lf, _⟩, _⟩ := sec_step A ha hf cf
        rw [ce, gl, old lf] at eq
        exact absurd eq.symm (new hf cf)
    · obtain ⟨⟨le, se⟩, _⟩ := sec_step A ha he ce
      by_cases cf : f = w.length
      · rw [cf, gl, old le] at eq
        exact absurd eq (new he ce)
      · obtain ⟨⟨lf, sf⟩, _⟩ := sec_step A ha hf cf
        rw [old le, old lf] at eq
        exact L.uq e f se sf eq
end
end My
namespace My
open Hq
/-! ### the tables as lists -/
end My
namespace My
open Hq PySem
/-! ### claims as data; what monitors keep -/
end My
namespace My
open Hq PySem
/-! ### expressions and their texts -/
abbrev wN : List Nat := [110, 111, 110, 101]
abbrev wE : List Nat := [101, 109, 112, 116, 121]
inductive Xp where
  | letter (n : Nat) | none | empty | star (e : Xp) | either (a b : Xp) | join (a b : Xp)
  deriving DecidableEq
namespace Xp
def dep : Xp → Nat
  | letter _ => 1 | none => 1 | empty => 1 | star e => e.dep + 1 | either a b => max a.dep b.dep + 1 | join a b => max a.dep b.dep + 1
/-- its letters are single digits -/
def ok : Xp → Prop
  | letter n => n ≤ 9 | none => True | empty => True | star e => e.ok | either a b => a.ok ∧ b.ok | join a b => a.ok ∧ b.ok
end Xp
def par (b : Bool) (l : List Nat) : List Nat := if b then [40] ++ l ++ [41] else l
/-! ### tokens -/
def dropSp (l : List Nat) : List Nat := l.dropWhile (· == 32)
/-- the token with which a text begins -/
def tokL : List Nat → List Nat
  | [] => []
  | c :: r => if (c :: r).take 4 = wN then wN else if (c :: r).take 5 = wE then wE else [c]
/-- what follows it -/
def nxS (r : List Nat) : List Nat := dropSp (r.drop (tokL r).length)
theorem dropSp_len (l : List Nat) : (dropSp l).length ≤ l.length := (List.dropWhile_sublist _).length_le
theorem tokL_cons {c : Nat} {r : List Nat} : tokL (c :: r) = if (c :: r).take 4 = wN then wN else if (c :: r).take 5 = wE then wE else [c] := rfl
theorem tokL_pos {r : List Nat} (h : r ≠ []) : 1 ≤ (tokL r).length := by
  cases r with
  | nil => exact absurd rfl h
  | cons c r =>
    rw [tokL_cons]
    split
    · decide
    · split
      · decide
      · exact Nat.le_refl _
theorem tokL_le {r : List Nat} : (tokL r).length ≤ r.length := by
  cases r with
  | nil => exact Nat.le_refl _
  | cons c r =>
    rw [tokL_cons]
    split
    · rename_i h; have := congrArg List.length h; rw [List.length_take] at this; simp only [List.length_cons, List.length_nil] at this ⊢; omega
    · split
      · rename_i h; have := congrArg List.length h; rw [List.length_take] at this; simp only [List.length_cons, List.length_nil] at this ⊢; omega
      · simp
theorem nxS_lt {r : List Nat} (h : r ≠ []) : (nxS r).length < r.length := by
  have h1 := tokL_pos h
  have h2 := dropSp_len (r.drop (tokL r).length)
  have h3 := tokL_le (r := r)
  rw [List.length_drop] at h2
  unfold nxS
  omega
/-- a text behind its first spaces has these tokens -/
inductive Tk : List Nat → List (List Nat) → Prop
  | nil : Tk [] []
  | cons {r ts} : r ≠ [] → Tk (nxS r) ts → Tk r (tokL r :: ts)
def parT (b : Bool) (l : List (List Nat)) : List (List Nat) := if b then [[40]] ++ l ++ [[41]] else l
/-- the tokens of an expression's text -/
def tks : Xp → Nat → List (List Nat)
  | .letter n, _ => [[48 + n]]
  | .none, _ => [wN]
  | .empty, _ => [wE]
  | .star e, _ => tks e 2 ++ [[42]]
  | .either a b, k => parT (decide (0 < k)) (tks a 0 ++ [[43]] ++ tks b 1)
  | .join a b, k => parT (decide (1 < k)) (tks a 1 ++ [[46]] ++ tks b 2)
/-! ### spaces put in, or taken away -/
/-! ### reading -/
abbrev Rs := Except Nat (Xp × List Nat)
def pSimple (pE : List Nat → Rs) (r : List Nat) : Rs :=
  if tokL r = [40] then
    match pE (nxS r) with
    | .ok z => if tokL z.2 = [41] then .ok (z.1, nxS z.2) else .error z.2.length
    | .error n => .error n
  else if tokL r = wN then .ok (.none, nxS r)
  else if tokL r = wE then .ok (.empty, nxS r)
  else if tokL r ≠ [] ∧ 48 ≤ (tokL r).headD 0 ∧ (tokL r).headD 0 ≤ 57 then .ok (.letter ((tokL r).headD 0 - 48), nxS r)
  else .error r.length
def lStar : Nat → Xp → List Nat → Xp × List Nat
  | 0, e, r => (e, r)
  | n + 1, e, r => if tokL r = [42] then lStar n (.star e) (nxS r) else (e, r)
def pStar (pE : List Nat → Rs) (r : List Nat) : Rs := match pSimple pE r with | .ok z => .ok (lStar z.2.length z.1 z.2) | .error n => .error n
def lJoin (pE : List Nat → Rs) : Nat → Xp → List Nat → Rs
  | 0, e, r => .ok (e, r)
  | n + 1, e, r => if tokL r = [46] then (match pStar pE (nxS r) with | .ok z => lJoin pE n (.join e z.1) z.2 | .error m => .error m) else .ok (e, r)
def pJoin (pE : List Nat → Rs) (r : List Nat) : Rs := match pStar pE r with | .ok z => lJoin pE z.2.length z.1 z.2 | .error n => .error n
def lEither (pE : List Nat → Rs) : Nat → Xp → List Nat → Rs
  | 0, e, r => .ok (e, r)
  | n + 1, e, r => if tokL r = [43] then (match pJoin pE (nxS r) with | .ok z => lEither pE n (.either e z.1) z.2 | .error m => .error m) else .ok (e, r)
def pEither (pE : List Nat → Rs) (r : List Nat) : Rs := match pJoin pE r with | .ok z => lEither pE z.2.length z.1 z.2 | .error n => .error n
def gE : Nat → List Nat → Rs
  | 0, _ => .error 0
  | d + 1, r => pEither (gE d) r
theorem lStar_fuel : ∀ {n m : Nat} {e : Xp} {r : List Nat}, r.length ≤ n → r.length ≤ m → lStar n e r = lStar m e r
  | 0, 0, _, _, _, _ => rfl
  | 0, m + 1, e, r, h, _ => by
    cases r with
    | nil => rfl
    | cons => simp at h
  | n + 1, 0, e, r, _, h => by
    cases r with
    | nil => rfl
    | cons => simp at h
  | n + 1, m + 1, e, r, h1, h2 => by
    unfold lStar
    split
    · rename_i z
      have : (nxS r).length < r.length := nxS_lt fun c => by rw [c] at z; cases z
      exact lStar_fuel (by omega) (by omega)
    · rfl
end My
namespace My
open Hq PySem
/-! ### reading what was written -/
theorem Tk.inv {r t ts} (h : Tk r (t :: ts)) : r ≠ [] ∧ tokL r = t ∧ Tk (nxS r) ts := by
  cases h with
  | cons h1 h2 => exact ⟨h1, rfl, h2⟩
theorem Tk.head {r ts} {x : List Nat} (h : Tk r ts) (hn : ts.head? ≠ some x) (hx : x ≠ []) : tokL r ≠ x := by
  cases h with
  | nil => exact fun e => hx e.symm
  | cons h1 h2 => exact fun e => hn (by rw [e]; rfl)
theorem lStar_no {n : Nat} {e : Xp} {r : List Nat} (h : tokL r ≠ [42]) : lStar n e r = (e, r) := by
  cases n with
  | zero => rfl
  | succ n => unfold lStar; rw [if_neg h]
theorem lJoin_s {pE : List Nat → Rs} {n : Nat} {e : Xp} {r : List Nat} : lJoin pE (n + 1) e r = if tokL r = [46] then (match pStar pE (nxS r) with | .ok z => lJoin pE n (.join e z.1) z.2 | .error m => .error m) else .ok (e, r) := rfl
theorem lEither_s {pE : List Nat → Rs} {n : Nat} {e : Xp} {r : List Nat} : lEither pE (n + 1) e r = if tokL r = [43] then (match pJoin pE (nxS r) with | .ok z => lEither pE n (.either e z.1) z.2 | .error m => .error m) else .ok (e, r) := rfl
theorem lJoin_no {pE} {n : Nat} {e : Xp} {r : List Nat} (h : tokL r ≠ [46]) : lJoin pE n e r = .ok (e, r) := by
  cases n with
  | zero => rfl
  | succ n => unfold lJoin; rw [if_neg h]
theorem lEither_no {pE} {n : Nat} {e : Xp} {r : List Nat} (h : tokL r ≠ [43]) : lEither pE n e r = .ok (e, r) := by
  cases n with
  | zero => rfl
  | succ n => unfold lEither; rw [if_neg h]
theorem lStar_yes {e : Xp} {r : List Nat} (h : tokL r = [42]) : lStar r.length e r = lStar (nxS r).length (.star e) (nxS r) := by
  have hr : r ≠ [] := fun c => by rw [c] at h; cases h
  have hl := nxS_lt hr
  obtain ⟨n, hn⟩ : ∃ n, r.length = n + 1 := ⟨r.length - 1, by omega⟩
  rw [hn]
  show (if tokL r = [42] then lStar n (.star e) (nxS r) else (e, r)) = _
  rw [if_pos h]
  exact lStar_fuel (by omega) (Nat.le_refl _)
/-- what is read is shorter -/
def Sh (p : List Nat → Rs) : Prop := ∀ r z, p r = .ok z → z.2.length ≤ r.length
theorem lStar_sh : ∀ (n : Nat) (e : Xp) (r : List Nat), (lStar n e r).2.length ≤ r.length
  | 0, e, r => Nat.le_refl _
  | n + 1, e, r => by
    unfold lStar
    split
    · rename_i h
      have := nxS_lt (r := r) fun c => by rw [c] at h; cases h
      have := lStar_sh n (.star e) (nxS r)
      omega
    · exact Nat.le_refl _
theorem nxS_le (r : List Nat) : (nxS r).length ≤ r.length := by
  by_cases h : r = []
  · subst h; exact Nat.le_refl _
  · exact Nat.le_of_lt (nxS_lt h)
theorem pSimple_sh {p} (h : Sh p) : Sh (pSimple p) := fun r z e => by
  unfold pSimple at e
  have n1 := nxS_le r
  split at e
  · cases q : p (nxS r) with
    | error n => rw [q] at e; cases e
    | ok y =>
      rw [q] at e
      have := h _ _ q
      have n2 := nxS_le y.2
      dsimp only at e
      split at e
      · cases e; show (nxS y.2).length ≤ _; omega
      · cases e
  · split at e
    · cases e; exact n1
    · split at e
      · cases e; exact n1
      · split at e
        · cases e; exact n1
        · cases e
theorem pStar_sh {p} (h : Sh p) : Sh (pStar p) := fun r z e => by
  unfold pStar at e
  cases q : pSimple p r with
  | error n => rw [q] at e; cases e
  | ok y =>
    rw [q] at e
    cases e
    exact Nat.le_trans (lStar_sh _ _ _) (pSimple_sh h _ _ q)
theorem lJoin_sh {p} (h : Sh p) : ∀ (n : Nat) (e : Xp) (r : List Nat) z, lJoin p n e r = .ok z → z.2.length ≤ r.length
  | 0, e, r, z, q => by cases q; exact Nat.le_refl _
  | n + 1, e, r, z, q => by
    unfold lJoin at q
    split at q
    · cases y : pStar p (nxS r) with
      | error m => rw [y] at q; cases q
      | ok y' =>
        rw [y] at q
        have h1 := pStar_sh h _ _ y
        have h2 := lJoin_sh h n _ _ _ q
        have := nxS_le r
        omega
    · cases q; exact Nat.le_refl _
theorem pJoin_sh {p} (h : Sh p) : Sh (pJoin p) := fun r z e => by
  unfold pJoin at e
  cases q : pStar p r with
  | error n => rw [q] at e; cases e
  | ok y =>
    rw [q] at e
    exact Nat.le_trans (lJoin_sh h _ _ _ _ e) (pStar_sh h _ _ q)
theorem lJoin_fuel {p} (hp : Sh p) : ∀ {n m : Nat} {e : Xp} {r : List Nat}, r.length ≤ n → r.length ≤ m → lJoin p n e r = lJoin p m e r
  | 0, 0, _, _, _, _ => rfl
  | 0, m + 1, e, r, h, _ => by
    cases r with
    | nil => rfl
    | cons => simp at h
  | n + 1, 0, e, r, _, h => by
    cases r with
    | nil => rfl
    | cons => simp at h
  | n + 1, m + 1, e, r, h1, h2 => by
    unfold lJoin
    split
    · rename_i z
      have l1 : (nxS r).length < r.length := nxS_lt fun c => by rw [c] at z; cases z
      cases q : pStar p (nxS r) with
      | error k => rfl
      | ok y =>
        have := pStar_sh hp _ _ q
        exact lJoin_fuel hp (by omega) (by omega)
    · rfl
theorem lEither_fuel {p} (hp : Sh p) : ∀ {n m : Nat} {e : Xp} {r : List Nat}, r.length ≤ n → r.length ≤ m → lEither p n e r = lEither p m e r
  | 0, 0, _, _, _, _ => rfl
  | 0, m + 1, e, r, h, _ => by
    cases r with
    | nil => rfl
    | cons => simp at h
  | n + 1, 0, e, r, _, h => by
    cases r with
    | nil => rfl
    | cons => simp at h
  | n + 1, m + 1, e, r, h1, h2 => by
    unfold lEither
    split
    · rename_i z
      have l1 : (nxS r).length < r.length := nxS_lt fun c => by rw [c] at z; cases z
      cases q : pJoin p (nxS r) with
      | error k => rfl
      | ok y =>
        have := pJoin_sh hp _ _ q
        exact lEither_fuel hp (by omega) (by omega)
    · rfl
theorem lEither_sh {p} (h : Sh p) : ∀ (n : Nat) (e : Xp) (r : List Nat) z, lEither p n e r = .ok z → z.2.length ≤ r.length
  | 0, e, r, z, q => by cases q; exact Nat.le_refl _
  | n + 1, e, r, z, q => by
    unfold lEither at q
    split at q
    · cases y : pJoin p (nxS r) with
      | error m => rw [y] at q; cases q
      | ok y' =>
        rw [y] at q
        have h1 := pJoin_sh h _ _ y
        have h2 := lEither_sh h n _ _ _ q
        have := nxS_le r
        omega
    · cases q; exact Nat.le_refl _
theorem gE_sh : ∀ d, Sh (gE d)
  | 0 => fun r z e => by cases e
  | d + 1 => fun r z e => by
    have e : pEither (gE d) r = .ok z := e
    unfold pEither at e
    cases q : pJoin (gE d) r with
    | error n => rw [q] at e; cases e
    | ok y =>
      rw [q] at e
      exact Nat.le_trans (lEither_sh (gE_sh d) _ _ _ _ e) (pJoin_sh (gE_sh d) _ _ q)
theorem lJoin_yes {d : Nat} {e : Xp} {r : List Nat} {z} (h : tokL r = [46]) (hz : pStar (gE d) (nxS r) = .ok z) : lJoin (gE d) r.length e r = lJoin (gE d) z.2.length (.join e z.1) z.2 := by
  have hr : r ≠ [] := fun c => by rw [c] at h; cases h
  have hl := nxS_lt hr
  obtain ⟨n, hn⟩ : ∃ n, r.length = n + 1 := ⟨r.length - 1, by omega⟩
  rw [hn, lJoin_s, if_pos h, hz]
  have := pStar_sh (gE_sh d) _ _ hz
  dsimp only
  have l2 : z.2.length ≤ n := by omega
  exact lJoin_fuel (n := n) (gE_sh d) l2 (Nat.le_refl _)
theorem lEither_yes {d : Nat} {e : Xp} {r : List Nat} {z} (h : tokL r = [43]) (hz : pJoin (gE d) (nxS r) = .ok z) : lEither (gE d) r.length e r = lEither (gE d) z.2.length (.either e z.1) z.2 := by
  have hr : r ≠ [] := fun c => by rw [c] at h; cases h
  have hl := nxS_lt hr
  obtain ⟨n, hn⟩ : ∃ n, r.length = n + 1 := ⟨r.length - 1, by omega⟩
  rw [hn, lEither_s, if_pos h, hz]
  have := pJoin_sh (gE_sh d) _ _ hz
  dsimp only
  have l2 : z.2.length ≤ n := by omega
  exact lEither_fuel (n := n) (gE_sh d) l2 (Nat.le_refl _)
theorem hd_ne {a b : Nat} {ts : List (List Nat)} (h : a ≠ b) : ([[a]] ++ ts).head? ≠ some [b] := fun c => h (List.cons.inj (Option.some.inj c)).1
def B2 (e : Xp) (l : List (List Nat)) (d : Nat) : Prop := ∀ r ts, Tk r (l ++ ts) → ∃ r', Tk r' ts ∧ pStar (gE d) r = .ok (lStar r'.length e r')
def B1 (e : Xp) (l : List (List Nat)) (d : Nat) : Prop := ∀ r ts, Tk r (l ++ ts) → ts.head? ≠ some [42] → ∃ r', Tk r' ts ∧ pJoin (gE d) r = lJoin (gE d) r'.length e r'
def B0 (e : Xp) (l : List (List Nat)) (d : Nat) : Prop := ∀ r ts, Tk r (l ++ ts) → ts.head? ≠ some [42] → ts.head? ≠ some [46] → ∃ r', Tk r' ts ∧ pEither (gE d) r = lEither (gE d) r'.length e r'
theorem B2.b1 {e l d} (h : B2 e l d) : B1 e l d := fun r ts t hs => by
  obtain ⟨r', t', q⟩ := h r ts t
  refine ⟨r', t', ?_⟩
  unfold pJoin
  rw [q, lStar_no (t'.head hs (by decide))]
theorem B1.b0 {e l d} (h : B1 e l d) : B0 e l d := fun r ts t hs hj => by
  obtain ⟨r', t', q⟩ := h r ts t hs
  refine ⟨r', t', ?_⟩
  unfold pEither
  rw [q, lJoin_no (t'.head hj (by decide))]
/-- parentheses round it -/
theorem B0.par {e l d} (h : B0 e l d) : B2 e ([[40]] ++ l ++ [[41]]) (d + 1) := fun r ts t => by
  rw [List.append_assoc, List.append_assoc] at t
  obtain ⟨h1, h2, h3⟩ := t.inv
  obtain ⟨r1, t1, q1⟩ := h (nxS r) ([[41]] ++ ts) h3 (hd_ne (by decide)) (hd_ne (by decide))
  obtain ⟨k1, k2, k3⟩ := t1.inv
  rw [lEither_no (by rw [k2]; decide)] at q1
  refine ⟨nxS r1, k3, ?_⟩
  have : pSimple (gE (d + 1)) r = .ok (e, nxS r1) := by
    unfold pSimple
    rw [if_pos h2]
    have q2 : gE (d + 1) (nxS r) = .ok (e, r1) := q1
    rw [q2]
    show (if tokL r1 = [41] then _ else _) = _
    rw [if_pos k2]
  unfold pStar
  rw [this]
theorem B_atom {e : Xp} {t : List Nat} {d : Nat} (h : ∀ r, r ≠ [] → tokL r = t → pSimple (gE d) r = .ok (e, nxS r)) : B2 e [t] d := fun r ts tk => by
  obtain ⟨h1, h2, h3⟩ := tk.inv
  refine ⟨nxS r, h3, ?_⟩
  unfold pStar
  rw [h r h1 h2]
theorem reads : ∀ (e : Xp), e.ok → ∀ d, e.dep ≤ d → B2 e (tks e 2) d ∧ B1 e (tks e 1) d ∧ B0 e (tks e 0) d := by
  intro e
  induction e with
  | letter n =>
    intro ok d _
    have ok : n ≤ 9 := ok
    have : B2 (.letter n) [[48 + n]] d := B_atom fun r hr ht => by
      unfold pSimple
      rw [if_neg (by rw [ht]; intro c; have := (List.cons.inj c).1; omega), if_neg (by rw [ht]; intro c; have := (List.cons.inj c).1; omega), if_neg (by rw [ht]; intro c; have := (List.cons.inj c).1; omega), ht, if_pos ⟨by simp, by show 48 ≤ 48 + n; omega, by show 48 + n ≤ 57; omega⟩]
      show Except.ok (Xp.letter (48 + n - 48), _) = _
      rw [show 48 + n - 48 = n by omega]
    exact ⟨this, this.b1, this.b1.b0⟩
  | none =>
    intro ok d _
    have : B2 .none [wN] d := B_atom fun r hr ht => by
      unfold pSimple
      rw [if_neg (by rw [ht]; decide), if_pos ht]
    exact ⟨this, this.b1, this.b1.b0⟩
  | empty =>
    intro ok d _
    have : B2 .empty [wE] d := B_atom fun r hr ht => by
      unfold pSimple
      rw [if_neg (by rw [ht]; decide), if_neg (by rw [ht]; decide), if_pos ht]
    exact ⟨this, this.b1, this.b1.b0⟩
  | star e ih =>
    intro ok d hd
    have hd : e.dep + 1 ≤ d := hd
    obtain ⟨i2, _, _⟩ := ih ok d (by omega)
    have : B2 (.star e) (tks e 2 ++ [[42]]) d := fun r ts t => by
      rw [List.append_assoc] at t
      obtain ⟨r1, t1, q1⟩ := i2 r ([[42]] ++ ts) t
      obtain ⟨k1, k2, k3⟩ := t1.inv
      exact ⟨nxS r1, k3, by rw [q1, lStar_yes k2]⟩
    exact ⟨this, this.b1, this.b1.b0⟩
  | either a b iha ihb =>
    intro ok d hd
    have hd : max a.dep b.dep + 1 ≤ d := hd
    have U : ∀ d, a.dep ≤ d → b.dep ≤ d → B0 (.either a b) (tks a 0 ++ [[43]] ++ tks b 1) d := fun d ha hb r ts t hs hj => by
      rw [List.append_assoc, List.append_assoc] at t
      obtain ⟨r1, t1, q1⟩ := (iha ok.1 d ha).2.2 r _ t (hd_ne (by decide)) (hd_ne (by decide))
      obtain ⟨k1, k2, k3⟩ := t1.inv
      obtain ⟨r2, t2, q2⟩ := (ihb ok.2 d hb).2.1 (nxS r1) ts k3 hs
      rw [lJoin_no (t2.head hj (by decide))] at q2
      exact ⟨r2, t2, by rw [q1, lEither_yes k2 q2]⟩
    obtain ⟨d, rfl⟩ : ∃ d', d = d' + 1 := ⟨d - 1, by omega⟩
    have p : B2 (.either a b) ([[40]] ++ (tks a 0 ++ [[43]] ++ tks b 1) ++ [[41]]) (d + 1) := (U d (by omega) (by omega)).par
    exact ⟨p, p.b1, U (d + 1) (by omega) (by omega)⟩
  | join a b iha ihb =>
    intro ok d hd
    have hd : max a.dep b.dep + 1 ≤ d := hd
    have U : ∀ d, a.dep ≤ d → b.dep ≤ d → B1 (.join a b) (tks a 1 ++ [[46]] ++ tks b 2) d := fun d ha hb r ts t hs => by
      rw [List.append_assoc, List.append_assoc] at t
      obtain ⟨r1, t1, q1⟩ := (iha ok.1 d ha).2.1 r _ t (hd_ne (by decide))
      obtain ⟨k1, k2, k3⟩ := t1.inv
      obtain ⟨r2, t2, q2⟩ := (ihb ok.2 d hb).1 (nxS r1) ts k3
      rw [lStar_no (t2.head hs (by decide))] at q2
      exact ⟨r2, t2, by rw [q1, lJoin_yes k2 q2]⟩
    obtain ⟨d, rfl⟩ : ∃ d', d = d' + 1 := ⟨d - 1, by omega⟩
    have p : B2 (.join a b) ([[40]] ++ (tks a 1 ++ [[46]] ++ tks b 2) ++ [[41]]) (d + 1) := (U d (by omega) (by omega)).b0.par
    exact ⟨p, U (d + 1) (by omega) (by omega), (U (d + 1) (by omega) (by omega)).b0⟩
end My
namespace My
open Hq PySem
/-! ### what is left of a text is at its end -/
end My
namespace My
open Hq PySem
end My
namespace My
open Hq PySem
/-! ### where a text stops being one of an expression -/
def isOpd (t : List Nat) : Bool := decide (t = wN) || decide (t = wE) || decide (t ≠ [] ∧ 48 ≤ t.headD 0 ∧ t.headD 0 ≤ 57)
/-- one token: whether an operand is due behind it, and the parentheses that stand open -/
def stp (due : Bool) (k : Nat) (t : List Nat) : Option (Bool × Nat) :=
  if t = [40] then (if due then some (true, k + 1) else none)
  else if t = [41] then (if due || decide (k = 0) then none else some (false, k - 1))
  else if t = [43] ∨ t = [46] then (if due then none else some (true, k))
  else if t = [42] then (if due then none else some (false, k))
  else if isOpd t then (if due then some (false, k) else none)
  else none
inductive Sc : Bool → Nat → List Nat → Option Nat → Prop
  | fin : Sc false 0 [] none
  | eof {due k} : due = true ∨ 0 < k → Sc due k [] (some 0)
  | bad {due k r} : r ≠ [] → stp due k (tokL r) = none → Sc due k r (some r.length)
  | go {due k r due' k' o} : r ≠ [] → stp due k (tokL r) = some (due', k') → Sc due' k' (nxS r) o → Sc due k r o
theorem Sc.at {due k r o due' k'} (h : Sc due k r o) (hr : r ≠ []) (hs : stp due k (tokL r) = some (due', k')) : Sc due' k' (nxS r) o := by
  cases h with
  | fin => exact absurd rfl hr
  | eof _ => exact absurd rfl hr
  | bad _ h => rw [hs] at h; cases h
  | go _ h1 h2 => rw [hs] at h1; cases h1; exact h2
/-! ### signs counted -/
/-- what the whole text comes to: its expression, or the place at which it stops being one -/
def out (d : Nat) (w : List Nat) : Except Nat Xp := match gE d (dropSp w) with
  | .ok z => if z.2 = [] then .ok z.1 else .error (w.length - z.2.length)
  | .error n => .error (w.length - n)
/-! ### what a printed text has of these signs -/
end My
/-! HqTg: slices of texts. -/
namespace Hq
open PySem L2
/-- l[lo:hi] -/
def cutN (l : List Nat) (lo hi : Option Int) : List Nat := (l.drop (HT.sIx l.length 0 lo)).take (HT.sIx l.length l.length hi - HT.sIx l.length 0 lo)
theorem cutN_mid {l : List Nat} {a k : Nat} (h : a ≤ l.length) : cutN l (some (a : Int)) (some ((a + k : Nat) : Int)) = (l.drop a).take k := by
  unfold cutN
  rw [HT.sIx_nat, HT.sIx_nat, Nat.min_eq_left h]
  rcases Nat.le_total (a + k) l.length with z | z
  · rw [Nat.min_eq_left z, Nat.add_sub_cancel_left]
  · rw [Nat.min_eq_right z, List.take_of_length_le (by rw [List.length_drop]; omega), List.take_of_length_le (by rw [List.length_drop]; omega)]
theorem cutN_to {l : List Nat} {a : Nat} : cutN l none (some (a : Int)) = l.take a := by
  unfold cutN
  rw [HT.sIx_nat, HT.sIx_none, List.drop_zero, Nat.sub_zero]
  rcases Nat.le_total a l.length with z | z
  · rw [Nat.min_eq_left z]
  · rw [Nat.min_eq_right z, List.take_of_length_le z, List.take_of_length_le (Nat.le_refl _)]
theorem cutN_from {l : List Nat} {a : Nat} : cutN l (some (a : Int)) none = l.drop a := by
  unfold cutN
  rw [HT.sIx_nat, HT.sIx_none, List.take_of_length_le (by rw [List.length_drop]; omega)]
  rcases Nat.le_total a l.length with z | z
  · rw [Nat.min_eq_left z]
  · rw [Nat.min_eq_right z, List.drop_eq_nil_of_le z, List.drop_eq_nil_of_le (Nat.le_refl _)]
section
variable {K : PySem.W.Frag} {E : Ent} {F H : Hp} {M M1 : Ms} {Γ : Gm} {te : TE} {l : List Nat}
theorem cutS_N {lo hi : Option Int} : cutS ⟨l.toArray⟩ lo hi = ⟨(cutN l lo hi).toArray⟩ := by
  unfold cutS cutN
  have : (⟨l.toArray⟩ : Str).length = l.length := by show l.toArray.size = _; simp
  rw [this]
theorem ev_slS {lo hi : Option Int} {tl th : TO} (h : Ev te Γ M (D K (dS l)) M1) (h1 : EvP tl Γ M1 lo) (h2 : EvP th Γ M1 hi) (hl : l.length ≤ 16000000) : Ev (tSl rSlS te tl th) Γ M (D K (dS (cutN l lo hi))) M1 := fun E F σ H a b Q k =>
  h E F σ H a b _ fun v F1 H1 e1 g1 p1 => h1 E F1 σ H1 g1 (b.mono e1) _ fun F2 H2 e2 g2 => h2 E F2 σ H2 g2 (b.mono (e1.trans e2)) _ fun F3 H3 e3 g3 => by
    cases dp_strS p1
    refine ⟨_, rfl, line24 (by show l.toArray.size ≤ _; simpa using hl), ?_⟩
    rw [cutS_N]
    exact k _ F3 H3 ((e1.trans e2).trans e3) g3 (.str _)
end
end Hq
namespace My
open Hq PySem
end My
namespace My
/-! ### automata: states that no words tell apart, least automata -/
structure Au where
  L : Nat
  s : Int
  F : List Int
  R : List (List Int)
def Au.row (A : Au) (q : Int) : List Int := A.R.getD q.toNat []
def Au.In (A : Au) (q : Int) : Prop := 0 ≤ q ∧ q < (A.R.length : Int)
structure Au.Ok (A : Au) : Prop where
  L1 : 1 ≤ A.L
  s : A.In A.s
  F : ∀ x ∈ A.F, A.In x
  up : A.F.Pairwise (· < ·)
  R : ∀ r ∈ A.R, r.length = A.L ∧ ∀ x ∈ r, A.In x
theorem Au.row_mem {A : Au} {q : Int} (h : A.In q) : A.row q ∈ A.R := by
  have : q.toNat < A.R.length := by unfold Au.In at h; omega
  unfold Au.row
  rw [List.getD_eq_getElem?_getD, List.getElem?_eq_getElem this]
  exact List.getElem_mem this
def nxA (A : Au) (q : Int) (a : Nat) : Int := (A.row q).getD a 0
/-- not told apart by words of up to k letters -/
def eqn (A : Au) : Nat → Int → Int → Prop
  | 0, p, q => (p ∈ A.F ↔ q ∈ A.F)
  | k + 1, p, q => eqn A k p q ∧ ∀ a, a < A.L → eqn A k (nxA A p a) (nxA A q a)
def eqI (A : Au) (p q : Int) : Prop := ∀ k, eqn A k p q
theorem eqn.refl {A : Au} : ∀ (k : Nat) (p : Int), eqn A k p p
  | 0, _ => Iff.rfl
  | k + 1, p => ⟨eqn.refl k p, fun a _ => eqn.refl k _⟩
theorem eqn.symm {A : Au} : ∀ {k : Nat} {p q : Int}, eqn A k p q → eqn A k q p
  | 0, _, _, h => Iff.symm h
  | k + 1, _, _, h => ⟨eqn.symm h.1, fun a ha => eqn.symm (h.2 a ha)⟩
theorem eqn.trans {A : Au} : ∀ {k : Nat} {p q r : Int}, eqn A k p q → eqn A k q r → eqn A k p r
  | 0, _, _, _, h1, h2 => Iff.trans h1 h2
  | k + 1, _, _, _, h1, h2 => ⟨eqn.trans h1.1 h2.1, fun a ha => eqn.trans (h1.2 a ha) (h2.2 a ha)⟩
theorem eqI.refl {A : Au} (p : Int) : eqI A p p := fun k => eqn.refl k p
theorem eqI.symm {A : Au} {p q : Int} (h : eqI A p q) : eqI A q p := fun k => (h k).symm
theorem eqI.trans {A : Au} {p q r : Int} (h1 : eqI A p q) (h2 : eqI A q r) : eqI A p r := fun k => (h1 k).trans (h2 k)
theorem eqI.next {A : Au} {p q : Int} (h : eqI A p q) {a : Nat} (ha : a < A.L) : eqI A (nxA A p a) (nxA A q a) := fun k => (h (k + 1)).2 a ha
theorem eqI.fin {A : Au} {p q : Int} (h : eqI A p q) : p ∈ A.F ↔ q ∈ A.F := h 0
/-- states with all that follow -/
def Clo (A : Au) (S : List Int) : Prop := ∀ q ∈ S, A.In q ∧ ∀ x ∈ A.row q, x ∈ S
theorem Clo.next {A : Au} {S : List Int} (O : A.Ok) (C : Clo A S) {q : Int} (h : q ∈ S) {a : Nat} (ha : a < A.L) : nxA A q a ∈ S := by
  obtain ⟨h1, h2⟩ := C q h
  have l := (O.R _ (Au.row_mem h1)).1
  refine h2 _ ?_
  unfold nxA
  rw [List.getD_eq_getElem?_getD, List.getElem?_eq_getElem (by omega)]
  exact List.getElem_mem _
abbrev Knd := Int × List Int
def kd (A : Au) (cl : Int → Int) (q : Int) : Knd := (cl q, (A.row q).map cl)
/-! in the order of the first of each -/
end My
namespace My
/-! ### rounds of labels -/
/-! ### one state for each class, as they are first reached -/
open Classical in
noncomputable def st1 (A : Au) (C : List Int) (t : Int) : List Int := if ∃ c ∈ C, eqI A c t then C else C ++ [t]
/-- what the list of chosen states is like -/
structure Chs (A : Au) (S C : List Int) : Prop where
  sub : ∀ c ∈ C, c ∈ S
  apart : C.Pairwise fun a b => ¬ eqI A a b
theorem Chs.step {A : Au} {S C : List Int} (h : Chs A S C) {t : Int} (ht : t ∈ S) : Chs A S (st1 A C t) := by
  unfold st1
  by_cases c : ∃ c ∈ C, eqI A c t
  · rw [if_pos c]; exact h
  · rw [if_neg c]
    refine ⟨fun x hx => ?_, ?_⟩
    · rcases List.mem_append.mp hx with hx | hx
      · exact h.sub x hx
      · rw [List.mem_singleton.mp hx]; exact ht
    · rw [List.pairwise_append]
      exact ⟨h.apart, List.pairwise_singleton _ _, fun a ha b hb => by rw [List.mem_singleton.mp hb]; exact fun z => c ⟨a, ha, z⟩⟩
end My
namespace My
/-! ### actions of words on the states of an automaton; powers that settle -/
def lonA (A : Au) (st : List Int) (a : Nat) : List Int := st.map fun q => nxA A q a
abbrev AEnt := List Int × List Int
def stpT (A : Au) (e : AEnt) (T : List AEnt) (a : Nat) : List AEnt := if lonA A e.2 a ∈ T.map Prod.snd then T else T ++ [(e.1 ++ [(a : Int)], lonA A e.2 a)]
def grT (A : Au) (e : AEnt) (n : Nat) (T : List AEnt) : List AEnt := (List.range n).foldl (stpT A e) T
def nxT (A : Au) (n : Nat) (T : List AEnt) : List AEnt := match T[n]? with | some e => grT A e A.L T | none => T
def idS (A : Au) : List Int := (List.range A.R.length).map fun i : Nat => (i : Int)
def tbT (A : Au) : Nat → List AEnt
  | 0 => [([], idS A)]
  | n + 1 => nxT A n (tbT A n)
structure TOk (A : Au) (n : Nat) (T : List AEnt) : Prop where
  nd : (T.map Prod.snd).Nodup
  len : ∀ e ∈ T, e.2.length = A.R.length
  ins : ∀ e ∈ T, ∀ q ∈ e.2, A.In q
  wl : ∀ e ∈ T, e.1.length ≤ n
theorem nxA_inM {A : Au} (O : A.Ok) {q : Int} (h : A.In q) {a : Nat} (ha : a < A.L) : A.In (nxA A q a) := by
  have h1 := Au.row_mem h
  have h2 := O.R _ h1
  refine h2.2 _ ?_
  unfold nxA
  rw [List.getD_eq_getElem?_getD, List.getElem?_eq_getElem (by rw [h2.1]; exact ha)]
  exact List.getElem_mem _
theorem idS_in {A : Au} {q : Int} (h : q ∈ idS A) : A.In q := by
  obtain ⟨k, hk, rfl⟩ := List.mem_map.mp h
  have := List.mem_range.mp hk
  exact ⟨by omega, by omega⟩
theorem TOk.start (A : Au) : TOk A 0 (tbT A 0) := ⟨by show [idS A].Nodup; simp, fun e he => by
    rw [List.mem_singleton.mp he]; show (idS A).length = _; unfold idS; rw [List.length_map, List.length_range], fun e he => by
    rw [List.mem_singleton.mp he]; exact fun q hq => idS_in hq, fun e he => by rw [List.mem_singleton.mp he]; exact Nat.le_refl _⟩
theorem TOk.up {A : Au} {n m : Nat} {T : List AEnt} (h : TOk A n T) (hm : n ≤ m) : TOk A m T := ⟨h.nd, h.len, h.ins, fun e he => Nat.le_trans (h.wl e he) hm⟩
theorem TOk.step {A : Au} {n : Nat} {T : List AEnt} {e : AEnt} {a : Nat} (O : A.Ok) (h : TOk A (n + 1) T) (e1 : e.1.length ≤ n) (e2 : e.2.length = A.R.length) (e3 : ∀ q ∈ e.2, A.In q) (ha : a < A.L) : TOk A (n + 1) (stpT A e T a) := by
  unfold stpT
  split
  · exact h
  · rename_i c
    refine ⟨?_, fun x hx => ?_, fun x hx => ?_, fun x hx => ?_⟩
    · rw [List.map_append, List.nodup_append]
      exact ⟨h.nd, by simp, fun x hx y hy => by rw [show y = lonA A e.2 a by simpa using hy]; rintro rfl; exact c hx⟩
    · rcases List.mem_append.mp hx with hx | hx
      · exact h.len x hx
      · rw [List.mem_singleton.mp hx]; show (lonA A e.2 a).length = _; unfold lonA; rw [List.length_map, e2]
    · rcases List.mem_append.mp hx with hx | hx
      · exact h.ins x hx
      · rw [List.mem_singleton.mp hx]
        intro q hq
        obtain ⟨p, hp, rfl⟩ := List.mem_map.mp (show q ∈ lonA A e.2 a from hq)
        exact nxA_inM O (e3 p hp) ha
    · rcases List.mem_append.mp hx with hx | hx
      · exact h.wl x hx
      · rw [List.mem_singleton.mp hx]; show (e.1 ++ [(a : Int)]).length ≤ _; rw [List.length_append]; simpa using e1
/-! #### how many there are -/
/-- the whole table -/
def TT (A : Au) : List AEnt := tbT A 401
/-! #### powers -/
def itF (F : Int → Int) : Nat → Int → Int
  | 0, x => x
  | n + 1, x => F (itF F n x)
def fxS (F : Int → Int) (x : Int) (e : Nat) : Prop := F (itF F e x) = itF F e x
theorem fxS.up {F : Int → Int} {x : Int} {e : Nat} (h : fxS F x e) : ∀ d, fxS F x (e + d)
  | 0 => h
  | d + 1 => by
    have := fxS.up h d
    show F (F (itF F (e + d) x)) = F (itF F (e + d) x)
    rw [show F (itF F (e + d) x) = itF F (e + d) x from this]
    exact this
end My
namespace My
/-! ### the least automaton accepts the same words; its states are told apart, and all are reached -/
/-- behind a word -/
def runA (A : Au) (q : Int) (w : List Int) : Int := w.foldl (fun q a => nxA A q a.toNat) q
def LetOk (A : Au) (w : List Int) : Prop := ∀ a ∈ w, 0 ≤ a ∧ a < (A.L : Int)
theorem eqI.run {A : Au} {p q : Int} (h : eqI A p q) : ∀ {w : List Int}, LetOk A w → eqI A (runA A p w) (runA A q w)
  | [], _ => h
  | a :: w, hw => by
    have := hw a List.mem_cons_self
    exact eqI.run (h.next (by omega)) (w := w) fun b hb => hw b (List.mem_cons_of_mem _ hb)
/-! each one is next to an earlier one -/
def RcA (A : Au) (C : List Int) : Prop := ∀ j, 0 < j → ∀ d, C[j]? = some d → ∃ k a c, k < j ∧ a < A.L ∧ C[k]? = some c ∧ d = nxA A c a
theorem RcA.step {A : Au} {C : List Int} {k a : Nat} {c : Int} (h : RcA A C) (hc : C[k]? = some c) (ha : a < A.L) : RcA A (st1 A C (nxA A c a)) := by
  unfold st1
  split
  · exact h
  · have hk := (List.getElem?_eq_some_iff.mp hc).1
    intro j hj d hd
    rcases Nat.lt_or_ge j C.length with l | l
    · rw [List.getElem?_append_left l] at hd
      obtain ⟨k', a', c', h1, h2, h3, h4⟩ := h j hj d hd
      exact ⟨k', a', c', h1, h2, by rw [List.getElem?_append_left (by omega)]; exact h3, h4⟩
    · have e : j = C.length := by
        have := (List.getElem?_eq_some_iff.mp hd).1
        rw [List.length_append] at this
        have : j < C.length + 1 := this
        omega
      subst e
      rw [List.getElem?_append_right (Nat.le_refl _), Nat.sub_self] at hd
      have hd : nxA A c a = d := Option.some.inj hd
      exact ⟨k, a, c, hk, ha, by rw [List.getElem?_append_left hk]; exact hc, hd.symm⟩
end My
namespace My
open Hq PySem
/-! ### texts cut at a sign, and put together -/
def jn (s : List Nat) : List (List Nat) → List Nat
  | [] => []
  | [x] => x
  | x :: y :: r => x ++ s ++ jn s (y :: r)
def spl (c : Nat) : List Nat → List (List Nat)
  | [] => [[]]
  | x :: l => if x = c then [] :: spl c l else match spl c l with | p :: r => (x :: p) :: r | [] => [[x]]
theorem spl_ne (c : Nat) : ∀ l, spl c l ≠ []
  | [] => by simp [spl]
  | x :: l => by
    unfold spl
    split
    · simp
    · split <;> simp
theorem jn_cons {s x : List Nat} {r : List (List Nat)} (h : r ≠ []) : jn s (x :: r) = x ++ s ++ jn s r := by
  cases r with
  | nil => exact absurd rfl h
  | cons y r => rfl
theorem spl_hit {c : Nat} {l : List Nat} : spl c (c :: l) = [] :: spl c l := by
  show (if c = c then _ else _) = _
  rw [if_pos rfl]
theorem spl_miss {c x : Nat} {l p : List Nat} {r : List (List Nat)} (h : x ≠ c) (e : spl c l = p :: r) : spl c (x :: l) = (x :: p) :: r := by
  show (if x = c then _ else _) = _
  rw [if_neg h, e]
theorem spl_free1 {c : Nat} : ∀ {p : List Nat}, c ∉ p → spl c p = [p]
  | [], _ => rfl
  | x :: p, h => by
    have h1 : x ≠ c := fun e => h (by rw [e]; exact List.mem_cons_self)
    exact spl_miss h1 (spl_free1 (p := p) fun z => h (List.mem_cons_of_mem _ z))
theorem spl_app {c : Nat} : ∀ {p l : List Nat}, c ∉ p → spl c (p ++ [c] ++ l) = p :: spl c l
  | [], l, _ => spl_hit
  | x :: p, l, h => by
    have h1 : x ≠ c := fun e => h (by rw [e]; exact List.mem_cons_self)
    exact spl_miss h1 (spl_app (p := p) fun z => h (List.mem_cons_of_mem _ z))
theorem spl_jn {c : Nat} : ∀ {ps : List (List Nat)}, ps ≠ [] → (∀ p ∈ ps, c ∉ p) → spl c (jn [c] ps) = ps
  | [], h, _ => absurd rfl h
  | [p], _, h => spl_free1 (h p List.mem_cons_self)
  | p :: q :: r, _, h => by
    show spl c (p ++ [c] ++ jn [c] (q :: r)) = _
    rw [spl_app (h p List.mem_cons_self), spl_jn (ps := q :: r) (by simp) fun x hx => h x (List.mem_cons_of_mem _ hx)]
theorem jn_spl {c : Nat} : ∀ l : List Nat, jn [c] (spl c l) = l
  | [] => rfl
  | x :: l => by
    have ih := jn_spl (c := c) l
    by_cases h : x = c
    · subst h
      rw [spl_hit, jn_cons (spl_ne _ _), ih]; rfl
    · cases e : spl c l with
      | nil => exact absurd e (spl_ne _ _)
      | cons p r =>
        rw [spl_miss h e]
        rw [e] at ih
        cases r with
        | nil =>
          have ih : p = l := ih
          show x :: p = _
          rw [ih]
        | cons q r =>
          have ih : p ++ [c] ++ jn [c] (q :: r) = l := ih
          show (x :: p) ++ [c] ++ jn [c] (q :: r) = _
          rw [← ih]; rfl
theorem spl_fr {c : Nat} : ∀ l : List Nat, ∀ p ∈ spl c l, c ∉ p
  | [], p, h => by
    have : p = [] := by simpa [spl] using h
    rw [this]; simp
  | x :: l, p, h => by
    by_cases e : x = c
    · subst e
      rw [spl_hit] at h
      rcases List.mem_cons.mp h with rfl | h
      · simp
      · exact spl_fr l p h
    · cases e2 : spl c l with
      | nil => exact absurd e2 (spl_ne _ _)
      | cons q r =>
        rw [spl_miss e e2] at h
        have ih := spl_fr (c := c) l
        rw [e2] at ih
        rcases List.mem_cons.mp h with rfl | h
        · intro z
          rcases List.mem_cons.mp z with z | z
          · exact e z.symm
          · exact ih q List.mem_cons_self z
        · exact ih p (List.mem_cons_of_mem _ h)
abbrev sL (l : List Nat) : Str := ⟨l.toArray⟩
theorem str_sL (x : Str) : x = sL x.cps.toList := by cases x; simp
theorem join_sL (s : List Nat) : ∀ ps : List (List Nat), Str.join (sL s) (ps.map sL) = sL (jn s ps)
  | [] => rfl
  | [x] => rfl
  | x :: y :: r => by
    have ih := join_sL s (y :: r)
    show sL x ++ sL s ++ Str.join (sL s) ((y :: r).map sL) = _
    rw [ih, S_app, S_app]
    rfl
theorem split_sL (c : Nat) (l : List Nat) : Txt.split (sL l) ⟨#[c]⟩ = (spl c l).map sL := by
  have e : Txt.split (sL l) ⟨#[c]⟩ = ((Txt.split (sL l) ⟨#[c]⟩).map fun x => x.cps.toList).map sL := by
    rw [List.map_map]
    conv => lhs; rw [← List.map_id (Txt.split (sL l) ⟨#[c]⟩)]
    exact List.map_congr_left fun x _ => str_sL x
  have fr : ∀ p ∈ (Txt.split (sL l) ⟨#[c]⟩).map fun x => x.cps.toList, c ∉ p := fun p hp => by
    obtain ⟨x, hx, rfl⟩ := List.mem_map.mp hp
    exact StrLaws.split_free _ c x hx
  have j : Str.join ⟨#[c]⟩ (Txt.split (sL l) ⟨#[c]⟩) = sL l := by
    unfold Txt.split
    split
    · rfl
    · split
      · rfl
      · rw [← StrLaws.glued_eq_join]
        exact StrLaws.glued_between_self _ _ _
  generalize (Txt.split (sL l) ⟨#[c]⟩).map (fun x => x.cps.toList) = ps at e fr
  rw [e] at j ⊢
  have j2 : sL (jn [c] ps) = sL l := by rw [← join_sL]; exact j
  have j3 : jn [c] ps = l := S_inj j2
  congr 1
  by_cases h : ps = []
  · exfalso
    have := e
    rw [h] at this
    have n : Txt.split (sL l) ⟨#[c]⟩ ≠ [] := by
      unfold Txt.split
      split
      · simp
      · split
        · simp
        · rw [StrLaws.partsBetween_eq]
          obtain ⟨p, r, hp⟩ := StrLaws.partsFrom_ne (sL l) (Str.length ⟨#[c]⟩) 0 (Builtin.Str.occurrences (sL l) ⟨#[c]⟩ 0 (sL l).length ((sL l).length + 1))
          rw [hp]; simp
    exact n this
  · rw [← j3, spl_jn h fr]
/-! ### numbers as texts -/
def nmS (n : Nat) : List Nat := if n < 10 then [48 + n] else if n < 100 then [48 + n / 10, 48 + n % 10] else [48 + n / 100, 48 + n / 10 % 10, 48 + n % 10]
theorem nmS_toString : ∀ n : Nat, n < 1000 → Str.ofString (toString (n : Int)) = sL (nmS n) ∧ ((n : Int)).natAbs.log2 < 1920 := by decide +kernel
def valD (w : List Nat) : Nat := w.foldl (fun n c => n * 10 + (c - 48)) 0
theorem nmS_dg {n : Nat} (h : n < 1000) : ∀ c ∈ nmS n, 48 ≤ c ∧ c ≤ 57 := fun c hc => by
  unfold nmS at hc
  split at hc
  · have : c = 48 + n := by simpa using hc
    omega
  · split at hc
    · have : c = 48 + n / 10 ∨ c = 48 + n % 10 := by simpa using hc
      omega
    · have : c = 48 + n / 100 ∨ c = 48 + n / 10 % 10 ∨ c = 48 + n % 10 := by simpa using hc
      omega
theorem nmS_len {n : Nat} : 1 ≤ (nmS n).length ∧ (nmS n).length ≤ 3 := by
  unfold nmS
  split
  · exact ⟨Nat.le_refl _, by show 1 ≤ 3; decide⟩
  · split
    · exact ⟨by show 1 ≤ 2; decide, by show 2 ≤ 3; decide⟩
    · exact ⟨by show 1 ≤ 3; decide, Nat.le_refl _⟩
theorem nmS_val {n : Nat} (h : n < 1000) : valD (nmS n) = n := by
  unfold nmS valD
  split
  · show 0 * 10 + (48 + n - 48) = n; omega
  · split
    · show (0 * 10 + (48 + n / 10 - 48)) * 10 + (48 + n % 10 - 48) = n; omega
    · show ((0 * 10 + (48 + n / 100 - 48)) * 10 + (48 + n / 10 % 10 - 48)) * 10 + (48 + n % 10 - 48) = n; omega
/-- what int of digits gives -/
theorem intText_dg {w : List Nat} (h1 : w ≠ []) (hl : w.length ≤ 4300) (h : ∀ c ∈ w, 48 ≤ c ∧ c ≤ 57) : PySem.intText? (sL w) = some ((valD w : Nat) : Int) :=
  PySem.intText_digits (x := sL w) (fun c hc => h c (by simpa using hc)) (by simpa using h1) (by show w.toArray.size ≤ _; simpa using hl)
/-- the number that a word writes, as the program takes it -/
def numF (w : List Nat) : Int := if (1 ≤ w.length ∧ w.length ≤ 9) ∧ ∀ c ∈ w, c ∈ [48, 49, 50, 51, 52, 53, 54, 55, 56, 57] then ((valD w : Nat) : Int) else -1
theorem dg_iff {c : Nat} : c ∈ [48, 49, 50, 51, 52, 53, 54, 55, 56, 57] ↔ 48 ≤ c ∧ c ≤ 57 := by
  simp only [List.mem_cons, List.not_mem_nil, or_false]
  omega
theorem numF_nm {n : Nat} (h : n < 1000) : numF (nmS n) = (n : Int) := by
  unfold numF
  have := nmS_len (n := n)
  rw [if_pos ⟨⟨this.1, by omega⟩, fun c hc => dg_iff.mpr (nmS_dg h c hc)⟩, nmS_val h]
/-- the number that a word writes, as the law takes it -/
def lnF (w : List Nat) : Int := if w = [] ∨ 3 < w.length ∨ (w.headD 0 = 48 ∧ 1 < w.length) then -1 else if ∀ c ∈ w, c ∈ [48, 49, 50, 51, 52, 53, 54, 55, 56, 57] then ((valD w : Nat) : Int) else -1
theorem nmS_head {n : Nat} (h : n < 1000) (hl : 1 < (nmS n).length) : (nmS n).headD 0 ≠ 48 := by
  unfold nmS at hl ⊢
  split at hl
  · simp at hl
  · split at hl
    · rename_i a b
      rw [if_neg a, if_pos b]
      show 48 + n / 10 ≠ 48
      omega
    · rename_i a b
      rw [if_neg a, if_neg b]
      show 48 + n / 100 ≠ 48
      omega
theorem lnF_nm {n : Nat} (h : n < 1000) : lnF (nmS n) = (n : Int) := by
  unfold lnF
  have l := nmS_len (n := n)
  rw [if_neg, if_pos fun c hc => dg_iff.mpr (nmS_dg h c hc), nmS_val h]
  rintro (z | z | z)
  · rw [z] at l; simp at l
  · omega
  · exact nmS_head h z.2 z.1
theorem lnF_inv {w : List Nat} (h : 0 ≤ lnF w) : ∃ n : Nat, n < 1000 ∧ lnF w = (n : Int) ∧ w = nmS n := by
  unfold lnF at h ⊢
  by_cases a : w = [] ∨ 3 < w.length ∨ (w.headD 0 = 48 ∧ 1 < w.length)
  · rw [if_pos a] at h; exact absurd h (by decide)
  rw [if_neg a] at h ⊢
  by_cases b : ∀ c ∈ w, c ∈ [48, 49, 50, 51, 52, 53, 54, 55, 56, 57]
  · rw [if_pos b]
    refine ⟨valD w, ?_⟩
    have d : ∀ c ∈ w, 48 ≤ c ∧ c ≤ 57 := fun c hc => dg_iff.mp (b c hc)
    have a1 : w ≠ [] := fun z => a (.inl z)
    have a2 : w.length ≤ 3 := Nat.le_of_not_lt fun z => a (.inr (.inl z))
    have a3 : 1 < w.length → w.headD 0 ≠ 48 := fun z e => a (.inr (.inr ⟨e, z⟩))
    match w, d, a1, a2, a3 with
    | [x], d, _, _, _ =>
      have := d x (by simp)
      have e : valD [x] = 0 * 10 + (x - 48) := rfl
      refine ⟨by omega, rfl, ?_⟩
      unfold nmS
      rw [e, if_pos (by omega)]
      congr 1
      omega
    | [x, y], d, _, _, a3 =>
      have := d x (by simp)
      have := d y (by simp)
      have h0 : x ≠ 48 := a3 (by simp)
      have e : valD [x, y] = (0 * 10 + (x - 48)) * 10 + (y - 48) := rfl
      refine ⟨by omega, rfl, ?_⟩
      unfold nmS
      rw [e, if_neg (by omega), if_pos (by omega)]
      congr 1
      · omega
      · congr 1; omega
    | [x, y, z], d, _, _, a3 =>
      have := d x (by simp)
      have := d y (by simp)
      have := d z (by simp)
      have h0 : x ≠ 48 := a3 (by simp)
      have e : valD [x, y, z] = ((0 * 10 + (x - 48)) * 10 + (y - 48)) * 10 + (z - 48) := rfl
      refine ⟨by omega, rfl, ?_⟩
      unfold nmS
      rw [e, if_neg (by omega), if_neg (by omega)]
      congr 1
      · omega
      · congr 1
        · omega
        · congr 1; omega
    | _ :: _ :: _ :: _ :: _, _, _, a2, _ => simp at a2
  · rw [if_neg b] at h; exact absurd h (by decide)
/-! ### words between blanks -/
def wstep (st : List (List Nat) × List Nat) (c : Nat) : List (List Nat) × List Nat := if PySem.Unicode.isSpace c = true then (if st.2.length = 0 then st else (st.1 ++ [st.2], [])) else (st.1, st.2 ++ [c])
def wfin (st : List (List Nat) × List Nat) : List (List Nat) := if st.2.length = 0 then st.1 else st.1 ++ [st.2]
def wds (l : List Nat) : List (List Nat) := wfin (l.foldl wstep ([], []))
theorem sL_len (l : List Nat) : (sL l).length = l.length := by show l.toArray.size = _; simp
theorem scan_fold : ∀ (l : List Nat) (st : List (List Nat) × List Nat), l.foldl KWd.step (st.1.map sL, sL st.2) = (((l.foldl wstep st).1).map sL, sL (l.foldl wstep st).2)
  | [], st => rfl
  | c :: l, st => by
    rw [List.foldl_cons, List.foldl_cons, ← scan_fold l (wstep st c)]
    congr 1
    unfold KWd.step wstep
    dsimp only
    rw [sL_len]
    split
    · split
      · rfl
      · rw [List.map_append]; rfl
    · show (_, sL st.2 ++ sL [c]) = _
      rw [S_app]
theorem words_sL (l : List Nat) : Txt.words (sL l) = (wds l).map sL := by
  rw [KWd.words_scan]
  have : KWd.scan (sL l) = (((l.foldl wstep ([], [])).1).map sL, sL (l.foldl wstep ([], [])).2) := by
    unfold KWd.scan
    have := scan_fold l ([], [])
    rw [show (sL l).cps.toList = l by simp]
    exact this
  rw [this]
  unfold KWd.fin wds wfin
  dsimp only
  rw [sL_len]
  split
  · rfl
  · rw [List.map_append]; rfl
theorem w_run : ∀ (p : List Nat) (st : List (List Nat) × List Nat), (∀ c ∈ p, PySem.Unicode.isSpace c = false) → p.foldl wstep st = (st.1, st.2 ++ p)
  | [], st, _ => by rw [List.append_nil]; rfl
  | c :: p, st, h => by
    rw [List.foldl_cons, w_run p _ fun x hx => h x (List.mem_cons_of_mem _ hx)]
    unfold wstep
    rw [if_neg (by rw [h c List.mem_cons_self]; decide)]
    dsimp only
    rw [List.append_assoc]
    rfl
theorem w_sp {st : List (List Nat) × List Nat} {c : Nat} (hc : PySem.Unicode.isSpace c = true) (h : st.2 ≠ []) : wstep st c = (st.1 ++ [st.2], []) := by
  unfold wstep
  rw [if_pos hc, if_neg fun z => h (List.length_eq_zero_iff.mp z)]
/-- words with single blanks between them, and a blank behind them -/
theorem wds_jn {e : Nat} (he : PySem.Unicode.isSpace e = true) : ∀ (ps : List (List Nat)) (ws : List (List Nat)), ps ≠ [] → (∀ p ∈ ps, p ≠ [] ∧ ∀ c ∈ p, PySem.Unicode.isSpace c = false) → (jn [32] ps ++ [e]).foldl wstep (ws, []) = (ws ++ ps, [])
  | [], _, h, _ => absurd rfl h
  | [p], ws, _, h => by
    obtain ⟨h1, h2⟩ := h p List.mem_cons_self
    show (p ++ [e]).foldl wstep (ws, []) = _
    rw [List.foldl_append, w_run p _ h2]
    show wstep (ws, [] ++ p) e = _
    rw [List.nil_append, w_sp he h1]
  | p :: q :: r, ws, _, h => by
    obtain ⟨h1, h2⟩ := h p List.mem_cons_self
    have s32 : PySem.Unicode.isSpace 32 = true := by decide +kernel
    show (p ++ [32] ++ jn [32] (q :: r) ++ [e]).foldl wstep (ws, []) = _
    rw [List.append_assoc, List.append_assoc, List.foldl_append, w_run p _ h2, List.foldl_append]
    show (jn [32] (q :: r) ++ [e]).foldl wstep (wstep (ws, [] ++ p) 32) = _
    rw [List.nil_append, w_sp s32 h1, wds_jn he (q :: r) _ (by simp) fun x hx => h x (List.mem_cons_of_mem _ hx), List.append_assoc]
    rfl
theorem wds_all {e : Nat} (he : PySem.Unicode.isSpace e = true) {ps : List (List Nat)} (h : ps ≠ []) (hp : ∀ p ∈ ps, p ≠ [] ∧ ∀ c ∈ p, PySem.Unicode.isSpace c = false) : wds (jn [32] ps ++ [e]) = ps := by
  unfold wds
  rw [wds_jn he ps [] h hp]
  rfl
end My
namespace My
open Hq PySem
/-! ### texts of alphabets and automata -/
abbrev tA : List Nat := [97, 108, 112, 104, 97, 98, 101, 116]
abbrev tM : List Nat := [97, 117, 116, 111, 109, 97, 116, 111, 110]
abbrev tF : List Nat := [102, 105, 110, 97, 108, 115]
abbrev tR : List Nat := [114, 111, 119]
abbrev nm (x : Int) : List Nat := nmS x.toNat
/-- the places of a letter -/
def flt (l : List Int) : List Nat := jn [] (l.map nm)
/-- the text of an alphabet -/
def fa (k : Int) (L : List (List Int)) : List Nat := tA ++ [32] ++ nm k ++ [58, 32] ++ jn [32] (L.map flt) ++ [10]
/-- a line without its end -/
def lh (w : List Nat) (ns : List Int) : List Nat := jn [32] (w :: ns.map nm)
/-- the text of an automaton -/
def fm (A : Au) : List Nat := lh tM [(A.L : Int), A.s] ++ [10] ++ (lh tF A.F ++ [10]) ++ jn [] (A.R.map fun r => lh tR r ++ [10])
theorem jn_nil : ∀ ps : List (List Nat), jn [] ps = ps.flatten
  | [] => rfl
  | [x] => by show x = [x].flatten; simp
  | x :: y :: r => by
    show x ++ [] ++ jn [] (y :: r) = _
    rw [jn_nil (y :: r), List.append_nil, List.flatten_cons (l := x)]
theorem nm_dg {x : Int} (h : 0 ≤ x ∧ x < 1000) : ∀ c ∈ nm x, 48 ≤ c ∧ c ≤ 57 := nmS_dg (by omega)
theorem dg_sp {c : Nat} (h : 48 ≤ c ∧ c ≤ 57) : PySem.Unicode.isSpace c = false := by
  have : ∀ d, d < 10 → PySem.Unicode.isSpace (48 + d) = false := by decide +kernel
  have h2 := this (c - 48) (by omega)
  rwa [show 48 + (c - 48) = c by omega] at h2
theorem nm_one {x : Int} (h : 0 ≤ x ∧ x < 10) : nm x = [48 + x.toNat] := by
  show nmS _ = _
  unfold nmS
  rw [if_pos (by omega)]
theorem flt_small {l : List Int} (h : ∀ x ∈ l, 0 ≤ x ∧ x < 10) : flt l = l.map fun x => 48 + x.toNat := by
  unfold flt
  rw [jn_nil]
  induction l with
  | nil => rfl
  | cons x l ih =>
    rw [List.map_cons, List.flatten_cons, nm_one (h x List.mem_cons_self), ih fun y hy => h y (List.mem_cons_of_mem _ hy)]
    rfl
/-- the numbers of the signs of a word -/
def pL (f : List Nat → Int) (w : List Nat) : List Int := w.map fun c => f [c]
theorem pL_flt {f : List Nat → Int} (hf : ∀ n : Nat, n < 1000 → f (nmS n) = (n : Int)) {l : List Int} (h : ∀ x ∈ l, 0 ≤ x ∧ x < 10) : pL f (flt l) = l := by
  rw [flt_small h]
  unfold pL
  rw [List.map_map]
  conv => rhs; rw [← List.map_id l]
  refine List.map_congr_left fun x hx => ?_
  have := h x hx
  have e := hf x.toNat (by omega)
  rw [show nmS x.toNat = [48 + x.toNat] from nm_one this] at e
  show f [48 + x.toNat] = x
  rw [e]; omega
theorem places_small {k : Int} {L : List (List Int)} (A : AlphaOk k L) : ∀ l ∈ L, ∀ x ∈ l, 0 ≤ x ∧ x < 10 := fun l hl x hx => by
  have := (A.ok l hl).2.2 x hx
  have := A.k4
  omega
theorem fa_words {k : Int} {L : List (List Int)} (A : AlphaOk k L) : fa k L = jn [32] (tA :: (nm k ++ [58]) :: L.map flt) ++ [10] := by
  have h : L.map flt ≠ [] := by
    have := A.l1
    intro z
    rw [List.map_eq_nil_iff] at z
    rw [z] at this
    exact absurd this (by decide)
  unfold fa
  rw [jn_cons (by simp), jn_cons h]
  simp
theorem fa_wds {k : Int} {L : List (List Int)} (A : AlphaOk k L) : wds (fa k L) = tA :: (nm k ++ [58]) :: L.map flt := by
  have k1 := A.k1
  have k4 := A.k4
  rw [fa_words A]
  refine wds_all (by decide +kernel) (by simp) fun p hp => ?_
  rcases List.mem_cons.mp hp with rfl | hp
  · exact ⟨by simp, by decide +kernel⟩
  rcases List.mem_cons.mp hp with rfl | hp
  · refine ⟨by simp, fun c hc => ?_⟩
    rcases List.mem_append.mp hc with hc | hc
    · exact dg_sp (nm_dg (by omega) c hc)
    · rw [List.mem_singleton.mp hc]; decide +kernel
  · obtain ⟨l, hl, rfl⟩ := List.mem_map.mp hp
    have ps := places_small A l hl
    rw [flt_small ps]
    refine ⟨?_, fun c hc => ?_⟩
    · have := (A.ok l hl).1
      intro z
      exact this (List.map_eq_nil_iff.mp z)
    · obtain ⟨x, hx, rfl⟩ := List.mem_map.mp hc
      have := ps x hx
      exact dg_sp (by omega)
theorem drop_last1 {a : List Nat} {x : Nat} : (a ++ [x]).dropLast = a := by simp
/-- what the program reads of an alphabet's text -/
theorem fa_back {k : Int} {L : List (List Int)} (A : AlphaOk k L) : numF ((wds (fa k L)).getD 1 []).dropLast = k ∧ ((wds (fa k L)).drop 2).map (pL numF) = L ∧ 2 ≤ (wds (fa k L)).length := by
  have k1 := A.k1
  have k4 := A.k4
  rw [fa_wds A]
  refine ⟨?_, ?_, by simp⟩
  · show numF (nm k ++ [58]).dropLast = k
    rw [drop_last1]
    have := numF_nm (n := k.toNat) (by omega)
    rw [show nm k = nmS k.toNat from rfl, this]; omega
  · show (L.map flt).map (pL numF) = L
    rw [List.map_map]
    conv => rhs; rw [← List.map_id L]
    exact List.map_congr_left fun l hl => pL_flt (fun n hn => numF_nm hn) (places_small A l hl)
/-- a line read -/
theorem lh_spl {w : List Nat} {ns : List Int} (hw : 32 ∉ w) (h : ∀ x ∈ ns, 0 ≤ x ∧ x < 1000) : spl 32 (lh w ns) = w :: ns.map nm := by
  unfold lh
  refine spl_jn (by simp) fun p hp => ?_
  rcases List.mem_cons.mp hp with rfl | hp
  · exact hw
  · obtain ⟨x, hx, rfl⟩ := List.mem_map.mp hp
    intro z
    have := nm_dg (h x hx) 32 z
    omega
def rdL (f : List Nat → Int) (l : List Nat) : List Int := ((spl 32 l).drop 1).map f
theorem rdL_lh {f : List Nat → Int} (hf : ∀ n : Nat, n < 1000 → f (nmS n) = (n : Int)) {w : List Nat} {ns : List Int} (hw : 32 ∉ w) (h : ∀ x ∈ ns, 0 ≤ x ∧ x < 1000) : rdL f (lh w ns) = ns := by
  unfold rdL
  rw [lh_spl hw h]
  show (ns.map nm).map f = ns
  rw [List.map_map]
  conv => rhs; rw [← List.map_id ns]
  refine List.map_congr_left fun x hx => ?_
  have := h x hx
  show f (nmS x.toNat) = x
  rw [hf _ (by omega)]; omega
def hsM (A : Au) : List (List Nat) := lh tM [(A.L : Int), A.s] :: lh tF A.F :: A.R.map (lh tR)
theorem jn_ends : ∀ hs : List (List Nat), jn [10] (hs ++ [[]]) = jn [] (hs.map fun h => h ++ [10])
  | [] => rfl
  | h :: hs => by
    rw [List.cons_append, jn_cons (by simp), jn_ends hs, List.map_cons, jn_nil, jn_nil, List.flatten_cons]
theorem fm_jn (A : Au) : fm A = jn [10] (hsM A ++ [[]]) := by
  rw [jn_ends]
  unfold fm hsM
  rw [jn_nil, jn_nil, List.map_cons, List.map_cons, List.flatten_cons, List.flatten_cons, List.map_map]
  simp [Function.comp_def]
/-- all its numbers are small -/
structure AuS (A : Au) : Prop where
  ok : A.Ok
  L : A.L < 1000
  R : A.R.length < 1000
theorem AuS.nums {A : Au} (h : AuS A) : ((0 ≤ (A.L : Int) ∧ (A.L : Int) < 1000) ∧ 0 ≤ A.s ∧ A.s < 1000) ∧ (∀ x ∈ A.F, 0 ≤ x ∧ x < 1000) ∧ ∀ r ∈ A.R, ∀ x ∈ r, 0 ≤ x ∧ x < 1000 := by
  have hL := h.L
  have hR := h.R
  refine ⟨⟨⟨by omega, by omega⟩, h.ok.s.1, ?_⟩, fun x hx => ?_, fun r hr x hx => ?_⟩
  · have := h.ok.s.2; omega
  · have := h.ok.F x hx
    exact ⟨this.1, by have := this.2; omega⟩
  · have := (h.ok.R r hr).2 x hx
    exact ⟨this.1, by have := this.2; omega⟩
theorem ten_lh {w : List Nat} {ns : List Int} (hw : 10 ∉ w) (h : ∀ x ∈ ns, 0 ≤ x ∧ x < 1000) : 10 ∉ lh w ns := by
  unfold lh
  have key : ∀ ps : List (List Nat), (∀ p ∈ ps, 10 ∉ p) → 10 ∉ jn [32] ps := by
    intro ps
    induction ps with
    | nil => intro _ z; cases z
    | cons p ps ih =>
      intro hp z
      by_cases e : ps = []
      · subst e
        exact hp p List.mem_cons_self z
      · rw [jn_cons e] at z
        rcases List.mem_append.mp z with z | z
        · rcases List.mem_append.mp z with z | z
          · exact hp p List.mem_cons_self z
          · exact absurd z (by decide)
        · exact ih (fun q hq => hp q (List.mem_cons_of_mem _ hq)) z
  refine key _ fun p hp => ?_
  rcases List.mem_cons.mp hp with rfl | hp
  · exact hw
  · obtain ⟨x, hx, rfl⟩ := List.mem_map.mp hp
    intro z
    have := nm_dg (h x hx) 10 z
    omega
theorem fm_spl {A : Au} (h : AuS A) : spl 10 (fm A) = hsM A ++ [[]] := by
  rw [fm_jn]
  obtain ⟨⟨h1, h2⟩, h3, h4⟩ := h.nums
  refine spl_jn (by simp) fun p hp => ?_
  rcases List.mem_append.mp hp with hp | hp
  · unfold hsM at hp
    rcases List.mem_cons.mp hp with rfl | hp
    · exact ten_lh (by decide) fun x hx => by
        rcases List.mem_cons.mp hx with rfl | hx
        · exact h1
        · rw [List.mem_singleton.mp hx]; exact h2
    rcases List.mem_cons.mp hp with rfl | hp
    · exact ten_lh (by decide) h3
    · obtain ⟨r, hr, rfl⟩ := List.mem_map.mp hp
      exact ten_lh (by decide) (h4 r hr)
  · rw [List.mem_singleton.mp hp]; simp
theorem fm_rows {f : List Nat → Int} (hf : ∀ n : Nat, n < 1000 → f (nmS n) = (n : Int)) {A : Au} (h : AuS A) : (spl 10 (fm A)).map (rdL f) = [(A.L : Int), A.s] :: A.F :: (A.R ++ [[]]) := by
  obtain ⟨⟨h1, h2⟩, h3, h4⟩ := h.nums
  rw [fm_spl h]
  unfold hsM
  rw [List.map_append, List.map_cons, List.map_cons, List.map_map]
  rw [rdL_lh hf (by decide) (ns := [(A.L : Int), A.s]) (fun x hx => by
    rcases List.mem_cons.mp hx with rfl | hx
    · exact h1
    · rw [List.mem_singleton.mp hx]; exact h2), rdL_lh hf (by decide) h3]
  have : A.R.map (rdL f ∘ lh tR) = A.R := by
    conv => rhs; rw [← List.map_id A.R]
    exact List.map_congr_left fun r hr => rdL_lh hf (by decide) (h4 r hr)
  rw [this]
  rfl
theorem spl_len (c : Nat) : ∀ l : List Nat, (spl c l).length ≤ l.length + 1 ∧ ∀ p ∈ spl c l, p.length ≤ l.length
  | [] => ⟨Nat.le_refl _, fun p hp => by have : p = [] := by simpa [spl] using hp
                                         rw [this]; exact Nat.le_refl _⟩
  | x :: l => by
    obtain ⟨h1, h2⟩ := spl_len c l
    by_cases e : x = c
    · subst e
      rw [spl_hit]
      refine ⟨by simp only [List.length_cons]; omega, fun p hp => ?_⟩
      rcases List.mem_cons.mp hp with rfl | hp
      · exact Nat.zero_le _
      · have := h2 p hp; simp only [List.length_cons]; omega
    · cases e2 : spl c l with
      | nil => exact absurd e2 (spl_ne _ _)
      | cons q r =>
        rw [spl_miss e e2]
        rw [e2] at h1 h2
        refine ⟨by simp only [List.length_cons] at h1 ⊢; omega, fun p hp => ?_⟩
        rcases List.mem_cons.mp hp with rfl | hp
        · have := h2 q List.mem_cons_self; simp only [List.length_cons]; omega
        · have := h2 p (List.mem_cons_of_mem _ hp); simp only [List.length_cons]; omega
theorem jn_len {s : List Nat} : ∀ ps : List (List Nat), (jn s ps).length ≤ (ps.map (·.length)).sum + ps.length * s.length
  | [] => Nat.zero_le _
  | [x] => by show x.length ≤ _; simp
  | x :: y :: r => by
    have ih := jn_len (s := s) (y :: r)
    show (x ++ s ++ jn s (y :: r)).length ≤ _
    rw [List.length_append, List.length_append]
    rw [show (x :: y :: r).map (·.length) = x.length :: (y :: r).map (·.length) from rfl, List.sum_cons, List.length_cons (a := x), Nat.succ_mul]
    omega
theorem nm_sum : ∀ ns : List Int, ((ns.map nm).map (·.length)).sum ≤ 3 * ns.length
  | [] => Nat.le_refl _
  | x :: ns => by
    have h1 := (nmS_len (n := x.toNat)).2
    have h2 := nm_sum ns
    rw [List.map_cons, List.map_cons, List.sum_cons, List.length_cons]
    show (nmS x.toNat).length + _ ≤ _
    omega
theorem lh_len (w : List Nat) (ns : List Int) : (lh w ns).length ≤ w.length + 4 * ns.length + 1 := by
  unfold lh
  have h1 := jn_len (s := [32]) (w :: ns.map nm)
  have h2 := nm_sum ns
  rw [List.map_cons, List.sum_cons, List.length_cons, List.length_map, List.length_singleton, Nat.mul_one] at h1
  omega
end My
/-! HqUa: texts sign by sign, put together, cut. -/
namespace Hq
open PySem L2
open My (jn spl wds nmS valD sL join_sL split_sL words_sL nmS_toString intText_dg)
/-- sep.join(xs) -/
def rJoin (K : PySem.W.Frag) : V → List V → Hp → VK → Prop := fun x xs H Q => ∃ a p, ∃ ys : List Str, x = .str a ∧ xs = [.ref p] ∧ (SqL K H p (ys.map V.str) ∨ SqT K H p (ys.map V.str)) ∧ (ys.map (·.length)).sum + ys.length * a.length ≤ 16777216 ∧ Q (.str (Txt.join a ys)) H
theorem c_join {X : Cx} {K : PySem.W.Frag} {o e : PySem.Expr} {to te : TE} {apos pos : Pos} (hK : X.K = K) (ho : PE X o to) (he : PE X e te) (hs : starEach [e] X.env = [(false, eval e X.env)] := by rfl) (hbase : attributeBase o "join" X.env (eval o X.env) = eval o X.env := by rfl) (hline : (apos.endLine == pos.line) = true := by rfl) :
    PE X (.Call (.Attribute o "join" apos) [e] [] pos) (tM1 (rJoin K) to te) := hK ▸ pe_join ho he hs hbase hline
abbrev rSpl : V → List V → Hp → VK → Prop := fun x xs H Q => ∃ a b, x = .str a ∧ xs = [.str b] ∧ (b.length == 0) = false ∧ a.length + 2 ≤ sizeLine ∧ rNewStrs (Txt.split a b) H Q
abbrev rWds : V → List V → Hp → VK → Prop := fun x xs H Q => ∃ a, x = .str a ∧ xs = [] ∧ a.length + 2 ≤ sizeLine ∧ rNewStrs (Txt.words a) H Q
section
variable {K : PySem.W.Frag} {E : Ent} {F H : Hp} {M M1 M2 : Ms} {Γ : Gm} {P P1 : MP} {te ta tb tv : TE} {t : TT} {tu tz : TS} {D1 : Ends} {l s : List Nat} {ps : List (List Nat)} {i : Nat} {c : Nat}
theorem join_txt (s : List Nat) (ps : List (List Nat)) : Txt.join (sL s) (ps.map sL) = sL (jn s ps) := by
  show Builtin.Str.glued (sL s) (ps.map sL) = _
  rw [StrLaws.glued_eq_join, join_sL]
theorem ev_joinL (ha : Ev ta Γ M (D K (dS s)) M1) (hb : Ev tb Γ M1 (PLi K (ps.map fun p => D K (dS p))) M2) (hz : (ps.map (·.length)).sum + ps.length * s.length ≤ 16000000) : Ev (tM1 (rJoin K) ta tb) Γ M (D K (dS (jn s ps))) M2 := fun E F σ H a b Q k => ha E F σ H a b _ fun v F1 H1 e1 g1 p1 => by
  cases dp_strS p1
  refine ⟨⟨_, rfl⟩, hb E F1 σ H1 g1 (b.mono e1) _ fun w F2 H2 e2 g2 ⟨p, vs, hp, sq, q⟩ => ?_⟩
  subst hp
  have e := all_strs q
  subst e
  refine ⟨_, p, ps.map sL, rfl, rfl, .inl (by rw [List.map_map]; exact Evl.ex_l g2.ex sq), ?_, ?_⟩
  · rw [List.map_map, List.length_map]
    have e1 : (ps.map ((fun x : Str => x.length) ∘ sL)) = ps.map (·.length) := List.map_congr_left fun p _ => My.sL_len p
    have e2 : (⟨s.toArray⟩ : Str).length = s.length := My.sL_len s
    rw [e1, e2]
    omega
  · rw [join_txt]
    exact k _ F2 H2 (e1.trans e2) g2 (.str _)
theorem ml_strs (F : Hp) (ps : List (List Nat)) : Ps F ((ps.map sL).map V.str) (ps.map fun p => D K (dS p)) := by
  induction ps with
  | nil => exact .nil
  | cons p ps ih => exact .cons (.str _) ih
theorem evn_split (ha : Ev ta Γ M (D K (dS l)) M1) (hb : Ev tb Γ M1 (D K (dS [c])) M2) (hz : l.length ≤ 15000000) : EvN (tM1 rSpl ta tb) Γ M (ML ((spl c l).map fun p => D K (dS p))) M2 := fun E F σ H a b Q k => ha E F σ H a b _ fun v F1 H1 e1 g1 p1 => by
  cases dp_strS p1
  refine ⟨⟨_, rfl⟩, hb E F1 σ H1 g1 (b.mono e1) _ fun w F2 H2 e2 g2 p2 => ?_⟩
  cases dp_strS p2
  refine ⟨_, _, rfl, rfl, rfl, ?_, fun p hp => ?_⟩
  · have : (⟨l.toArray⟩ : Str).length = l.length := My.sL_len l
    rw [this]
    exact Nat.le_trans (by omega : l.length + 2 ≤ 16000000) (by decide)
  · rw [show Txt.split (⟨l.toArray⟩ : Str) ⟨([c] : List Nat).toArray⟩ = (spl c l).map sL from split_sL c l]
    exact k p F2 _ (g2.fresh hp) (e1.trans e2) (g2.new hp ⟨_, rfl, ml_strs _ _⟩)
theorem evn_words (ha : Ev ta Γ M (D K (dS l)) M1) (hz : l.length ≤ 15000000) : EvN (tM0 rWds ta) Γ M (ML ((wds l).map fun p => D K (dS p))) M1 := fun E F σ H a b Q k => ha E F σ H a b _ fun v F1 H1 e1 g1 p1 => by
  cases dp_strS p1
  refine ⟨⟨_, rfl⟩, _, rfl, rfl, ?_, fun p hp => ?_⟩
  · have : (⟨l.toArray⟩ : Str).length = l.length := My.sL_len l
    rw [this]
    exact Nat.le_trans (by omega : l.length + 2 ≤ 16000000) (by decide)
  · rw [show Txt.words (⟨l.toArray⟩ : Str) = (wds l).map sL from words_sL l]
    exact k p F1 _ (g1.fresh hp) e1 (g1.new hp ⟨_, rfl, ml_strs _ _⟩)
/-- a comprehension over the signs of a text -/
theorem evn_lcS {G : Nat → MP} (f : Nat → Bool) (h : Ev ta Γ M (D K (dS l)) M1) (hz : l.length ≤ 50000) (ht : ∀ x ∈ l, EvT t ((Γ.set i none).set i (some (D K (dS [x])))) M1 (· = f x) M1)
    (he : ∀ x ∈ l, f x = true → Ev te ((Γ.set i none).set i (some (D K (dS [x])))) M1 (G x) M1) : EvN (tLc (iStr ta) (gName i) t te [i]) Γ M (ML ((l.filter f).map G)) M1 := fun E F σ H a b Q k => h E F σ H a b _ fun v F1 H1 e1 g1 p1 => by
  cases dp_strS p1
  refine ⟨_, rfl, fun D2 hD => ?_⟩
  have gn : Pt ⟨F1, H1, keys M1⟩ F1 ((D2, ML []) :: M1) (upd H1 D2 (.lst [])) := g1.enter.new hD ⟨[], rfl, .nil⟩
  have sz : (⟨l.toArray⟩ : Str).cps.size = l.length := by simp
  refine lc_it walk_str (fun n H' => ∃ F', Pt ⟨F1, H1, keys M1⟩ F' ((D2, ML (((l.take n).filter f).map G)) :: M1) H') ⟨F1, gn⟩ (fun _ _ _ _ => trivial) (fun n x H2 H3 hn ⟨F2, g2⟩ ⟨eH, y, hy, ex⟩ => ?_) (fun H2 ⟨F2, g2⟩ => ?_)
  · subst eH; subst ex
    have hy : l[n]? = some y := by simpa using hy
    have hm := List.mem_of_getElem? hy
    refine ⟨wipe_one, lc_turn g2 ((env_wipe (b.mono (e1.trans g2.gr.ex))).set i (P := D K (dS [y])) (.str _)) (ht y hm) (he y hm) ?_ _ fun F3 H3 e3 g3 => ⟨F3, ?_⟩⟩
    · rw [List.length_map]
      exact Nat.lt_of_le_of_lt (Nat.le_trans (List.length_filter_le _ _) (by rw [List.length_take]; omega)) (by omega : l.length < 100000)
    · rw [take_filter l f n y hy, List.map_append]
      cases hf : f y
      · rw [hf] at g3; simpa using g3
      · rw [hf] at g3; simpa using g3
  · rw [sz, List.take_length] at g2
    exact k D2 F2 H2 (g1.fresh hD) (e1.trans g2.gr.ex) (g1.back g2)
/-- for c in text -/
theorem go_forS (h : Ev ta Γ M (D K (dS l)) M1) (J : Nat → Gm → Ms → Prop) (h0 : J 0 Γ M1)
    (hs : ∀ n x, l[n]? = some x → ∀ Γ' M', J n Γ' M' → Nx E (Γ'.set i (some (D K (dS [x])))) M' (tu { D1 with nx := JA E (J (n + 1)), ct := JA E (J (n + 1)), bk := D1.nx }))
    (hd : ∀ Γ' M', J l.length Γ' M' → Nx E Γ' M' D1.nx) : Nx E Γ M (tFor (iStr ta) (gName i) tu D1) := fun σ H ⟨F, a, b⟩ => h E F σ H a b _ fun v F1 H1 e1 g1 p1 => by
  cases dp_strS p1
  have sz : (⟨l.toArray⟩ : Str).cps.size = l.length := by simp
  refine ⟨_, rfl, for_it walk_str (fun n σ H => JA E (J n) σ H) ⟨Γ, M1, h0, F1, g1, b.mono e1⟩ (fun _ _ _ _ _ => trivial) (fun n x σ2 H2 H3 hn ⟨Γ', M', hJ, F2, g2, b2⟩ ⟨eH, y, hy, ex⟩ => ?_) (fun σ2 H2 ⟨Γ', M', hJ, at2⟩ => ?_)⟩
  · subst eH; subst ex
    have hy : l[n]? = some y := by simpa using hy
    exact hs n y hy Γ' M' hJ _ _ ⟨F2, g2, b2.set i (P := D K (dS [y])) (.str _)⟩
  · rw [sz] at hJ
    exact hd Γ' M' hJ _ _ at2
theorem q_forS (h : Ev ta Γ M (D K (dS l)) M1) (J : Nat → Gm → Ms → Prop) (h0 : J 0 Γ M1)
    (hs : ∀ n x, l[n]? = some x → ∀ Γ' M', J n Γ' M' → Nx E (Γ'.set i (some (D K (dS [x])))) M' (tu { D1 with nx := JA E (J (n + 1)), ct := JA E (J (n + 1)), bk := tz D1 }))
    (hd : ∀ Γ' M', J l.length Γ' M' → Nx E Γ' M' (tz D1)) : Nx E Γ M (tSeq (tFor (iStr ta) (gName i) tu) tz D1) := go_forS (D1 := { D1 with nx := tz D1 }) h J h0 hs hd
/-- str(n), int(digits) -/
theorem rc_strN {n : Nat} (h : n < 1000) : RC (fun xs H Q => ∃ i : Int, xs = [.int i] ∧ i.natAbs.log2 < 1920 ∧ Q (.str (toString i)) H) [D K (.int (n : Int))] M (D K (dS (nmS n))) M := fun E F H vs g h' Q k => by
  cases h' with
  | cons h' t =>
    cases t
    cases dp_int h'
    have e := nmS_toString n h
    refine ⟨_, rfl, e.2, ?_⟩
    show Q (.str (Str.ofString (toString (n : Int)))) H
    rw [e.1]
    exact k _ F H (Evl.Ex.refl _) g (.str _)
theorem rc_intD (h1 : l ≠ []) (hl : l.length ≤ 600) (h : ∀ c ∈ l, 48 ≤ c ∧ c ≤ 57) : RC (fun xs H Q => ∃ (a : Str) (n : Int), xs = [.str a] ∧ PySem.intText? a = some n ∧ a.length ≤ 640 ∧ Q (.int n) H) [D K (dS l)] M (D K (.int ((valD l : Nat) : Int))) M := fun E F H vs g h' Q k => by
  cases h' with
  | cons h' t =>
    cases t
    cases dp_strS h'
    have e : (⟨l.toArray⟩ : Str).length = l.length := My.sL_len l
    exact ⟨_, _, rfl, intText_dg h1 (by omega) h, by rw [e]; omega, k _ F H (Evl.Ex.refl _) g (.int _)⟩
end
end Hq
/-! HqUb: objects whose making raises, with more behind it; signs not in a text; lengths of words. -/
namespace Hq
open PySem L2
section
variable {K : PySem.W.Frag} {E : Ent} {F H : Hp} {M M1 M2 : Ms} {Γ : Gm} {P : MP} {O O2 : MO} {q : Addr} {te ta : TE} {tr : TA} {D1 : Ends} {tz : TS} {ps : List MP} {i j : Nat} {C Cx : Addr} {X : XK} {sp : Sp} {l : List Nat}
theorem rv_niS {c : Nat} : RV (fun x y H Q => ∃ (c : Nat) (z : Str), x = .str ⟨#[c]⟩ ∧ y = .str z ∧ Q (.bl (!decide (c ∈ z.cps.toList))) H) (D K (dS [c])) (D K (dS l)) M (D K (.bool (!decide (c ∈ l)))) M := rv_val (z := .bl (!decide (c ∈ l))) (fun _ => .bl _) fun F H x y p1 p2 _ Q q => by
  cases dp_strS p1; cases dp_strS p2
  refine ⟨c, _, rfl, rfl, ?_⟩
  have : (⟨l.toArray⟩ : Str).cps.toList = l := by simp
  rw [this]
  exact q
theorem q_mk1_no (h : EvA tr Γ M ps M1) (e : M1[j]? = some (q, O2)) (hs : ∀ x vs H Q X, (∃ F, Wd F [(x, MIns C 0 []), (q, O2)] H ∧ Ps F vs (Own x :: ps) ∧ RtE ⟨F, H, keys [(x, MIns C 0 []), (q, O2)]⟩ [(x, MAny), (q, O2)] Cx X) → sp vs H Q X) (k : RtE E M1 Cx X) : Nx E Γ M (tSeq (tAsg (tMake C sp [] X tr) (gName i)) tz D1) := fun σ H ⟨F, a, b⟩ => h E F σ H a b _ fun vs F1 H1 e1 g1 p1 => fun x dx hx hdx hne => by
  obtain ⟨g2, w2, nq⟩ := make_pre (C := C) g1 hx hdx hne.symm e
  show sp (V.ref x :: (vs ++ [])) _ _ X
  rw [List.append_nil]
  exact hs x (.ref x :: vs) _ _ X ⟨F1, w2, .cons rfl p1, fun F' H' g => k F' H' ((make_post g2 nq e g).drop (List.sublist_cons_self _ _))⟩
theorem q_mk0_no (h : EvA tr Γ M ps M1) (hs : ∀ x vs H Q X, (∃ F, Wd F [(x, MIns C 0 [])] H ∧ Ps F vs (Own x :: ps) ∧ RtE ⟨F, H, keys [(x, MIns C 0 [])]⟩ [(x, MAny)] Cx X) → sp vs H Q X) (k : RtE E M1 Cx X) : Nx E Γ M (tSeq (tAsg (tMake C sp [] X tr) (gName i)) tz D1) := fun σ H ⟨F, a, b⟩ => h E F σ H a b _ fun vs F1 H1 e1 a1 p1 => fun x dx hx hdx hne => by
  have hx2 : upd H1 dx (.own x) x = none := by rw [upd_ne hne.symm]; exact hx
  have g2 : Pt E F1 ((x, MIns C 0 []) :: M1) (upd (upd H1 dx (.own x)) x (.ins C dx [])) := (a1.junk hdx).new hx2 ⟨dx, [], rfl, Nat.le_refl _, fun f hf => by cases hf⟩
  show sp (V.ref x :: (vs ++ [])) _ _ X
  rw [List.append_nil]
  refine hs x (.ref x :: vs) _ _ X ⟨F1, ⟨g2.ex, by simp [keys], fun r hr => ?_⟩, .cons rfl p1, fun F' H' g => k F' H' ?_⟩
  · rw [List.mem_singleton.mp hr]; exact g2.wd.own _ List.mem_cons_self
  · refine (g2.frame (M' := (x, MAny) :: M1) g (fun z hz => ?_) rfl fun r hr => ?_).drop (List.sublist_cons_self _ _)
    · rw [List.mem_singleton.mp hz]; exact List.mem_cons_self
    · rcases List.mem_cons.mp hr with z | z
      · rw [z]; exact .inr List.mem_cons_self
      · exact .inl ⟨fun w => (List.nodup_cons.mp (show (x :: keys M1).Nodup from g2.wd.nd)).1 (by rw [show x = r.1 from (List.mem_singleton.mp w).symm]; exact List.mem_map_of_mem (f := (·.1)) z), List.mem_cons_of_mem _ z⟩
theorem cutN_last {l : List Nat} : Hq.cutN l none (some (-1)) = l.dropLast := by
  unfold Hq.cutN
  rw [HT.sIx_none, List.drop_zero, Nat.sub_zero, List.dropLast_eq_take]
  congr 1
  simp [HT.sIx]
  omega
theorem cutG_inner {α : Type} {l : List α} {a : Nat} : cutG l (some (a : Int)) (some (-1)) = (l.drop a).dropLast := by
  unfold cutG
  rw [HT.sIx_nat, List.dropLast_eq_take, List.length_drop]
  rcases Nat.le_total a l.length with z | z
  · rw [Nat.min_eq_left z]
    congr 1
    simp [HT.sIx]
    omega
  · rw [Nat.min_eq_right z, List.drop_eq_nil_of_le z, List.drop_length, List.take_nil, List.take_nil]
end
end Hq
namespace My
theorem wfold_len : ∀ (l : List Nat) (st : List (List Nat) × List Nat) (N : Nat), st.1.length + st.2.length + l.length ≤ N → (∀ p ∈ st.1, p.length ≤ N) → ((l.foldl wstep st).1.length + (l.foldl wstep st).2.length ≤ N ∧ ∀ p ∈ (l.foldl wstep st).1, p.length ≤ N)
  | [], st, N, h, hp => ⟨by simpa using h, hp⟩
  | c :: l, st, N, h, hp => by
    rw [List.foldl_cons]
    rw [List.length_cons] at h
    refine wfold_len l _ N ?_ ?_
    · unfold wstep
      split
      · split
        · omega
        · dsimp only
          rw [List.length_append, List.length_singleton, List.length_nil]; omega
      · dsimp only
        rw [List.length_append, List.length_singleton]; omega
    · unfold wstep
      split
      · split
        · exact hp
        · intro p hq
          rcases List.mem_append.mp hq with hq | hq
          · exact hp p hq
          · rw [List.mem_singleton.mp hq]; omega
      · exact hp
theorem wds_len (l : List Nat) : (wds l).length ≤ l.length ∧ ∀ p ∈ wds l, p.length ≤ l.length := by
  have h := wfold_len l ([], []) l.length (by simp) (fun p hp => by cases hp)
  unfold wds wfin
  split
  · exact ⟨by omega, h.2⟩
  · refine ⟨by rw [List.length_append, List.length_singleton]; omega, fun p hp => ?_⟩
    rcases List.mem_append.mp hp with hp | hp
    · exact h.2 p hp
    · rw [List.mem_singleton.mp hp]; omega
end My
namespace My
open Hq PySem
theorem fa_uniq {k k' : Int} {L L' : List (List Int)} (A : AlphaOk k L) (A' : AlphaOk k' L') (e : fa k L = fa k' L') : k = k' ∧ L = L' := by
  have h := fa_back A
  have h' := fa_back A'
  rw [e] at h
  exact ⟨h.1.symm.trans h'.1, h.2.1.symm.trans h'.2.1⟩
theorem fm_uniq {A A' : Au} (O : AuS A) (O' : AuS A') (e : fm A = fm A') : A = A' := by
  have h := fm_rows (fun n hn => numF_nm hn) O
  have h' := fm_rows (fun n hn => numF_nm hn) O'
  rw [e] at h
  have b := h.symm.trans h'
  simp only [List.cons.injEq, and_true] at b
  obtain ⟨⟨e1, e2⟩, e3, e4⟩ := b
  have e4 := (List.append_inj' e4 rfl).1
  cases A; cases A'
  simp only at e1 e2 e3 e4
  rw [e2, e3, e4, Int.ofNat_inj.mp e1]
open Classical in
/-- what is read of the text of an alphabet -/
noncomputable def oA (w : List Nat) : PyData := if h : ∃ p : Int × List (List Int), AlphaOk p.1 p.2 ∧ w = fa p.1 p.2 then .tuple [.int h.choose.1, .tuple (h.choose.2.map dT)] else .none
theorem oA_yes {k : Int} {L : List (List Int)} (A : AlphaOk k L) : oA (fa k L) = .tuple [.int k, .tuple (L.map dT)] := by
  have h : ∃ p : Int × List (List Int), AlphaOk p.1 p.2 ∧ fa k L = fa p.1 p.2 := ⟨(k, L), A, rfl⟩
  unfold oA
  rw [dif_pos h]
  obtain ⟨e1, e2⟩ := fa_uniq A h.choose_spec.1 h.choose_spec.2
  rw [← e1, ← e2]
theorem oA_no {w : List Nat} (h : ¬ ∃ k L, AlphaOk k L ∧ w = fa k L) : oA w = .none := by
  unfold oA
  rw [dif_neg fun ⟨p, a, b⟩ => h ⟨p.1, p.2, a, b⟩]
open Classical in
/-- what is read of the text of an automaton -/
noncomputable def oM (w : List Nat) : PyData := if h : ∃ A, AuS A ∧ w = fm A then .tuple [.int (h.choose.L : Int), .int h.choose.s, dT h.choose.F, .tuple (h.choose.R.map dT)] else .none
theorem oM_yes {A : Au} (O : AuS A) : oM (fm A) = .tuple [.int (A.L : Int), .int A.s, dT A.F, .tuple (A.R.map dT)] := by
  have h : ∃ A', AuS A' ∧ fm A = fm A' := ⟨A, O, rfl⟩
  unfold oM
  rw [dif_pos h]
  have e := fm_uniq O h.choose_spec.1 h.choose_spec.2
  rw [← e]
theorem oM_no {w : List Nat} (h : ¬ ∃ A, AuS A ∧ w = fm A) : oM w = .none := by
  unfold oM
  rw [dif_neg h]
end My
/-! HqUc: x = f(..) where f raises. -/
namespace Hq
open PySem L2
section
variable {K : PySem.W.Frag} {E : Ent} {F H : Hp} {M M1 M2 : Ms} {Γ : Gm} {P : MP} {q : Addr} {te ta : TE} {tr : TA} {D1 : Ends} {tz : TS} {ps : List MP} {i j : Nat} {Cx : Addr} {X : XK} {sp : Sp} {l : List Nat}
theorem q_asg_no (h : EvA tr Γ M ps M1) (hs : ∀ vs H Q X, (∃ F, Wd F [] H ∧ Ps F vs ps ∧ RtE ⟨F, H, keys []⟩ [] Cx X) → sp vs H Q X)
    (k2 : RtE E M1 Cx X) : Nx E Γ M (tSeq (tAsg (tCall sp [] X tr) (gName i)) tz D1) := fun σ H ⟨F, a, b⟩ => h E F σ H a b _ fun vs F1 H1 e1 a1 p1 => by
  show sp (vs ++ []) H1 _ X
  rw [List.append_nil]
  have w : Wd F1 [] H1 := ⟨a1.wd.ex, List.nodup_nil, fun r hr => by cases hr⟩
  have fr : ∀ {F' H'}, Pt ⟨F1, H1, keys []⟩ F' [] H' → Pt E F' M1 H' := fun g => a1.frame g (fun z hz => by cases hz) rfl fun r hr => .inl ⟨fun z => (by cases z), hr⟩
  exact hs vs H1 _ X ⟨F1, w, p1, fun F' H' g => k2 F' H' (fr g)⟩
theorem cutN_end1 {l : List Nat} : Hq.cutN l (some (-1)) none = l.drop (l.length - 1) := by
  unfold Hq.cutN
  rw [HT.sIx_none]
  have : HT.sIx l.length 0 (some (-1)) = l.length - 1 := by
    simp [HT.sIx]
    omega
  rw [this, List.take_of_length_le (by rw [List.length_drop]; exact Nat.le_refl _)]
end
end Hq
namespace My
open Hq PySem
/-- what lies between the word and the end of the line -/
def midA (w : List Nat) : List Nat := (w.drop 9).take (w.length - 10)
theorem fa_mid {k : Int} {L : List (List Int)} : midA (fa k L) = nm k ++ [58, 32] ++ jn [32] (L.map flt) ∧ (fa k L).take 9 = tA ++ [32] ∧ (fa k L).drop ((fa k L).length - 1) = [10] ∧ 10 ≤ (fa k L).length := by
  have e : fa k L = (tA ++ [32]) ++ ((nm k ++ [58, 32] ++ jn [32] (L.map flt)) ++ [10]) := by unfold fa; simp only [List.append_assoc]
  have l9 : (tA ++ [32]).length = 9 := rfl
  rw [e]
  generalize nm k ++ [58, 32] ++ jn [32] (L.map flt) = m
  refine ⟨?_, ?_, ?_, ?_⟩
  · unfold midA
    rw [List.drop_left' l9, List.length_append (as := tA ++ [32]), l9, List.length_append, List.length_singleton, show 9 + (m.length + 1) - 10 = m.length by omega, List.take_left' rfl]
  · rw [List.take_left' l9]
  · rw [← List.append_assoc, List.length_append (bs := [10]), List.length_singleton, Nat.add_sub_cancel, List.drop_left' rfl]
  · rw [List.length_append (as := tA ++ [32]), l9, List.length_append, List.length_singleton]; omega
theorem fa_cut {w : List Nat} (h1 : w.take 9 = tA ++ [32]) (h2 : w.drop (w.length - 1) = [10]) : 10 ≤ w.length ∧ w = (tA ++ [32]) ++ midA w ++ [10] := by
  have l9 : (tA ++ [32]).length = 9 := rfl
  have n9 : 9 ≤ w.length := by
    have := congrArg List.length h1
    rw [List.length_take, l9] at this
    omega
  have n10 : 10 ≤ w.length := by
    rcases Nat.lt_or_ge w.length 10 with c | c
    · have e : w.length = 9 := by omega
      have e2 : w.take 9 = w := List.take_of_length_le (by omega)
      rw [e2] at h1
      subst h1
      exact absurd h2 (by decide)
    · exact c
  refine ⟨n10, ?_⟩
  have a := (List.take_append_drop 9 w).symm
  rw [h1] at a
  have b := (List.take_append_drop (w.length - 10) (w.drop 9)).symm
  have c : (w.drop 9).drop (w.length - 10) = [10] := by
    rw [List.drop_drop, show 9 + (w.length - 10) = w.length - 1 by omega, h2]
  rw [c] at b
  unfold midA
  conv => lhs; rw [a, b]
  simp only [List.append_assoc]
theorem fa_spl {k : Int} {L : List (List Int)} (A : AlphaOk k L) : spl 32 (midA (fa k L)) = (nm k ++ [58]) :: L.map flt := by
  have k1 := A.k1
  have k4 := A.k4
  have hne : L.map flt ≠ [] := by
    have := A.l1
    intro z
    rw [List.map_eq_nil_iff] at z
    rw [z] at this
    exact absurd this (by decide)
  rw [fa_mid.1]
  have e : nm k ++ [58, 32] ++ jn [32] (L.map flt) = jn [32] ((nm k ++ [58]) :: L.map flt) := by
    rw [jn_cons hne]; simp
  rw [e]
  refine spl_jn (by simp) fun p hp z => ?_
  rcases List.mem_cons.mp hp with rfl | hp
  · rcases List.mem_append.mp z with z | z
    · have := nm_dg (x := k) (by omega) 32 z
      omega
    · exact absurd z (by decide)
  · obtain ⟨l, hl, rfl⟩ := List.mem_map.mp hp
    rw [flt_small (places_small A l hl)] at z
    obtain ⟨x, hx, e⟩ := List.mem_map.mp z
    omega
theorem pL_back {p : List Nat} (h : ∀ x ∈ pL lnF p, 0 ≤ x) : flt (pL lnF p) = p := by
  unfold flt
  rw [jn_nil]
  unfold pL
  rw [List.map_map]
  induction p with
  | nil => rfl
  | cons c p ih =>
    have hc : 0 ≤ lnF [c] := h _ List.mem_cons_self
    obtain ⟨n, hn, e1, e2⟩ := lnF_inv hc
    rw [List.map_cons, List.flatten_cons, ih fun x hx => h x (List.mem_cons_of_mem _ hx)]
    show nm (lnF [c]) ++ p = c :: p
    rw [e1, show nm (n : Int) = nmS n by show nmS ((n : Int)).toNat = _; rw [Int.toNat_natCast], ← e2]
    rfl
theorem fa_rebuilt {w a : List Nat} {ps : List (List Nat)} (hw : w = (tA ++ [32]) ++ midA w ++ [10]) (hs : spl 32 (midA w) = (a ++ [58]) :: ps) (hk : 0 ≤ lnF a) (hne : ps ≠ []) (hl : ∀ p ∈ ps, ∀ x ∈ pL lnF p, 0 ≤ x) : w = fa (lnF a) (ps.map (pL lnF)) := by
  have hm : midA w = jn [32] ((a ++ [58]) :: ps) := by rw [← hs, jn_spl]
  obtain ⟨n, hn, e1, e2⟩ := lnF_inv hk
  have ea : nm (lnF a) = a := by rw [e1]; show nmS ((n : Int)).toNat = _; rw [Int.toNat_natCast, ← e2]
  have eL : (ps.map (pL lnF)).map flt = ps := by
    rw [List.map_map]
    conv => rhs; rw [← List.map_id ps]
    exact List.map_congr_left fun p hp => pL_back (hl p hp)
  unfold fa
  rw [ea, eL]
  rw [hw, hm, jn_cons hne]
  simp
end My
/-! HqUd: min and max of ints, of a tuple and of a list, as values. -/
namespace My
def mnL (l : List Int) : Int := l.tail.foldl min (l.headD 0)
def mxL (l : List Int) : Int := l.tail.foldl max (l.headD 0)
theorem fmin_le : ∀ (l : List Int) (n : Int), (l.foldl min n ≤ n ∧ ∀ x ∈ l, l.foldl min n ≤ x) ∧ (l.foldl min n = n ∨ l.foldl min n ∈ l)
  | [], n => ⟨⟨Int.le_refl _, fun x h => by cases h⟩, .inl rfl⟩
  | y :: l, n => by
    obtain ⟨⟨h1, h2⟩, h3⟩ := fmin_le l (min n y)
    rw [List.foldl_cons]
    refine ⟨⟨by omega, fun x hx => ?_⟩, ?_⟩
    · rcases List.mem_cons.mp hx with rfl | hx
      · omega
      · exact h2 x hx
    · rcases h3 with h3 | h3
      · rw [h3]
        rcases Int.le_total n y with c | c
        · exact .inl (by omega)
        · exact .inr (by rw [show min n y = y by omega]; exact List.mem_cons_self)
      · exact .inr (List.mem_cons_of_mem _ h3)
theorem fmax_le : ∀ (l : List Int) (n : Int), (n ≤ l.foldl max n ∧ ∀ x ∈ l, x ≤ l.foldl max n) ∧ (l.foldl max n = n ∨ l.foldl max n ∈ l)
  | [], n => ⟨⟨Int.le_refl _, fun x h => by cases h⟩, .inl rfl⟩
  | y :: l, n => by
    obtain ⟨⟨h1, h2⟩, h3⟩ := fmax_le l (max n y)
    rw [List.foldl_cons]
    refine ⟨⟨by omega, fun x hx => ?_⟩, ?_⟩
    · rcases List.mem_cons.mp hx with rfl | hx
      · omega
      · exact h2 x hx
    · rcases h3 with h3 | h3
      · rw [h3]
        rcases Int.le_total n y with c | c
        · exact .inr (by rw [show max n y = y by omega]; exact List.mem_cons_self)
        · exact .inl (by omega)
      · exact .inr (List.mem_cons_of_mem _ h3)
theorem mnL_spec {l : List Int} (h : l ≠ []) : mnL l ∈ l ∧ ∀ x ∈ l, mnL l ≤ x := by
  cases l with
  | nil => exact absurd rfl h
  | cons n l =>
    obtain ⟨⟨h1, h2⟩, h3⟩ := fmin_le l n
    refine ⟨?_, fun x hx => ?_⟩
    · rcases h3 with h3 | h3
      · show l.foldl min n ∈ _; rw [h3]; exact List.mem_cons_self
      · exact List.mem_cons_of_mem _ h3
    · rcases List.mem_cons.mp hx with rfl | hx
      · exact h1
      · exact h2 x hx
theorem mxL_spec {l : List Int} (h : l ≠ []) : mxL l ∈ l ∧ ∀ x ∈ l, x ≤ mxL l := by
  cases l with
  | nil => exact absurd rfl h
  | cons n l =>
    obtain ⟨⟨h1, h2⟩, h3⟩ := fmax_le l n
    refine ⟨?_, fun x hx => ?_⟩
    · rcases h3 with h3 | h3
      · show l.foldl max n ∈ _; rw [h3]; exact List.mem_cons_self
      · exact List.mem_cons_of_mem _ h3
    · rcases List.mem_cons.mp hx with rfl | hx
      · exact h1
      · exact h2 x hx
end My
namespace Hq
open PySem L2 PySem.W
open My (mnL mxL mnL_spec mxL_spec)
def rMinIT (K : PySem.W.Frag) : List V → Hp → VK → Prop := fun vs H Q => ∃ (a : Addr) (n : Int) (ns : List Int), vs = [.ref a] ∧ SqT K H a ((n :: ns).map V.int) ∧ Q (.int (ns.foldl min n)) H
def rMaxIT (K : PySem.W.Frag) : List V → Hp → VK → Prop := fun vs H Q => ∃ (a : Addr) (n : Int) (ns : List Int), vs = [.ref a] ∧ SqT K H a ((n :: ns).map V.int) ∧ Q (.int (ns.foldl max n)) H
theorem reads_ints {X : Cx} {pn : List (Addr × Obj)} {sg : St} {H : Hp} {st : Shared} (I : Inv X pn sg H st) : ∀ {l : List Int} {its : List Value}, Vals (l.map V.int) its → ∃ as, ReadsAll st.heap its (l.map PyData.int) as
  | [], _, .nil => ⟨_, .nil⟩
  | x :: l, _, .cons a t => by
    obtain ⟨as, r⟩ := Dp.reads I _ _ _ (Dp.int (K := X.K) (H := H) x) a
    obtain ⟨bs, rs⟩ := reads_ints I t
    exact ⟨_, .cons r rs⟩
theorem deep_ints : ∀ {l : List Int}, PyData.depthAll (l.map PyData.int) ≤ 1
  | [] => Nat.zero_le _
  | _ :: l => Nat.max_le.mpr ⟨by simp [PyData.depth], deep_ints (l := l)⟩
theorem alike_all {n : Int} {ns : List Int} : AlikeAll (.int n :: ns.map PyData.int) := ⟨fun x hx y hy => by
    have hx : x ∈ (n :: ns).map PyData.int := hx
    have hy : y ∈ (n :: ns).map PyData.int := hy
    obtain ⟨l, _, rfl⟩ := List.mem_map.mp hx
    obtain ⟨m, _, rfl⟩ := List.mem_map.mp hy
    rfl, fun x hx => by
    have hx : x ∈ (n :: ns).map PyData.int := hx
    obtain ⟨l, _, rfl⟩ := List.mem_map.mp hx
    exact fun z => by cases z⟩
theorem cr_minIT {X : Cx} (hc : X.calm = true) (hu : X.A.units + 64 < cLine) : CallR X (.builtin "min") (rMinIT X.K) := by
  intro pn st sg H vs us Q I r h
  obtain ⟨a, n, ns, rfl, hs, q⟩ := h
  obtain ⟨its, rv, hl, _⟩ := I.tuple hs
  rw [Vals.ref1 r]
  obtain ⟨as, hr⟩ := reads_ints I (l := n :: ns) rv
  refine min_tuple_data (x := .int n) (xs := ns.map PyData.int) (I.ok.hd hc) hl (by simpa using hr) alike_all (by have := deep_ints (l := n :: ns); rw [List.map_cons] at this; omega) fun i v h' tk bs hv hd hk => ?_
  rw [minD_ints] at hd
  cases hd
  exact ⟨.int _, H, I.kept hk, ⟨_, rfl⟩, q⟩
theorem cr_maxIT {X : Cx} (hc : X.calm = true) (hu : X.A.units + 64 < cLine) : CallR X (.builtin "max") (rMaxIT X.K) := by
  intro pn st sg H vs us Q I r h
  obtain ⟨a, n, ns, rfl, hs, q⟩ := h
  obtain ⟨its, rv, hl, _⟩ := I.tuple hs
  rw [Vals.ref1 r]
  obtain ⟨as, hr⟩ := reads_ints I (l := n :: ns) rv
  refine max_tuple_data (x := .int n) (xs := ns.map PyData.int) (I.ok.hd hc) hl (by simpa using hr) alike_all (by have := deep_ints (l := n :: ns); rw [List.map_cons] at this; omega) fun i v h' tk bs hv hd hk => ?_
  rw [maxD_ints] at hd
  cases hd
  exact ⟨.int _, H, I.kept hk, ⟨_, rfl⟩, q⟩
theorem c_minIT {K : PySem.W.Frag} {Y : Cx} (e : Y.K = K) (hc : Y.calm = true) (hu : Y.A.units + 64 < cLine) : CallR Y (.builtin "min") (rMinIT K) := e ▸ cr_minIT hc hu
theorem c_maxIT {K : PySem.W.Frag} {Y : Cx} (e : Y.K = K) (hc : Y.calm = true) (hu : Y.A.units + 64 < cLine) : CallR Y (.builtin "max") (rMaxIT K) := e ▸ cr_maxIT hc hu
section
variable {K : PySem.W.Frag} {M : Ms} {l : List Int}
theorem rc_minIT (h : l ≠ []) : RC (rMinIT K) [D K (dT l)] M (D K (.int (mnL l))) M := fun E F H vs a p Q k => by
  obtain ⟨v, rfl, p1⟩ := ps1 p
  obtain ⟨b, ws, rfl, s, p⟩ := le_dT (K := K) (l := l) F v p1
  cases ints_map p
  cases l with
  | nil => exact absurd rfl h
  | cons n ns => exact ⟨b, n, ns, rfl, Evl.ex_t a.ex s, k _ F H (Evl.Ex.refl _) a (.int _)⟩
theorem rc_maxIT (h : l ≠ []) : RC (rMaxIT K) [D K (dT l)] M (D K (.int (mxL l))) M := fun E F H vs a p Q k => by
  obtain ⟨v, rfl, p1⟩ := ps1 p
  obtain ⟨b, ws, rfl, s, p⟩ := le_dT (K := K) (l := l) F v p1
  cases ints_map p
  cases l with
  | nil => exact absurd rfl h
  | cons n ns => exact ⟨b, n, ns, rfl, Evl.ex_t a.ex s, k _ F H (Evl.Ex.refl _) a (.int _)⟩
theorem rc_minV (h : l ≠ []) : RC (rMin K) [D K (dL l)] M (D K (.int (mnL l))) M := fun E F H vs a p Q k => by
  obtain ⟨v, rfl, p1⟩ := ps1 p
  obtain ⟨b, ws, rfl, s, p⟩ := le_dL (K := K) (l := l) F v p1
  cases ints_map p
  refine ⟨b, l, rfl, Evl.ex_l a.ex s, List.length_pos_iff.mpr h, fun m h1 h2 => ?_⟩
  have e : m = mnL l := Int.le_antisymm (h2 _ (mnL_spec h).1) ((mnL_spec h).2 m h1)
  rw [e]
  exact k _ F H (Evl.Ex.refl _) a (.int _)
theorem rc_maxV (h : l ≠ []) : RC (rMax K) [D K (dL l)] M (D K (.int (mxL l))) M := fun E F H vs a p Q k => by
  obtain ⟨v, rfl, p1⟩ := ps1 p
  obtain ⟨b, ws, rfl, s, p⟩ := le_dL (K := K) (l := l) F v p1
  cases ints_map p
  refine ⟨b, l, rfl, Evl.ex_l a.ex s, List.length_pos_iff.mpr h, fun m h1 h2 => ?_⟩
  have e : m = mxL l := Int.le_antisymm ((mxL_spec h).2 m h1) (h2 _ (mxL_spec h).1)
  rw [e]
  exact k _ F H (Evl.Ex.refl _) a (.int _)
end
end Hq
/-! HqUe: sorted(set(xs)) as a value. -/
namespace My
theorem ex_srt : ∀ l : List Int, ∃ S : List Int, S.Pairwise (· < ·) ∧ ∀ k, k ∈ S ↔ k ∈ l
  | [] => ⟨[], .nil, fun k => Iff.rfl⟩
  | x :: l => by
    obtain ⟨S, h1, h2⟩ := ex_srt l
    refine ⟨(S.filter fun y => decide (y < x)) ++ x :: S.filter (fun y => decide (x < y)), ?_, fun k => ?_⟩
    · rw [List.pairwise_append]
      refine ⟨h1.filter _, List.pairwise_cons.mpr ⟨fun y hy => of_decide_eq_true (List.mem_filter.mp hy).2, h1.filter _⟩, fun a ha b hb => ?_⟩
      have ha := of_decide_eq_true (List.mem_filter.mp ha).2
      rcases List.mem_cons.mp hb with rfl | hb
      · exact ha
      · have hb := of_decide_eq_true (List.mem_filter.mp hb).2
        exact Int.lt_trans ha hb
    · rw [List.mem_append, List.mem_cons, List.mem_filter, List.mem_filter, List.mem_cons, decide_eq_true_iff, decide_eq_true_iff, h2]
      constructor
      · rintro (⟨a, _⟩ | a | ⟨a, _⟩)
        · exact .inr a
        · exact .inl a
        · exact .inr a
      · rintro (a | a)
        · exact .inr (.inl a)
        · rcases Int.lt_trichotomy k x with c | c | c
          · exact .inl ⟨a, c⟩
          · exact .inr (.inl c)
          · exact .inr (.inr ⟨a, c⟩)
noncomputable def srS (l : List Int) : List Int := (ex_srt l).choose
theorem srS_up (l : List Int) : (srS l).Pairwise (· < ·) := (ex_srt l).choose_spec.1
theorem srS_mem (l : List Int) : ∀ k, k ∈ srS l ↔ k ∈ l := (ex_srt l).choose_spec.2
theorem srS_of {l S : List Int} (h1 : S.Pairwise (· < ·)) (h2 : ∀ k, k ∈ S ↔ k ∈ l) : srS l = S := lt_unique (srS_up l) h1 fun k => (srS_mem l k).trans (h2 k).symm
theorem srS_iff {l : List Int} : l = srS l ↔ l.Pairwise (· < ·) := ⟨fun h => by rw [h]; exact srS_up l, fun h => (srS_of h fun k => Iff.rfl).symm⟩
end My
namespace Hq
open PySem L2
open My (srS srS_of)
section
variable {K : PySem.W.Frag} {M M1 : Ms} {Γ : Gm} {te : TE} {w : World} {ns D : List Int}
theorem le_srt : (PEx fun S : List Int => PAn (S.Pairwise (· < ·) ∧ ∀ k, k ∈ S ↔ k ∈ ns) (PLi K (S.map fun n => Hq.D K (.int n)))).le (Hq.D K (dL (srS ns))) := fun F v ⟨S, ⟨h1, h2⟩, h⟩ => by
  rw [srS_of h1 h2]
  exact dL_le (K := K) F v h
theorem ev_srtB (h : Ev te Γ M (Hq.D K (dT ns)) M1) (hn : ns.length < 1000) (hD : D.length ≤ 60) (sub : ∀ x ∈ ns, x ∈ D) : Ev (tCB (rSortedSet w) (tCons (tCB (rSetB K w) (tCons te tNil)) tNil)) Γ M (Hq.D K (dL (srS ns))) M1 := (ev_sortsB (h.weak le_dT) hn hD sub).weak le_srt
theorem ev_srtL (h : Ev te Γ M (Hq.D K (dL ns)) M1) (hn : ns.length < 63) : Ev (tCB (rSortedSet w) (tCons (tCB (rSetI K w) (tCons te tNil)) tNil)) Γ M (Hq.D K (dL (srS ns))) M1 := (ev_sorts (h.weak le_dL) hn).weak le_srt
end
end Hq
namespace My
open Hq PySem
def hdW (p : List Nat) : List Nat := (spl 32 p).headD []
theorem hdW_spl (p : List Nat) : spl 32 p = hdW p :: (spl 32 p).drop 1 := by
  unfold hdW
  cases e : spl 32 p with
  | nil => exact absurd e (spl_ne _ _)
  | cons a b => rfl
theorem line_back {p : List Nat} (hn : ∀ x ∈ rdL lnF p, 0 ≤ x) : p = lh (hdW p) (rdL lnF p) := by
  have e : (rdL lnF p).map nm = (spl 32 p).drop 1 := by
    unfold rdL at hn ⊢
    rw [List.map_map]
    conv => rhs; rw [← List.map_id ((spl 32 p).drop 1)]
    refine List.map_congr_left fun q hq => ?_
    obtain ⟨n, h1, h2, h3⟩ := lnF_inv (hn _ (List.mem_map_of_mem hq))
    show nm (lnF q) = q
    rw [h2]
    show nmS ((n : Int)).toNat = q
    rw [Int.toNat_natCast, ← h3]
  unfold lh
  rw [e, ← hdW_spl, jn_spl]
theorem fm_lines {A : Au} (O : AuS A) : spl 10 (fm A) = hsM A ++ [[]] ∧ (hsM A).map (rdL lnF) = [(A.L : Int), A.s] :: A.F :: A.R ∧ (hsM A).map hdW = tM :: tF :: A.R.map fun _ => tR := by
  obtain ⟨⟨h1, h2⟩, h3, h4⟩ := O.nums
  have hs := fm_spl O
  refine ⟨hs, ?_, ?_⟩
  · have := fm_rows (fun n hn => lnF_nm hn) O
    rw [hs, List.map_append] at this
    have e : [(A.L : Int), A.s] :: A.F :: (A.R ++ [[]]) = ([(A.L : Int), A.s] :: A.F :: A.R) ++ [[]] := rfl
    rw [e] at this
    exact (List.append_inj' this rfl).1
  · have key : ∀ {w : List Nat} {ns : List Int}, 32 ∉ w → (∀ x ∈ ns, 0 ≤ x ∧ x < 1000) → hdW (lh w ns) = w := fun hw h => by
      unfold hdW
      rw [lh_spl hw h]; rfl
    unfold hsM
    rw [List.map_cons, List.map_cons, key (by decide) (fun x hx => by
      rcases List.mem_cons.mp hx with rfl | hx
      · exact h1
      · rw [List.mem_singleton.mp hx]; exact h2), key (by decide) h3, List.map_map]
    congr 2
    exact List.map_congr_left fun r hr => key (by decide) (h4 r hr)
theorem fm_rebuilt {w l0 l1 : List Nat} {ls : List (List Nat)} {n s : Int} (hw : spl 10 w = (l0 :: l1 :: ls) ++ [[]]) (h0 : hdW l0 = tM) (h1 : hdW l1 = tF) (h2 : ∀ p ∈ ls, hdW p = tR) (hn : ∀ p ∈ l0 :: l1 :: ls, ∀ x ∈ rdL lnF p, 0 ≤ x) (e0 : rdL lnF l0 = [n, s]) : w = fm ⟨n.toNat, s, rdL lnF l1, ls.map (rdL lnF)⟩ := by
  have hne : 0 ≤ n := hn l0 List.mem_cons_self n (by rw [e0]; exact List.mem_cons_self)
  rw [fm_jn]
  have : hsM ⟨n.toNat, s, rdL lnF l1, ls.map (rdL lnF)⟩ = l0 :: l1 :: ls := by
    unfold hsM
    show lh tM [((n.toNat : Nat) : Int), s] :: lh tF (rdL lnF l1) :: (ls.map (rdL lnF)).map (lh tR) = _
    rw [Int.toNat_of_nonneg hne, ← e0, ← h0, ← line_back (hn l0 List.mem_cons_self), ← h1, ← line_back (hn l1 (by simp)), List.map_map]
    congr 2
    conv => rhs; rw [← List.map_id ls]
    refine List.map_congr_left fun p hp => ?_
    show lh tR (rdL lnF p) = p
    rw [← h2 p hp]
    exact (line_back (hn p (by simp [hp]))).symm
  rw [this, ← hw, jn_spl]
end My
namespace My
theorem jn_ge : ∀ (ps : List (List Nat)) (w : List Nat), (∀ p ∈ ps, 1 ≤ p.length) → w.length + 2 * ps.length ≤ (jn [32] (w :: ps)).length
  | [], w, _ => by show w.length + 0 ≤ w.length; omega
  | p :: r, w, h => by
    have ih := jn_ge r p fun q hq => h q (List.mem_cons_of_mem _ hq)
    have h1 := h p List.mem_cons_self
    show _ ≤ (w ++ [32] ++ jn [32] (p :: r)).length
    rw [List.length_append, List.length_append, List.length_singleton, List.length_cons]
    omega
theorem rd_few {p : List Nat} (hn : ∀ x ∈ rdL lnF p, 0 ≤ x) : 2 * (rdL lnF p).length ≤ p.length := by
  have e := line_back hn
  have h := jn_ge ((rdL lnF p).map nm) (hdW p) fun q hq => by
    obtain ⟨x, _, rfl⟩ := List.mem_map.mp hq
    exact nmS_len.1
  rw [List.length_map] at h
  have : (lh (hdW p) (rdL lnF p)).length = p.length := by rw [← e]
  unfold lh at this
  omega
end My
namespace Hq
open PySem L2
theorem eqvS {x y : List Nat} : PyData.eqv (dS x) (dS y) = decide (x = y) := by
    show ((⟨x.toArray⟩ : Str) == ⟨y.toArray⟩) = decide (x = y)
    rw [Bool.eq_iff_iff, beq_iff_eq, decide_eq_true_iff]
    exact ⟨fun h => S_inj h, fun h => by rw [h]⟩
theorem eqvTs : ∀ {ls ms : List (List Nat)}, PyData.eqvAll (ls.map fun l => dS l) (ms.map fun l => dS l) = decide (ls = ms)
  | [], [] => by simp [PyData.eqvAll]
  | [], _ :: _ => by simp [PyData.eqvAll]
  | _ :: _, [] => by simp [PyData.eqvAll]
  | l :: ls, m :: ms => by
    have ih := eqvTs (ls := ls) (ms := ms)
    show (PyData.eqv (dS l) (dS m) && PyData.eqvAll _ _) = _
    rw [eqvS, ih, Bool.eq_iff_iff]
    simp
theorem layTs : ∀ {ls : List (List Nat)}, (∀ l ∈ ls, ∀ c ∈ l, c < 1114112) → PyData.canLayAll0 (ls.map fun l => dS l) = true
  | [], _ => rfl
  | l :: ls, h => by
    show (PyData.canLay0 (dS l) && PyData.canLayAll0 _) = true
    rw [layTs fun m hm => h m (List.mem_cons_of_mem _ hm), Bool.and_true]
    show (l.toArray).all (fun c => decide (c < 0x110000)) = true
    rw [Array.all_eq_true']
    intro c hc
    exact decide_eq_true (h l List.mem_cons_self c (by simpa using hc))
theorem deepTs : ∀ {ls : List (List Nat)}, PyData.depthAll (ls.map fun l => dS l) ≤ 1
  | [] => Nat.zero_le _
  | l :: ls => Nat.max_le.mpr ⟨by simp [PyData.depth], deepTs (ls := ls)⟩
theorem shTs {ls : List (List Nat)} (h : ∀ l ∈ ls, ∀ c ∈ l, c < 1114112) : SeqAt.shaped (.list (ls.map fun l => dS l)) = true := by
  unfold SeqAt.shaped
  rw [Bool.and_eq_true]
  refine ⟨layTs h, decide_eq_true ?_⟩
  have := deepTs (ls := ls)
  simp only [PyData.depth]
  omega
theorem rv_neTs {K : PySem.W.Frag} {M : Ms} {ls ms : List (List Nat)} (h1 : ∀ l ∈ ls, ∀ c ∈ l, c < 1114112) (h2 : ∀ l ∈ ms, ∀ c ∈ l, c < 1114112) : RV (rNeD K) (D K (.list (ls.map fun l => dS l))) (D K (.list (ms.map fun l => dS l))) M (D K (.bool (!decide (ls = ms)))) M := by
  have := rv_neD (K := K) (M := M) (shTs h1) (shTs h2)
  rw [show PyData.eqv (.list (ls.map fun l => dS l)) (.list (ms.map fun l => dS l)) = decide (ls = ms) from eqvTs] at this
  exact this
end Hq
namespace My
theorem spl_sub (c : Nat) : ∀ l : List Nat, ∀ p ∈ spl c l, ∀ x ∈ p, x ∈ l
  | [], p, hp, x, hx => by
    have : p = [] := by simpa [spl] using hp
    subst this
    exact hx
  | y :: l, p, hp, x, hx => by
    have ih := spl_sub c l
    by_cases e : y = c
    · subst e
      rw [spl_hit] at hp
      rcases List.mem_cons.mp hp with rfl | hp
      · cases hx
      · exact List.mem_cons_of_mem _ (ih p hp x hx)
    · cases e2 : spl c l with
      | nil => exact absurd e2 (spl_ne _ _)
      | cons q r =>
        rw [spl_miss e e2] at hp
        rw [e2] at ih
        rcases List.mem_cons.mp hp with rfl | hp
        · rcases List.mem_cons.mp hx with rfl | hx
          · exact List.mem_cons_self
          · exact List.mem_cons_of_mem _ (ih q List.mem_cons_self x hx)
        · exact List.mem_cons_of_mem _ (ih p (List.mem_cons_of_mem _ hp) x hx)
theorem jn_sub {s : List Nat} : ∀ ps : List (List Nat), ∀ x ∈ jn s ps, x ∈ s ∨ ∃ p ∈ ps, x ∈ p
  | [], x, hx => by cases hx
  | [p], x, hx => .inr ⟨p, List.mem_singleton.mpr rfl, hx⟩
  | p :: q :: r, x, hx => by
    have hx : x ∈ p ++ s ++ jn s (q :: r) := hx
    rcases List.mem_append.mp hx with hx | hx
    · rcases List.mem_append.mp hx with hx | hx
      · exact .inr ⟨p, List.mem_cons_self, hx⟩
      · exact .inl hx
    · rcases jn_sub (q :: r) x hx with h | ⟨p', h1, h2⟩
      · exact .inl h
      · exact .inr ⟨p', List.mem_cons_of_mem _ h1, h2⟩
theorem hdW_sub {p : List Nat} : ∀ x ∈ hdW p, x ∈ p := fun x hx => spl_sub 32 p (hdW p) (by rw [hdW_spl p]; exact List.mem_cons_self) x hx
end My
namespace My
open Hq PySem
theorem spl_cat (c : Nat) : ∀ a b : List Nat, ∃ xs p q ys, spl c a = xs ++ [p] ∧ spl c b = q :: ys ∧ spl c (a ++ b) = xs ++ (p ++ q) :: ys
  | [], b => by
    cases e : spl c b with
    | nil => exact absurd e (spl_ne _ _)
    | cons q ys => exact ⟨[], [], q, ys, by simp [spl], rfl, by simpa using e⟩
  | x :: a, b => by
    obtain ⟨xs, p, q, ys, h1, h2, h3⟩ := spl_cat c a b
    by_cases e : x = c
    · subst e
      refine ⟨[] :: xs, p, q, ys, ?_, h2, ?_⟩
      · rw [spl_hit, h1]; rfl
      · show spl x (x :: (a ++ b)) = _
        rw [spl_hit, h3]; rfl
    · cases xs with
      | nil =>
        refine ⟨[], x :: p, q, ys, ?_, h2, ?_⟩
        · exact spl_miss e h1
        · exact spl_miss e h3
      | cons h xs =>
        refine ⟨(x :: h) :: xs, p, q, ys, ?_, h2, ?_⟩
        · exact spl_miss e h1
        · exact spl_miss e h3
abbrev LB (m : Nat) (w : List Nat) : Prop := ∀ p ∈ spl 10 w, p.length ≤ m
theorem LB.parts {m : Nat} {a b : List Nat} (h : LB m (a ++ b)) : LB m a ∧ LB m b := by
  obtain ⟨xs, p, q, ys, h1, h2, h3⟩ := spl_cat 10 a b
  unfold LB at h ⊢
  rw [h3] at h
  have pq := h (p ++ q) (by simp)
  rw [List.length_append] at pq
  rw [h1, h2]
  refine ⟨fun r hr => ?_, fun r hr => ?_⟩
  · rcases List.mem_append.mp hr with hr | hr
    · exact h r (List.mem_append_left _ hr)
    · rw [List.mem_singleton.mp hr]; omega
  · rcases List.mem_cons.mp hr with rfl | hr
    · omega
    · exact h r (by simp [hr])
theorem LB.cat {m n : Nat} {a b : List Nat} (ha : LB m a) (hb : LB n b) : LB (m + n) (a ++ b) := by
  obtain ⟨xs, p, q, ys, h1, h2, h3⟩ := spl_cat 10 a b
  unfold LB at ha hb ⊢
  rw [h1] at ha
  rw [h2] at hb
  rw [h3]
  intro r hr
  rcases List.mem_append.mp hr with hr | hr
  · have := ha r (List.mem_append_left _ hr); omega
  rcases List.mem_cons.mp hr with rfl | hr
  · have := ha p (by simp)
    have := hb q (by simp)
    rw [List.length_append]; omega
  · have := hb r (List.mem_cons_of_mem _ hr); omega
theorem LB.one (s : Nat) : LB 1 [s] := fun p hp => (spl_len 10 [s]).2 p hp
theorem LB.up {m n : Nat} {a : List Nat} (h : LB m a) (l : m ≤ n) : LB n a := fun p hp => Nat.le_trans (h p hp) l
theorem LB.take {m : Nat} {w : List Nat} (h : LB m w) (i : Nat) : LB m (w.take i) := by
  rw [← List.take_append_drop i w] at h
  exact h.parts.1
theorem LB.drop {m : Nat} {w : List Nat} (h : LB m w) (i : Nat) : LB m (w.drop i) := by
  rw [← List.take_append_drop i w] at h
  exact h.parts.2
theorem spl_sum (c : Nat) : ∀ l : List Nat, ((spl c l).map (·.length)).sum + (spl c l).length = l.length + 1
  | [] => by simp [spl]
  | x :: l => by
    have ih := spl_sum c l
    by_cases e : x = c
    · subst e
      rw [spl_hit, List.map_cons, List.sum_cons, List.length_cons, List.length_cons, List.length_nil]; omega
    · cases e2 : spl c l with
      | nil => exact absurd e2 (spl_ne _ _)
      | cons q r =>
        rw [spl_miss e e2]
        rw [e2] at ih
        simp only [List.map_cons, List.sum_cons, List.length_cons] at ih ⊢
        omega
/-- a text of at most N signs, at most m in a line -/
def TB (N m : Nat) (w : List Nat) : Prop := w.length ≤ N ∧ LB m w ∧ ∀ c ∈ w, c < 200
theorem TB.up {N m N' m' : Nat} {w : List Nat} (h : TB N m w) (h1 : N ≤ N') (h2 : m ≤ m') : TB N' m' w := ⟨Nat.le_trans h.1 h1, h.2.1.up h2, h.2.2⟩
theorem tb0 {N m i : Nat} {w : List Nat} (h : TB N m w) : TB (N + m + 2) (2 * m + 1) (w.take i ++ w.drop (i + 1)) := by
  obtain ⟨h1, h2, h3⟩ := h
  refine ⟨?_, ((h2.take i).cat (h2.drop (i + 1))).up (by omega), fun c hc => ?_⟩
  · rw [List.length_append, List.length_take, List.length_drop]; omega
  · rcases List.mem_append.mp hc with hc | hc
    · exact h3 c (List.mem_of_mem_take hc)
    · exact h3 c (List.mem_of_mem_drop hc)
theorem tb1 {N m i j s : Nat} {w : List Nat} (h : TB N m w) (hs : s < 200) (hj : i ≤ j) : TB (N + m + 2) (2 * m + 1) (w.take i ++ [s] ++ w.drop j) := by
  obtain ⟨h1, h2, h3⟩ := h
  refine ⟨?_, (((h2.take i).cat (LB.one s)).cat (h2.drop j)).up (by omega), fun c hc => ?_⟩
  · rw [List.length_append, List.length_append, List.length_take, List.length_drop, List.length_singleton]; omega
  · rcases List.mem_append.mp hc with hc | hc
    · rcases List.mem_append.mp hc with hc | hc
      · exact h3 c (List.mem_of_mem_take hc)
      · rw [List.mem_singleton.mp hc]; exact hs
    · exact h3 c (List.mem_of_mem_drop hc)
theorem tbJ {N m : Nat} {w : List Nat} {ps : List (List Nat)} (h : TB N m w) (hp : ∀ p ∈ ps, p ∈ spl 10 w) (hn : (ps.map (·.length)).sum + ps.length ≤ N + m + 2) : TB (N + m + 2) (2 * m + 1) (jn [10] ps) := by
  obtain ⟨h1, h2, h3⟩ := h
  refine ⟨?_, ?_, fun c hc => ?_⟩
  · have := jn_len (s := [10]) ps
    rw [List.length_singleton, Nat.mul_one] at this
    omega
  · by_cases e : ps = []
    · subst e
      intro p hp
      have : p = [] := by simpa [jn, spl] using hp
      rw [this]; exact Nat.zero_le _
    · unfold LB
      rw [spl_jn e fun p hq => spl_fr w p (hp p hq)]
      intro p hq
      have := h2 p (hp p hq)
      omega
  · rcases jn_sub ps c hc with z | ⟨p, hq, z⟩
    · rw [List.mem_singleton.mp z]; decide
    · exact h3 c (spl_sub 10 w p (hp p hq) c z)
theorem sum_td (f : List Nat → Nat) (k : Nat) (l : List (List Nat)) : ((l.take k).map f).sum + ((l.drop k).map f).sum = (l.map f).sum := by
  conv => rhs; rw [← List.take_append_drop k l]
  rw [List.map_append, List.sum_append]
theorem tb3 {N m k : Nat} {w : List Nat} (h : TB N m w) : TB (N + m + 2) (2 * m + 1) (jn [10] ((spl 10 w).take k ++ (spl 10 w).drop (k + 1))) := by
  have h1 := h.1
  have s := spl_sum 10 w
  refine tbJ h (fun p hp => ?_) ?_
  · rcases List.mem_append.mp hp with hp | hp
    · exact List.mem_of_mem_take hp
    · exact List.mem_of_mem_drop hp
  · have a := sum_td (·.length) k (spl 10 w)
    have b := sum_td (·.length) 1 ((spl 10 w).drop k)
    rw [List.drop_drop] at b
    rw [List.map_append, List.sum_append, List.length_append, List.length_take, List.length_drop]
    omega
theorem tb4 {N m k : Nat} {w : List Nat} (h : TB N m w) : TB (N + m + 2) (2 * m + 1) (jn [10] ((spl 10 w).take k ++ ((spl 10 w).drop k).take 1 ++ (spl 10 w).drop k)) := by
  have h1 := h.1
  have s := spl_sum 10 w
  refine tbJ h (fun p hp => ?_) ?_
  · rcases List.mem_append.mp hp with hp | hp
    · rcases List.mem_append.mp hp with hp | hp
      · exact List.mem_of_mem_take hp
      · exact List.mem_of_mem_drop (List.mem_of_mem_take hp)
    · exact List.mem_of_mem_drop hp
  · have a := sum_td (·.length) k (spl 10 w)
    have b : (((((spl 10 w).drop k).take 1).map (·.length)).sum) ≤ m ∧ (((spl 10 w).drop k).take 1).length ≤ 1 := by
      cases e : (spl 10 w).drop k with
      | nil => simp
      | cons x r =>
        have := h.2.1 x (List.mem_of_mem_drop (by rw [e]; exact List.mem_cons_self))
        simpa using this
    rw [List.map_append, List.map_append, List.sum_append, List.sum_append, List.length_append, List.length_append, List.length_take, List.length_drop]
    omega
theorem js3 (S : List (List Nat)) (k : Nat) : ((S.take k ++ S.drop (k + 1)).map (·.length)).sum + (S.take k ++ S.drop (k + 1)).length * 1 ≤ (S.map (·.length)).sum + S.length := by
  have a := sum_td (·.length) k S
  have b := sum_td (·.length) 1 (S.drop k)
  rw [List.drop_drop] at b
  rw [List.map_append, List.sum_append, List.length_append, List.length_take, List.length_drop]
  omega
theorem js4 (S : List (List Nat)) (k : Nat) : ((S.take k ++ (S.drop k).take 1 ++ S.drop k).map (·.length)).sum + (S.take k ++ (S.drop k).take 1 ++ S.drop k).length * 1 ≤ 3 * ((S.map (·.length)).sum + S.length) := by
  have a := sum_td (·.length) k S
  have b := sum_td (·.length) 1 (S.drop k)
  rw [List.map_append, List.map_append, List.sum_append, List.sum_append, List.length_append, List.length_append, List.length_take, List.length_take, List.length_drop]
  omega
end My
namespace Hq
open PySem L2
theorem rv_ixSX {K : PySem.W.Frag} {M : Ms} {l : List Nat} (hl : l.length ≤ 1000) : RV (rIx K) (D K (dS l)) (PIn K 0 (l.length : Int)) M (PEx fun c : Nat => PAn (c ∈ l) (D K (dS [c]))) M := RV.ex2 fun z => RV.an2 fun hz => by
  have h : z.toNat < l.length := by omega
  exact (rv_ixS (K := K) (c := l[z.toNat]) hz.1 (by omega) (List.getElem?_eq_getElem h)).weak (MP.le_trans (PAn.in (List.getElem_mem h)) (PEx.in (R := fun c : Nat => PAn (c ∈ l) (D K (dS [c]))) _))
end Hq
namespace My
open Hq PySem
theorem lh_len1 (w : List Nat) {ns : List Int} (h : ∀ x ∈ ns, 0 ≤ x ∧ x < 10) : (lh w ns).length ≤ w.length + 2 * ns.length + 1 := by
  have s : ((ns.map nm).map (·.length)).sum = ns.length := by
    induction ns with
    | nil => rfl
    | cons x ns ih =>
      rw [List.map_cons, List.map_cons, List.sum_cons, ih fun y hy => h y (List.mem_cons_of_mem _ hy), nm_one (h x List.mem_cons_self)]
      simp only [List.length_cons, List.length_nil]; omega
  unfold lh
  have h1 := jn_len (s := [32]) (w :: ns.map nm)
  rw [List.map_cons, List.sum_cons, List.length_cons, List.length_map, List.length_singleton, Nat.mul_one] at h1
  omega
theorem lh_small {w : List Nat} {ns : List Int} (hw : ∀ c ∈ w, c < 200) (h : ∀ x ∈ ns, 0 ≤ x ∧ x < 1000) : ∀ c ∈ lh w ns, c < 200 := fun c hc => by
  rcases jn_sub _ c hc with z | ⟨p, hp, z⟩
  · rw [List.mem_singleton.mp z]; decide
  · rcases List.mem_cons.mp hp with rfl | hp
    · exact hw c z
    · obtain ⟨x, hx, rfl⟩ := List.mem_map.mp hp
      have := nm_dg (h x hx) c z
      omega
theorem fm_tb {A : Au} (O : AuS A) (hL : A.L ≤ 3) (hR : A.R.length ≤ 5) (hF : A.F.length ≤ 5) : TB 90 17 (fm A) := by
  obtain ⟨⟨n1, n2⟩, n3, n4⟩ := O.nums
  have s1 := O.ok.s.1
  have s2 := O.ok.s.2
  have sm : ∀ x : Int, A.In x → 0 ≤ x ∧ x < 10 := fun x hx => ⟨hx.1, by have := hx.2; omega⟩
  have a1 : (lh tM [(A.L : Int), A.s]).length ≤ 14 := lh_len1 tM (ns := [(A.L : Int), A.s]) (fun x hx => by
    rcases List.mem_cons.mp hx with rfl | hx
    · omega
    · rw [List.mem_singleton.mp hx]; exact sm _ O.ok.s)
  have a2 : (lh tF A.F).length ≤ 17 := by
    have := lh_len1 tF (ns := A.F) fun x hx => sm x (O.ok.F x hx)
    have e : tF.length = 6 := rfl
    omega
  have a3 : ∀ r ∈ A.R, (lh tR r).length ≤ 10 := fun r hr => by
    have := lh_len1 tR (ns := r) fun x hx => sm x ((O.ok.R r hr).2 x hx)
    have e : tR.length = 3 := rfl
    have := (O.ok.R r hr).1
    omega
  have lines : ∀ p ∈ hsM A, p.length ≤ 17 := fun p hp => by
    unfold hsM at hp
    rcases List.mem_cons.mp hp with rfl | hp
    · omega
    rcases List.mem_cons.mp hp with rfl | hp
    · exact a2
    · obtain ⟨r, hr, rfl⟩ := List.mem_map.mp hp
      have := a3 r hr; omega
  refine ⟨?_, ?_, ?_⟩
  · rw [fm_jn]
    have h := jn_len (s := [10]) (hsM A ++ [[]])
    have e : ((A.R.map (lh tR)).map (·.length)).sum ≤ 10 * A.R.length := by
      have key : ∀ R : List (List Int), (∀ r ∈ R, (lh tR r).length ≤ 10) → ((R.map (lh tR)).map (·.length)).sum ≤ 10 * R.length := by
        intro R
        induction R with
        | nil => intro _; exact Nat.le_refl _
        | cons r R ih =>
          intro h
          have h1 := h r List.mem_cons_self
          have h2 := ih fun x hx => h x (List.mem_cons_of_mem _ hx)
          rw [List.map_cons, List.map_cons, List.sum_cons, List.length_cons]; omega
      exact key A.R a3
    have e2 : ((hsM A ++ [([] : List Nat)]).map (fun x : List Nat => x.length)).sum ≤ 14 + 17 + 10 * A.R.length := by
      rw [List.map_append, List.sum_append]
      unfold hsM
      rw [List.map_cons, List.map_cons, List.sum_cons, List.sum_cons]
      have : ([([] : List Nat)].map (fun x : List Nat => x.length)).sum = 0 := rfl
      omega
    have e3 : (hsM A ++ [([] : List Nat)]).length = A.R.length + 3 := by
      unfold hsM
      simp
    rw [e3, List.length_singleton] at h
    omega
  · unfold LB
    rw [fm_spl O]
    intro p hp
    rcases List.mem_append.mp hp with hp | hp
    · exact lines p hp
    · rw [List.mem_singleton.mp hp]; exact Nat.zero_le _
  · intro c hc
    rw [fm_jn] at hc
    rcases jn_sub _ c hc with z | ⟨p, hp, z⟩
    · rw [List.mem_singleton.mp z]; decide
    · rcases List.mem_append.mp hp with hp | hp
      · unfold hsM at hp
        rcases List.mem_cons.mp hp with rfl | hp
        · exact lh_small (by decide) (fun x hx => by
            rcases List.mem_cons.mp hx with rfl | hx
            · exact n1
            · rw [List.mem_singleton.mp hx]; exact n2) c z
        rcases List.mem_cons.mp hp with rfl | hp
        · exact lh_small (by decide) n3 c z
        · obtain ⟨r, hr, rfl⟩ := List.mem_map.mp hp
          exact lh_small (by decide) (n4 r hr) c z
      · rw [List.mem_singleton.mp hp] at z; cases z
theorem fa_tb {k : Int} {L : List (List Int)} (A : AlphaOk k L) (h4 : ∀ l ∈ L, l.length ≤ 4) : TB 45 45 (fa k L) := by
  have k1 := A.k1
  have k4 := A.k4
  have l6 := A.l6
  have ps := places_small A
  have f4 : ∀ l ∈ L, (flt l).length ≤ 4 := fun l hl => by rw [flt_small (ps l hl), List.length_map]; exact h4 l hl
  have sm : ∀ L : List (List Int), (∀ l ∈ L, (flt l).length ≤ 4) → ((L.map flt).map (·.length)).sum ≤ 4 * L.length := by
    intro L
    induction L with
    | nil => intro _; exact Nat.le_refl _
    | cons l L ih =>
      intro h
      have h1 := h l List.mem_cons_self
      have h2 := ih fun x hx => h x (List.mem_cons_of_mem _ hx)
      rw [List.map_cons, List.map_cons, List.sum_cons, List.length_cons]; omega
  have sm := sm L f4
  have jl := jn_len (s := [32]) (L.map flt)
  rw [List.length_map, List.length_singleton] at jl
  have n1 : (nm k).length = 1 := by rw [nm_one (by omega)]; rfl
  have len : (fa k L).length ≤ 45 := by
    unfold fa
    simp only [List.length_append, List.length_cons, List.length_nil]
    omega
  refine ⟨len, fun p hp => Nat.le_trans ((spl_len 10 _).2 p hp) len, fun c hc => ?_⟩
  rw [fa_words A] at hc
  rcases List.mem_append.mp hc with hc | hc
  · rcases jn_sub _ c hc with z | ⟨p, hp, z⟩
    · rw [List.mem_singleton.mp z]; decide
    · rcases List.mem_cons.mp hp with rfl | hp
      · have : ∀ c ∈ tA, c < 200 := by decide
        exact this c z
      rcases List.mem_cons.mp hp with rfl | hp
      · rcases List.mem_append.mp z with z | z
        · have := nm_dg (x := k) (by omega) c z; omega
        · rw [List.mem_singleton.mp z]; decide
      · obtain ⟨l, hl, rfl⟩ := List.mem_map.mp hp
        rw [flt_small (ps l hl)] at z
        obtain ⟨x, hx, rfl⟩ := List.mem_map.mp z
        have := ps l hl x hx
        omega
  · rw [List.mem_singleton.mp hc]; decide
end My
namespace Hq
open PySem L2
section
variable {K : PySem.W.Frag} {E : Ent} {F H : Hp} {M M1 M2 : Ms} {Γ : Gm} {P : MP} {O O2 : MO} {t1 t2 : TE} {C : Addr} {X : XK} {sp : Sp}
theorem make1N (h1 : Ev t1 Γ M P M1) (h2 : EvN t2 Γ M1 O2 M2) (hs : ∀ x q vs H Q, Prom [Own x, P, Own q] [(x, MIns C 0 []), (q, O2)] (D K .none) [(x, O), (q, O2)] vs H Q → sp vs H Q X) : EvN (tMake C sp [] X (tCons t1 (tCons t2 tNil))) Γ M O M2 := fun E F σ H a b Q k =>
  h1 E F σ H a b _ fun v1 F1 H1 e1 g1 p1 => h2 E F1 σ H1 g1 (b.mono e1) _ fun q F2 H2 f e2 g2 => fun x dx hx hdx hne => by
    obtain ⟨g3, w3, nq⟩ := make_pre (C := C) (j := 0) g2 hx hdx hne.symm rfl
    exact hs x q (.ref x :: [v1, .ref q]) _ _ ⟨F2, w3, .cons rfl (.cons (P.mono e2 p1) (.cons rfl .nil)), fun v F' H' g hv => ⟨dp_non hv, k x F' H' (g2.fresh hx) ((e1.trans e2).trans g.gr.ex) ((make_post (j := 0) g3 nq rfl g).drop (List.Sublist.cons_cons _ (List.sublist_cons_self _ _)))⟩⟩
end
end Hq
namespace My
open Hq PySem
theorem rows_len : ∀ (R : List (List Int)), (∀ r ∈ R, r.length ≤ 3) → (jn [] (R.map fun r => lh tR r ++ [10])).length ≤ 20 * R.length
  | [], _ => Nat.le_refl _
  | r :: R, h => by
    have ih := rows_len R fun x hx => h x (List.mem_cons_of_mem _ hx)
    have h1 := h r List.mem_cons_self
    have h2 := lh_len tR r
    have h3 : tR.length = 3 := rfl
    rw [jn_nil] at ih ⊢
    rw [List.map_cons, List.flatten_cons, List.length_append, List.length_append]
    simp only [List.length_cons, List.length_nil]
    omega
theorem rows_step {R : List (List Int)} {i : Nat} {r : List Int} (h : R[i]? = some r) (b : List Nat) : b ++ jn [] ((R.take i).map fun r => lh tR r ++ [10]) ++ lh tR r ++ [10] = b ++ jn [] ((R.take (i + 1)).map fun r => lh tR r ++ [10]) := by
  rw [List.take_add_one, h, jn_nil, jn_nil, List.map_append, List.flatten_append]
  simp
theorem dT_sh (l : List Int) : PyData.canLay0 (dT l) = true ∧ PyData.eqv (dT l) (dT l) = true ∧ PyData.depth (dT l) ≤ 2 := ⟨enc_dT.lay l, by rw [enc_dT.eq]; simp, enc_dT.deep l⟩
theorem dTT_sh (L : List (List Int)) : PyData.canLay0 (dTT L) = true ∧ PyData.eqv (dTT L) (dTT L) = true ∧ PyData.depth (dTT L) ≤ 3 := ⟨enc_dTT.lay L, by rw [enc_dTT.eq]; simp, enc_dTT.deep L⟩
theorem int_eq (i : Int) : PyData.eqv (.int i) (.int i) = true := by rw [enc_int.eq]; simp
theorem oA_sh (w : List Nat) : SeqAt.shaped (oA w) = true ∧ PyData.eqv (oA w) (oA w) = true := by
  by_cases c : ∃ k L, AlphaOk k L ∧ w = fa k L
  · obtain ⟨k, L, A, rfl⟩ := c
    rw [oA_yes A]
    obtain ⟨a1, a2, a3⟩ := dTT_sh L
    refine ⟨?_, ?_⟩
    · unfold SeqAt.shaped
      rw [Bool.and_eq_true]
      refine ⟨?_, decide_eq_true ?_⟩
      · show (PyData.canLay0 (.int k) && (PyData.canLay0 (dTT L) && true)) = true
        rw [a1]; rfl
      · have a3 : PyData.depth (.tuple (L.map dT)) ≤ 3 := a3
        simp only [PyData.depth, PyData.depthAll] at a3 ⊢
        omega
    · show (PyData.eqv (.int k) (.int k) && (PyData.eqv (dTT L) (dTT L) && true)) = true
      rw [int_eq, a2]; rfl
  · rw [oA_no c]
    exact ⟨by decide, rfl⟩
theorem oM_sh (w : List Nat) : SeqAt.shaped (oM w) = true ∧ PyData.eqv (oM w) (oM w) = true := by
  by_cases c : ∃ A, AuS A ∧ w = fm A
  · obtain ⟨A, O, rfl⟩ := c
    rw [oM_yes O]
    obtain ⟨a1, a2, a3⟩ := dTT_sh A.R
    obtain ⟨b1, b2, b3⟩ := dT_sh A.F
    refine ⟨?_, ?_⟩
    · unfold SeqAt.shaped
      rw [Bool.and_eq_true]
      refine ⟨?_, decide_eq_true ?_⟩
      · show (PyData.canLay0 (.int (A.L : Int)) && (PyData.canLay0 (.int A.s) && (PyData.canLay0 (dT A.F) && (PyData.canLay0 (dTT A.R) && true)))) = true
        rw [a1, b1]; rfl
      · have a3 : PyData.depth (.tuple (A.R.map dT)) ≤ 3 := a3
        have b3 : PyData.depth (.tuple (A.F.map PyData.int)) ≤ 2 := b3
        show PyData.depth (.tuple [.int (A.L : Int), .int A.s, .tuple (A.F.map PyData.int), .tuple (A.R.map dT)]) ≤ 64
        simp only [PyData.depth, PyData.depthAll] at a3 b3 ⊢
        omega
    · show (PyData.eqv (.int (A.L : Int)) (.int (A.L : Int)) && (PyData.eqv (.int A.s) (.int A.s) && (PyData.eqv (dT A.F) (dT A.F) && (PyData.eqv (dTT A.R) (dTT A.R) && true)))) = true
      rw [int_eq, int_eq, a2, b2]; rfl
  · rw [oM_no c]
    exact ⟨by decide, rfl⟩
def nA : Nat → Nat
  | 0 => 45
  | 1 => 92
  | _ => 185
def mA : Nat → Nat
  | 0 => 45
  | 1 => 91
  | _ => 183
def nM : Nat → Nat
  | 0 => 90
  | 1 => 109
  | _ => 146
def mM : Nat → Nat
  | 0 => 17
  | 1 => 35
  | _ => 71
end My
namespace My
open PySem L2 Hq
/-! ### the text by places -/
def top (i : Nat) : Stmt := PySem.Challenge.pw_placewords_k50_texts_of_alphabets_and_au.main.body.getD i (.Pass ⟨0, 0, 0, 0⟩)
abbrev s_Alphabet_init : Stmt := inClass (top 7) 0
abbrev s__check_letter : Stmt := top 8
abbrev s_Automaton_init : Stmt := inClass (top 10) 0
abbrev s__check_states : Stmt := top 11
abbrev s_format_alphabet : Stmt := top 15
abbrev s_format_automaton : Stmt := top 16
abbrev s__line : Stmt := top 17
abbrev s_parse_alphabet : Stmt := top 18
abbrev s_parse_automaton : Stmt := top 19
abbrev s__number : Stmt := top 20
abbrev s__law_draws : Stmt := top 22
abbrev s__law_take : Stmt := top 23
abbrev s__law_alphabet : Stmt := top 24
abbrev s__law_any_automaton : Stmt := top 25
abbrev s__law_outcome : Stmt := top 26
abbrev s__law_other_outcome : Stmt := top 27
abbrev s__law_number : Stmt := top 28
abbrev s__law_read_alphabet : Stmt := top 29
abbrev s__law_read_automaton : Stmt := top 30
abbrev s__law_changed : Stmt := top 31
abbrev s_law : Stmt := top 32
set_option maxHeartbeats 0 in
structure Txt (K : PySem.W.Frag) (mg : Str → Option Value) where
  f_Alphabet_init : Addr
  d_Alphabet_init : FuncData
  F_Alphabet_init : Fun K "__init__" "Alphabet.__init__" s_Alphabet_init f_Alphabet_init d_Alphabet_init
  b_Alphabet_init : Binds K d_Alphabet_init ["self", "places", "letters"] []
  f__check_letter : Addr
  d__check_letter : FuncData
  F__check_letter : Fun K "_check_letter" "_check_letter" s__check_letter f__check_letter d__check_letter
  m__check_letter : mg "_check_letter" = some (.ref f__check_letter)
  b__check_letter : Binds K d__check_letter ["places", "row"] []
  f_Automaton_init : Addr
  d_Automaton_init : FuncData
  F_Automaton_init : Fun K "__init__" "Automaton.__init__" s_Automaton_init f_Automaton_init d_Automaton_init
  b_Automaton_init : Binds K d_Automaton_init ["self", "letters", "start", "finals", "rows"] []
  f__check_states : Addr
  d__check_states : FuncData
  F__check_states : Fun K "_check_states" "_check_states" s__check_states f__check_states d__check_states
  m__check_states : mg "_check_states" = some (.ref f__check_states)
  b__check_states : Binds K d__check_states ["many", "states"] []
  f_format_alphabet : Addr
  d_format_alphabet : FuncData
  F_format_alphabet : Fun K "format_alphabet" "format_alphabet" s_format_alphabet f_format_alphabet d_format_alphabet
  m_format_alphabet : mg "format_alphabet" = some (.ref f_format_alphabet)
  b_format_alphabet : Binds K d_format_alphabet ["alphabet"] []
  f_format_automaton : Addr
  d_format_automaton : FuncData
  F_format_automaton : Fun K "format_automaton" "format_automaton" s_format_automaton f_format_automaton d_format_automaton
  m_format_automaton : mg "format_automaton" = some (.ref f_format_automaton)
  b_format_automaton : Binds K d_format_automaton ["automaton"] []
  f__line : Addr
  d__line : FuncData
  F__line : Fun K "_line" "_line" s__line f__line d__line
  m__line : mg "_line" = some (.ref f__line)
  b__line : Binds K d__line ["word", "numbers"] []
  f_parse_alphabet : Addr
  d_parse_alphabet : FuncData
  F_parse_alphabet : Fun K "parse_alphabet" "parse_alphabet" s_parse_alphabet f_parse_alphabet d_parse_alphabet
  m_parse_alphabet : mg "parse_alphabet" = some (.ref f_parse_alphabet)
  b_parse_alphabet : Binds K d_parse_alphabet ["text"] []
  f_parse_automaton : Addr
  d_parse_automaton : FuncData
  F_parse_automaton : Fun K "parse_automaton" "parse_automaton" s_parse_automaton f_parse_automaton d_parse_automaton
  m_parse_automaton : mg "parse_automaton" = some (.ref f_parse_automaton)
  b_parse_automaton : Binds K d_parse_automaton ["text"] []
  f__number : Addr
  d__number : FuncData
  F__number : Fun K "_number" "_number" s__number f__number d__number
  m__number : mg "_number" = some (.ref f__number)
  b__number : Binds K d__number ["word"] []
  f__law_draws : Addr
  d__law_draws : FuncData
  F__law_draws : Fun K "_law_draws" "_law_draws" s__law_draws f__law_draws d__law_draws
  m__law_draws : mg "_law_draws" = some (.ref f__law_draws)
  b__law_draws : Binds K d__law_draws ["script", "count"] []
  f__law_take : Addr
  d__law_take : FuncData
  F__law_take : Fun K "_law_take" "_law_take" s__law_take f__law_take d__law_take
  m__law_take : mg "_law_take" = some (.ref f__law_take)
  b__law_take : Binds K d__law_take ["draws", "limit"] []
  f__law_alphabet : Addr
  d__law_alphabet : FuncData
  F__law_alphabet : Fun K "_law_alphabet" "_law_alphabet" s__law_alphabet f__law_alphabet d__law_alphabet
  m__law_alphabet : mg "_law_alphabet" = some (.ref f__law_alphabet)
  b__law_alphabet : Binds K d__law_alphabet ["draws", "places", "most"] []
  f__law_any_automaton : Addr
  d__law_any_automaton : FuncData
  F__law_any_automaton : Fun K "_law_any_automaton" "_law_any_automaton" s__law_any_automaton f__law_any_automaton d__law_any_automaton
  m__law_any_automaton : mg "_law_any_automaton" = some (.ref f__law_any_automaton)
  b__law_any_automaton : Binds K d__law_any_automaton ["draws", "letters", "most"] []
  f__law_outcome : Addr
  d__law_outcome : FuncData
  F__law_outcome : Fun K "_law_outcome" "_law_outcome" s__law_outcome f__law_outcome d__law_outcome
  m__law_outcome : mg "_law_outcome" = some (.ref f__law_outcome)
  b__law_outcome : Binds K d__law_outcome ["text"] []
  f__law_other_outcome : Addr
  d__law_other_outcome : FuncData
  F__law_other_outcome : Fun K "_law_other_outcome" "_law_other_outcome" s__law_other_outcome f__law_other_outcome d__law_other_outcome
  m__law_other_outcome : mg "_law_other_outcome" = some (.ref f__law_other_outcome)
  b__law_other_outcome : Binds K d__law_other_outcome ["text"] []
  f__law_number : Addr
  d__law_number : FuncData
  F__law_number : Fun K "_law_number" "_law_number" s__law_number f__law_number d__law_number
  m__law_number : mg "_law_number" = some (.ref f__law_number)
  b__law_number : Binds K d__law_number ["word"] []
  f__law_read_alphabet : Addr
  d__law_read_alphabet : FuncData
  F__law_read_alphabet : Fun K "_law_read_alphabet" "_law_read_alphabet" s__law_read_alphabet f__law_read_alphabet d__law_read_alphabet
  m__law_read_alphabet : mg "_law_read_alphabet" = some (.ref f__law_read_alphabet)
  b__law_read_alphabet : Binds K d__law_read_alphabet ["text"] []
  f__law_read_automaton : Addr
  d__law_read_automaton : FuncData
  F__law_read_automaton : Fun K "_law_read_automaton" "_law_read_automaton" s__law_read_automaton f__law_read_automaton d__law_read_automaton
  m__law_read_automaton : mg "_law_read_automaton" = some (.ref f__law_read_automaton)
  b__law_read_automaton : Binds K d__law_read_automaton ["text"] []
  f__law_changed : Addr
  d__law_changed : FuncData
  F__law_changed : Fun K "_law_changed" "_law_changed" s__law_changed f__law_changed d__law_changed
  m__law_changed : mg "_law_changed" = some (.ref f__law_changed)
  b__law_changed : Binds K d__law_changed ["draws", "text"] []
  f_law : Addr
  d_law : FuncData
  F_law : Fun K "law" "law" s_law f_law d_law
  m_law : mg "law" = some (.ref f_law)
  b_law : Binds K d_law ["script"] []
  c_Alphabet : Addr
  mc_Alphabet : mg "Alphabet" = some (.ref c_Alphabet)
  mk_Alphabet : PySem.W.makesIn K c_Alphabet = true
  in_Alphabet : PySem.W.findIn K (.ref c_Alphabet) "__init__" = some (some (.ref f_Alphabet_init))
  if_Alphabet : PySem.W.isFn K (.ref f_Alphabet_init) = true
  kc_Alphabet : PySem.W.keepIn K (.ref c_Alphabet) = true
  cl_Alphabet : Cls K c_Alphabet
  na_Alphabet_places : NoAttr K c_Alphabet "places"
  na_Alphabet_letters : NoAttr K c_Alphabet "letters"
  c_Automaton : Addr
  mc_Automaton : mg "Automaton" = some (.ref c_Automaton)
  mk_Automaton : PySem.W.makesIn K c_Automaton = true
  in_Automaton : PySem.W.findIn K (.ref c_Automaton) "__init__" = some (some (.ref f_Automaton_init))
  if_Automaton : PySem.W.isFn K (.ref f_Automaton_init) = true
  kc_Automaton : PySem.W.keepIn K (.ref c_Automaton) = true
  cl_Automaton : Cls K c_Automaton
  na_Automaton_letters : NoAttr K c_Automaton "letters"
  na_Automaton_start : NoAttr K c_Automaton "start"
  na_Automaton_finals : NoAttr K c_Automaton "finals"
  na_Automaton_rows : NoAttr K c_Automaton "rows"
  c_InvalidAlphabet : Addr
  mc_InvalidAlphabet : mg "InvalidAlphabet" = some (.ref c_InvalidAlphabet)
  x_InvalidAlphabet : PySem.W.excIn K c_InvalidAlphabet [.type "ValueError", .type "Exception", .type "BaseException", .type "object"] "ValueError.__new__" = true
  k_InvalidAlphabet : PySem.W.keepIn K (.ref c_InvalidAlphabet) = true
  b_InvalidAlphabet : PySem.W.subIn K (.ref c_InvalidAlphabet) (.type "BaseException") = some true
  t_InvalidAlphabet : PySem.W.typeIn K (.ref c_InvalidAlphabet) = some (.type "type")
  e_InvalidAlphabet : PySem.W.exmOne K (.ref c_InvalidAlphabet) (.ref c_InvalidAlphabet) = some true
  c_InvalidAutomaton : Addr
  mc_InvalidAutomaton : mg "InvalidAutomaton" = some (.ref c_InvalidAutomaton)
  x_InvalidAutomaton : PySem.W.excIn K c_InvalidAutomaton [.type "ValueError", .type "Exception", .type "BaseException", .type "object"] "ValueError.__new__" = true
  k_InvalidAutomaton : PySem.W.keepIn K (.ref c_InvalidAutomaton) = true
  b_InvalidAutomaton : PySem.W.subIn K (.ref c_InvalidAutomaton) (.type "BaseException") = some true
  t_InvalidAutomaton : PySem.W.typeIn K (.ref c_InvalidAutomaton) = some (.type "type")
  e_InvalidAutomaton : PySem.W.exmOne K (.ref c_InvalidAutomaton) (.ref c_InvalidAutomaton) = some true
  om_Alphabet : PySem.W.mroIn K c_Alphabet (.type "object") = some true
  oe_Alphabet : PySem.W.findIn K (.ref c_Alphabet) "__eq__" = some (some (.builtin "object.__eq__"))
  z_any : mg "any" = none
  z_int : mg "int" = none
  z_len : mg "len" = none
  z_list : mg "list" = none
  z_max : mg "max" = none
  z_min : mg "min" = none
  z_range : mg "range" = none
  z_set : mg "set" = none
  z_sorted : mg "sorted" = none
  z_str : mg "str" = none
  z_tuple : mg "tuple" = none
  t_DIGITS : Tok
  v_DIGITS : mg "DIGITS" = some (.str "0123456789" t_DIGITS)
  t_MOST_DIGITS : Tok
  v_MOST_DIGITS : mg "MOST_DIGITS" = some (.int 9 t_MOST_DIGITS)
  t_MOST_LETTERS : Tok
  v_MOST_LETTERS : mg "MOST_LETTERS" = some (.int 6 t_MOST_LETTERS)
  t_MOST_PLACES : Tok
  v_MOST_PLACES : mg "MOST_PLACES" = some (.int 4 t_MOST_PLACES)
local macro_rules | `(tactic| trivial) => `(tactic| omega)
theorem pin_le {K : PySem.W.Frag} {lo hi x : Int} (h : lo ≤ x ∧ x < hi) : (D K (.int x)).le (PIn K lo hi) := MP.le_trans (PAn.in h) (PEx.in (R := fun x : Int => PAn (lo ≤ x ∧ x < hi) (D K (.int x))) x)
end My
namespace My
open PySem L2 Hq
local macro_rules | `(tactic| trivial) => `(tactic| omega)
section
variable {P : Program} {wo : World} {K : PySem.W.Frag} {mg : Str → Option Value} {base : Heap}
/-! ### _law_take -/
theorem sc__law_take : FnScope ["draws", "limit"] ["draws", "limit"] (defScope s__law_take) := ⟨rfl, rfl, rfl, by decide +kernel, rfl, by decide +kernel, by decide +kernel⟩
def sp__law_take (T : Txt K mg) : Sp := fun vs H Q _ => ∃ (d : Addr) (n : Int), 0 < n ∧ Prom [Own d, D K (.int n)] [(d, MDr K)] (PIn K 0 n) [(d, MDr K)] vs H Q
theorem sp__law_take_len {T : Txt K mg} {vs H Q E} (h : sp__law_take T vs H Q E) : vs.length = 2 := by obtain ⟨d, n, _, h⟩ := h; exact h.len
set_option maxHeartbeats 4000000 in
theorem ok__law_take (T : Txt K mg) : FnOk P wo K mg base CX0 1 T.f__law_take T.d__law_take ["draws", "limit"] (sp__law_take T) := by
  have nd := (sc__law_take).nd
  refine T.F__law_take.ok sc__law_take (fun vs H Q E h => (sp__law_take_len h)) (fun cdv A outer s H vs Q E hr h => ?_)
  obtain ⟨d, n, hn, F, w, p, k⟩ := h
  refine ⟨_, (pss_cons (ps_if (pt_cmpR op_eq (pe_callB (c_len (K := K) rfl) (by rfl) T.z_len PySem.boot_len (pa_cons (pv 0) pa_nil)) pe_int (nomark _)) (pss_one (ps_ret pe_int)) pss_nil)
    (pss_one (ps_ret (pe_op op_mod (pe_callTy call_int1 (by rfl) T.z_int (by decide +kernel) (pa_cons (pe_bm0 PySem.F.plainAttrs_list PySem.F.slot_list_pop PySem.F.type_list_pop mt_pop (pv 0)) pa_nil)) (pv 1))))), ?_⟩
  refine go_start w p (Γ := [some (Own d), some (D K (.int n))]) rfl ?_
  refine nx_exM (j := 0) rfl fun ns => nx_anM (j := 0) rfl fun hl => ?_
  show Nx _ _ [(d, MInts K ns)] _
  have k2 : ∀ ns' : List Int, ns'.length ≤ 1000 → Rt ⟨F, H, keys [(d, MDr K)]⟩ [(d, MInts K ns')] (PIn K 0 n) Q := fun ns' h => Rt.to (j := 0) (O' := MDr K) k rfl (fun F o q => ⟨ns', h, q⟩) rfl
  refine (q_if (et_test (ev_op (ev_cb (ea_cons (ev_var rfl) ea_nil) (rc_lenO (j := 0) rfl)) (ev_int (K := K)) rv_eqI)) (fun _ => go_ret Le.refl (ev_int (K := K)) (Rt.weak (pin_le (by omega)) (k2 ns hl))) fun hz => go_next ?_)
  have hz : ns ≠ [] := by intro e; subst e; simp at hz
  have hlast : (ns.map fun n => D K (.int n))[(ns.map fun n => D K (.int n)).length - 1]? = some (D K (.int (ns.getLast hz))) := by rw [List.length_map, List.getElem?_map, ← List.getLast?_eq_getElem?, List.getLast?_eq_some_getLast hz]; rfl
  have hd : (ns.map fun n => D K (.int n)).dropLast = ns.dropLast.map fun n => D K (.int n) := by rw [List.map_dropLast]
  refine go_ret Le.refl (ev_op (ev_cb (ea_cons (ev_pop (j := 0) (ev_var rfl) rfl hlast) ea_nil) rc_int) (ev_var rfl) (rv_ic (by trivial))) (Rt.weak (pin_le ⟨Int.emod_nonneg _ (by omega), Int.emod_lt_of_pos _ hn⟩) ?_)
  rw [hd]
  exact k2 _ (by rw [List.length_dropLast]; omega)
theorem use__law_take {T : Txt K mg} {tr : TA} {Γ : Gm} {M M1 : Ms} {d : Addr} {n : Int} {j : Nat} {X : XK} (h : EvA tr Γ M [Own d, D K (.int n)] M1) (hn : 0 < n) (e : M1[j]? = some (d, MDr K)) : Ev (tCall (sp__law_take T) [] X tr) Γ M (PIn K 0 n) M1 :=
  call1 h e fun vs H Q z => ⟨d, n, hn, z⟩
/-! ### _law_draws -/
theorem sc__law_draws : FnScope ["script", "count", "cells", "found", "mixed", "k", "j", "cell", "again"] ["script", "count"] (defScope s__law_draws) := ⟨rfl, rfl, rfl, by decide +kernel, rfl, by decide +kernel, by decide +kernel⟩
def sp__law_draws (T : Txt K mg) : Sp := fun vs H Q _ => ∃ (ns : List Int) (c : Int), 0 ≤ c ∧ c ≤ 1000 ∧ ns.length ≤ 1000 ∧ PromN [PLi K (ns.map fun n => D K (.int n)), D K (.int c)] [] (MDr K) [] vs H Q
theorem sp__law_draws_len {T : Txt K mg} {vs H Q E} (h : sp__law_draws T vs H Q E) : vs.length = 2 := by obtain ⟨_, _, _, _, _, h⟩ := h; exact h.len
set_option maxHeartbeats 4000000 in
theorem ok__law_draws (T : Txt K mg) : FnOk P wo K mg base CX0 1 T.f__law_draws T.d__law_draws ["script", "count"] (sp__law_draws T) := by
  have nd := (sc__law_draws).nd
  refine T.F__law_draws.ok sc__law_draws (fun vs H Q E h => (sp__law_draws_len h)) (fun cdv A outer s H vs Q E hr h => ?_)
  obtain ⟨ns, cnt, c0, c1, nl, F, w, p, k⟩ := h
  refine ⟨_, (pss_cons (ps_set (i := 2) nd rfl (Or.inl rfl) (pe_callTy (c_list (K := K) rfl) (by rfl) T.z_list (by decide +kernel) (pa_cons (pv 0) pa_nil)))
    (Evl.pss_cut (ps_if (pt_cmpR op_eq (pe_callB (c_len (K := K) rfl) (by rfl) T.z_len PySem.boot_len (pa_cons (pv 2) pa_nil)) pe_int (nomark _)) (pss_one (ps_set (i := 2) nd rfl (Or.inl rfl) (pe_lst (pa_cons pe_int pa_nil)))) pss_nil)
    (pss_cons (ps_set (i := 3) nd rfl (Or.inl rfl) (pe_lst pa_nil))
    (pss_cons (ps_set (i := 4) nd rfl (Or.inl rfl) pe_int)
    (pss_cons (ps_for PassesOwn.never rfl (pi_range1 (by rfl) T.z_range (pa_cons (pv 1) pa_nil)) (pg_name (i := 5) nd rfl (by first | exact Or.inl rfl | exact Or.inr rfl))
     (pss_cons (ps_set (i := 6) nd rfl (Or.inl rfl) (pe_op op_mod (pv 5) (pe_callB (c_len (K := K) rfl) (by rfl) T.z_len PySem.boot_len (pa_cons (pv 2) pa_nil))))
     (pss_cons (ps_set (i := 7) nd rfl (Or.inl rfl) (pe_ix (c_ix (K := K) rfl) (pv 2) (pv 6) (fun _ _ => rfl)))
     (pss_cons (ps_set (i := 4) nd rfl (Or.inl rfl) (pe_op op_mod (pe_callTy call_int1 (by rfl) T.z_int (by decide +kernel) (pa_cons (pe_op op_add (pe_op op_add (pe_op op_add (pe_op op_mul (pv 4) pe_int) (pe_op op_mul (pe_op op_mod (pe_callTy call_int1 (by rfl) T.z_int (by decide +kernel) (pa_cons (pv 7) pa_nil)) pe_int) pe_int)) (pe_op op_mul (pv 5) pe_int)) pe_int) pa_nil)) pe_int))
     (pss_cons (ps_set (i := 8) nd rfl (Or.inl rfl) (pe_op op_mod (pe_callTy call_int1 (by rfl) T.z_int (by decide +kernel) (pa_cons (pe_op op_add (pe_op op_add (pe_op op_mul (pv 4) (pv 4)) (pe_op op_mul pe_int (pv 4))) (pv 5)) pa_nil)) pe_int))
     (pss_one (ps_if (pt_cmpR op_ge (pv 7) (pe_op op_pow pe_int pe_int) (nomark _)) (pss_cons (ps_expr (pe_bm PySem.F.plainAttrs_list PySem.F.slot_list_append PySem.F.type_list_append mt_append (pv 3) (pa_cons (pe_op op_mod (pe_callTy call_int1 (by rfl) T.z_int (by decide +kernel) (pa_cons (pv 7) pa_nil)) pe_int) pa_nil)))
      (pss_one (ps_asg (pe_op op_fdiv (pv 7) pe_int) (pg_sub (pv 2) (pv 6) set_list)))) (pss_one (ps_expr (pe_bm PySem.F.plainAttrs_list PySem.F.slot_list_append PySem.F.type_list_append mt_append (pv 3) (pa_cons (pe_op op_mod (pe_callTy call_int1 (by rfl) T.z_int (by decide +kernel) (pa_cons (pv 8) pa_nil)) pe_int) pa_nil)))))))))))
    (pss_cons (ps_expr (pe_bm0 PySem.F.plainAttrs_list PySem.F.slot_list_reverse PySem.F.type_list_reverse mt_reverse (pv 3)))
    (pss_one (ps_ret (pv 3))))))))), ?_⟩
  refine go_start w p (Γ := [some (PLi K (ns.map fun n => D K (.int n))), some (D K (.int cnt)), none, none, none, none, none, none, none]) rfl ?_
  refine (q_asgN (evn_cb (ea_cons (ev_var rfl) ea_nil) rcn_listL) fun c hc => ?_)
  show Nx _ _ [(c, MInts K ns)] _
  refine go_cut (fun Γ M => ∃ (c : Addr) (cs : List Int), Γ = [some (PLi K (ns.map fun n => D K (.int n))), some (D K (.int cnt)), some (Own c), none, none, none, none, none, none] ∧ M = [(c, MInts K cs)] ∧ cs ≠ [] ∧ cs.length ≤ 1000) ?_ ?rest
  · refine go_if (et_test (ev_op (ev_cb (ea_cons (ev_var rfl) ea_nil) (rc_lenO (j := 0) rfl)) (ev_int (K := K)) rv_eqI)) (fun _ => ?_) fun hz => go_next (JA.of ⟨c, ns, rfl, rfl, by intro e; subst e; simp at hz, nl⟩)
    refine go_asgN (evn_lst (ea_cons (ev_int (K := K)) ea_nil) (by simp)) fun c2 h2 => ?_
    exact nx_drop (List.Sublist.cons₂ _ (List.nil_sublist _)) (JA.of ⟨c2, [7], rfl, rfl, by decide, by decide⟩)
  case rest =>
    rintro _ _ ⟨c, cs, rfl, rfl, hne, hlen⟩
    have lpos : 0 < cs.length := List.length_pos_iff.mpr hne
    refine (q_asgN (evn_lst ea_nil (by decide)) fun f hf => ?_)
    show Nx _ _ [(f, MInts K []), (c, MInts K cs)] _
    refine (q_asg (ev_int (K := K)) ?_)
    refine (q_forR (ea_cons (ev_var rfl) ea_nil) (by omega) (by omega) (fun n Γ M => ∃ (zs fs : List Int) (m : Int) (g5 g6 g7 g8 : Option MP), Γ = [some (PLi K (ns.map fun n => D K (.int n))), some (D K (.int cnt)), some (Own c), some (Own f), some (D K (.int m)), g5, g6, g7, g8] ∧
      M = [(f, MInts K fs), (c, MInts K zs)] ∧ zs.length = cs.length ∧ fs.length = n ∧ 0 ≤ m ∧ m < 2147483647) ⟨cs, [], 12345, none, none, none, none, rfl, rfl, rfl, rfl, by decide, by decide⟩ ?_ ?_)
    · rintro n hn _ _ ⟨zs, fs, m, g5, g6, g7, g8, rfl, rfl, hz, hfl, m0, m1⟩
      show Nx _ [some (PLi K (ns.map fun n => D K (.int n))), some (D K (.int cnt)), some (Own c), some (Own f), some (D K (.int m)), some (D K (.int n)), g6, g7, g8] _ _
      have hL : ((zs.map fun n => D K (.int n)).length : Int) = (cs.length : Int) := by rw [List.length_map, hz]
      have hj0 : 0 ≤ (n : Int) % ((zs.map fun n => D K (.int n)).length : Int) := Int.emod_nonneg _ (by omega)
      have hj1 : (n : Int) % ((zs.map fun n => D K (.int n)).length : Int) < zs.length := by rw [hL, ← hz]; exact Int.emod_lt_of_pos _ (by omega)
      refine (q_asg (ev_op (ev_var rfl) (ev_cb (ea_cons (ev_var rfl) ea_nil) (rc_lenO (j := 1) rfl)) (rv_ic (show (0 : Int) < _ by omega))) ?_)
      generalize (n : Int) % ((zs.map fun n => D K (.int n)).length : Int) = jj at hj0 hj1
      obtain ⟨jn, rfl⟩ := Int.eq_ofNat_of_zero_le hj0
      have hjn : jn < zs.length := by omega
      refine (q_asg (ev_op (ev_var rfl) (ev_var rfl) (rv_ixO (j := 1) rfl (by omega) (show (zs.map fun n => D K (.int n))[((jn : Int)).toNat]? = some (D K (.int zs[jn])) by rw [Int.toNat_natCast, List.getElem?_map, List.getElem?_eq_getElem hjn]; rfl))) ?_)
      refine (q_asg (ev_op (ev_cb (ea_cons (ev_op (ev_op (ev_op (ev_op (ev_var rfl) (ev_int (K := K)) (rv_ic (.inr ⟨by decide, by decide⟩))) (ev_op (ev_op (ev_cb (ea_cons (ev_var rfl) ea_nil) rc_int) (ev_int (K := K)) (rv_ic (by trivial))) (ev_int (K := K)) (rv_ic (.inr ⟨by decide, by decide⟩))) rv_i0) (ev_op (ev_var rfl) (ev_int (K := K)) (rv_ic (.inr ⟨by decide, by decide⟩))) rv_i0) (ev_int (K := K)) rv_i0) ea_nil) rc_int) (ev_int (K := K)) (rv_ic (by trivial))) ?_)
      refine (q_asg (ev_op (ev_cb (ea_cons (ev_op (ev_op (ev_op (ev_var rfl) (ev_var rfl) (rv_ic (.inl ⟨?_, ?_⟩))) (ev_op (ev_int (K := K)) (ev_var rfl) (rv_ic (.inl ⟨by decide, by decide⟩))) rv_i0) (ev_var rfl) rv_i0) ea_nil) rc_int) (ev_int (K := K)) (rv_ic (by trivial))) ?_)
      · have := Int.emod_nonneg (m * 48271 + zs[jn] % 1000003 * 69621 + (n : Int) * 7919 + 11) (by decide : (2147483647 : Int) ≠ 0)
        exact Int.lt_of_lt_of_le (by decide) this
      · have := Int.emod_lt_of_pos (m * 48271 + zs[jn] % 1000003 * 69621 + (n : Int) * 7919 + 11) (by decide : (0 : Int) < 2147483647)
        exact Int.lt_trans this (by decide)
      have fin : ∀ (zs' fs' : List Int) (m' : Int) (g5 g6 g7 g8 : Option MP) (Γ : Gm) (M : Ms), Γ = [some (PLi K (ns.map fun n => D K (.int n))), some (D K (.int cnt)), some (Own c), some (Own f), some (D K (.int m')), g5, g6, g7, g8] → M = [(f, MInts K fs'), (c, MInts K zs')] → zs'.length = cs.length → fs'.length = n + 1 → 0 ≤ m' → m' < 2147483647 → Nx ⟨F, H, keys []⟩ Γ M (JA ⟨F, H, keys []⟩ fun Γ M => ∃ (zs fs : List Int) (m : Int) (g5 g6 g7 g8 : Option MP), Γ = [some (PLi K (ns.map fun n => D K (.int n))), some (D K (.int cnt)), some (Own c), some (Own f), some (D K (.int m)), g5, g6, g7, g8] ∧
        M = [(f, MInts K fs), (c, MInts K zs)] ∧ zs.length = cs.length ∧ fs.length = n + 1 ∧ 0 ≤ m ∧ m < 2147483647) := fun zs' fs' m' g5 g6 g7 g8 Γ M e1 e2 e3 e4 e5 e6 => JA.of ⟨zs', fs', m', g5, g6, g7, g8, e1, e2, e3, e4, e5, e6⟩
      have mm0 := Int.emod_nonneg (m * 48271 + zs[jn] % 1000003 * 69621 + (n : Int) * 7919 + 11) (by decide : (2147483647 : Int) ≠ 0)
      have mm1 := Int.emod_lt_of_pos (m * 48271 + zs[jn] % 1000003 * 69621 + (n : Int) * 7919 + 11) (by decide : (0 : Int) < 2147483647)
      refine go_if (et_test (ev_op (ev_var rfl) (ev_op (ev_int (K := K)) (ev_int (K := K)) (rv_ic ⟨by decide, by decide, by decide⟩)) rv_b0)) (fun _ => ?_) fun _ => ?_
      · refine (q_app (j := 0) (ev_var rfl) (ev_op (ev_cb (ea_cons (ev_var rfl) ea_nil) rc_int) (ev_int (K := K)) (rv_ic (by trivial))) rfl rfl (by rw [List.length_map]; omega) ?_)
        refine go_setL (j := 1) (ev_op (ev_var rfl) (ev_int (K := K)) (rv_ic ⟨by decide, by decide⟩)) (ev_var rfl) (ev_var rfl) rfl (by omega) (by rw [List.length_map]; omega) ?_
        exact fin (zs.set jn (zs[jn] / 1000)) (fs ++ [zs[jn] % 1000]) _ _ _ _ _ _ _ rfl (by simp [MInts, List.map_set]) (by rw [List.length_set]; exact hz) (by rw [List.length_append, hfl]; rfl) mm0 mm1
      · refine go_app (j := 0) (ev_var rfl) (ev_op (ev_cb (ea_cons (ev_var rfl) ea_nil) rc_int) (ev_int (K := K)) (rv_ic (by trivial))) rfl rfl (by rw [List.length_map]; omega) ?_
        exact fin zs (fs ++ [_]) _ _ _ _ _ _ _ rfl (by simp [MInts]; rfl) hz (by rw [List.length_append, hfl]; rfl) mm0 mm1
    · rintro _ _ ⟨zs, fs, m, g5, g6, g7, g8, rfl, rfl, hz, hfl, m0, m1⟩
      refine (q_rev (j := 0) (ev_var rfl) rfl ?_)
      refine nx_drop (List.Sublist.cons₂ _ (List.nil_sublist _)) ?_
      refine go_retO Le.refl (ev_var rfl) hf rfl (RtN.to k fun F o h => ⟨fs.reverse, by rw [List.length_reverse]; omega, ?_⟩)
      rw [← List.map_reverse] at h
      exact h
theorem use__law_draws {T : Txt K mg} {tr : TA} {Γ : Gm} {M M1 : Ms} {ns : List Int} {c : Int} {X : XK} (h : EvA tr Γ M [PLi K (ns.map fun n => D K (.int n)), D K (.int c)] M1) (h0 : 0 ≤ c) (h1 : c ≤ 1000) (h2 : ns.length ≤ 1000) : EvN (tCall (sp__law_draws T) [] X tr) Γ M (MDr K) M1 :=
  calln0 h fun vs H Q z => ⟨ns, c, h0, h1, h2, z⟩
end
end My
namespace My
open PySem L2 Hq
local macro_rules | `(tactic| trivial) => `(tactic| omega)
section
variable {P : Program} {wo : World} {K : PySem.W.Frag} {mg : Str → Option Value} {base : Heap}
/-! ### _check_letter -/
theorem sc__check_letter : FnScope ["places", "row", "place", "index"] ["places", "row"] (defScope s__check_letter) := ⟨rfl, rfl, rfl, by decide +kernel, rfl, by decide +kernel, by decide +kernel⟩
def LOk (k : Int) (l : List Int) : Prop := l ≠ [] ∧ l.Pairwise (· < ·) ∧ ∀ x ∈ l, 0 ≤ x ∧ x < k
def sp__check_letter (T : Txt K mg) : Sp := fun vs H Q X => ∃ (k : Int) (l : List Int), l.length ≤ 1000 ∧ ∃ F, Wd F [] H ∧ Ps F vs [D K (.int k), D K (dT l)] ∧ (LOk k l → Rt ⟨F, H, keys []⟩ [] (D K .none) Q) ∧ (¬ LOk k l → RtE ⟨F, H, keys []⟩ [] T.c_InvalidAlphabet X)
theorem sp__check_letter_len {T : Txt K mg} {vs H Q E} (h : sp__check_letter T vs H Q E) : vs.length = 2 := by obtain ⟨_, _, _, F, _, p, _⟩ := h; exact paired_len p
set_option maxHeartbeats 4000000 in
theorem ok__check_letter (T : Txt K mg) : FnOk P wo K mg base (L2.CX P wo) 1 T.f__check_letter T.d__check_letter ["places", "row"] (sp__check_letter T) := by
  have nd := (sc__check_letter).nd
  refine T.F__check_letter.okX sc__check_letter (fun vs H Q E h => (sp__check_letter_len h)) (fun cdv A outer s H vs Q E hr h => ?_)
  obtain ⟨n, l, h4, F, w, p, k, kx⟩ := h
  refine ⟨_, (pss_cons (ps_if (pt_cmpR op_eq (pe_callB (c_len (K := K) rfl) (by rfl) T.z_len PySem.boot_len (pa_cons (pv 1) pa_nil)) pe_int (nomark _)) (pss_one (ps_raise rfl (takes_of rfl rfl rfl rfl) (pmk_own PySem.F.excBase_ValueError T.x_InvalidAlphabet T.mc_InvalidAlphabet T.k_InvalidAlphabet (raises_own T.b_InvalidAlphabet T.t_InvalidAlphabet) (by exact rfl)))) pss_nil)
    (pss_cons (ps_for (passes_of rfl) rfl (pi_tupK (K := K) rfl (pv 1)) (pg_name (i := 2) nd rfl (by first | exact Or.inl rfl | exact Or.inr rfl))
     (pss_one (ps_if (pt_not (pt_chain op_le op_lt pe_int (pv 2) (pv 0))) (pss_one (ps_raise rfl (takes_of rfl rfl rfl rfl) (pmk_own PySem.F.excBase_ValueError T.x_InvalidAlphabet T.mc_InvalidAlphabet T.k_InvalidAlphabet (raises_own T.b_InvalidAlphabet T.t_InvalidAlphabet) (by exact rfl)))) pss_nil)))
    (pss_one (ps_for (passes_of rfl) rfl (pi_range2 (by rfl) T.z_range (pa_cons pe_int (pa_cons (pe_callB (c_len (K := K) rfl) (by rfl) T.z_len PySem.boot_len (pa_cons (pv 1) pa_nil)) pa_nil))) (pg_name (i := 3) nd rfl (by first | exact Or.inl rfl | exact Or.inr rfl))
     (pss_one (ps_if (pt_cmpR op_ge (pe_ix (c_ix (K := K) rfl) (pv 1) (pe_op op_sub (pv 3) pe_int) (fun _ _ => rfl)) (pe_ix (c_ix (K := K) rfl) (pv 1) (pv 3) (fun _ _ => rfl)) (nomark _)) (pss_one (ps_raise rfl (takes_of rfl rfl rfl rfl) (pmk_own PySem.F.excBase_ValueError T.x_InvalidAlphabet T.mc_InvalidAlphabet T.k_InvalidAlphabet (raises_own T.b_InvalidAlphabet T.t_InvalidAlphabet) (by exact rfl)))) pss_nil)))))), ?_⟩
  refine go_start w p (Γ := [some (D K (.int n)), some (D K (dT l)), none, none]) rfl ?_
  have evlen : ∀ {Γ : Gm}, Γ[1]? = some (some (D K (dT l))) → Ev (tCB (fun xs H Q => ∃ p ys, xs = [.ref p] ∧ (SqL K H p ys ∨ SqT K H p ys) ∧ Q (.int ys.length) H) (tCons (tVar 1) tNil)) Γ [] (D K (.int l.length)) [] := fun e => by
    have := ev_cb (ea_cons (ev_var e) ea_nil) (rc_lenDT (K := K) (ds := l.map PyData.int) (M := []))
    rw [List.length_map] at this
    exact this
  refine (q_if (et_test (ev_op (evlen rfl) (ev_int (K := K)) rv_eqI)) (fun hz => go_raise (kx fun L => ?_)) fun hz => go_next ?_)
  · exact L.1 (by simpa using hz.symm)
  have hne : l ≠ [] := fun z => by subst z; simp at hz
  refine (q_forT ((ev_var rfl).weak le_dT) (fun i Γ M => ∃ g2 g3 : Option MP, Γ = [some (D K (.int n)), some (D K (dT l)), g2, g3] ∧ M = [] ∧ ∀ x ∈ l.take i, 0 ≤ x ∧ x < n) ⟨none, none, rfl, rfl, fun x hx => by simp at hx⟩ ?_ ?_)
  · rintro E' hE i P hP _ _ ⟨g2, g3, rfl, rfl, hp⟩
    rw [List.getElem?_map] at hP
    obtain ⟨x, hx, rfl⟩ := Option.map_eq_some_iff.mp hP
    refine go_if (et_not (et_test (ev_chain (ev_int (K := K)) (ev_var rfl) rv_b0 (fun _ => (ev_var rfl)) rv_b0))) (fun hz => go_raise (RtE.le hE (kx fun L => ?_))) fun hz => go_next (JA.of ⟨_, _, rfl, rfl, fun y hy => ?_⟩)
    · have := L.2.2 x (List.mem_of_getElem? hx)
      simp at hz
      omega
    · rw [List.take_add_one, hx] at hy
      rcases List.mem_append.mp hy with hy | hy
      · exact hp y hy
      · have : y = x := by simpa using hy
        subst this
        simp at hz
        omega
  · rintro _ _ ⟨g2, g3, rfl, rfl, hp⟩
    rw [List.length_map, List.take_length] at hp
    refine go_forR2 (ea_cons (ev_int (K := K)) (ea_cons (evlen rfl) ea_nil)) (by omega) (fun i Γ M => ∃ g2 g3 : Option MP, Γ = [some (D K (.int n)), some (D K (dT l)), g2, g3] ∧ M = [] ∧ ∀ j, j < i → ∀ h : j + 1 < l.length, l[j] < l[j + 1]) ⟨g2, g3, rfl, rfl, fun j hj => absurd hj (Nat.not_lt_zero _)⟩ ?_ ?_
    · rintro i hi _ _ ⟨g2, g3, rfl, rfl, hq⟩
      have a1 : i + 1 < l.length := by omega
      have e1 : (l.map PyData.int)[((1 + (i : Int)) - 1).toNat]? = some (.int l[i]) := by
        rw [show ((1 + (i : Int)) - 1).toNat = i by omega, List.getElem?_map, List.getElem?_eq_getElem (by omega)]; rfl
      have e2 : (l.map PyData.int)[(1 + (i : Int)).toNat]? = some (.int l[i + 1]) := by
        rw [show (1 + (i : Int)).toNat = i + 1 by omega, List.getElem?_map, List.getElem?_eq_getElem a1]; rfl
      refine go_if (et_test (ev_op (ev_op (ev_var rfl) (ev_op (ev_var rfl) (ev_int (K := K)) rv_i0) (rv_ixDT (by omega) e1)) (ev_op (ev_var rfl) (ev_var rfl) (rv_ixDT (by omega) e2)) rv_b0)) (fun hz => go_raise (kx fun L => ?_)) fun hz => go_next (JA.of ⟨_, _, rfl, rfl, fun j hj h => ?_⟩)
      · have lt : l[i] < l[i + 1] := List.pairwise_iff_getElem.mp L.2.1 i (i + 1) (by omega) a1 (by omega)
        simp at hz
        omega
      · rcases Nat.lt_succ_iff_lt_or_eq.mp hj with hj | rfl
        · exact hq j hj h
        · simp at hz
          omega
    · rintro _ _ ⟨g2, g3, rfl, rfl, hq⟩
      have pw : l.Pairwise (· < ·) := by
        have key : ∀ (d i : Nat) (h : i + d + 1 < l.length), l[i] < l[i + d + 1] := by
          intro d
          induction d with
          | zero => intro i h; exact hq i (by omega) h
          | succ d ih =>
            intro i h
            have h1 := ih i (by omega)
            have h2 := hq (i + d + 1) (by omega) (by omega)
            exact Int.lt_trans h1 h2
        rw [List.pairwise_iff_getElem]
        intro i j hi hj hij
        have := key (j - i - 1) i (by omega)
        have e : i + (j - i - 1) + 1 = j := by omega
        simp only [e] at this
        exact this
      exact fun σ H' ⟨F', a, b⟩ => k ⟨hne, pw, hp⟩ .non F' H' a .non
end
end My
namespace My
open PySem L2 Hq
local macro_rules | `(tactic| trivial) => `(tactic| omega)
section
variable {P : Program} {wo : World} {K : PySem.W.Frag} {mg : Str → Option Value} {base : Heap}
/-! ### Alphabet.__init__ -/
theorem sc_Alphabet_init : FnScope ["self", "places", "letters", "rows", "row"] ["self", "places", "letters"] (defScope s_Alphabet_init) := ⟨rfl, rfl, rfl, by decide +kernel, rfl, by decide +kernel, by decide +kernel⟩
abbrev alF (K : PySem.W.Frag) (k : Int) (ls : Lets) : List (Str × MP) := [("letters", D K (dTT ls)), ("places", D K (.int k))]
/-- an alphabet that stands -/
abbrev PAl (T : Txt K mg) (k : Int) (ls : Lets) : MP := PIns T.c_Alphabet (alF K k ls)
abbrev MLT (K : PySem.W.Frag) (L : List (List Int)) : MO := ML (L.map fun l => D K (dT l))
theorem alpha_iff {k : Int} {L : List (List Int)} : AlphaOk k L ↔ (1 ≤ k ∧ k ≤ 4) ∧ (1 ≤ L.length ∧ L.length ≤ 6) ∧ ∀ l ∈ L, LOk k l := ⟨fun A => ⟨⟨A.k1, A.k4⟩, ⟨A.l1, A.l6⟩, A.ok⟩, fun ⟨⟨a, b⟩, ⟨c, d⟩, e⟩ => ⟨a, b, c, d, e⟩⟩
def sp_Alphabet_init (T : Txt K mg) : Sp := fun vs H Q X => ∃ (x : Addr) (k : Int) (L : List (List Int)) (q : Addr), (L.length ≤ 1000 ∧ ∀ l ∈ L, l.length ≤ 1000) ∧ ∃ F, Wd F [(x, MIns T.c_Alphabet 0 []), (q, MLT K L)] H ∧ Ps F vs [Own x, D K (.int k), Own q] ∧
  (AlphaOk k L → Rt ⟨F, H, keys [(x, MIns T.c_Alphabet 0 []), (q, MLT K L)]⟩ [(x, MIns T.c_Alphabet 2 (alF K k L)), (q, MLT K L)] (D K .none) Q) ∧
  (¬ AlphaOk k L → RtE ⟨F, H, keys [(x, MIns T.c_Alphabet 0 []), (q, MLT K L)]⟩ [(x, MAny), (q, MLT K L)] T.c_InvalidAlphabet X)
theorem sp_Alphabet_init_len {T : Txt K mg} {vs H Q E} (h : sp_Alphabet_init T vs H Q E) : vs.length = 3 := by obtain ⟨_, _, _, _, _, F, _, p, _⟩ := h; exact paired_len p
theorem pw_len {l : List Int} {k : Int} (h2 : l.Pairwise (· < ·)) (h3 : ∀ x ∈ l, 0 ≤ x ∧ x < k) (hk : 0 ≤ k) : (l.length : Int) ≤ k := by
  have key : ∀ (l : List Int) (lo : Int), l.Pairwise (· < ·) → (∀ x ∈ l, lo ≤ x ∧ x < k) → lo ≤ k → (l.length : Int) ≤ k - lo := by
    intro l
    induction l with
    | nil => intro lo _ _ h; simp; omega
    | cons a l ih =>
      intro lo h1 h2 h3
      have ha := h2 a List.mem_cons_self
      have := ih (a + 1) (List.pairwise_cons.mp h1).2 (fun x hx => ⟨(List.pairwise_cons.mp h1).1 x hx, (h2 x (List.mem_cons_of_mem _ hx)).2⟩) (by omega)
      rw [List.length_cons]; omega
  have := key l 0 h2 h3 hk
  omega
set_option maxHeartbeats 4000000 in
theorem ok_Alphabet_init (T : Txt K mg) : FnOk P wo K mg base (L2.CX P wo) 2 T.f_Alphabet_init T.d_Alphabet_init ["self", "places", "letters"] (sp_Alphabet_init T) := by
  have nd := (sc_Alphabet_init).nd
  refine T.F_Alphabet_init.okX sc_Alphabet_init (fun vs H Q E h => (sp_Alphabet_init_len h)) (fun cdv A outer s H vs Q E hr h => ?_)
  obtain ⟨x, n, L, q, ⟨hL, hb⟩, F, w, p, k, kx⟩ := h
  refine ⟨_, (pss_cons (ps_set (i := 3) nd rfl (Or.inl rfl) (pe_callTy (c_tuple (K := K) rfl) (by rfl) T.z_tuple (by decide +kernel) (pa_cons (pe_lc (own := [("row", 4)]) (by rfl) nd (pi_listK (K := K) rfl (pv 2)) (blkOk_by (N := ["self", "places", "letters", "rows", "row"]) (sc := defScope s_Alphabet_init) (own := [("row", 4)]) (by decide +kernel)) (fun _ _ _ _ _ => pg_name (i := 4) nd rfl (by first | exact Or.inl rfl | exact Or.inr rfl)) (fun _ _ _ _ _ => pts_nil) (fun _ _ _ _ _ => (pe_callTy (c_tuple (K := K) rfl) (by rfl) T.z_tuple (by decide +kernel) (pa_cons (pv 4) pa_nil)))) pa_nil)))
    (pss_cons (ps_if (pt_not (pt_chain op_le op_le pe_int (pv 1) (pe_glob (v := .int 4) rfl T.v_MOST_PLACES ⟨_, rfl⟩))) (pss_one (ps_raise rfl (takes_of rfl rfl rfl rfl) (pmk_own PySem.F.excBase_ValueError T.x_InvalidAlphabet T.mc_InvalidAlphabet T.k_InvalidAlphabet (raises_own T.b_InvalidAlphabet T.t_InvalidAlphabet) (by exact rfl)))) pss_nil)
    (pss_cons (ps_if (pt_not (pt_chain op_le op_le pe_int (pe_callB (c_len (K := K) rfl) (by rfl) T.z_len PySem.boot_len (pa_cons (pv 3) pa_nil)) (pe_glob (v := .int 6) rfl T.v_MOST_LETTERS ⟨_, rfl⟩))) (pss_one (ps_raise rfl (takes_of rfl rfl rfl rfl) (pmk_own PySem.F.excBase_ValueError T.x_InvalidAlphabet T.mc_InvalidAlphabet T.k_InvalidAlphabet (raises_own T.b_InvalidAlphabet T.t_InvalidAlphabet) (by exact rfl)))) pss_nil)
    (pss_cons (ps_for (passes_of rfl) rfl (pi_tupK (K := K) rfl (pv 3)) (pg_name (i := 4) nd rfl (by first | exact Or.inl rfl | exact Or.inr rfl))
     (pss_one (ps_expr (pe_call (ok__check_letter T) (hr.mono (by decide)) rfl T.m__check_letter T.F__check_letter.kp T.b__check_letter .nil (passes_call (E := E) (takes_of rfl rfl rfl rfl) fun _ _ _ _ h => h) (pa_cons (pv 1) (pa_cons (pv 4) pa_nil))))))
    (pss_cons (ps_fld (pv 0) (pv 1) rfl)
    (pss_one (ps_fld (pv 0) (pv 3) rfl))))))), ?_⟩
  refine go_start w p (Γ := [some (Own x), some (D K (.int n)), some (Own q), none, none]) rfl ?_
  show Nx _ _ [(x, MIns T.c_Alphabet 0 []), (q, MLT K L)] _
  have lc := evn_lcO (K := K) (xs := L) (R := fun l => D K (dT l)) (G := fun l => D K (dT l)) (i := 4) (j := 1) (q := q) (M := [(x, MIns T.c_Alphabet 0 []), (q, MLT K L)]) (f := fun _ => true) (Γ := [some (Own x), some (D K (.int n)), some (Own q), none, none]) (tl := tVar 2) (t := tYes) (ev_var (i := 2) rfl) rfl (by omega) (fun _ _ => et_yes) (fun l _ _ => (ev_cb (ea_cons ((ev_var (i := 4) rfl).weak le_dT) ea_nil) rc_tupleT).weak dT_le)
  rw [filter_true] at lc
  refine (q_asg ((ev_cb (ea_cons (ev_newL lc) ea_nil) rc_tupleL).weak Tm_le) ?_)
  show Nx _ [some (Own x), some (D K (.int n)), some (Own q), some (D K (dTT L)), none] _ _
  refine (q_if (et_not (et_test (ev_chain (ev_int (K := K)) (ev_var rfl) rv_b0 (fun _ => (ev_int (K := K))) rv_b0))) (fun hz => ?_) fun hz => go_next ?_)
  · refine go_raise (kx fun A => ?_).any0
    have := A.k1; have := A.k4
    simp at hz
    omega
  have hk : 1 ≤ n ∧ n ≤ 4 := by simp at hz; omega
  have el : ∀ {Γ : Gm} {M : Ms}, Γ[3]? = some (some (D K (dTT L))) → Ev (tCB (rLn K) (tCons (tVar 3) tNil)) Γ M (D K (.int L.length)) M := fun e => ev_lenMT (f := dT) (ev_var e)
  dsimp only
  refine (q_if (et_not (et_test (ev_chain (ev_int (K := K)) (el rfl) rv_b0 (fun _ => (ev_int (K := K))) rv_b0))) (fun hz => ?_) fun hz => go_next ?_)
  · refine go_raise (kx fun A => ?_).any0
    have := A.l1; have := A.l6
    simp at hz
    omega
  have hLl : 1 ≤ L.length ∧ L.length ≤ 6 := by simp at hz; omega
  refine (q_forT ((ev_var rfl).weak le_Tm) (fun i Γ M => ∃ g4 : Option MP, Γ = [some (Own x), some (D K (.int n)), some (Own q), some (D K (dTT L)), g4] ∧ M = [(x, MIns T.c_Alphabet 0 []), (q, MLT K L)] ∧ ∀ l ∈ L.take i, LOk n l) ⟨none, rfl, rfl, fun l hl => by simp at hl⟩ ?_ ?_)
  · rintro E' hE i P hP _ _ ⟨g4, rfl, rfl, hp⟩
    rw [List.getElem?_map] at hP
    obtain ⟨l, hx, rfl⟩ := Option.map_eq_some_iff.mp hP
    have hm := List.mem_of_getElem? hx
    dsimp only [List.set]
    letI := Classical.propDecidable (LOk n l)
    refine q_callB (ok := decide (LOk n l)) (Cx := T.c_InvalidAlphabet) (ps := [D K (.int n), D K (dT l)]) (P := D K .none) (ea_cons (ev_var (i := 1) rfl) (ea_cons (ev_var (i := 4) rfl) ea_nil)) (fun vs H Q X ⟨F, w, p, r1, r2⟩ => ⟨n, l, hb l hm, F, w, p, fun h => r1 (decide_eq_true h), fun h => r2 (decide_eq_false h)⟩) (fun ok => ?_) fun no => ?_
    · have ok := of_decide_eq_true ok
      refine JA.of ⟨_, rfl, rfl, fun y hy => ?_⟩
      rw [List.take_add_one, hx] at hy
      rcases List.mem_append.mp hy with hy | hy
      · exact hp y hy
      · have : y = l := by simpa using hy
        rw [this]; exact ok
    · have no := of_decide_eq_false no
      exact RtE.le hE (kx fun A => no (A.ok l hm)).any0
  · rintro _ _ ⟨g4, rfl, rfl, hp⟩
    rw [List.length_map, List.take_length] at hp
    have A : AlphaOk n L := alpha_iff.mpr ⟨hk, hLl, hp⟩
    refine (q_fld (j := 0) (n := 0) (fps := []) (ev_var rfl) (ev_var rfl) rfl (by decide) (fun _ h => by cases h) T.cl_Alphabet T.na_Alphabet_places ?_)
    refine go_fld (j := 0) (n := 1) (ev_var rfl) (ev_var rfl) rfl (by decide) (fun g h => by rw [List.mem_singleton.mp h]; show ("places" : Str) ≠ "letters"; decide +kernel) T.cl_Alphabet T.na_Alphabet_letters ?_
    exact fun σ H' ⟨F', a, b⟩ => k A .non F' H' a .non
theorem use_AlphabetO {T : Txt K mg} {tr : TA} {Γ : Gm} {M M1 : Ms} {k : Int} {L : List (List Int)} {q : Addr} {j : Nat} {X : XK} (h : EvA tr Γ M [D K (.int k), Own q] M1) (e : M1[j]? = some (q, MLT K L)) (hb : L.length ≤ 1000 ∧ ∀ l ∈ L, l.length ≤ 1000) (ok : AlphaOk k L) : Ev (tMake T.c_Alphabet (sp_Alphabet_init T) [] X tr) Γ M (PAl T k L) M1 :=
  (ev_fr (make1 h e fun x vs H Q ⟨F, w, p, r⟩ => ⟨x, k, L, q, hb, F, w, p, fun _ => r, fun c => absurd ok c⟩)).weak fr_Ins
end
end My
namespace My
open PySem L2 Hq
local macro_rules | `(tactic| trivial) => `(tactic| omega)
section
variable {P : Program} {wo : World} {K : PySem.W.Frag} {mg : Str → Option Value} {base : Heap}
/-! ### _law_alphabet -/
theorem sc__law_alphabet : FnScope ["draws", "places", "most", "count", "letters", "k", "size", "there", "j"] ["draws", "places", "most"] (defScope s__law_alphabet) := ⟨rfl, rfl, rfl, by decide +kernel, rfl, by decide +kernel, by decide +kernel⟩
abbrev PAb (K : PySem.W.Frag) (p m : Int) : MP := PEx fun x : Int × Lets => PAn (AlphaOk x.1 x.2 ∧ x.1 ≤ p ∧ (x.2.length : Int) ≤ m) (D K (.tuple [.int x.1, dLT x.2]))
def sp__law_alphabet (T : Txt K mg) : Sp := fun vs H Q _ => ∃ (d : Addr) (p m : Int), (0 < p ∧ p ≤ 4 ∧ 0 < m ∧ m ≤ 6) ∧ Prom [Own d, D K (.int p), D K (.int m)] [(d, MDr K)] (PAb K p m) [(d, MDr K)] vs H Q
theorem sp__law_alphabet_len {T : Txt K mg} {vs H Q E} (h : sp__law_alphabet T vs H Q E) : vs.length = 3 := by obtain ⟨_, _, _, _, h⟩ := h; exact h.len
theorem sorted_ok {c : Int} {ns xs : List Int} (h : ns.Pairwise (· < ·) ∧ ∀ k, k ∈ ns ↔ k ∈ xs) (hx : ∀ x ∈ xs, 0 ≤ x ∧ x < c) (h0 : 0 < xs.length) : ns ≠ [] ∧ ns.Pairwise (· < ·) ∧ ∀ x ∈ ns, 0 ≤ x ∧ x < c := by
  refine ⟨fun e => ?_, h.1, fun x hx2 => hx x ((h.2 x).mp hx2)⟩
  subst e
  obtain ⟨y, ys, e⟩ := List.exists_cons_of_length_pos h0
  have := (h.2 y).mpr (by rw [e]; exact List.mem_cons_self)
  cases this
set_option maxHeartbeats 4000000 in
theorem ok__law_alphabet (T : Txt K mg) : FnOk P wo K mg base CX0 2 T.f__law_alphabet T.d__law_alphabet ["draws", "places", "most"] (sp__law_alphabet T) := by
  have nd := (sc__law_alphabet).nd
  refine T.F__law_alphabet.ok sc__law_alphabet (fun vs H Q E h => (sp__law_alphabet_len h)) (fun cdv A outer s H vs Q E hr h => ?_)
  obtain ⟨d, p, m, ⟨p0, p4, m0, m6⟩, F, w, ps, k⟩ := h
  refine ⟨_, (pss_cons (ps_set (i := 3) nd rfl (Or.inr rfl) (pe_op op_add pe_int (pe_call (ok__law_take T) (hr.mono (by decide)) rfl T.m__law_take T.F__law_take.kp T.b__law_take .nil pass0 (pa_cons (pv 0) (pa_cons (pv 1) pa_nil)))))
    (pss_cons (ps_set (i := 4) nd rfl (Or.inl rfl) (pe_lst pa_nil))
    (pss_cons (ps_for PassesOwn.never rfl (pi_range1 (by rfl) T.z_range (pa_cons (pe_op op_add pe_int (pe_call (ok__law_take T) (hr.mono (by decide)) rfl T.m__law_take T.F__law_take.kp T.b__law_take .nil pass0 (pa_cons (pv 0) (pa_cons (pv 2) pa_nil)))) pa_nil)) (pg_name (i := 5) nd rfl (by first | exact Or.inl rfl | exact Or.inr rfl))
     (pss_cons (ps_set (i := 6) nd rfl (Or.inl rfl) (pe_ix (c_ix (K := K) rfl) (pe_lst (pa_cons pe_int (pa_cons pe_int (pa_cons pe_int (pa_cons pe_int (pa_cons pe_int (pa_cons pe_int pa_nil))))))) (pe_call (ok__law_take T) (hr.mono (by decide)) rfl T.m__law_take T.F__law_take.kp T.b__law_take .nil pass0 (pa_cons (pv 0) (pa_cons pe_int pa_nil))) (fun _ _ => rfl)))
     (pss_cons (ps_setLc (i := 7) (own := [("j", 8)]) (by rfl) nd rfl rfl (sw_true rfl rfl rfl (by decide +kernel)) (pi_range1 (by rfl) T.z_range (pa_cons (pv 6) pa_nil)) (blkOk_by (N := ["draws", "places", "most", "count", "letters", "k", "size", "there", "j"]) (sc := defScope s__law_alphabet) (own := [("j", 8)]) (by decide +kernel)) (fun _ _ _ _ _ => pg_name (i := 8) nd rfl (by first | exact Or.inl rfl | exact Or.inr rfl)) (fun _ _ _ _ _ => pts_nil) (fun _ _ _ _ _ => (pe_call (ok__law_take T) (hr.mono (by decide)) rfl T.m__law_take T.F__law_take.kp T.b__law_take .nil pass0 (pa_cons (pv 0) (pa_cons (pv 3) pa_nil)))))
     (pss_one (ps_expr (pe_bm PySem.F.plainAttrs_list PySem.F.slot_list_append PySem.F.type_list_append mt_append (pv 4) (pa_cons (pe_callTy (c_tuple (K := K) rfl) (by rfl) T.z_tuple (by decide +kernel) (pa_cons (pe_callB (c_sortedSet (w := wo) rfl rfl) (by rfl) T.z_sorted (by decide +kernel) (pa_cons (pe_callTy (c_set (K := K) (w := wo) rfl rfl rfl) (by rfl) T.z_set (by decide +kernel) (pa_cons (pv 7) pa_nil)) pa_nil)) pa_nil)) pa_nil)))))))
    (pss_one (ps_ret (pe_tup (pa_cons (pv 3) (pa_cons (pv 4) pa_nil)))))))), ?_⟩
  refine go_start w ps (Γ := [some (Own d), some (D K (.int p)), some (D K (.int m)), none, none, none, none, none, none]) rfl ?_
  refine (q_asg (ev_op (ev_int (K := K)) (use__law_take (ea_cons (ev_var rfl) (ea_cons (ev_var rfl) ea_nil)) p0 (j := 0) rfl) rv_addIn) (nx_ex (i := 3) rfl fun c => nx_an (i := 3) rfl fun hc => ?_))
  show Nx _ [some (Own d), some (D K (.int p)), some (D K (.int m)), some (D K (.int c)), none, none, none, none, none] _ _
  refine (q_asgN (evn_lst ea_nil (by decide)) fun l hl => ?_)
  refine (q_forRX (φ := fun z => 1 + 0 ≤ z ∧ z < 1 + m) (ev_op (ev_int (K := K)) (use__law_take (ea_cons (ev_var rfl) (ea_cons (ev_var rfl) ea_nil)) m0 (j := 1) rfl) rv_addIn) fun z hz tr' htr => ?_)
  refine (q_forR htr (by omega) (by omega) (fun n Γ M => ∃ (ls : Lets) (g5 g6 g7 g8 : Option MP), Γ = [some (Own d), some (D K (.int p)), some (D K (.int m)), some (D K (.int c)), some (Own l), g5, g6, g7, g8] ∧
    M = [(l, ML (ls.map fun x => D K (dT x))), (d, MDr K)] ∧ ls.length = n ∧ ∀ x ∈ ls, x ≠ [] ∧ x.Pairwise (· < ·) ∧ ∀ y ∈ x, 0 ≤ y ∧ y < c) ⟨[], none, none, none, none, rfl, rfl, rfl, fun _ h => by cases h⟩ ?_ ?_)
  · rintro n hn _ _ ⟨ls, g5, g6, g7, g8, rfl, rfl, hls, hok⟩
    show Nx _ [some (Own d), some (D K (.int p)), some (D K (.int m)), some (D K (.int c)), some (Own l), some (D K (.int n)), g6, g7, g8] _ _
    have pick : RV (rIx K) (PLi K [D K (.int 1), D K (.int 1), D K (.int 1), D K (.int 2), D K (.int 2), D K (.int 3)]) (PIn K 0 6) [(l, ML (ls.map fun x => D K (dT x))), (d, MDr K)] (PIn K 1 4) [(l, ML (ls.map fun x => D K (dT x))), (d, MDr K)] := RV.ex2 fun x => RV.an2 fun hx => by
      have : x = 0 ∨ x = 1 ∨ x = 2 ∨ x = 3 ∨ x = 4 ∨ x = 5 := by omega
      rcases this with rfl | rfl | rfl | rfl | rfl | rfl <;> exact (rv_ixL (by decide) rfl).weak (pin_le (by decide))
    refine (q_asg (ev_op (ev_newL (evn_lst (ea_cons (ev_int (K := K)) (ea_cons (ev_int (K := K)) (ea_cons (ev_int (K := K)) (ea_cons (ev_int (K := K)) (ea_cons (ev_int (K := K)) (ea_cons (ev_int (K := K)) ea_nil)))))) (by simp))) (use__law_take (ea_cons (ev_var rfl) (ea_cons (ev_int (K := K)) ea_nil)) (by decide) (j := 1) rfl) pick) (nx_ex (i := 6) rfl fun sz => nx_an (i := 6) rfl fun hsz => ?_))
    show Nx _ [some (Own d), some (D K (.int p)), some (D K (.int m)), some (D K (.int c)), some (Own l), some (D K (.int n)), some (D K (.int sz)), g7, g8] _ _
    have lc := evn_lcR (K := K) (z := sz) (i := 8) (G := fun _ => PIn K 0 c) (M := [(l, ML (ls.map fun x => D K (dT x))), (d, MDr K)]) (M1 := [(l, ML (ls.map fun x => D K (dT x))), (d, MDr K)]) (Γ := [some (Own d), some (D K (.int p)), some (D K (.int m)), some (D K (.int c)), some (Own l), some (D K (.int n)), some (D K (.int sz)), g7, g8]) (fun _ => true) (ea_cons (ev_var (i := 6) rfl) ea_nil) (by omega) (fun _ _ => et_yes)
      (fun _ _ _ => use__law_take (T := T) (X := E0) (ea_cons (ev_var (i := 0) rfl) (ea_cons (ev_var (i := 3) rfl) ea_nil)) (by omega) (j := 1) rfl)
    rw [filter_true, map_const, List.length_range] at lc
    refine (q_asgN (lc.weak ml_name) fun q hq => nx_exM (j := 0) rfl fun xs => nx_anM (j := 0) rfl fun hxs => ?_)
    show Nx _ [some (Own d), some (D K (.int p)), some (D K (.int m)), some (D K (.int c)), some (Own l), some (D K (.int n)), some (D K (.int sz)), some (Own q), g8] [(q, MInts K xs), (l, ML (ls.map fun x => D K (dT x))), (d, MDr K)] _
    refine go_app (j := 1) (ev_var rfl) (ev_tupOf (evn_sortedSet (ev_var (i := 7) rfl) (own_ints (j := 0) rfl) (by omega))) rfl rfl (by rw [List.length_map]; omega) (nx_lastM (j := 1) rfl fun ns hns => ?_)
    refine nx_drop (List.sublist_cons_self _ _) (JA.of ⟨ls ++ [ns], _, _, _, _, rfl, by simp, by rw [List.length_append, hls]; rfl, fun x hx => ?_⟩)
    rcases List.mem_append.mp hx with hx | hx
    · exact hok x hx
    · rw [List.mem_singleton.mp hx]
      exact sorted_ok hns (fun x hx => hxs.2 x hx) (by omega)
  · rintro _ _ ⟨ls, g5, g6, g7, g8, rfl, rfl, hls, hok⟩
    refine nx_freeze (K := K) (i := 4) 0 rfl hl rfl ?_
    show Nx _ [some (Own d), some (D K (.int p)), some (D K (.int m)), some (D K (.int c)), some (PLi K (ls.map fun x => D K (dT x))), g5, g6, g7, g8] [(d, MDr K)] _
    refine go_ret Le.refl (ev_tup (K := K) (ea_cons (ev_var (i := 3) rfl) (ea_cons (ev_var (i := 4) rfl) ea_nil)) (by simp)) (Rt.weak (MP.le_trans ?_ (MP.le_trans (PAn.in (φ := AlphaOk c ls ∧ c ≤ p ∧ (ls.length : Int) ≤ m) ⟨⟨by omega, by omega, by omega, by omega, hok⟩, by omega, by omega⟩) (PEx.in (R := fun x : Int × Lets => PAn (AlphaOk x.1 x.2 ∧ x.1 ≤ p ∧ (x.2.length : Int) ≤ m) (D K (.tuple [.int x.1, dLT x.2]))) (c, ls)))) k)
    rintro F v ⟨a, vs, e, s, h⟩
    obtain ⟨x, y, rfl, hx, hy⟩ := ps2 h
    subst e
    exact .tup s (.cons hx (.cons (Lm_le _ _ hy) .nil))
theorem use__law_alphabet {T : Txt K mg} {tr : TA} {Γ : Gm} {M M1 : Ms} {d : Addr} {p m : Int} {j : Nat} {X : XK} (h : EvA tr Γ M [Own d, D K (.int p), D K (.int m)] M1) (hn : 0 < p ∧ p ≤ 4 ∧ 0 < m ∧ m ≤ 6) (e : M1[j]? = some (d, MDr K)) : Ev (tCall (sp__law_alphabet T) [] X tr) Γ M (PAb K p m) M1 :=
  call1 h e fun vs H Q z => ⟨d, p, m, hn, z⟩
end
end My
namespace My
open PySem L2 Hq
local macro_rules | `(tactic| trivial) => `(tactic| omega)
section
variable {P : Program} {wo : World} {K : PySem.W.Frag} {mg : Str → Option Value} {base : Heap}
/-! ### _check_states -/
theorem sc__check_states : FnScope ["many", "states", "state"] ["many", "states"] (defScope s__check_states) := ⟨rfl, rfl, rfl, by decide +kernel, rfl, by decide +kernel, by decide +kernel⟩
def StOk (k : Int) (l : List Int) : Prop := ∀ x ∈ l, 0 ≤ x ∧ x < k
def sp__check_states (T : Txt K mg) : Sp := fun vs H Q X => ∃ (k : Int) (l : List Int), ∃ F, Wd F [] H ∧ Ps F vs [D K (.int k), D K (dL l)] ∧ (StOk k l → Rt ⟨F, H, keys []⟩ [] (D K .none) Q) ∧ (¬ StOk k l → RtE ⟨F, H, keys []⟩ [] T.c_InvalidAutomaton X)
theorem sp__check_states_len {T : Txt K mg} {vs H Q E} (h : sp__check_states T vs H Q E) : vs.length = 2 := by obtain ⟨_, _, F, _, p, _⟩ := h; exact paired_len p
theorem qs_callB {E : Ent} {M M1 : Ms} {Γ : Gm} {P : MP} {Cx : Addr} {tr : TA} {D1 : Ends} {tz : TS} {ps : List MP} {X : XK} {sp : Sp} {ok : Bool} (h : EvA tr Γ M ps M1) (hs : ∀ vs H Q X, (∃ F, Wd F [] H ∧ Ps F vs ps ∧ (ok = true → Rt ⟨F, H, keys []⟩ [] P Q) ∧ (ok = false → RtE ⟨F, H, keys []⟩ [] Cx X)) → sp vs H Q X)
    (k1 : ok = true → Nx E Γ M1 (tz D1)) (k2 : ok = false → RtE E M1 Cx X) : Nx E Γ M (tSeq (tDrop (tCall sp [] X tr)) tz D1) := q_callB (D1 := { D1 with nx := tz D1 }) h hs k1 k2
set_option maxHeartbeats 4000000 in
theorem ok__check_states (T : Txt K mg) : FnOk P wo K mg base (L2.CX P wo) 1 T.f__check_states T.d__check_states ["many", "states"] (sp__check_states T) := by
  have nd := (sc__check_states).nd
  refine T.F__check_states.okX sc__check_states (fun vs H Q E h => (sp__check_states_len h)) (fun cdv A outer s H vs Q E hr h => ?_)
  obtain ⟨n, l, F, w, p, k, kx⟩ := h
  refine ⟨_, (pss_one (ps_for (passes_of rfl) rfl (pi_listK (K := K) rfl (pv 1)) (pg_name (i := 2) nd rfl (by first | exact Or.inl rfl | exact Or.inr rfl))
     (pss_one (ps_if (pt_not (pt_chain op_le op_lt pe_int (pv 2) (pv 0))) (pss_one (ps_raise rfl (takes_of rfl rfl rfl rfl) (pmk_own PySem.F.excBase_ValueError T.x_InvalidAutomaton T.mc_InvalidAutomaton T.k_InvalidAutomaton (raises_own T.b_InvalidAutomaton T.t_InvalidAutomaton) (by exact rfl)))) pss_nil)))), ?_⟩
  refine go_start w p (Γ := [some (D K (.int n)), some (D K (dL l)), none]) rfl ?_
  refine (go_forL ((ev_var (i := 1) rfl).weak le_dL) (fun i Γ M => ∃ g2 : Option MP, Γ = [some (D K (.int n)), some (D K (dL l)), g2] ∧ M = [] ∧ ∀ x ∈ l.take i, 0 ≤ x ∧ x < n) ⟨none, rfl, rfl, fun x hx => by simp at hx⟩ ?_ ?_)
  · rintro E' hE i P hP _ _ ⟨g2, rfl, rfl, hp⟩
    rw [List.getElem?_map] at hP
    obtain ⟨x, hx, rfl⟩ := Option.map_eq_some_iff.mp hP
    refine go_if (et_not (et_test (ev_chain (ev_int (K := K)) (ev_var rfl) rv_b0 (fun _ => (ev_var rfl)) rv_b0))) (fun hz => go_raise (RtE.le hE (kx fun L => ?_))) fun hz => go_next (JA.of ⟨_, rfl, rfl, fun y hy => ?_⟩)
    · have := L x (List.mem_of_getElem? hx)
      simp at hz
      omega
    · rw [List.take_add_one, hx] at hy
      rcases List.mem_append.mp hy with hy | hy
      · exact hp y hy
      · have : y = x := by simpa using hy
        subst this
        simp at hz
        omega
  · rintro _ _ ⟨g2, rfl, rfl, hp⟩
    rw [List.length_map, List.take_length] at hp
    exact fun σ H' ⟨F', a, b⟩ => k hp .non F' H' a .non
end
end My
namespace My
open PySem L2 Hq
local macro_rules | `(tactic| trivial) => `(tactic| omega)
section
variable {P : Program} {wo : World} {K : PySem.W.Frag} {mg : Str → Option Value} {base : Heap}
/-! ### Automaton.__init__ -/
theorem sc_Automaton_init : FnScope ["self", "letters", "start", "finals", "rows", "index", "row"] ["self", "letters", "start", "finals", "rows"] (defScope s_Automaton_init) := ⟨rfl, rfl, rfl, by decide +kernel, rfl, by decide +kernel, by decide +kernel⟩
abbrev dLL (R : List (List Int)) : PyData := .list (R.map dL)
abbrev auF (K : PySem.W.Frag) (A : Au) : List (Str × MP) := [("rows", D K (dTT A.R)), ("finals", D K (dT A.F)), ("start", D K (.int A.s)), ("letters", D K (.int (A.L : Int)))]
/-- an automaton that stands -/
abbrev PAu (T : Txt K mg) (A : Au) : MP := PIns T.c_Automaton (auF K A)
abbrev auOf (n s : Int) (F : List Int) (R : List (List Int)) : Au := ⟨n.toNat, s, F, R⟩
def sp_Automaton_init (T : Txt K mg) : Sp := fun vs H Q X => ∃ (x : Addr) (n s : Int) (Fs : List Int) (R : List (List Int)), (Fs.length ≤ 1000 ∧ R.length ≤ 1000 ∧ ∀ r ∈ R, r.length ≤ 1000) ∧ ∃ F, Wd F [(x, MIns T.c_Automaton 0 [])] H ∧ Ps F vs [Own x, D K (.int n), D K (.int s), D K (dL Fs), D K (dLL R)] ∧
  ((auOf n s Fs R).Ok → Rt ⟨F, H, keys [(x, MIns T.c_Automaton 0 [])]⟩ [(x, MIns T.c_Automaton 4 (auF K (auOf n s Fs R)))] (D K .none) Q) ∧
  (¬ (auOf n s Fs R).Ok → RtE ⟨F, H, keys [(x, MIns T.c_Automaton 0 [])]⟩ [(x, MAny)] T.c_InvalidAutomaton X)
theorem sp_Automaton_init_len {T : Txt K mg} {vs H Q E} (h : sp_Automaton_init T vs H Q E) : vs.length = 5 := by obtain ⟨_, _, _, _, _, _, F, _, p, _⟩ := h; exact paired_len p
theorem pw_adj {l : List Int} (h : ∀ j, ∀ h : j + 1 < l.length, l[j] < l[j + 1]) : l.Pairwise (· < ·) := by
  have key : ∀ (d i : Nat) (h : i + d + 1 < l.length), l[i] < l[i + d + 1] := by
    intro d
    induction d with
    | zero => intro i hi; exact h i hi
    | succ d ih =>
      intro i hi
      exact Int.lt_trans (ih i (by omega)) (h (i + d + 1) (by omega))
  rw [List.pairwise_iff_getElem]
  intro i j hi hj hij
  have := key (j - i - 1) i (by omega)
  have e : i + (j - i - 1) + 1 = j := by omega
  simp only [e] at this
  exact this
set_option maxHeartbeats 4000000 in
theorem ok_Automaton_init (T : Txt K mg) : FnOk P wo K mg base (L2.CX P wo) 2 T.f_Automaton_init T.d_Automaton_init ["self", "letters", "start", "finals", "rows"] (sp_Automaton_init T) := by
  have nd := (sc_Automaton_init).nd
  refine T.F_Automaton_init.okX sc_Automaton_init (fun vs H Q E h => (sp_Automaton_init_len h)) (fun cdv A outer s H vs Q E hr h => ?_)
  obtain ⟨x, n, s, Fs, R, ⟨hF, hR, hrr⟩, F, w, p, k, kx⟩ := h
  refine ⟨_, (pss_cons (ps_if (pt_cmpR op_lt (pv 1) pe_int (nomark _)) (pss_one (ps_raise rfl (takes_of rfl rfl rfl rfl) (pmk_own PySem.F.excBase_ValueError T.x_InvalidAutomaton T.mc_InvalidAutomaton T.k_InvalidAutomaton (raises_own T.b_InvalidAutomaton T.t_InvalidAutomaton) (by exact rfl)))) pss_nil)
    (pss_cons (ps_if (pt_cmpR op_eq (pe_callB (c_len (K := K) rfl) (by rfl) T.z_len PySem.boot_len (pa_cons (pv 4) pa_nil)) pe_int (nomark _)) (pss_one (ps_raise rfl (takes_of rfl rfl rfl rfl) (pmk_own PySem.F.excBase_ValueError T.x_InvalidAutomaton T.mc_InvalidAutomaton T.k_InvalidAutomaton (raises_own T.b_InvalidAutomaton T.t_InvalidAutomaton) (by exact rfl)))) pss_nil)
    (pss_cons (ps_expr (pe_call (ok__check_states T) (hr.mono (by decide)) rfl T.m__check_states T.F__check_states.kp T.b__check_states .nil (passes_call (E := E) (takes_of rfl rfl rfl rfl) fun _ _ _ _ h => h) (pa_cons (pe_callB (c_len (K := K) rfl) (by rfl) T.z_len PySem.boot_len (pa_cons (pv 4) pa_nil)) (pa_cons (pe_lst (pa_cons (pv 2) pa_nil)) pa_nil))))
    (pss_cons (ps_expr (pe_call (ok__check_states T) (hr.mono (by decide)) rfl T.m__check_states T.F__check_states.kp T.b__check_states .nil (passes_call (E := E) (takes_of rfl rfl rfl rfl) fun _ _ _ _ h => h) (pa_cons (pe_callB (c_len (K := K) rfl) (by rfl) T.z_len PySem.boot_len (pa_cons (pv 4) pa_nil)) (pa_cons (pv 3) pa_nil))))
    (pss_cons (ps_for (passes_of rfl) rfl (pi_range2 (by rfl) T.z_range (pa_cons pe_int (pa_cons (pe_callB (c_len (K := K) rfl) (by rfl) T.z_len PySem.boot_len (pa_cons (pv 3) pa_nil)) pa_nil))) (pg_name (i := 5) nd rfl (by first | exact Or.inl rfl | exact Or.inr rfl))
     (pss_one (ps_if (pt_cmpR op_ge (pe_ix (c_ix (K := K) rfl) (pv 3) (pe_op op_sub (pv 5) pe_int) (fun _ _ => rfl)) (pe_ix (c_ix (K := K) rfl) (pv 3) (pv 5) (fun _ _ => rfl)) (nomark _)) (pss_one (ps_raise rfl (takes_of rfl rfl rfl rfl) (pmk_own PySem.F.excBase_ValueError T.x_InvalidAutomaton T.mc_InvalidAutomaton T.k_InvalidAutomaton (raises_own T.b_InvalidAutomaton T.t_InvalidAutomaton) (by exact rfl)))) pss_nil)))
    (pss_cons (ps_for (passes_of rfl) rfl (pi_listK (K := K) rfl (pv 4)) (pg_name (i := 6) nd rfl (by first | exact Or.inl rfl | exact Or.inr rfl))
     (pss_cons (ps_if (pt_cmpR op_ne (pe_callB (c_len (K := K) rfl) (by rfl) T.z_len PySem.boot_len (pa_cons (pv 6) pa_nil)) (pv 1) (nomark _)) (pss_one (ps_raise rfl (takes_of rfl rfl rfl rfl) (pmk_own PySem.F.excBase_ValueError T.x_InvalidAutomaton T.mc_InvalidAutomaton T.k_InvalidAutomaton (raises_own T.b_InvalidAutomaton T.t_InvalidAutomaton) (by exact rfl)))) pss_nil)
     (pss_one (ps_expr (pe_call (ok__check_states T) (hr.mono (by decide)) rfl T.m__check_states T.F__check_states.kp T.b__check_states .nil (passes_call (E := E) (takes_of rfl rfl rfl rfl) fun _ _ _ _ h => h) (pa_cons (pe_callB (c_len (K := K) rfl) (by rfl) T.z_len PySem.boot_len (pa_cons (pv 4) pa_nil)) (pa_cons (pv 6) pa_nil)))))))
    (pss_cons (ps_fld (pv 0) (pv 1) rfl)
    (pss_cons (ps_fld (pv 0) (pv 2) rfl)
    (pss_cons (ps_fld (pv 0) (pe_callTy (c_tuple (K := K) rfl) (by rfl) T.z_tuple (by decide +kernel) (pa_cons (pv 3) pa_nil)) rfl)
    (pss_one (ps_fld (pv 0) (pe_callTy (c_tuple (K := K) rfl) (by rfl) T.z_tuple (by decide +kernel) (pa_cons (pe_lc (own := [("row", 6)]) (by rfl) nd (pi_listK (K := K) rfl (pv 4)) (blkOk_by (N := ["self", "letters", "start", "finals", "rows", "index", "row"]) (sc := defScope s_Automaton_init) (own := [("row", 6)]) (by decide +kernel)) (fun _ _ _ _ _ => pg_name (i := 6) nd rfl (by first | exact Or.inl rfl | exact Or.inr rfl)) (fun _ _ _ _ _ => pts_nil) (fun _ _ _ _ _ => (pe_callTy (c_tuple (K := K) rfl) (by rfl) T.z_tuple (by decide +kernel) (pa_cons (pv 6) pa_nil)))) pa_nil)) rfl))))))))))), ?_⟩
  refine go_start w p (Γ := [some (Own x), some (D K (.int n)), some (D K (.int s)), some (D K (dL Fs)), some (D K (dLL R)), none, none]) rfl ?_
  show Nx _ _ [(x, MIns T.c_Automaton 0 [])] _
  have elr : ∀ {Γ : Gm} {M : Ms}, Γ[4]? = some (some (D K (dLL R))) → Ev (tCB (rLn K) (tCons (tVar 4) tNil)) Γ M (D K (.int R.length)) M := fun e => ev_lenM (f := dL) (ev_var e)
  refine (q_if (et_test (ev_op (ev_var (i := 1) rfl) (ev_int (i := 1)) rv_b0)) (fun hz => ?_) fun hz => go_next ?_)
  · refine go_raise (kx fun A => ?_).any0
    have := A.L1
    have : 1 ≤ n.toNat := this
    simp at hz
    omega
  have hn : 1 ≤ n := by simp at hz; omega
  dsimp only
  refine (q_if (et_test (ev_op (elr rfl) (ev_int (i := 0)) rv_eqI)) (fun hz => ?_) fun hz => go_next ?_)
  · refine go_raise (kx fun A => ?_).any0
    obtain ⟨h1, h2⟩ := A.s
    have h2 : s < (R.length : Int) := h2
    have h1 : 0 ≤ s := h1
    simp at hz
    rw [hz] at h2
    simp at h2
    omega
  dsimp only
  letI : ∀ k l, Decidable (StOk k l) := fun _ _ => Classical.propDecidable _
  refine qs_callB (ok := decide (StOk R.length [s])) (Cx := T.c_InvalidAutomaton) (ps := [D K (.int R.length), D K (dL [s])]) (P := D K .none) (ea_cons (elr rfl) (ea_cons ((ev_newL (K := K) (evn_lst (ps := [D K (.int s)]) (ea_cons (ev_var (i := 2) rfl) ea_nil) (by simp))).weak (dL_le (l := [s]))) ea_nil)) (fun vs H Q X ⟨F, w, p, r1, r2⟩ => ⟨R.length, [s], F, w, p, fun h => r1 (decide_eq_true h), fun h => r2 (decide_eq_false h)⟩) (fun ok => ?_) fun no => ?_
  case refine_2 => exact (kx fun A => of_decide_eq_false no fun x hx => by rw [List.mem_singleton.mp hx]; exact A.s).any0
  have ok1 : 0 ≤ s ∧ s < (R.length : Int) := of_decide_eq_true ok s (by simp)
  refine qs_callB (ok := decide (StOk R.length Fs)) (Cx := T.c_InvalidAutomaton) (ps := [D K (.int R.length), D K (dL Fs)]) (P := D K .none) (ea_cons (elr rfl) (ea_cons (ev_var (i := 3) rfl) ea_nil)) (fun vs H Q X ⟨F, w, p, r1, r2⟩ => ⟨R.length, Fs, F, w, p, fun h => r1 (decide_eq_true h), fun h => r2 (decide_eq_false h)⟩) (fun ok => ?_) fun no => ?_
  case refine_2 => exact (kx fun A => of_decide_eq_false no fun x hx => A.F x hx).any0
  have ok2 : StOk R.length Fs := of_decide_eq_true ok
  refine (q_forR2 (lo := 1) (z := (Fs.length : Int)) (ea_cons (ev_int (i := 1)) (ea_cons (ev_lenM (f := PyData.int) (ev_var (i := 3) rfl)) ea_nil)) (by omega) (fun i Γ M => ∃ g5 : Option MP, Γ = [some (Own x), some (D K (.int n)), some (D K (.int s)), some (D K (dL Fs)), some (D K (dLL R)), g5, none] ∧ M = [(x, MIns T.c_Automaton 0 [])] ∧ ∀ j, j < i → ∀ h : j + 1 < Fs.length, Fs[j] < Fs[j + 1]) ⟨none, rfl, rfl, fun j hj => absurd hj (Nat.not_lt_zero _)⟩ ?_ ?_)
  · rintro i hi _ _ ⟨g5, rfl, rfl, hq⟩
    have a1 : i + 1 < Fs.length := by omega
    have e1 : (Fs.map PyData.int)[((1 + (i : Int)) - 1).toNat]? = some (.int Fs[i]) := by
      rw [show ((1 + (i : Int)) - 1).toNat = i by omega, List.getElem?_map, List.getElem?_eq_getElem (by omega)]; rfl
    have e2 : (Fs.map PyData.int)[(1 + (i : Int)).toNat]? = some (.int Fs[i + 1]) := by
      rw [show (1 + (i : Int)).toNat = i + 1 by omega, List.getElem?_map, List.getElem?_eq_getElem a1]; rfl
    refine go_if (et_test (ev_op (ev_op (ev_var (i := 3) rfl) (ev_op (ev_var (i := 5) rfl) (ev_int (i := 1)) rv_i0) (rv_ixDL (by omega) e1)) (ev_op (ev_var (i := 3) rfl) (ev_var (i := 5) rfl) (rv_ixDL (by omega) e2)) rv_b0)) (fun hz => go_raise (kx fun A => ?_).any0) fun hz => go_next (JA.of ⟨_, rfl, rfl, fun j hj h => ?_⟩)
    · have lt : Fs[i] < Fs[i + 1] := List.pairwise_iff_getElem.mp A.up i (i + 1) (by show i < Fs.length; omega) a1 (by omega)
      simp at hz
      omega
    · rcases Nat.lt_succ_iff_lt_or_eq.mp hj with hj | rfl
      · exact hq j hj h
      · simp at hz
        omega
  rintro _ _ ⟨g5, rfl, rfl, hq⟩
  have ok3 : Fs.Pairwise (· < ·) := pw_adj fun j h => hq j (by omega) h
  refine (q_forL ((ev_var (i := 4) rfl).weak (le_Lm (f := dL))) (fun i Γ M => ∃ g6 : Option MP, Γ = [some (Own x), some (D K (.int n)), some (D K (.int s)), some (D K (dL Fs)), some (D K (dLL R)), g5, g6] ∧ M = [(x, MIns T.c_Automaton 0 [])] ∧ ∀ r ∈ R.take i, (r.length : Int) = n ∧ StOk R.length r) ⟨none, rfl, rfl, fun l hl => by simp at hl⟩ ?_ ?_)
  · rintro E' hE i P hP _ _ ⟨g6, rfl, rfl, hp⟩
    rw [List.getElem?_map] at hP
    obtain ⟨r, hx, rfl⟩ := Option.map_eq_some_iff.mp hP
    have hm := List.mem_of_getElem? hx
    dsimp only [List.set]
    refine (q_if (et_test (ev_op (ev_lenM (f := PyData.int) (ev_var (i := 6) rfl)) (ev_var (i := 1) rfl) rv_neI)) (fun hz => ?_) fun hz => go_next ?_)
    · refine go_raise (RtE.le hE (kx fun A => ?_).any0)
      have := (A.R r hm).1
      have : r.length = n.toNat := this
      simp at hz
      omega
    have hl : (r.length : Int) = n := by simpa using hz
    dsimp only
    refine q_callB (ok := decide (StOk R.length r)) (Cx := T.c_InvalidAutomaton) (ps := [D K (.int R.length), D K (dL r)]) (P := D K .none) (ea_cons (elr rfl) (ea_cons (ev_var (i := 6) rfl) ea_nil)) (fun vs H Q X ⟨F, w, p, r1, r2⟩ => ⟨R.length, r, F, w, p, fun h => r1 (decide_eq_true h), fun h => r2 (decide_eq_false h)⟩) (fun ok => ?_) fun no => ?_
    · have ok := of_decide_eq_true ok
      refine JA.of ⟨_, rfl, rfl, fun y hy => ?_⟩
      rw [List.take_add_one, hx] at hy
      rcases List.mem_append.mp hy with hy | hy
      · exact hp y hy
      · have : y = r := by simpa using hy
        rw [this]; exact ⟨hl, ok⟩
    · have no := of_decide_eq_false no
      exact RtE.le hE (kx fun A => no fun x hx => (A.R r hm).2 x hx).any0
  rintro _ _ ⟨g6, rfl, rfl, hp⟩
  rw [List.length_map, List.take_length] at hp
  have A : (auOf n s Fs R).Ok := ⟨by show 1 ≤ n.toNat; omega, ok1, ok2, ok3, fun r h => ⟨by have := (hp r h).1; show r.length = n.toNat; omega, (hp r h).2⟩⟩
  refine (q_fld (j := 0) (n := 0) (fps := []) (P := D K (.int ((auOf n s Fs R).L : Int))) ((ev_var (i := 1) rfl).is (by show D K (.int n) = D K (.int (n.toNat : Int)); rw [Int.toNat_of_nonneg (by omega)])) (ev_var (i := 0) rfl) rfl (by decide) (fun _ h => by cases h) T.cl_Automaton T.na_Automaton_letters ?_)
  refine (q_fld (j := 0) (n := 1) (ev_var (i := 2) rfl) (ev_var (i := 0) rfl) rfl (by decide) (fun g h => by rw [List.mem_singleton.mp h]; show ("letters" : Str) ≠ "start"; decide +kernel) T.cl_Automaton T.na_Automaton_start ?_)
  refine (q_fld (j := 0) (n := 2) (P := D K (dT Fs)) ((ev_cb (ea_cons ((ev_var (i := 3) rfl).weak le_dL) ea_nil) rc_tupleL).weak dT_le) (ev_var (i := 0) rfl) rfl (by decide) (fun g h => by
    rcases List.mem_cons.mp h with rfl | h
    · show ("start" : Str) ≠ "finals"; decide +kernel
    · rw [List.mem_singleton.mp h]; show ("letters" : Str) ≠ "finals"; decide +kernel) T.cl_Automaton T.na_Automaton_finals ?_)
  have lc := evn_lcL (K := K) (xs := R) (R := fun l => D K (dL l)) (G := fun l => D K (dT l)) (i := 6) (M := [(x, MIns T.c_Automaton 3 [("finals", D K (dT Fs)), ("start", D K (.int s)), ("letters", D K (.int ((auOf n s Fs R).L : Int)))])]) (M1 := [(x, MIns T.c_Automaton 3 [("finals", D K (dT Fs)), ("start", D K (.int s)), ("letters", D K (.int ((auOf n s Fs R).L : Int)))])]) (Γ := [some (Own x), some (D K (.int n)), some (D K (.int s)), some (D K (dL Fs)), some (D K (dLL R)), g5, g6]) (fun _ => true) ((ev_var (i := 4) rfl).weak (le_Lm (f := dL))) (by omega) (fun _ _ => et_yes) (fun l _ _ => (ev_cb (ea_cons ((ev_var (i := 6) rfl).weak le_dL) ea_nil) rc_tupleL).weak dT_le)
  rw [filter_true] at lc
  refine go_fld (j := 0) (n := 3) (P := D K (dTT R)) ((ev_cb (ea_cons (ev_newL lc) ea_nil) rc_tupleL).weak (Tm_le (f := dT))) (ev_var (i := 0) rfl) rfl (by decide) (fun g h => by
    rcases List.mem_cons.mp h with rfl | h
    · show ("finals" : Str) ≠ "rows"; decide +kernel
    · rcases List.mem_cons.mp h with rfl | h
      · show ("start" : Str) ≠ "rows"; decide +kernel
      · rw [List.mem_singleton.mp h]; show ("letters" : Str) ≠ "rows"; decide +kernel) T.cl_Automaton T.na_Automaton_rows ?_
  exact fun σ H' ⟨F', a, b⟩ => k A .non F' H' a .non
theorem use_Automaton {T : Txt K mg} {tr : TA} {Γ : Gm} {M M1 : Ms} {A : Au} {X : XK} (h : EvA tr Γ M [D K (.int (A.L : Int)), D K (.int A.s), D K (dL A.F), D K (dLL A.R)] M1) (O : A.Ok) (b : A.F.length ≤ 1000 ∧ A.R.length ≤ 1000 ∧ A.L ≤ 1000) : Ev (tMake T.c_Automaton (sp_Automaton_init T) [] X tr) Γ M (PAu T A) M1 := by
  have e : auOf (A.L : Int) A.s A.F A.R = A := by show Au.mk ((A.L : Int)).toNat A.s A.F A.R = A; rw [Int.toNat_natCast]
  have := (ev_fr (make0 (C := T.c_Automaton) (sp := sp_Automaton_init T) (X := X) (O := MIns T.c_Automaton 4 (auF K (auOf (A.L : Int) A.s A.F A.R))) h fun x vs H Q ⟨F, w, p, r⟩ => ⟨x, (A.L : Int), A.s, A.F, A.R, ⟨b.1, b.2.1, fun r hr => by rw [(O.R r hr).1]; exact b.2.2⟩, F, w, p, fun _ => r, fun c => absurd (by rw [e]; exact O) c⟩)).weak fr_Ins
  rw [e] at this
  exact this
end
end My
namespace My
open PySem L2 Hq
local macro_rules | `(tactic| trivial) => `(tactic| omega)
section
variable {P : Program} {wo : World} {K : PySem.W.Frag} {mg : Str → Option Value} {base : Heap}
/-! ### _law_any_automaton -/
theorem sc__law_any_automaton : FnScope ["draws", "letters", "most", "size", "rows", "finals", "k", "letter"] ["draws", "letters", "most"] (defScope s__law_any_automaton) := ⟨rfl, rfl, rfl, by decide +kernel, rfl, by decide +kernel, by decide +kernel⟩
def sp__law_any_automaton (T : Txt K mg) : Sp := fun vs H Q _ => ∃ (d : Addr) (n m : Int), (1 ≤ n ∧ n ≤ 100 ∧ 1 ≤ m ∧ m ≤ 100) ∧ Prom [Own d, D K (.int n), D K (.int m)] [(d, MDr K)] (PEx fun A : Au => PAn (A.Ok ∧ (A.L : Int) = n ∧ A.R.length ≤ m) (PTu K [D K (.int A.s), D K (dL A.F), D K (dLL A.R)])) [(d, MDr K)] vs H Q
theorem sp__law_any_automaton_len {T : Txt K mg} {vs H Q E} (h : sp__law_any_automaton T vs H Q E) : vs.length = 3 := by obtain ⟨_, _, _, _, h⟩ := h; exact h.len
theorem le_frN {K : PySem.W.Frag} {l : List Nat} : (PLi K (l.map fun x : Nat => D K (.int (x : Int)))).le (D K (dL (l.map fun x : Nat => (x : Int)))) := fun F v h => dL_le (K := K) F v (by rw [List.map_map]; exact h)
set_option maxHeartbeats 4000000 in
theorem ok__law_any_automaton (T : Txt K mg) : FnOk P wo K mg base CX0 2 T.f__law_any_automaton T.d__law_any_automaton ["draws", "letters", "most"] (sp__law_any_automaton T) := by
  have nd := (sc__law_any_automaton).nd
  refine T.F__law_any_automaton.ok sc__law_any_automaton (fun vs H Q E h => (sp__law_any_automaton_len h)) (fun cdv A outer s H vs Q E hr h => ?_)
  obtain ⟨d, n, m, ⟨n1, n2, m1, m2⟩, F, w, ps, k⟩ := h
  refine ⟨_, (pss_cons (ps_set (i := 3) nd rfl (Or.inr rfl) (pe_op op_add pe_int (pe_call (ok__law_take T) (hr.mono (by decide)) rfl T.m__law_take T.F__law_take.kp T.b__law_take .nil pass0 (pa_cons (pv 0) (pa_cons (pv 2) pa_nil)))))
    (pss_cons (ps_setLc (i := 4) (own := [("k", 6)]) (by rfl) nd rfl rfl (sw_true rfl rfl rfl (by decide +kernel)) (pi_range1 (by rfl) T.z_range (pa_cons (pv 3) pa_nil)) (blkOk_by (N := ["draws", "letters", "most", "size", "rows", "finals", "k", "letter"]) (sc := defScope s__law_any_automaton) (own := [("k", 6)]) (by decide +kernel)) (fun _ _ _ _ _ => pg_name (i := 6) nd rfl (by first | exact Or.inl rfl | exact Or.inr rfl)) (fun _ _ _ _ _ => pts_nil) (fun _ _ _ _ _ => (pe_lc (own := [("letter", 7)]) (by rfl) nd (pi_range1 (by rfl) T.z_range (pa_cons (pv 1) pa_nil)) (blkOk_by (N := ["draws", "letters", "most", "size", "rows", "finals", "k", "letter"]) (sc := (relS ({ kind := PySem.ScopeKind.function, names := [ (PySem.Str.ofString ".0", PySem.NameKind.local), (PySem.Str.ofString "k", PySem.NameKind.local), (PySem.Str.ofString "range", PySem.NameKind.globalImplicit), (PySem.Str.ofString "draws", PySem.NameKind.free), (PySem.Str.ofString "letters", PySem.NameKind.free), (PySem.Str.ofString "size", PySem.NameKind.free)], isGenerator := false, isCoroutine := false, more := [] : PySem.Scope }) (defScope s__law_any_automaton))) (own := [("letter", 7)]) (by decide +kernel)) (fun _ _ _ _ _ => pg_name (i := 7) nd rfl (by first | exact Or.inl rfl | exact Or.inr rfl)) (fun _ _ _ _ _ => pts_nil) (fun _ _ _ _ _ => (pe_call (ok__law_take T) (hr.mono (by decide)) rfl T.m__law_take T.F__law_take.kp T.b__law_take .nil pass0 (pa_cons (pv 0) (pa_cons (pv 3) pa_nil)))))))
    (pss_cons (ps_setLc (i := 5) (own := [("k", 6)]) (by rfl) nd rfl rfl (sw_true rfl rfl rfl (by decide +kernel)) (pi_range1 (by rfl) T.z_range (pa_cons (pv 3) pa_nil)) (blkOk_by (N := ["draws", "letters", "most", "size", "rows", "finals", "k", "letter"]) (sc := defScope s__law_any_automaton) (own := [("k", 6)]) (by decide +kernel)) (fun _ _ _ _ _ => pg_name (i := 6) nd rfl (by first | exact Or.inl rfl | exact Or.inr rfl)) (fun _ _ _ _ _ => (pts_one (pt_cmpR op_eq (pe_call (ok__law_take T) (hr.mono (by decide)) rfl T.m__law_take T.F__law_take.kp T.b__law_take .nil pass0 (pa_cons (pv 0) (pa_cons pe_int pa_nil))) pe_int (nomark _)))) (fun _ _ _ _ _ => (pv 6)))
    (pss_one (ps_ret (pe_tup (pa_cons (pe_call (ok__law_take T) (hr.mono (by decide)) rfl T.m__law_take T.F__law_take.kp T.b__law_take .nil pass0 (pa_cons (pv 0) (pa_cons (pv 3) pa_nil))) (pa_cons (pv 5) (pa_cons (pv 4) pa_nil))))))))), ?_⟩
  refine go_start w ps (Γ := [some (Own d), some (D K (.int n)), some (D K (.int m)), none, none, none, none, none]) rfl ?_
  refine (q_asg (ev_op (ev_int (K := K) (i := 1)) (use__law_take (n := m) (ea_cons (ev_var (i := 0) rfl) (ea_cons (ev_var (i := 2) rfl) ea_nil)) (by omega) (j := 0) rfl) rv_addIn) (nx_ex (i := 3) rfl fun z => nx_an (i := 3) rfl fun hz => ?_))
  obtain ⟨N, rfl⟩ := Int.eq_ofNat_of_zero_le (by omega : 0 ≤ z)
  dsimp only [List.set]
  have rowE : ∀ x : Nat, Ev (tLc (iRng1 (tCons (tVar 1) tNil)) (gName 7) tYes (tCall (sp__law_take T) [] E0 (tCons (tVar 0) (tCons (tVar 3) tNil))) [7]) [some (Own d), some (D K (.int n)), some (D K (.int m)), some (D K (.int (N : Int))), none, none, some (D K (.int (x : Int))), none] [(d, MDr K)] (PEx fun r : List Int => PAn (r.length = n.toNat ∧ ∀ y ∈ r, 0 ≤ y ∧ y < (N : Int)) (D K (dL r))) [(d, MDr K)] := fun x => by
    have lc := evn_lcR (K := K) (z := n) (i := 7) (G := fun _ => PIn K 0 (N : Int)) (M := [(d, MDr K)]) (M1 := [(d, MDr K)]) (Γ := [some (Own d), some (D K (.int n)), some (D K (.int m)), some (D K (.int (N : Int))), none, none, some (D K (.int (x : Int))), none]) (fun _ => true) (ea_cons (ev_var (i := 1) rfl) ea_nil) (by omega) (fun _ _ => et_yes)
      (fun _ _ _ => use__law_take (T := T) (X := E0) (ea_cons (ev_var (i := 0) rfl) (ea_cons (ev_var (i := 3) rfl) ea_nil)) (by omega) (j := 0) rfl)
    rw [filter_true, map_const, List.length_range] at lc
    exact (ev_fr (lc.weak ml_name)).weak (MP.le_trans fr_X (PEx.le fun xs => MP.le_trans fr_A (PAn.le fun _ => MP.le_trans (fr_L (K := K)) (dL_le (l := xs)))))
  have lc := evn_lcR (K := K) (z := (N : Int)) (i := 6) (G := fun _ => PEx fun r : List Int => PAn (r.length = n.toNat ∧ ∀ y ∈ r, 0 ≤ y ∧ y < (N : Int)) (D K (dL r))) (M := [(d, MDr K)]) (M1 := [(d, MDr K)]) (Γ := [some (Own d), some (D K (.int n)), some (D K (.int m)), some (D K (.int (N : Int))), none, none, none, none]) (t := tYes) (fun _ => true) (ea_cons (ev_var (i := 3) rfl) ea_nil) (by omega) (fun _ _ => et_yes) (fun x _ _ => rowE x)
  rw [filter_true, map_const, List.length_range, Int.toNat_natCast] at lc
  refine (q_asgN (lc.weak ml_name) fun q4 hq4 => nx_exM (j := 0) rfl fun R => nx_anM (j := 0) rfl fun hR => ?_)
  clear lc rowE
  dsimp only [List.set]
  refine nx_freeze (K := K) (i := 4) 0 rfl hq4 rfl ?_
  dsimp only [List.set, List.eraseIdx]
  refine (q_asgN (evn_lcRD (K := K) (z := (N : Int)) (G := fun x : Nat => D K (.int (x : Int))) (ea_cons (ev_var (i := 3) rfl) ea_nil) (by omega) (fun x _ => et_testX (φ := fun _ => True) (ev_op (use__law_take (n := 2) (ea_cons (ev_var (i := 0) rfl) (ea_cons (ev_int (K := K) (i := 2)) ea_nil)) (by decide) (j := 0) rfl) (ev_int (K := K) (i := 0)) rv_eqX)) (fun x _ => ev_var (i := 6) rfl)) fun q5 hq5 => nx_exM (j := 0) rfl fun C0 => nx_anM (j := 0) rfl fun hC0 => ?_)
  dsimp only [List.set]
  rw [Int.toNat_natCast] at hC0
  refine nx_freeze (K := K) (i := 5) 0 rfl hq5 rfl ?_
  dsimp only [List.set, List.eraseIdx]
  have Fm : ∀ x ∈ C0, x < N := fun x hx => List.mem_range.mp (hC0.subset hx)
  refine go_ret Le.refl ((ev_tup (K := K) (ps := [PIn K 0 (N : Int), D K (dL (C0.map fun x : Nat => (x : Int))), D K (dLL R)]) (ea_cons (use__law_take (n := (N : Int)) (ea_cons (ev_var (i := 0) rfl) (ea_cons (ev_var (i := 3) rfl) ea_nil)) (by omega) (j := 0) rfl) (ea_cons ((ev_var (i := 5) rfl).weak (le_frN (l := C0))) (ea_cons ((ev_var (i := 4) rfl).weak (Lm_le (f := dL))) ea_nil))) (by simp)).weak (P' := PEx fun A : Au => PAn (A.Ok ∧ (A.L : Int) = n ∧ A.R.length ≤ m) (PTu K [D K (.int A.s), D K (dL A.F), D K (dLL A.R)])) ?_) k
  intro F v h
  obtain ⟨p, vs, e, s, q⟩ := h
  cases q with
  | cons p1 q =>
    obtain ⟨s0, hs0, p1⟩ := p1
    refine ⟨⟨n.toNat, s0, C0.map fun x : Nat => (x : Int), R⟩, ⟨⟨by show 1 ≤ n.toNat; omega, ⟨hs0.1, by show s0 < (R.length : Int); rw [hR.1]; exact hs0.2⟩, fun x hx => ?_, ?_, fun r hr => ⟨(hR.2 r hr).1, fun x hx => ?_⟩⟩, by show ((n.toNat : Nat) : Int) = n; omega, by show (R.length : Int) ≤ m; rw [hR.1]; omega⟩, p, _, e, s, .cons p1 q⟩
    · obtain ⟨y, hy, rfl⟩ := List.mem_map.mp hx
      have := Fm y hy
      exact ⟨by omega, by show (y : Int) < (R.length : Int); rw [hR.1]; omega⟩
    · show (List.map _ C0).Pairwise (· < ·)
      rw [List.pairwise_map]
      exact (List.pairwise_lt_range.sublist hC0).imp fun h => by omega
    · have := (hR.2 r hr).2 x hx
      exact ⟨this.1, by show x < (R.length : Int); rw [hR.1]; exact this.2⟩
end
end My
namespace My
open PySem L2 Hq
local macro_rules | `(tactic| trivial) => `(tactic| omega)
section
variable {P : Program} {wo : World} {K : PySem.W.Frag} {mg : Str → Option Value} {base : Heap}
/-! ### _line -/
theorem sc__line : FnScope ["word", "numbers", "number"] ["word", "numbers"] (defScope s__line) := ⟨rfl, rfl, rfl, by decide +kernel, rfl, by decide +kernel, by decide +kernel⟩
def sp__line (T : Txt K mg) : Sp := fun vs H Q _ => ∃ (w : List Nat) (b : Bool) (ns : List Int), (w.length ≤ 100 ∧ ns.length ≤ 1000 ∧ ∀ x ∈ ns, 0 ≤ x ∧ x < 1000) ∧ Prom [D K (dS w), D K (dW b ns)] [] (D K (dS (lh w ns ++ [10]))) [] vs H Q
theorem sp__line_len {T : Txt K mg} {vs H Q E} (h : sp__line T vs H Q E) : vs.length = 2 := by obtain ⟨_, _, _, _, h⟩ := h; exact h.len
set_option maxHeartbeats 4000000 in
theorem ok__line (T : Txt K mg) : FnOk P wo K mg base CX0 1 T.f__line T.d__line ["word", "numbers"] (sp__line T) := by
  have nd := (sc__line).nd
  refine T.F__line.ok sc__line (fun vs H Q E h => (sp__line_len h)) (fun cdv A outer s H vs Q E hr h => ?_)
  obtain ⟨w, b, ns, ⟨wl, nl, hn⟩, F, wd, pp, k⟩ := h
  refine ⟨_, (pss_one (ps_ret (pe_op op_add_str (c_join (K := K) rfl pe_str (pe_lst (pa_cons (pv 0) (c_star (K := K) rfl (pe_lc (own := [("number", 2)]) (by rfl) nd (pi_or (pi_tupK (K := K) rfl (pv 1)) (pi_listK (K := K) rfl (pv 1))) (blkOk_by (N := ["word", "numbers", "number"]) (sc := defScope s__line) (own := [("number", 2)]) (by decide +kernel)) (fun _ _ _ _ _ => pg_name (i := 2) nd rfl (by first | exact Or.inl rfl | exact Or.inr rfl)) (fun _ _ _ _ _ => pts_nil) (fun _ _ _ _ _ => (pe_callTy call_str_int (by rfl) T.z_str (by decide +kernel) (pa_cons (pv 2) pa_nil)))) pa_nil)))) pe_str))), ?_⟩
  refine go_start wd pp (Γ := [some (D K (dS w)), some (D K (dW b ns)), none]) rfl ?_
  have lc := evn_lcW (K := K) (b := b) (l := ns) (v := 1) (i := 2) (t := tYes) (M := []) (G := fun x => D K (dS (nm x))) (Γ := [some (D K (dS w)), some (D K (dW b ns)), none]) (te := tCB (fun xs H Q => ∃ i : Int, xs = [.int i] ∧ i.natAbs.log2 < 1920 ∧ Q (.str (toString i)) H) (tCons (tVar 2) tNil)) (fun _ => true) rfl (by omega) (fun _ _ => et_yes) (fun x hx _ => by
    have h := hn x hx
    exact ev_cb (ea_cons ((ev_var (i := 2) rfl).is (P' := D K (.int ((x.toNat : Nat) : Int))) (by rw [Int.toNat_of_nonneg h.1])) ea_nil) (rc_strN (by omega)))
  rw [filter_true] at lc
  have e : D K (dS w) :: ((ns.map fun x => D K (dS (nm x))) ++ []) = (w :: ns.map nm).map fun p => D K (dS p) := by rw [List.append_nil, List.map_cons, List.map_map]; rfl
  have sm := nm_sum ns
  have jl := lh_len w ns
  refine go_ret Le.refl (ev_op (ev_joinL (s := [32]) (ps := w :: ns.map nm) (ev_strL (l := [32]) rfl) ((ev_newL (evn_lst (ea_cons (ev_var (i := 0) rfl) (ea_starL (ev_newL lc) ea_nil)) (by simp; omega))).is (by rw [e])) (by simp only [List.map_cons, List.sum_cons, List.length_cons, List.length_map, List.length_nil]; omega)) (ev_strL (l := [10]) rfl) (rv_addS (by show (lh w ns).length + 1 ≤ _; omega))) k
theorem use__line {T : Txt K mg} {tr : TA} {Γ : Gm} {M M1 : Ms} {w : List Nat} {b : Bool} {ns : List Int} {X : XK} (h : EvA tr Γ M [D K (dS w), D K (dW b ns)] M1) (hn : w.length ≤ 100 ∧ ns.length ≤ 1000 ∧ ∀ x ∈ ns, 0 ≤ x ∧ x < 1000) : Ev (tCall (sp__line T) [] X tr) Γ M (D K (dS (lh w ns ++ [10]))) M1 :=
  call0 h fun vs H Q z => ⟨w, b, ns, hn, z⟩
end
end My
namespace My
open PySem L2 Hq
local macro_rules | `(tactic| trivial) => `(tactic| omega)
section
variable {P : Program} {wo : World} {K : PySem.W.Frag} {mg : Str → Option Value} {base : Heap}
/-! ### format_alphabet -/
theorem sc_format_alphabet : FnScope ["alphabet", "letters", "places", "place"] ["alphabet"] (defScope s_format_alphabet) := ⟨rfl, rfl, rfl, by decide +kernel, rfl, by decide +kernel, by decide +kernel⟩
def sp_format_alphabet (T : Txt K mg) : Sp := fun vs H Q _ => ∃ (k : Int) (L : Lets), AlphaOk k L ∧ Prom [PAl T k L] [] (D K (dS (fa k L))) [] vs H Q
theorem sp_format_alphabet_len {T : Txt K mg} {vs H Q E} (h : sp_format_alphabet T vs H Q E) : vs.length = 1 := by obtain ⟨_, _, _, h⟩ := h; exact h.len
set_option maxHeartbeats 4000000 in
theorem ok_format_alphabet (T : Txt K mg) : FnOk P wo K mg base CX0 1 T.f_format_alphabet T.d_format_alphabet ["alphabet"] (sp_format_alphabet T) := by
  have nd := (sc_format_alphabet).nd
  refine T.F_format_alphabet.ok sc_format_alphabet (fun vs H Q E h => (sp_format_alphabet_len h)) (fun cdv A outer s H vs Q E hr h => ?_)
  obtain ⟨kk, L, A, F, wd, pp, k⟩ := h
  refine ⟨_, (pss_cons (ps_setLc (i := 1) (own := [("places", 2)]) (by rfl) nd rfl rfl (sw_true rfl rfl rfl (by decide +kernel)) (pi_tupK (K := K) rfl (c_fld (K := K) rfl (pv 0) rfl)) (blkOk_by (N := ["alphabet", "letters", "places", "place"]) (sc := defScope s_format_alphabet) (own := [("places", 2)]) (by decide +kernel)) (fun _ _ _ _ _ => pg_name (i := 2) nd rfl (by first | exact Or.inl rfl | exact Or.inr rfl)) (fun _ _ _ _ _ => pts_nil) (fun _ _ _ _ _ => (c_join (K := K) rfl pe_str (pe_lc (own := [("place", 3)]) (by rfl) nd (pi_tupK (K := K) rfl (pv 2)) (blkOk_by (N := ["alphabet", "letters", "places", "place"]) (sc := (relS ({ kind := PySem.ScopeKind.function, names := [(PySem.Str.ofString ".0", PySem.NameKind.local), (PySem.Str.ofString "places", PySem.NameKind.local)], isGenerator := false, isCoroutine := false, more := [] : PySem.Scope }) (defScope s_format_alphabet))) (own := [("place", 3)]) (by decide +kernel)) (fun _ _ _ _ _ => pg_name (i := 3) nd rfl (by first | exact Or.inl rfl | exact Or.inr rfl)) (fun _ _ _ _ _ => pts_nil) (fun _ _ _ _ _ => (pe_callTy call_str_int (by rfl) T.z_str (by decide +kernel) (pa_cons (pv 3) pa_nil)))))))
    (pss_one (ps_ret (pe_op op_add_str (pe_op op_add_str (pe_op op_add_str (pe_op op_add_str pe_str (pe_callTy call_str_int (by rfl) T.z_str (by decide +kernel) (pa_cons (c_fld (K := K) rfl (pv 0) rfl) pa_nil))) pe_str) (c_join (K := K) rfl pe_str (pv 1))) pe_str)))), ?_⟩
  refine go_start wd pp (Γ := [some (PAl T kk L), none, none, none]) rfl ?_
  have k1 := A.k1
  have k4 := A.k4
  have l6 := A.l6
  have ps := places_small A
  have ll : ∀ l ∈ L, l.length ≤ 4 := fun l hl => by
    have := pw_len (A.ok l hl).2.1 (A.ok l hl).2.2 (by omega)
    omega
  have lc := evn_lcT (K := K) (xs := L) (R := fun l => D K (dT l)) (G := fun l => D K (dS (flt l))) (i := 2) (t := tYes) (M := []) (M1 := []) (Γ := [some (PAl T kk L), none, none, none]) (tl := tFld K (tVar 0) "letters") (te := tM1 (rJoin K) (tC (.str "")) (tLc (iTup K (tVar 2)) (gName 3) tYes (tCB (fun xs H Q => ∃ i : Int, xs = [.int i] ∧ i.natAbs.log2 < 1920 ∧ Q (.str (toString i)) H) (tCons (tVar 3) tNil)) [3])) (fun _ => true) ((ev_fld (P := D K (dTT L)) (ev_var (i := 0) rfl) (by simp) T.cl_Alphabet T.na_Alphabet_letters).weak (le_Tm (f := dT))) (by omega) (fun _ _ => et_yes) (fun l hl _ => by
    have lc2 := evn_lcT (K := K) (xs := l) (R := fun x => D K (.int x)) (G := fun x => D K (dS (nm x))) (i := 3) (t := tYes) (M := []) (M1 := []) (Γ := [some (PAl T kk L), none, some (D K (dT l)), none]) (tl := tVar 2) (te := tCB (fun xs H Q => ∃ i : Int, xs = [.int i] ∧ i.natAbs.log2 < 1920 ∧ Q (.str (toString i)) H) (tCons (tVar 3) tNil)) (fun _ => true) ((ev_var (i := 2) rfl).weak le_dT) (by have := ll l hl; omega) (fun _ _ => et_yes) (fun x hx _ => by
      have h := ps l hl x hx
      exact ev_cb (ea_cons ((ev_var (i := 3) rfl).is (P' := D K (.int ((x.toNat : Nat) : Int))) (by rw [Int.toNat_of_nonneg h.1])) ea_nil) (rc_strN (by omega)))
    rw [filter_true] at lc2
    have sm := nm_sum l
    exact ev_joinL (s := []) (ps := l.map nm) (ev_strL (l := []) rfl) ((ev_newL lc2).is (by rw [List.map_map]; rfl)) (by have := ll l hl; rw [List.length_nil, Nat.mul_zero]; omega))
  rw [filter_true] at lc
  refine (q_asg (P := PLi K (L.map fun l => D K (dS (flt l)))) (ev_newL lc) ?_)
  dsimp only [List.set]
  have fl4 : ∀ l ∈ L, (flt l).length ≤ 4 := fun l hl => by
    rw [flt_small (ps l hl), List.length_map]
    exact ll l hl
  have sm : ∀ L : List (List Int), (∀ l ∈ L, (flt l).length ≤ 4) → ((L.map flt).map (·.length)).sum ≤ 4 * L.length := by
    intro L
    induction L with
    | nil => intro _; exact Nat.le_refl _
    | cons l L ih =>
      intro h
      have h1 := h l List.mem_cons_self
      have h2 := ih fun x hx => h x (List.mem_cons_of_mem _ hx)
      rw [List.map_cons, List.map_cons, List.sum_cons, List.length_cons]
      omega
  have sm := sm L fl4
  have jl := jn_len (s := [32]) (L.map flt)
  rw [List.length_map, List.length_singleton] at jl
  have n3 := (nmS_len (n := kk.toNat)).2
  have st := ev_cb (ea_cons ((ev_fld (P := D K (.int kk)) (ev_var (i := 0) (Γ := [some (PAl T kk L), some (PLi K (L.map fun l => D K (dS (flt l)))), none, none]) (M := []) rfl) (by simp) T.cl_Alphabet T.na_Alphabet_places).is (P' := D K (.int ((kk.toNat : Nat) : Int))) (by rw [Int.toNat_of_nonneg (by omega)])) ea_nil) (rc_strN (K := K) (M := []) (n := kk.toNat) (by omega))
  have jo := ev_joinL (s := [32]) (ps := L.map flt) (M := []) (Γ := [some (PAl T kk L), some (PLi K (L.map fun l => D K (dS (flt l)))), none, none]) (ev_strL (l := [32]) rfl) ((ev_var (i := 1) rfl).is (by rw [List.map_map]; rfl)) (by rw [List.length_map, List.length_singleton]; omega)
  have tA9 : (tA ++ [32]).length = 9 := rfl
  refine go_ret Le.refl ((ev_op (ev_op (ev_op (ev_op (ev_strL (l := tA ++ [32]) rfl) st (rv_addS ?_)) (ev_strL (l := [58, 32]) rfl) (rv_addS ?_)) jo (rv_addS ?_)) (ev_strL (l := [10]) rfl) (rv_addS ?_))) k
  all_goals simp only [List.length_append, tA9, List.length_cons, List.length_nil] at *
  all_goals omega
theorem use_format_alphabet {T : Txt K mg} {tr : TA} {Γ : Gm} {M M1 : Ms} {k : Int} {L : Lets} {X : XK} (h : EvA tr Γ M [PAl T k L] M1) (hn : AlphaOk k L) : Ev (tCall (sp_format_alphabet T) [] X tr) Γ M (D K (dS (fa k L))) M1 :=
  call0 h fun vs H Q z => ⟨k, L, hn, z⟩
end
end My
namespace My
open PySem L2 Hq
local macro_rules | `(tactic| trivial) => `(tactic| omega)
section
variable {P : Program} {wo : World} {K : PySem.W.Frag} {mg : Str → Option Value} {base : Heap}
/-! ### format_automaton -/
theorem sc_format_automaton : FnScope ["automaton", "lines", "row"] ["automaton"] (defScope s_format_automaton) := ⟨rfl, rfl, rfl, by decide +kernel, rfl, by decide +kernel, by decide +kernel⟩
def sp_format_automaton (T : Txt K mg) : Sp := fun vs H Q _ => ∃ (A : Au), (AuS A ∧ A.F.length ≤ 1000) ∧ Prom [PAu T A] [] (D K (dS (fm A))) [] vs H Q
theorem sp_format_automaton_len {T : Txt K mg} {vs H Q E} (h : sp_format_automaton T vs H Q E) : vs.length = 1 := by obtain ⟨_, _, h⟩ := h; exact h.len
set_option maxHeartbeats 4000000 in
theorem ok_format_automaton (T : Txt K mg) : FnOk P wo K mg base CX0 2 T.f_format_automaton T.d_format_automaton ["automaton"] (sp_format_automaton T) := by
  have nd := (sc_format_automaton).nd
  refine T.F_format_automaton.ok sc_format_automaton (fun vs H Q E h => (sp_format_automaton_len h)) (fun cdv A outer s H vs Q E hr h => ?_)
  obtain ⟨A, ⟨O, hF⟩, F, wd, pp, k⟩ := h
  refine ⟨_, (pss_cons (ps_set (i := 1) nd rfl (Or.inl rfl) (pe_lst (pa_cons (pe_call (ok__line T) (hr.mono (by decide)) rfl T.m__line T.F__line.kp T.b__line .nil pass0 (pa_cons pe_str (pa_cons (pe_lst (pa_cons (c_fld (K := K) rfl (pv 0) rfl) (pa_cons (c_fld (K := K) rfl (pv 0) rfl) pa_nil))) pa_nil))) pa_nil)))
    (pss_cons (ps_expr (pe_bm PySem.F.plainAttrs_list PySem.F.slot_list_append PySem.F.type_list_append mt_append (pv 1) (pa_cons (pe_call (ok__line T) (hr.mono (by decide)) rfl T.m__line T.F__line.kp T.b__line .nil pass0 (pa_cons pe_str (pa_cons (c_fld (K := K) rfl (pv 0) rfl) pa_nil))) pa_nil)))
    (pss_cons (ps_expr (pe_bm PySem.F.plainAttrs_list PySem.F.slot_list_extend PySem.F.type_list_extend mt_extend (pv 1) (pa_cons (pe_lc (own := [("row", 2)]) (by rfl) nd (pi_tupK (K := K) rfl (c_fld (K := K) rfl (pv 0) rfl)) (blkOk_by (N := ["automaton", "lines", "row"]) (sc := defScope s_format_automaton) (own := [("row", 2)]) (by decide +kernel)) (fun _ _ _ _ _ => pg_name (i := 2) nd rfl (by first | exact Or.inl rfl | exact Or.inr rfl)) (fun _ _ _ _ _ => pts_nil) (fun _ _ _ _ _ => (pe_call (ok__line T) (hr.mono (by decide)) rfl T.m__line T.F__line.kp T.b__line .nil pass0 (pa_cons pe_str (pa_cons (pv 2) pa_nil))))) pa_nil)))
    (pss_one (ps_ret (c_join (K := K) rfl pe_str (pv 1))))))), ?_⟩
  refine go_start wd pp (Γ := [some (PAu T A), none, none]) rfl ?_
  obtain ⟨⟨n1, n2⟩, n3, n4⟩ := O.nums
  have oL := O.L
  have oR := O.R
  have hd := use__line (T := T) (X := E0) (M := []) (M1 := []) (Γ := [some (PAu T A), none, none]) (w := tM) (b := false) (ns := [(A.L : Int), A.s]) (ea_cons (ev_strL (l := tM) rfl) (ea_cons ((ev_fr (evn_lst (ps := [(A.L : Int), A.s].map fun n => D K (.int n)) (ea_cons (ev_fld (P := D K (.int (A.L : Int))) (fps := auF K A) (ev_var (i := 0) rfl) (by simp) T.cl_Automaton T.na_Automaton_letters) (ea_cons (ev_fld (P := D K (.int A.s)) (fps := auF K A) (ev_var (i := 0) rfl) (by simp) T.cl_Automaton T.na_Automaton_start) ea_nil)) (by simp))).weak (MP.le_trans (fr_L (K := K)) (dL_le (K := K) (l := [(A.L : Int), A.s])))) ea_nil)) ⟨by decide, by simp, fun x hx => by
    rcases List.mem_cons.mp hx with rfl | hx
    · exact n1
    · rw [List.mem_singleton.mp hx]; exact n2⟩
  refine (q_asgN (evn_lst (ea_cons hd ea_nil) (by simp)) fun q hq => ?_)
  dsimp only [List.set]
  have fin := fun M => use__line (T := T) (X := E0) (M := M) (M1 := M) (Γ := [some (PAu T A), some (Own q), none]) (w := tF) (b := true) (ns := A.F) (ea_cons (ev_strL (l := tF) rfl) (ea_cons (ev_fld (P := D K (dT A.F)) (fps := auF K A) (ev_var (i := 0) rfl) (by simp) T.cl_Automaton T.na_Automaton_finals) ea_nil)) ⟨by decide, hF, n3⟩
  refine q_app (j := 0) (ev_var (i := 1) rfl) (fin _) rfl rfl (by simp) ?_
  dsimp only [List.set]
  have lc := evn_lcT (K := K) (xs := A.R) (R := fun l => D K (dT l)) (G := fun l => D K (dS (lh tR l ++ [10]))) (i := 2) (t := tYes) (M := [(q, ML [D K (dS (lh tM [(A.L : Int), A.s] ++ [10])), D K (dS (lh tF A.F ++ [10]))])]) (M1 := [(q, ML [D K (dS (lh tM [(A.L : Int), A.s] ++ [10])), D K (dS (lh tF A.F ++ [10]))])]) (Γ := [some (PAu T A), some (Own q), none]) (tl := tFld K (tVar 0) "rows") (te := tCall (sp__line T) [] E0 (tCons (tC (.str (Str.ofString "row"))) (tCons (tVar 2) tNil))) (fun _ => true) ((ev_fld (P := D K (dTT A.R)) (fps := auF K A) (ev_var (i := 0) rfl) (by simp) T.cl_Automaton T.na_Automaton_rows).weak (le_Tm (f := dT))) (by omega) (fun _ _ => et_yes) (fun l hl _ => use__line (T := T) (X := E0) (w := tR) (b := true) (ns := l) (ea_cons (ev_strL (l := tR) rfl) (ea_cons (ev_var (i := 2) rfl) ea_nil)) ⟨by decide, by rw [(O.ok.R l hl).1]; omega, n4 l hl⟩)
  rw [filter_true] at lc
  refine go_extN (D1 := { nx := _, rt := _ }) (j := 0) (ev_var (i := 1) rfl) lc rfl (by simp; omega) ?_
  dsimp only [List.set]
  refine nx_freeze (K := K) (i := 1) 0 rfl hq rfl ?_
  dsimp only [List.set, List.eraseIdx]
  have e : ([D K (dS (lh tM [(A.L : Int), A.s] ++ [10]))] ++ [D K (dS (lh tF A.F ++ [10]))] ++ A.R.map fun l => D K (dS (lh tR l ++ [10]))) = ((lh tM [(A.L : Int), A.s] ++ [10]) :: (lh tF A.F ++ [10]) :: A.R.map fun l => lh tR l ++ [10]).map fun p => D K (dS p) := by
    rw [List.map_cons, List.map_cons, List.map_map]; rfl
  have lM := lh_len tM [(A.L : Int), A.s]
  have lF := lh_len tF A.F
  have lR : ∀ R : List (List Int), (∀ r ∈ R, r.length ≤ 1000) → ((R.map fun l => lh tR l ++ [10]).map (·.length)).sum ≤ 5000 * R.length := by
    intro R
    induction R with
    | nil => intro _; exact Nat.le_refl _
    | cons r R ih =>
      intro h
      have h1 := h r List.mem_cons_self
      have h2 := ih fun x hx => h x (List.mem_cons_of_mem _ hx)
      have h3 := lh_len tR r
      rw [List.map_cons, List.map_cons, List.sum_cons, List.length_cons, List.length_append, List.length_singleton]
      have : tR.length = 3 := rfl
      omega
  have lR := lR A.R fun r hr => by rw [(O.ok.R r hr).1]; omega
  have t1 : tM.length = 9 := rfl
  have t2 : tF.length = 6 := rfl
  refine go_ret Le.refl ((ev_joinL (s := []) (ps := (lh tM [(A.L : Int), A.s] ++ [10]) :: (lh tF A.F ++ [10]) :: A.R.map fun l => lh tR l ++ [10]) (ev_strL (l := []) rfl) ((ev_var (i := 1) rfl).is (by rw [e])) ?_).is ?_) k
  · rw [List.map_cons, List.map_cons, List.sum_cons, List.sum_cons, List.length_append, List.length_append, List.length_nil, List.length_singleton]
    simp only [List.length_cons, List.length_nil] at lM
    omega
  · congr 2
    unfold fm
    rw [jn_nil, jn_nil, List.flatten_cons, List.flatten_cons]
    simp only [List.append_assoc]
theorem use_format_automaton {T : Txt K mg} {tr : TA} {Γ : Gm} {M M1 : Ms} {A : Au} {X : XK} (h : EvA tr Γ M [PAu T A] M1) (hn : AuS A ∧ A.F.length ≤ 1000) : Ev (tCall (sp_format_automaton T) [] X tr) Γ M (D K (dS (fm A))) M1 :=
  call0 h fun vs H Q z => ⟨A, hn, z⟩
end
end My
namespace My
open PySem L2 Hq
local macro_rules | `(tactic| trivial) => `(tactic| omega)
section
variable {P : Program} {wo : World} {K : PySem.W.Frag} {mg : Str → Option Value} {base : Heap}
/-! ### _number -/
theorem sc__number : FnScope ["word", "digit"] ["word"] (defScope s__number) := ⟨rfl, rfl, rfl, by decide +kernel, rfl, by decide +kernel, by decide +kernel⟩
def sp__number (T : Txt K mg) : Sp := fun vs H Q _ => ∃ (w : List Nat), w.length ≤ 40000 ∧ Prom [D K (dS w)] [] (D K (.int (numF w))) [] vs H Q
theorem sp__number_len {T : Txt K mg} {vs H Q E} (h : sp__number T vs H Q E) : vs.length = 1 := by obtain ⟨_, _, h⟩ := h; exact h.len
set_option maxHeartbeats 4000000 in
theorem ok__number (T : Txt K mg) : FnOk P wo K mg base CX0 1 T.f__number T.d__number ["word"] (sp__number T) := by
  have nd := (sc__number).nd
  refine T.F__number.ok sc__number (fun vs H Q E h => (sp__number_len h)) (fun cdv A outer s H vs Q E hr h => ?_)
  obtain ⟨w, wl, F, wd, pp, k⟩ := h
  refine ⟨_, (pss_cons (ps_if (PW.pt (pw_or (pt_not (pt_chain op_le op_le pe_int (pe_callB call_len_str (by rfl) T.z_len PySem.boot_len (pa_cons (pv 0) pa_nil)) (pe_glob (v := .int 9) rfl T.v_MOST_DIGITS ⟨_, rfl⟩))) (pw_or1 (pt_val (pe_callB (c_any (K := K) rfl rfl) (by rfl) T.z_any (by decide +kernel) (pa_cons (pe_lc (own := [("digit", 1)]) (by rfl) nd (pi_str (pv 0)) (blkOk_by (N := ["word", "digit"]) (sc := defScope s__number) (own := [("digit", 1)]) (by decide +kernel)) (fun _ _ _ _ _ => pg_name (i := 1) nd rfl (by first | exact Or.inl rfl | exact Or.inr rfl)) (fun _ _ _ _ _ => pts_nil) (fun _ _ _ _ _ => (pe_cmpR op_notIn_sign (pv 1) (pe_glob (v := .str "0123456789") rfl T.v_DIGITS ⟨_, rfl⟩) (by rfl)))) pa_nil)))))) (pss_one (ps_ret (pe_un un_neg pe_int))) pss_nil)
    (pss_one (ps_ret (pe_callTy call_int_str (by rfl) T.z_int (by decide +kernel) (pa_cons (pv 0) pa_nil))))), ?_⟩
  refine go_start wd pp (Γ := [some (D K (dS w)), none]) rfl ?_
  have lc := evn_lcS (K := K) (l := w) (i := 1) (t := tYes) (M := []) (M1 := []) (Γ := [some (D K (dS w)), none]) (G := fun c => D K (.bool (!decide (c ∈ [48, 49, 50, 51, 52, 53, 54, 55, 56, 57])))) (te := tOp (fun x y H Q => ∃ (c : Nat) (z : Str), x = .str ⟨#[c]⟩ ∧ y = .str z ∧ Q (.bl (!decide (c ∈ z.cps.toList))) H) (tVar 1) (tC (.str (Str.ofString "0123456789")))) (fun _ => true) (ev_var (i := 0) rfl) (by omega) (fun _ _ => et_yes) (fun c hc _ => ev_op (ev_var (i := 1) rfl) (ev_strL (l := [48, 49, 50, 51, 52, 53, 54, 55, 56, 57]) rfl) rv_niS)
  rw [filter_true] at lc
  have any := ev_cb (ea_cons ((ev_newL lc).is (P' := PLi K ((w.map fun c => !decide (c ∈ [48, 49, 50, 51, 52, 53, 54, 55, 56, 57])).map fun b => D K (.bool b))) (by rw [List.map_map]; rfl)) ea_nil) (rc_any (K := K) (M := []))
  have ln := ev_cb (ea_cons (ev_var (i := 0) (M := []) (Γ := [some (D K (dS w)), none]) rfl) ea_nil) (rc_lenS (K := K) (l := w) (M := []) (by omega))
  refine (q_if (et_or (et_not (et_test (ev_chain (ev_int (K := K)) ln rv_b0 (fun _ => (ev_int (K := K))) rv_b0))) (fun _ => et_val any)) (fun hb => ?_) fun hb => go_next ?_)
  · suffices hn : ¬ ((1 ≤ w.length ∧ w.length ≤ 9) ∧ ∀ c ∈ w, c ∈ [48, 49, 50, 51, 52, 53, 54, 55, 56, 57]) by
      refine go_ret Le.refl ((ev_neg (ev_int (K := K))).is ?_) k
      unfold numF
      rw [if_neg hn]
    rintro ⟨⟨c1, c2⟩, c3⟩
    have z : (!(decide ((1 : Int) ≤ (w.length : Int)) && decide ((w.length : Int) ≤ 9)) || (w.map fun c => !decide (c ∈ [48, 49, 50, 51, 52, 53, 54, 55, 56, 57])).any id) = true := hb.symm
    rw [Bool.or_eq_true] at z
    rcases z with z | z
    · simp only [Bool.not_eq_true', Bool.and_eq_false_iff, decide_eq_false_iff_not] at z
      omega
    · obtain ⟨b, hb2, hb3⟩ := List.any_eq_true.mp z
      obtain ⟨c, hc, rfl⟩ := List.mem_map.mp hb2
      have hb3 : (!decide (c ∈ [48, 49, 50, 51, 52, 53, 54, 55, 56, 57])) = true := hb3
      rw [decide_eq_true (c3 c hc)] at hb3
      exact absurd hb3 (by decide)
  · have z : (!(decide ((1 : Int) ≤ (w.length : Int)) && decide ((w.length : Int) ≤ 9)) || (w.map fun c => !decide (c ∈ [48, 49, 50, 51, 52, 53, 54, 55, 56, 57])).any id) = false := hb.symm
    rw [Bool.or_eq_false_iff] at z
    obtain ⟨z1, z2⟩ := z
    have z1 : 1 ≤ w.length ∧ w.length ≤ 9 := by
      simp only [Bool.not_eq_false', Bool.and_eq_true, decide_eq_true_eq] at z1
      omega
    have z2 : ∀ c ∈ w, c ∈ [48, 49, 50, 51, 52, 53, 54, 55, 56, 57] := fun c hc => by
      have := List.any_eq_false.mp z2 _ (List.mem_map_of_mem (f := fun c => !decide (c ∈ [48, 49, 50, 51, 52, 53, 54, 55, 56, 57])) hc)
      simpa only [id, Bool.not_eq_true', Bool.not_eq_false', decide_eq_true_eq, Bool.not_eq_true, decide_eq_false_iff_not, Decidable.not_not] using this
    refine go_ret Le.refl ((ev_cb (ea_cons (ev_var (i := 0) rfl) ea_nil) (rc_intD (fun c => by rw [c] at z1; simp at z1) (by omega) fun c hc => dg_iff.mp (z2 c hc))).is ?_) k
    unfold numF
    rw [if_pos ⟨z1, z2⟩]
theorem use__number {T : Txt K mg} {tr : TA} {Γ : Gm} {M M1 : Ms} {w : List Nat} {X : XK} (h : EvA tr Γ M [D K (dS w)] M1) (hn : w.length ≤ 40000) : Ev (tCall (sp__number T) [] X tr) Γ M (D K (.int (numF w))) M1 :=
  call0 h fun vs H Q z => ⟨w, hn, z⟩
end
end My
namespace My
open PySem L2 Hq
local macro_rules | `(tactic| trivial) => `(tactic| omega)
section
variable {P : Program} {wo : World} {K : PySem.W.Frag} {mg : Str → Option Value} {base : Heap}
/-! ### parse_alphabet -/
theorem sc_parse_alphabet : FnScope ["text", "words", "letters", "alphabet", "word", "digit"] ["text"] (defScope s_parse_alphabet) := ⟨rfl, rfl, rfl, by decide +kernel, rfl, by decide +kernel, by decide +kernel⟩
def sp_parse_alphabet (T : Txt K mg) : Sp := fun vs H Q X => ∃ (w : List Nat), w.length ≤ 900 ∧ ∃ F, Wd F [] H ∧ Ps F vs [D K (dS w)] ∧ (∀ k L, AlphaOk k L → w = fa k L → Rt ⟨F, H, keys []⟩ [] (PAl T k L) Q) ∧ ((¬ ∃ k L, AlphaOk k L ∧ w = fa k L) → RtE ⟨F, H, keys []⟩ [] T.c_InvalidAlphabet X)
theorem sp_parse_alphabet_len {T : Txt K mg} {vs H Q E} (h : sp_parse_alphabet T vs H Q E) : vs.length = 1 := by obtain ⟨_, _, F, _, p, _⟩ := h; exact paired_len p
set_option maxHeartbeats 4000000 in
theorem ok_parse_alphabet (T : Txt K mg) : FnOk P wo K mg base (L2.CX P wo) 4 T.f_parse_alphabet T.d_parse_alphabet ["text"] (sp_parse_alphabet T) := by
  have nd := (sc_parse_alphabet).nd
  refine T.F_parse_alphabet.okX sc_parse_alphabet (fun vs H Q E h => (sp_parse_alphabet_len h)) (fun cdv A outer s H vs Q E hr h => ?_)
  obtain ⟨w, wl, F, wd, pp, k, kx⟩ := h
  refine ⟨_, (pss_cons (ps_set (i := 1) nd rfl (Or.inl rfl) (pe_words (pv 0)))
    (pss_cons (ps_if (pt_cmpR op_lt (pe_callB (c_len (K := K) rfl) (by rfl) T.z_len PySem.boot_len (pa_cons (pv 1) pa_nil)) pe_int (nomark _)) (pss_one (ps_raise rfl (takes_of rfl rfl rfl rfl) (pmk_own PySem.F.excBase_ValueError T.x_InvalidAlphabet T.mc_InvalidAlphabet T.k_InvalidAlphabet (raises_own T.b_InvalidAlphabet T.t_InvalidAlphabet) (by exact rfl)))) pss_nil)
    (pss_cons (ps_setLc (i := 2) (own := [("word", 4)]) (by rfl) nd rfl rfl (sw_true rfl rfl rfl (by decide +kernel)) (pi_listK (K := K) rfl (pe_slice (c_slL (K := K) rfl) (pv 1) (po_some pe_int) po_none)) (blkOk_by (N := ["text", "words", "letters", "alphabet", "word", "digit"]) (sc := defScope s_parse_alphabet) (own := [("word", 4)]) (by decide +kernel)) (fun _ _ _ _ _ => pg_name (i := 4) nd rfl (by first | exact Or.inl rfl | exact Or.inr rfl)) (fun _ _ _ _ _ => pts_nil) (fun _ _ _ _ _ => (pe_callTy (c_tuple (K := K) rfl) (by rfl) T.z_tuple (by decide +kernel) (pa_cons (pe_lc (own := [("digit", 5)]) (by rfl) nd (pi_str (pv 4)) (blkOk_by (N := ["text", "words", "letters", "alphabet", "word", "digit"]) (sc := (relS ({ kind := PySem.ScopeKind.function, names := [ (PySem.Str.ofString ".0", PySem.NameKind.local), (PySem.Str.ofString "word", PySem.NameKind.local), (PySem.Str.ofString "tuple", PySem.NameKind.globalImplicit)], isGenerator := false, isCoroutine := false, more := [] : PySem.Scope }) (defScope s_parse_alphabet))) (own := [("digit", 5)]) (by decide +kernel)) (fun _ _ _ _ _ => pg_name (i := 5) nd rfl (by first | exact Or.inl rfl | exact Or.inr rfl)) (fun _ _ _ _ _ => pts_nil) (fun _ _ _ _ _ => (pe_call (ok__number T) (hr.mono (by decide)) rfl T.m__number T.F__number.kp T.b__number .nil pass0 (pa_cons (pv 5) pa_nil)))) pa_nil))))
    (pss_cons (ps_set (i := 3) nd rfl (Or.inl rfl) (pe_make ⟨T.mk_Alphabet, T.in_Alphabet, T.if_Alphabet, T.kc_Alphabet⟩ (ok_Alphabet_init T) (hr.mono (by decide)) rfl T.mc_Alphabet T.b_Alphabet_init .nil (passes_call (E := E) (takes_of rfl rfl rfl rfl) fun _ _ _ _ h => h) (pa_cons (pe_call (ok__number T) (hr.mono (by decide)) rfl T.m__number T.F__number.kp T.b__number .nil pass0 (pa_cons (pe_slice sl_str (pe_ix (c_ix (K := K) rfl) (pv 1) pe_int (fun _ _ => rfl)) po_none (po_some (pe_un un_neg pe_int))) pa_nil)) (pa_cons (pv 2) pa_nil))))
    (pss_cons (ps_if (pt_cmpR op_ne (pe_call (ok_format_alphabet T) (hr.mono (by decide)) rfl T.m_format_alphabet T.F_format_alphabet.kp T.b_format_alphabet .nil pass0 (pa_cons (pv 3) pa_nil)) (pv 0) (nomark _)) (pss_one (ps_raise rfl (takes_of rfl rfl rfl rfl) (pmk_own PySem.F.excBase_ValueError T.x_InvalidAlphabet T.mc_InvalidAlphabet T.k_InvalidAlphabet (raises_own T.b_InvalidAlphabet T.t_InvalidAlphabet) (by exact rfl)))) pss_nil)
    (pss_one (ps_ret (pv 3)))))))), ?_⟩
  refine go_start wd pp (Γ := [some (D K (dS w)), none, none, none, none, none]) rfl ?_
  have wn := wds_len w
  refine (q_asgN (evn_words (ev_var (i := 0) rfl) (by omega)) fun q hq => nx_freeze (K := K) (i := 1) 0 rfl hq rfl ?_)
  dsimp only [List.set, List.eraseIdx]
  have back : ∀ k' L', AlphaOk k' L' → w = fa k' L' → numF ((wds w).getD 1 []).dropLast = k' ∧ ((wds w).drop 2).map (pL numF) = L' ∧ 2 ≤ (wds w).length := fun k' L' A e => by rw [e]; exact fa_back A
  have ln := ev_cb (ea_cons (ev_var (i := 1) (M := []) (Γ := [some (D K (dS w)), some (PLi K ((wds w).map fun p => D K (dS p))), none, none, none, none]) rfl) ea_nil) (rc_len (K := K) (M := []))
  rw [List.length_map] at ln
  refine (q_if (et_test (ev_op ln (ev_int (K := K)) rv_b0)) (fun hz => go_raise (kx fun ⟨k', L', A, e⟩ => ?_)) fun hz => go_next ?_)
  · have := (back k' L' A e).2.2
    simp at hz
    omega
  have l2 : 2 ≤ (wds w).length := by simp at hz; omega
  have sl := ev_newL (K := K) (evn_slM (K := K) (R := fun p => D K (dS p)) (xs := wds w) (M := []) (M1 := []) (Γ := [some (D K (dS w)), some (PLi K ((wds w).map fun p => D K (dS p))), none, none, none, none]) (ev_var (i := 1) rfl) (ep_some (ev_int (K := K) (i := 2))) ep_none)
  rw [show (some (2 : Int)) = some ((2 : Nat) : Int) from rfl, cutG_drop] at sl
  have lc := evn_lcL (K := K) (xs := (wds w).drop 2) (R := fun p => D K (dS p)) (G := fun p => D K (dT (pL numF p))) (i := 4) (t := tYes) (M := []) (M1 := []) (Γ := [some (D K (dS w)), some (PLi K ((wds w).map fun p => D K (dS p))), none, none, none, none]) (te := tCB (rTuple K) (tCons (tLc (iStr (tVar 4)) (gName 5) tYes (tCall (sp__number T) [] E0 (tCons (tVar 5) tNil)) [5]) tNil)) (fun _ => true) sl (by rw [List.length_drop]; omega) (fun _ _ => et_yes) (fun p hp _ => by
    have pl := wn.2 p (List.mem_of_mem_drop hp)
    have lc2 := evn_lcS (K := K) (l := p) (i := 5) (t := tYes) (M := []) (M1 := []) (Γ := [some (D K (dS w)), some (PLi K ((wds w).map fun p => D K (dS p))), none, none, some (D K (dS p)), none]) (G := fun c => D K (.int (numF [c]))) (te := tCall (sp__number T) [] E0 (tCons (tVar 5) tNil)) (fun _ => true) (ev_var (i := 4) rfl) (by omega) (fun _ _ => et_yes) (fun c hc _ => use__number (T := T) (X := E0) (ea_cons (ev_var (i := 5) rfl) ea_nil) (by simp))
    rw [filter_true] at lc2
    exact ev_tupDg (xs := pL numF p) (lc2.is (by unfold pL MInts; rw [List.map_map]; rfl)))
  rw [filter_true] at lc
  refine (q_asgN lc fun q2 hq2 => ?_)
  dsimp only [List.set]
  generalize eL : ((wds w).drop 2).map (pL numF) = L at back
  generalize ek : numF ((wds w).getD 1 []).dropLast = kk at back
  have eM : (((wds w).drop 2).map fun p => D K (dT (pL numF p))) = L.map fun l => D K (dT l) := by rw [← eL, List.map_map]; rfl
  rw [eM]
  have hb : L.length ≤ 1000 ∧ ∀ l ∈ L, l.length ≤ 1000 := by
    rw [← eL]
    refine ⟨by rw [List.length_map, List.length_drop]; omega, fun l hl => ?_⟩
    obtain ⟨p, hp, rfl⟩ := List.mem_map.mp hl
    have := wn.2 p (List.mem_of_mem_drop hp)
    unfold pL
    rw [List.length_map]
    omega
  have args : EvA (tCons (tCall (sp__number T) [] E0 (tCons (tSl rSlS (tOp (rIx K) (tVar 1) (tC (.int 1))) tNoPart (tPart (tUn (rU fun i => .int (-i)) (tC (.int 1))))) tNil)) (tCons (tVar 2) tNil)) [some (D K (dS w)), some (PLi K ((wds w).map fun p => D K (dS p))), some (Own q2), none, none, none] [(q2, MLT K L)] [D K (.int kk), Own q2] [(q2, MLT K L)] := by
    have e1 : ((wds w).map fun p => D K (dS p))[(1 : Int).toNat]? = some (D K (dS ((wds w).getD 1 []))) := by
      rw [show (1 : Int).toNat = 1 from rfl, List.getElem?_map, List.getD_eq_getElem?_getD, List.getElem?_eq_getElem (by omega : 1 < (wds w).length)]; rfl
    have l1 := wn.2 ((wds w).getD 1 []) (by rw [List.getD_eq_getElem?_getD, List.getElem?_eq_getElem (by omega : 1 < (wds w).length)]; exact List.getElem_mem _)
    have h := use__number (T := T) (X := E0) (M := [(q2, MLT K L)]) (M1 := [(q2, MLT K L)]) (Γ := [some (D K (dS w)), some (PLi K ((wds w).map fun p => D K (dS p))), some (Own q2), none, none, none]) (ea_cons (ev_slS (ev_op (ev_var (i := 1) rfl) (ev_int (K := K) (i := 1)) (rv_ixL (by decide) e1)) ep_none (ep_some (ev_neg (ev_int (K := K) (i := 1)))) (by omega)) ea_nil) (by rw [cutN_last, List.length_dropLast]; omega)
    rw [cutN_last, ek] at h
    exact ea_cons h (ea_cons (ev_var (i := 2) rfl) ea_nil)
  by_cases A : AlphaOk kk L
  · refine (q_asg (use_AlphabetO args (j := 0) rfl hb A) ?_)
    dsimp only [List.set]
    refine (q_if (et_test (ev_neS (use_format_alphabet (T := T) (X := E0) (ea_cons (ev_var (i := 3) rfl) ea_nil) A) (ev_var (i := 0) rfl))) (fun hz => go_raise ((kx fun ⟨k', L', A', e⟩ => ?_).drop (List.nil_sublist _))) fun hz => go_next ?_)
    · obtain ⟨rfl, rfl, _⟩ := back k' L' A' e
      rw [← e] at hz
      simp at hz
    · have e : fa kk L = w := by simpa using hz
      exact nx_drop (List.nil_sublist _) (go_ret Le.refl (ev_var (i := 3) rfl) (k kk L A e.symm))
  · refine q_mk1_no (C := T.c_Alphabet) (Cx := T.c_InvalidAlphabet) (j := 0) args rfl (fun x vs H Q X ⟨F, w, p, r⟩ => ⟨x, kk, L, q2, hb, F, w, p, fun c => absurd c A, fun _ => r⟩) ((kx fun ⟨k', L', A', e⟩ => ?_).drop (List.nil_sublist _))
    obtain ⟨rfl, rfl, _⟩ := back k' L' A' e
    exact A A'
end
end My
namespace My
open PySem L2 Hq
local macro_rules | `(tactic| trivial) => `(tactic| omega)
section
variable {P : Program} {wo : World} {K : PySem.W.Frag} {mg : Str → Option Value} {base : Heap}
/-! ### parse_automaton -/
theorem sc_parse_automaton : FnScope ["text", "lines", "rows", "letters", "start", "automaton", "line", "word"] ["text"] (defScope s_parse_automaton) := ⟨rfl, rfl, rfl, by decide +kernel, rfl, by decide +kernel, by decide +kernel⟩
def sp_parse_automaton (T : Txt K mg) : Sp := fun vs H Q X => ∃ (w : List Nat), w.length ≤ 900 ∧ ∃ F, Wd F [] H ∧ Ps F vs [D K (dS w)] ∧ (∀ A, AuS A → w = fm A → Rt ⟨F, H, keys []⟩ [] (PAu T A) Q) ∧ ((¬ ∃ A, AuS A ∧ w = fm A) → RtE ⟨F, H, keys []⟩ [] T.c_InvalidAutomaton X)
theorem sp_parse_automaton_len {T : Txt K mg} {vs H Q E} (h : sp_parse_automaton T vs H Q E) : vs.length = 1 := by obtain ⟨_, _, F, _, p, _⟩ := h; exact paired_len p
set_option maxHeartbeats 4000000 in
theorem ok_parse_automaton (T : Txt K mg) : FnOk P wo K mg base (L2.CX P wo) 4 T.f_parse_automaton T.d_parse_automaton ["text"] (sp_parse_automaton T) := by
  have nd := (sc_parse_automaton).nd
  refine T.F_parse_automaton.okX sc_parse_automaton (fun vs H Q E h => (sp_parse_automaton_len h)) (fun cdv A outer s H vs Q E hr h => ?_)
  obtain ⟨w, wl, F, wd, pp, k, kx⟩ := h
  refine ⟨_, (pss_cons (ps_set (i := 1) nd rfl (Or.inl rfl) (pe_split (pv 0) pe_str))
    (pss_cons (ps_setLc (i := 2) (own := [("line", 6)]) (by rfl) nd rfl rfl (sw_true rfl rfl rfl (by decide +kernel)) (pi_listK (K := K) rfl (pv 1)) (blkOk_by (N := ["text", "lines", "rows", "letters", "start", "automaton", "line", "word"]) (sc := defScope s_parse_automaton) (own := [("line", 6)]) (by decide +kernel)) (fun _ _ _ _ _ => pg_name (i := 6) nd rfl (by first | exact Or.inl rfl | exact Or.inr rfl)) (fun _ _ _ _ _ => pts_nil) (fun _ _ _ _ _ => (pe_lc (own := [("word", 7)]) (by rfl) nd (pi_listK (K := K) rfl (pe_slice (c_slL (K := K) rfl) (pe_split (pv 6) pe_str) (po_some pe_int) po_none)) (blkOk_by (N := ["text", "lines", "rows", "letters", "start", "automaton", "line", "word"]) (sc := (relS ({ kind := PySem.ScopeKind.function, names := [(PySem.Str.ofString ".0", PySem.NameKind.local), (PySem.Str.ofString "line", PySem.NameKind.local)], isGenerator := false, isCoroutine := false, more := [] : PySem.Scope }) (defScope s_parse_automaton))) (own := [("word", 7)]) (by decide +kernel)) (fun _ _ _ _ _ => pg_name (i := 7) nd rfl (by first | exact Or.inl rfl | exact Or.inr rfl)) (fun _ _ _ _ _ => pts_nil) (fun _ _ _ _ _ => (pe_call (ok__number T) (hr.mono (by decide)) rfl T.m__number T.F__number.kp T.b__number .nil pass0 (pa_cons (pv 7) pa_nil))))))
    (pss_cons (ps_if (PW.pt (pw_or (pt_cmpR op_lt (pe_callB (c_len (K := K) rfl) (by rfl) T.z_len PySem.boot_len (pa_cons (pv 2) pa_nil)) pe_int (nomark _)) (pw_or1 (pt_cmpR op_ne (pe_callB (c_len (K := K) rfl) (by rfl) T.z_len PySem.boot_len (pa_cons (pe_ix (c_ix (K := K) rfl) (pv 2) pe_int (fun _ _ => rfl)) pa_nil)) pe_int (nomark _))))) (pss_one (ps_raise rfl (takes_of rfl rfl rfl rfl) (pmk_own PySem.F.excBase_ValueError T.x_InvalidAutomaton T.mc_InvalidAutomaton T.k_InvalidAutomaton (raises_own T.b_InvalidAutomaton T.t_InvalidAutomaton) (by exact rfl)))) pss_nil)
    (pss_cons (ps_asg (pe_ix (c_ix (K := K) rfl) (pv 2) pe_int (fun _ _ => rfl)) (pg_lstK (K := K) (n := 2) rfl (by rfl) (pgs_cons (pg_name (i := 3) nd rfl (by first | exact Or.inl rfl | exact Or.inr rfl)) (pgs_cons (pg_name (i := 4) nd rfl (by first | exact Or.inl rfl | exact Or.inr rfl)) pgs_nil))))
    (pss_cons (ps_set (i := 5) nd rfl (Or.inl rfl) (pe_make ⟨T.mk_Automaton, T.in_Automaton, T.if_Automaton, T.kc_Automaton⟩ (ok_Automaton_init T) (hr.mono (by decide)) rfl T.mc_Automaton T.b_Automaton_init .nil (passes_call (E := E) (takes_of rfl rfl rfl rfl) fun _ _ _ _ h => h) (pa_cons (pv 3) (pa_cons (pv 4) (pa_cons (pe_ix (c_ix (K := K) rfl) (pv 2) pe_int (fun _ _ => rfl)) (pa_cons (pe_slice (c_slL (K := K) rfl) (pv 2) (po_some pe_int) (po_some (pe_un un_neg pe_int))) pa_nil))))))
    (pss_cons (ps_if (pt_cmpR op_ne (pe_call (ok_format_automaton T) (hr.mono (by decide)) rfl T.m_format_automaton T.F_format_automaton.kp T.b_format_automaton .nil pass0 (pa_cons (pv 5) pa_nil)) (pv 0) (nomark _)) (pss_one (ps_raise rfl (takes_of rfl rfl rfl rfl) (pmk_own PySem.F.excBase_ValueError T.x_InvalidAutomaton T.mc_InvalidAutomaton T.k_InvalidAutomaton (raises_own T.b_InvalidAutomaton T.t_InvalidAutomaton) (by exact rfl)))) pss_nil)
    (pss_one (ps_ret (pv 5))))))))), ?_⟩
  refine go_start wd pp (Γ := [some (D K (dS w)), none, none, none, none, none, none, none]) rfl ?_
  have sn := spl_len 10 w
  refine (q_asgN (evn_split (c := 10) (ev_var (i := 0) rfl) (ev_strL (l := [10]) rfl) (by omega)) fun q hq => nx_freeze (K := K) (i := 1) 0 rfl hq rfl ?_)
  dsimp only [List.set, List.eraseIdx]
  generalize hS : spl 10 w = S at sn
  have lc := evn_lcL (K := K) (xs := S) (R := fun p => D K (dS p)) (G := fun p => D K (dL (rdL numF p))) (i := 6) (t := tYes) (M := []) (M1 := []) (Γ := [some (D K (dS w)), some (PLi K (S.map fun p => D K (dS p))), none, none, none, none, none, none]) (te := tLc (iList K (tSl (rSlL K) (tM1 rSpl (tVar 6) (tC (.str (Str.ofString " ")))) (tPart (tC (.int 1))) tNoPart)) (gName 7) tYes (tCall (sp__number T) [] E0 (tCons (tVar 7) tNil)) [7]) (fun _ => true) (ev_var (i := 1) rfl) (by omega) (fun _ _ => et_yes) (fun p hp _ => by
    have pl := sn.2 p hp
    have sn2 := spl_len 32 p
    have sl := ev_newL (K := K) (evn_slM (K := K) (R := fun p => D K (dS p)) (xs := spl 32 p) (M := []) (M1 := []) (Γ := [some (D K (dS w)), some (PLi K (S.map fun p => D K (dS p))), none, none, none, none, some (D K (dS p)), none]) (ev_newL (K := K) (evn_split (c := 32) (ev_var (i := 6) rfl) (ev_strL (l := [32]) rfl) (by omega))) (ep_some (ev_int (K := K) (i := 1))) ep_none)
    rw [show (some (1 : Int)) = some ((1 : Nat) : Int) from rfl, cutG_drop] at sl
    have lc2 := evn_lcL (K := K) (xs := (spl 32 p).drop 1) (R := fun p => D K (dS p)) (G := fun x => D K (.int (numF x))) (i := 7) (t := tYes) (M := []) (M1 := []) (Γ := [some (D K (dS w)), some (PLi K (S.map fun p => D K (dS p))), none, none, none, none, some (D K (dS p)), none]) (te := tCall (sp__number T) [] E0 (tCons (tVar 7) tNil)) (fun _ => true) sl (by rw [List.length_drop]; omega) (fun _ _ => et_yes) (fun x hx _ => use__number (T := T) (X := E0) (ea_cons (ev_var (i := 7) rfl) ea_nil) (by have := sn2.2 x (List.mem_of_mem_drop hx); omega))
    rw [filter_true] at lc2
    exact (ev_fr lc2).weak (MP.le_trans (fr_L (K := K)) (MP.le_trans (by rw [show (((spl 32 p).drop 1).map fun x => D K (.int (numF x))) = (rdL numF p).map fun n => D K (.int n) by unfold rdL; rw [List.map_map]; rfl]; exact fun F v h => h) (dL_le (K := K) (l := rdL numF p)))))
  rw [filter_true] at lc
  have eR : (S.map fun p => D K (dL (rdL numF p))) = (S.map (rdL numF)).map fun l => D K (dL l) := by rw [List.map_map]; rfl
  rw [eR] at lc
  generalize hN : S.map (rdL numF) = N at lc
  refine (q_asg ((ev_newL lc).weak (Lm_le (f := dL))) ?_)
  dsimp only [List.set]
  have back : ∀ A', AuS A' → w = fm A' → N = [(A'.L : Int), A'.s] :: A'.F :: (A'.R ++ [([] : List Int)]) := fun A' O e => by
    rw [← hN, ← hS, e]
    exact fm_rows (fun n hn => numF_nm hn) O
  have nb : N.length ≤ 901 ∧ ∀ r ∈ N, r.length ≤ 900 := by
    rw [← hN]
    refine ⟨by rw [List.length_map]; omega, fun r hr => ?_⟩
    obtain ⟨p, hp, rfl⟩ := List.mem_map.mp hr
    have h1 := sn.2 p hp
    have h2 := (spl_len 32 p).1
    unfold rdL
    rw [List.length_map, List.length_drop]
    omega
  have n0 : ∀ {Γ : Gm}, Γ[2]? = some (some (D K (.list (N.map dL)))) → 3 ≤ N.length → Ev (tOp (rIx K) (tVar 2) (tC (.int 0))) Γ [] (D K (dL (N.getD 0 []))) [] := fun e h => ev_op (ev_var e) (ev_int (K := K)) (rv_ixDL (by decide) (by
    rw [show (0 : Int).toNat = 0 from rfl, List.getElem?_map, List.getD_eq_getElem?_getD, List.getElem?_eq_getElem (by omega : 0 < N.length)]; rfl))
  have c3 : decide ((N.length : Int) < 3) = false → 3 ≤ N.length := fun h => by have := of_decide_eq_false h; omega
  refine (q_if (et_or (et_test (ev_op (ev_lenM (f := dL) (ev_var (i := 2) rfl)) (ev_int (K := K)) rv_b0)) (fun hz => et_test (ev_op (ev_lenM (f := PyData.int) (n0 rfl (c3 hz))) (ev_int (K := K)) rv_neI))) (fun hz => go_raise (kx fun ⟨A', O, e⟩ => ?_)) fun hz => go_next ?_)
  · have b := back A' O e
    have r1 : 0 < A'.R.length := by have := O.ok.s.2; have := O.ok.s.1; omega
    rw [b] at hz
    simp at hz
    omega
  obtain ⟨z1, z2⟩ : 3 ≤ N.length ∧ (N.getD 0 []).length = 2 := by
    have hz := hz.symm
    rw [Bool.or_eq_false_iff] at hz
    obtain ⟨a, b⟩ := hz
    refine ⟨c3 a, ?_⟩
    have b := b
    simp at b
    simp
    omega
  obtain ⟨n, s0, Fs, Rs, rfl⟩ : ∃ n s0 Fs Rs, N = [n, s0] :: Fs :: Rs := by
    match N, z1, z2 with
    | [a, b] :: c :: d, _, _ => exact ⟨a, b, c, d, rfl⟩
  refine (q_unpL2 ((n0 rfl z1).weak (le_dL (K := K) (l := [n, s0]))) ?_)
  dsimp only [List.set]
  have args : EvA (tCons (tVar 3) (tCons (tVar 4) (tCons (tOp (rIx K) (tVar 2) (tC (.int 1))) (tCons (tSl (rSlL K) (tVar 2) (tPart (tC (.int 2))) (tPart (tUn (rU fun i => .int (-i)) (tC (.int 1))))) tNil)))) [some (D K (dS w)), some (PLi K (S.map fun p => D K (dS p))), some (D K (.list (([n, s0] :: Fs :: Rs).map dL))), some (D K (.int n)), some (D K (.int s0)), none, none, none] [] [D K (.int n), D K (.int s0), D K (dL Fs), D K (dLL Rs.dropLast)] [] := by
    have sl := ev_slLDf (K := K) (f := dL) (l := [n, s0] :: Fs :: Rs) (M := []) (M1 := []) (Γ := [some (D K (dS w)), some (PLi K (S.map fun p => D K (dS p))), some (D K (.list (([n, s0] :: Fs :: Rs).map dL))), some (D K (.int n)), some (D K (.int s0)), none, none, none]) (ev_var (i := 2) rfl) (ep_some (ev_int (K := K) (i := 2))) (ep_some (ev_neg (ev_int (K := K) (i := 1))))
    rw [show (some (2 : Int)) = some ((2 : Nat) : Int) from rfl, cutG_inner] at sl
    exact ea_cons (ev_var (i := 3) rfl) (ea_cons (ev_var (i := 4) rfl) (ea_cons (ev_op (ev_var (i := 2) rfl) (ev_int (K := K)) (rv_ixDL (by decide) rfl)) (ea_cons sl ea_nil)))
  have same : ∀ A', AuS A' → w = fm A' → auOf n s0 Fs Rs.dropLast = A' := fun A' O e => by
    have b := back A' O e
    simp only [List.cons.injEq, and_true] at b
    obtain ⟨⟨rfl, rfl⟩, rfl, rfl⟩ := b
    rw [List.dropLast_concat]
    show Au.mk ((A'.L : Int)).toNat A'.s A'.F A'.R = A'
    rw [Int.toNat_natCast]
  have nbF := nb.2 Fs (by simp)
  have nbR : Rs.dropLast.length ≤ 900 ∧ ∀ r ∈ Rs.dropLast, r.length ≤ 900 := ⟨by have := nb.1; simp at this; rw [List.length_dropLast]; omega, fun r hr => nb.2 r (by have := List.dropLast_subset _ hr; simp [this])⟩
  by_cases O : (auOf n s0 Fs Rs.dropLast).Ok
  · have nn : ((n.toNat : Nat) : Int) = n := Int.toNat_of_nonneg (by have := O.L1; show 0 ≤ n; have h : 1 ≤ n.toNat := this; omega)
    have sm : AuS (auOf n s0 Fs Rs.dropLast) := by
      refine ⟨O, ?_, ?_⟩
      · have r1 := Au.row_mem O.s
        rw [← (O.R _ r1).1]
        have := nbR.2 _ r1
        omega
      · show Rs.dropLast.length < 1000; omega
    have e : [D K (.int (((auOf n s0 Fs Rs.dropLast).L : Nat) : Int)), D K (.int (auOf n s0 Fs Rs.dropLast).s), D K (dL (auOf n s0 Fs Rs.dropLast).F), D K (dLL (auOf n s0 Fs Rs.dropLast).R)] = [D K (.int n), D K (.int s0), D K (dL Fs), D K (dLL Rs.dropLast)] := by
      show [D K (.int ((n.toNat : Nat) : Int)), D K (.int s0), D K (dL Fs), D K (dLL Rs.dropLast)] = _
      rw [nn]
    have args2 := args
    rw [← e] at args2
    refine (q_asg (use_Automaton (A := auOf n s0 Fs Rs.dropLast) args2 O ⟨by show Fs.length ≤ 1000; omega, by show Rs.dropLast.length ≤ 1000; omega, by have := sm.L; omega⟩) ?_)
    dsimp only [List.set]
    refine (q_if (et_test (ev_neS (use_format_automaton (T := T) (X := E0) (ea_cons (ev_var (i := 5) rfl) ea_nil) ⟨sm, by show Fs.length ≤ 1000; omega⟩) (ev_var (i := 0) rfl))) (fun hz => go_raise (kx fun ⟨A', O', e⟩ => ?_)) fun hz => go_next ?_)
    · rw [same A' O' e, ← e] at hz
      simp at hz
    · have e : fm (auOf n s0 Fs Rs.dropLast) = w := by simpa using hz
      exact go_ret Le.refl (ev_var (i := 5) rfl) (k _ sm e.symm)
  · refine q_mk0_no (C := T.c_Automaton) (Cx := T.c_InvalidAutomaton) args (fun x vs H Q X ⟨F, w, p, r⟩ => ⟨x, n, s0, Fs, Rs.dropLast, ⟨by omega, by omega, fun r hr => by have := nbR.2 r hr; omega⟩, F, w, p, fun c => absurd c O, fun _ => r⟩) (kx fun ⟨A', O', e⟩ => ?_)
    rw [same A' O' e] at O
    exact O O'.ok
end
end My
namespace My
open PySem L2 Hq
local macro_rules | `(tactic| trivial) => `(tactic| omega)
section
variable {P : Program} {wo : World} {K : PySem.W.Frag} {mg : Str → Option Value} {base : Heap}
/-! ### _law_outcome -/
theorem sc__law_outcome : FnScope ["text", "found"] ["text"] (defScope s__law_outcome) := ⟨rfl, rfl, rfl, by decide +kernel, rfl, by decide +kernel, by decide +kernel⟩
theorem use_parse_alphabet {T : Txt K mg} {tr : TA} {Γ : Gm} {M M1 : Ms} {w : List Nat} {k : Int} {L : Lets} {X : XK} (h : EvA tr Γ M [D K (dS w)] M1) (wl : w.length ≤ 900) (A : AlphaOk k L) (e : w = fa k L) : Ev (tCall (sp_parse_alphabet T) [] X tr) Γ M (PAl T k L) M1 :=
  call0 h fun vs H Q ⟨F, wd, p, r⟩ => ⟨w, wl, F, wd, p, fun k' L' A' e' => by
    obtain ⟨rfl, rfl⟩ := fa_uniq A A' (e.symm.trans e')
    exact r, fun c => absurd ⟨k, L, A, e⟩ c⟩
def sp__law_outcome (T : Txt K mg) : Sp := fun vs H Q _ => ∃ (w : List Nat), w.length ≤ 900 ∧ Prom [D K (dS w)] [] (D K (oA w)) [] vs H Q
theorem sp__law_outcome_len {T : Txt K mg} {vs H Q E} (h : sp__law_outcome T vs H Q E) : vs.length = 1 := by obtain ⟨_, _, h⟩ := h; exact h.len
set_option maxHeartbeats 4000000 in
theorem ok__law_outcome (T : Txt K mg) : FnOk P wo K mg base CX0 5 T.f__law_outcome T.d__law_outcome ["text"] (sp__law_outcome T) := by
  have nd := (sc__law_outcome).nd
  refine T.F__law_outcome.ok sc__law_outcome (fun vs H Q E h => (sp__law_outcome_len h)) (fun cdv A outer s H vs Q E hr h => ?_)
  obtain ⟨w, wl, F, wd, pp, k⟩ := h
  refine ⟨_, (pss_one (ps_try_only rfl rfl ⟨rfl, by decide, Or.inl T.mc_InvalidAlphabet⟩ takes0 (fun W pn xe tk _ => (pss_cons (ps_set (i := 1) nd rfl (Or.inl rfl) (pe_call (ok_parse_alphabet T) (hr.mono (by decide)) rfl T.m_parse_alphabet T.F_parse_alphabet.kp T.b_parse_alphabet .nil (passes_call (E := fun cls d H => ∀ σ, W cls d σ H) tk fun _ _ σ _ h => h σ) (pa_cons (pv 0) pa_nil)))
     (pss_one (ps_ret (pe_tup (pa_cons (c_fld (K := K) rfl (pv 1) rfl) (pa_cons (c_fld (K := K) rfl (pv 1) rfl) pa_nil))))))) (fun a oe cls d pn _ _ => (pss_one (ps_ret pe_non))))), ?_⟩
  refine go_start wd pp (Γ := [some (D K (dS w)), none]) rfl ?_
  by_cases c : ∃ k L, AlphaOk k L ∧ w = fa k L
  · obtain ⟨kk, L, A, e⟩ := c
    refine (q_asg (use_parse_alphabet (ea_cons (ev_var (i := 0) rfl) ea_nil) wl A e) ?_)
    dsimp only [List.set]
    have o : oA w = .tuple [.int kk, .tuple (L.map dT)] := by rw [e]; exact oA_yes A
    rw [o] at k
    refine go_ret Le.refl ((ev_tup (ea_cons (ev_fld (P := D K (.int kk)) (ev_var (i := 1) rfl) (by simp) T.cl_Alphabet T.na_Alphabet_places) (ea_cons (ev_fld (P := D K (dTT L)) (ev_var (i := 1) rfl) (by simp) T.cl_Alphabet T.na_Alphabet_letters) ea_nil)) (by simp)).weak (PTu_D (ds := [.int kk, dTT L]))) k
  · rw [oA_no c] at k
    refine q_asg_no (Cx := T.c_InvalidAlphabet) (ea_cons (ev_var (i := 0) rfl) ea_nil) (fun vs H Q X ⟨F, wd, p, r⟩ => ⟨w, wl, F, wd, p, fun k' L' A' e' => absurd ⟨k', L', A', e'⟩ c, fun _ => r⟩) ?_
    exact try_no T.e_InvalidAlphabet Le.refl k
theorem use__law_outcome {T : Txt K mg} {tr : TA} {Γ : Gm} {M M1 : Ms} {w : List Nat} {X : XK} (h : EvA tr Γ M [D K (dS w)] M1) (hn : w.length ≤ 900) : Ev (tCall (sp__law_outcome T) [] X tr) Γ M (D K (oA w)) M1 :=
  call0 h fun vs H Q z => ⟨w, hn, z⟩
end
end My
namespace My
open PySem L2 Hq
local macro_rules | `(tactic| trivial) => `(tactic| omega)
section
variable {P : Program} {wo : World} {K : PySem.W.Frag} {mg : Str → Option Value} {base : Heap}
/-! ### _law_other_outcome -/
theorem sc__law_other_outcome : FnScope ["text", "found"] ["text"] (defScope s__law_other_outcome) := ⟨rfl, rfl, rfl, by decide +kernel, rfl, by decide +kernel, by decide +kernel⟩
theorem use_parse_automaton {T : Txt K mg} {tr : TA} {Γ : Gm} {M M1 : Ms} {w : List Nat} {A : Au} {X : XK} (h : EvA tr Γ M [D K (dS w)] M1) (wl : w.length ≤ 900) (O : AuS A) (e : w = fm A) : Ev (tCall (sp_parse_automaton T) [] X tr) Γ M (PAu T A) M1 :=
  call0 h fun vs H Q ⟨F, wd, p, r⟩ => ⟨w, wl, F, wd, p, fun A' O' e' => by
    cases fm_uniq O O' (e.symm.trans e')
    exact r, fun c => absurd ⟨A, O, e⟩ c⟩
def sp__law_other_outcome (T : Txt K mg) : Sp := fun vs H Q _ => ∃ (w : List Nat), w.length ≤ 900 ∧ Prom [D K (dS w)] [] (D K (oM w)) [] vs H Q
theorem sp__law_other_outcome_len {T : Txt K mg} {vs H Q E} (h : sp__law_other_outcome T vs H Q E) : vs.length = 1 := by obtain ⟨_, _, h⟩ := h; exact h.len
set_option maxHeartbeats 4000000 in
theorem ok__law_other_outcome (T : Txt K mg) : FnOk P wo K mg base CX0 5 T.f__law_other_outcome T.d__law_other_outcome ["text"] (sp__law_other_outcome T) := by
  have nd := (sc__law_other_outcome).nd
  refine T.F__law_other_outcome.ok sc__law_other_outcome (fun vs H Q E h => (sp__law_other_outcome_len h)) (fun cdv A outer s H vs Q E hr h => ?_)
  obtain ⟨w, wl, F, wd, pp, k⟩ := h
  refine ⟨_, (pss_one (ps_try_only rfl rfl ⟨rfl, by decide, Or.inl T.mc_InvalidAutomaton⟩ takes0 (fun W pn xe tk _ => (pss_cons (ps_set (i := 1) nd rfl (Or.inl rfl) (pe_call (ok_parse_automaton T) (hr.mono (by decide)) rfl T.m_parse_automaton T.F_parse_automaton.kp T.b_parse_automaton .nil (passes_call (E := fun cls d H => ∀ σ, W cls d σ H) tk fun _ _ σ _ h => h σ) (pa_cons (pv 0) pa_nil)))
     (pss_one (ps_ret (pe_tup (pa_cons (c_fld (K := K) rfl (pv 1) rfl) (pa_cons (c_fld (K := K) rfl (pv 1) rfl) (pa_cons (c_fld (K := K) rfl (pv 1) rfl) (pa_cons (c_fld (K := K) rfl (pv 1) rfl) pa_nil))))))))) (fun a oe cls d pn _ _ => (pss_one (ps_ret pe_non))))), ?_⟩
  refine go_start wd pp (Γ := [some (D K (dS w)), none]) rfl ?_
  by_cases c : ∃ A, AuS A ∧ w = fm A
  · obtain ⟨A, O, e⟩ := c
    refine (q_asg (use_parse_automaton (ea_cons (ev_var (i := 0) rfl) ea_nil) wl O e) ?_)
    dsimp only [List.set]
    have o : oM w = .tuple [.int (A.L : Int), .int A.s, dT A.F, .tuple (A.R.map dT)] := by rw [e]; exact oM_yes O
    rw [o] at k
    refine go_ret Le.refl ((ev_tup (ea_cons (ev_fld (P := D K (.int (A.L : Int))) (fps := auF K A) (ev_var (i := 1) rfl) (by simp) T.cl_Automaton T.na_Automaton_letters) (ea_cons (ev_fld (P := D K (.int A.s)) (fps := auF K A) (ev_var (i := 1) rfl) (by simp) T.cl_Automaton T.na_Automaton_start) (ea_cons (ev_fld (P := D K (dT A.F)) (fps := auF K A) (ev_var (i := 1) rfl) (by simp) T.cl_Automaton T.na_Automaton_finals) (ea_cons (ev_fld (P := D K (dTT A.R)) (fps := auF K A) (ev_var (i := 1) rfl) (by simp) T.cl_Automaton T.na_Automaton_rows) ea_nil)))) (by simp)).weak (PTu_D (ds := [.int (A.L : Int), .int A.s, dT A.F, dTT A.R]))) k
  · rw [oM_no c] at k
    refine q_asg_no (Cx := T.c_InvalidAutomaton) (ea_cons (ev_var (i := 0) rfl) ea_nil) (fun vs H Q X ⟨F, wd, p, r⟩ => ⟨w, wl, F, wd, p, fun A' O' e' => absurd ⟨A', O', e'⟩ c, fun _ => r⟩) ?_
    exact try_no T.e_InvalidAutomaton Le.refl k
theorem use__law_other_outcome {T : Txt K mg} {tr : TA} {Γ : Gm} {M M1 : Ms} {w : List Nat} {X : XK} (h : EvA tr Γ M [D K (dS w)] M1) (hn : w.length ≤ 900) : Ev (tCall (sp__law_other_outcome T) [] X tr) Γ M (D K (oM w)) M1 :=
  call0 h fun vs H Q z => ⟨w, hn, z⟩
end
end My
namespace My
open PySem L2 Hq
local macro_rules | `(tactic| trivial) => `(tactic| omega)
section
variable {P : Program} {wo : World} {K : PySem.W.Frag} {mg : Str → Option Value} {base : Heap}
/-! ### _law_number -/
theorem sc__law_number : FnScope ["word", "char"] ["word"] (defScope s__law_number) := ⟨rfl, rfl, rfl, by decide +kernel, rfl, by decide +kernel, by decide +kernel⟩
def sp__law_number (T : Txt K mg) : Sp := fun vs H Q _ => ∃ (w : List Nat), w.length ≤ 40000 ∧ Prom [D K (dS w)] [] (D K (.int (lnF w))) [] vs H Q
theorem sp__law_number_len {T : Txt K mg} {vs H Q E} (h : sp__law_number T vs H Q E) : vs.length = 1 := by obtain ⟨_, _, h⟩ := h; exact h.len
set_option maxHeartbeats 4000000 in
theorem ok__law_number (T : Txt K mg) : FnOk P wo K mg base CX0 1 T.f__law_number T.d__law_number ["word"] (sp__law_number T) := by
  have nd := (sc__law_number).nd
  refine T.F__law_number.ok sc__law_number (fun vs H Q E h => (sp__law_number_len h)) (fun cdv A outer s H vs Q E hr h => ?_)
  obtain ⟨w, wl, F, wd, pp, k⟩ := h
  refine ⟨_, (pss_cons (ps_if (PW.pt (pw_or (pt_cmpR op_eq (pv 0) pe_str (nomark _)) (pw_or (pt_cmpR op_gt (pe_callB call_len_str (by rfl) T.z_len PySem.boot_len (pa_cons (pv 0) pa_nil)) pe_int (nomark _)) (pw_or1 (PW.pt (pw_and (pt_cmpR op_eq (pe_ix (c_ix (K := K) rfl) (pv 0) pe_int (fun _ _ => rfl)) pe_str (nomark _)) (pw_and1 (pt_cmpR op_gt (pe_callB call_len_str (by rfl) T.z_len PySem.boot_len (pa_cons (pv 0) pa_nil)) pe_int (nomark _))))))))) (pss_one (ps_ret (pe_un un_neg pe_int))) pss_nil)
    (pss_cons (ps_for PassesOwn.never rfl (pi_str (pv 0)) (pg_name (i := 1) nd rfl (by first | exact Or.inl rfl | exact Or.inr rfl))
     (pss_one (ps_if (pt_cmpR op_notIn_sign (pv 1) pe_str (by rfl)) (pss_one (ps_ret (pe_un un_neg pe_int))) pss_nil)))
    (pss_one (ps_ret (pe_callTy call_int_str (by rfl) T.z_int (by decide +kernel) (pa_cons (pv 0) pa_nil)))))), ?_⟩
  refine go_start wd pp (Γ := [some (D K (dS w)), none]) rfl ?_
  have ln := fun {Γ : Gm} (h : Γ[0]? = some (some (D K (dS w)))) => ev_cb (ea_cons (ev_var (i := 0) (M := []) (Γ := Γ) h) ea_nil) (rc_lenS (K := K) (l := w) (M := []) (by omega))
  have hd : w ≠ [] → w[(0 : Int).toNat]? = some (w.headD 0) := fun hz => by
    cases w with
    | nil => exact absurd rfl hz
    | cons x w => rfl
  refine (q_if (et_or (et_test (ev_eqS (b := []) (ev_var (i := 0) rfl) (ev_strL (l := []) rfl))) (fun hz => et_or (et_test (ev_op (ln rfl) (ev_int (K := K)) rv_b0)) (fun _ => et_and (et_test (ev_eqS (a := [w.headD 0]) (b := [48]) (ev_op (ev_var (i := 0) rfl) (ev_int (K := K)) (rv_ixS (by decide) (by omega) (hd (of_decide_eq_false hz)))) (ev_strL (l := [48]) rfl))) (fun _ => et_test (ev_op (ln rfl) (ev_int (K := K)) rv_b0))))) (fun hb => ?_) fun hb => go_next ?_)
  · have c : w = [] ∨ 3 < w.length ∨ (w.headD 0 = 48 ∧ 1 < w.length) := by
      have hb := hb.symm
      simp only [Bool.or_eq_true, Bool.and_eq_true, decide_eq_true_eq, List.cons.injEq, and_true] at hb
      rcases hb with h | h | ⟨h1, h2⟩
      · exact .inl h
      · exact .inr (.inl (by omega))
      · exact .inr (.inr ⟨h1, by omega⟩)
    refine go_ret Le.refl ((ev_neg (ev_int (K := K))).is ?_) k
    unfold lnF
    rw [if_pos c]
  have c : ¬ (w = [] ∨ 3 < w.length ∨ (w.headD 0 = 48 ∧ 1 < w.length)) := by
    have hb := hb.symm
    intro z
    have : (decide (w = []) || (decide ((3 : Int) < (w.length : Int)) || (decide ([w.headD 0] = [48]) && decide ((1 : Int) < (w.length : Int))))) = true := by
      simp only [Bool.or_eq_true, Bool.and_eq_true, decide_eq_true_eq, List.cons.injEq, and_true]
      rcases z with h | h | ⟨h1, h2⟩
      · exact .inl h
      · exact .inr (.inl (by omega))
      · exact .inr (.inr ⟨h1, by omega⟩)
    rw [this] at hb
    cases hb
  refine (q_forS (ev_var (i := 0) rfl) (fun i Γ M => ∃ g : Option MP, Γ = [some (D K (dS w)), g] ∧ M = [] ∧ ∀ c ∈ w.take i, c ∈ [48, 49, 50, 51, 52, 53, 54, 55, 56, 57]) ⟨none, rfl, rfl, fun c hc => by simp at hc⟩ ?_ ?_)
  · rintro n x hx _ _ ⟨g, rfl, rfl, hp⟩
    dsimp only [List.set]
    refine go_if (et_test (ev_op (ev_var (i := 1) rfl) (ev_strL (l := [48, 49, 50, 51, 52, 53, 54, 55, 56, 57]) rfl) rv_niS)) (fun hb => ?_) fun hb => go_next (JA.of ⟨_, rfl, rfl, fun y hy => ?_⟩)
    · have nx : x ∉ [48, 49, 50, 51, 52, 53, 54, 55, 56, 57] := fun z => by
        rw [decide_eq_true z] at hb
        cases hb
      refine go_ret Le.refl ((ev_neg (ev_int (K := K))).is ?_) k
      unfold lnF
      rw [if_neg c, if_neg fun z => nx (z x (List.mem_of_getElem? hx))]
    · rw [List.take_add_one, hx] at hy
      rcases List.mem_append.mp hy with hy | hy
      · exact hp y hy
      · have : y = x := by simpa using hy
        subst this
        have hb : (!decide (y ∈ [48, 49, 50, 51, 52, 53, 54, 55, 56, 57])) = false := hb.symm
        simpa only [Bool.not_eq_false', decide_eq_true_eq] using hb
  · rintro _ _ ⟨g, rfl, rfl, hp⟩
    rw [List.take_length] at hp
    refine go_ret Le.refl ((ev_cb (ea_cons (ev_var (i := 0) rfl) ea_nil) (rc_intD (fun z => c (.inl z)) (by omega) fun c hc => dg_iff.mp (hp c hc))).is ?_) k
    unfold lnF
    rw [if_neg c, if_pos hp]
theorem use__law_number {T : Txt K mg} {tr : TA} {Γ : Gm} {M M1 : Ms} {w : List Nat} {X : XK} (h : EvA tr Γ M [D K (dS w)] M1) (hn : w.length ≤ 40000) : Ev (tCall (sp__law_number T) [] X tr) Γ M (D K (.int (lnF w))) M1 :=
  call0 h fun vs H Q z => ⟨w, hn, z⟩
end
end My
namespace My
open PySem L2 Hq
local macro_rules | `(tactic| trivial) => `(tactic| omega)
section
variable {P : Program} {wo : World} {K : PySem.W.Frag} {mg : Str → Option Value} {base : Heap}
/-! ### _law_read_alphabet -/
theorem sc__law_read_alphabet : FnScope ["text", "words", "places", "letters", "letter", "word", "char"] ["text"] (defScope s__law_read_alphabet) := ⟨rfl, rfl, rfl, by decide +kernel, rfl, by decide +kernel, by decide +kernel⟩
def sp__law_read_alphabet (T : Txt K mg) : Sp := fun vs H Q _ => ∃ (w : List Nat), w.length ≤ 900 ∧ Prom [D K (dS w)] [] (D K (oA w)) [] vs H Q
theorem sp__law_read_alphabet_len {T : Txt K mg} {vs H Q E} (h : sp__law_read_alphabet T vs H Q E) : vs.length = 1 := by obtain ⟨_, _, h⟩ := h; exact h.len
set_option maxHeartbeats 4000000 in
theorem ok__law_read_alphabet (T : Txt K mg) : FnOk P wo K mg base CX0 2 T.f__law_read_alphabet T.d__law_read_alphabet ["text"] (sp__law_read_alphabet T) := by
  have nd := (sc__law_read_alphabet).nd
  refine T.F__law_read_alphabet.ok sc__law_read_alphabet (fun vs H Q E h => (sp__law_read_alphabet_len h)) (fun cdv A outer s H vs Q E hr h => ?_)
  obtain ⟨w, wl, F, wd, pp, k⟩ := h
  refine ⟨_, (pss_cons (ps_if (PW.pt (pw_or (pt_cmpR op_ne (pe_slice sl_str (pv 0) po_none (po_some pe_int)) pe_str (nomark _)) (pw_or1 (pt_cmpR op_ne (pe_slice sl_str (pv 0) (po_some (pe_un un_neg pe_int)) po_none) pe_str (nomark _))))) (pss_one (ps_ret pe_non)) pss_nil)
    (pss_cons (ps_set (i := 1) nd rfl (Or.inl rfl) (pe_split (pe_slice sl_str (pv 0) (po_some pe_int) (po_some (pe_op op_sub (pe_callB call_len_str (by rfl) T.z_len PySem.boot_len (pa_cons (pv 0) pa_nil)) pe_int))) pe_str))
    (pss_cons (ps_if (pt_cmpR op_ne (pe_slice sl_str (pe_ix (c_ix (K := K) rfl) (pv 1) pe_int (fun _ _ => rfl)) (po_some (pe_un un_neg pe_int)) po_none) pe_str (nomark _)) (pss_one (ps_ret pe_non)) pss_nil)
    (pss_cons (ps_set (i := 2) nd rfl (Or.inl rfl) (pe_call (ok__law_number T) (hr.mono (by decide)) rfl T.m__law_number T.F__law_number.kp T.b__law_number .nil pass0 (pa_cons (pe_slice sl_str (pe_ix (c_ix (K := K) rfl) (pv 1) pe_int (fun _ _ => rfl)) po_none (po_some (pe_op op_sub (pe_callB call_len_str (by rfl) T.z_len PySem.boot_len (pa_cons (pe_ix (c_ix (K := K) rfl) (pv 1) pe_int (fun _ _ => rfl)) pa_nil)) pe_int))) pa_nil)))
    (pss_cons (ps_setLc (i := 3) (own := [("word", 5)]) (by rfl) nd rfl rfl (sw_true rfl rfl rfl (by decide +kernel)) (pi_listK (K := K) rfl (pe_slice (c_slL (K := K) rfl) (pv 1) (po_some pe_int) po_none)) (blkOk_by (N := ["text", "words", "places", "letters", "letter", "word", "char"]) (sc := defScope s__law_read_alphabet) (own := [("word", 5)]) (by decide +kernel)) (fun _ _ _ _ _ => pg_name (i := 5) nd rfl (by first | exact Or.inl rfl | exact Or.inr rfl)) (fun _ _ _ _ _ => pts_nil) (fun _ _ _ _ _ => (pe_callTy (c_tuple (K := K) rfl) (by rfl) T.z_tuple (by decide +kernel) (pa_cons (pe_lc (own := [("char", 6)]) (by rfl) nd (pi_str (pv 5)) (blkOk_by (N := ["text", "words", "places", "letters", "letter", "word", "char"]) (sc := (relS ({ kind := PySem.ScopeKind.function, names := [ (PySem.Str.ofString ".0", PySem.NameKind.local), (PySem.Str.ofString "word", PySem.NameKind.local), (PySem.Str.ofString "tuple", PySem.NameKind.globalImplicit)], isGenerator := false, isCoroutine := false, more := [] : PySem.Scope }) (defScope s__law_read_alphabet))) (own := [("char", 6)]) (by decide +kernel)) (fun _ _ _ _ _ => pg_name (i := 6) nd rfl (by first | exact Or.inl rfl | exact Or.inr rfl)) (fun _ _ _ _ _ => pts_nil) (fun _ _ _ _ _ => (pe_call (ok__law_number T) (hr.mono (by decide)) rfl T.m__law_number T.F__law_number.kp T.b__law_number .nil pass0 (pa_cons (pv 6) pa_nil)))) pa_nil))))
    (pss_cons (ps_if (PW.pt (pw_or (pt_cmpR op_lt (pv 2) pe_int (nomark _)) (pw_or (pt_cmpR op_gt (pv 2) pe_int (nomark _)) (pw_or (pt_cmpR op_lt (pe_callB (c_len (K := K) rfl) (by rfl) T.z_len PySem.boot_len (pa_cons (pv 3) pa_nil)) pe_int (nomark _)) (pw_or1 (pt_cmpR op_gt (pe_callB (c_len (K := K) rfl) (by rfl) T.z_len PySem.boot_len (pa_cons (pv 3) pa_nil)) pe_int (nomark _))))))) (pss_one (ps_ret pe_non)) pss_nil)
    (pss_cons (ps_for PassesOwn.never rfl (pi_listK (K := K) rfl (pv 3)) (pg_name (i := 4) nd rfl (by first | exact Or.inl rfl | exact Or.inr rfl))
     (pss_one (ps_if (PW.pt (pw_or (pt_cmpR op_eq (pe_callB (c_len (K := K) rfl) (by rfl) T.z_len PySem.boot_len (pa_cons (pv 4) pa_nil)) pe_int (nomark _)) (pw_or (pt_cmpR op_lt (pe_callB (c_minIT (K := K) rfl rfl hr.units) (by rfl) T.z_min (by decide +kernel) (pa_cons (pv 4) pa_nil)) pe_int (nomark _)) (pw_or (pt_cmpR op_ge (pe_callB (c_maxIT (K := K) rfl rfl hr.units) (by rfl) T.z_max (by decide +kernel) (pa_cons (pv 4) pa_nil)) (pv 2) (nomark _)) (pw_or1 (pt_cmpR (c_ne (K := K) rfl hr.units) (pe_callTy (c_list (K := K) rfl) (by rfl) T.z_list (by decide +kernel) (pa_cons (pv 4) pa_nil)) (pe_callB (c_sortedSet (w := wo) rfl rfl) (by rfl) T.z_sorted (by decide +kernel) (pa_cons (pe_callTy (c_setB (K := K) (w := wo) rfl rfl rfl) (by rfl) T.z_set (by decide +kernel) (pa_cons (pv 4) pa_nil)) pa_nil)) (nomark _))))))) (pss_one (ps_ret pe_non)) pss_nil)))
    (pss_one (ps_ret (pe_tup (pa_cons (pv 2) (pa_cons (pe_callTy (c_tuple (K := K) rfl) (by rfl) T.z_tuple (by decide +kernel) (pa_cons (pv 3) pa_nil)) pa_nil)))))))))))), ?_⟩
  refine go_start wd pp (Γ := [some (D K (dS w)), none, none, none, none, none, none]) rfl ?_
  have k0 : (¬ ∃ k L, AlphaOk k L ∧ w = fa k L) → Rt ⟨F, H, keys []⟩ [] (D K .none) Q := fun h => by
    have := k
    rw [oA_no h] at this
    exact this
  have s9 := ev_slS (K := K) (M := []) (M1 := []) (Γ := [some (D K (dS w)), none, none, none, none, none, none]) (ev_var (i := 0) rfl) ep_none (ep_some (ev_int (K := K) (i := 9))) (by omega)
  rw [show Hq.cutN w none (some 9) = w.take 9 from Hq.cutN_to (a := 9)] at s9
  have sE := ev_slS (K := K) (M := []) (M1 := []) (Γ := [some (D K (dS w)), none, none, none, none, none, none]) (ev_var (i := 0) rfl) (ep_some (ev_neg (ev_int (K := K) (i := 1)))) ep_none (by omega)
  rw [cutN_end1] at sE
  refine (q_if (et_or (et_test (ev_neS s9 (ev_strL (l := tA ++ [32]) rfl))) (fun _ => et_test (ev_neS sE (ev_strL (l := [10]) rfl)))) (fun hb => go_ret Le.refl (ev_non (K := K)) (k0 fun ⟨k', L', A, e⟩ => ?_)) fun hb => go_next ?_)
  · obtain ⟨_, h2, h3, _⟩ := fa_mid (k := k') (L := L')
    rw [e, h2, h3] at hb
    simp at hb
  obtain ⟨c1, c2⟩ : w.take 9 = tA ++ [32] ∧ w.drop (w.length - 1) = [10] := by
    have hb := hb.symm
    rw [Bool.or_eq_false_iff] at hb
    simpa only [Bool.not_eq_false', decide_eq_true_eq] using hb
  obtain ⟨n10, ew⟩ := fa_cut c1 c2
  have ln := ev_cb (ea_cons (ev_var (i := 0) (M := []) (Γ := [some (D K (dS w)), none, none, none, none, none, none]) rfl) ea_nil) (rc_lenS (K := K) (l := w) (M := []) (by omega))
  have sm := ev_slS (K := K) (M := []) (M1 := []) (Γ := [some (D K (dS w)), none, none, none, none, none, none]) (ev_var (i := 0) rfl) (ep_some (ev_int (K := K) (i := 9))) (ep_some (ev_op ln (ev_int (K := K) (i := 1)) (rv_i0 (g := fun i j => i - j)))) (by omega)
  rw [show (some ((w.length : Int) - 1)) = some (((9 + (w.length - 10) : Nat)) : Int) by congr 1; omega, show (some (9 : Int)) = some ((9 : Nat) : Int) from rfl, Hq.cutN_mid (by omega)] at sm
  have ml : (midA w).length ≤ 900 := by unfold midA; rw [List.length_take, List.length_drop]; omega
  refine (q_asgN (evn_split (c := 32) sm (ev_strL (l := [32]) rfl) ?_) fun q hq => nx_freeze (K := K) (i := 1) 0 rfl hq rfl ?_)
  · exact Nat.le_trans ml (by decide)
  dsimp only [List.set, List.eraseIdx]
  rw [show (w.drop 9).take (w.length - 10) = midA w from rfl]
  have sn := spl_len 32 (midA w)
  obtain ⟨p0, ps, hW⟩ : ∃ p0 ps, spl 32 (midA w) = p0 :: ps := by
    cases e : spl 32 (midA w) with
    | nil => exact absurd e (spl_ne _ _)
    | cons a b => exact ⟨a, b, rfl⟩
  rw [hW] at sn ⊢
  have fwd : ∀ k' L', AlphaOk k' L' → w = fa k' L' → p0 = nm k' ++ [58] ∧ ps = L'.map flt := fun k' L' A e => by
    have := fa_spl A
    rw [← e, hW] at this
    exact ⟨(List.cons.inj this).1, (List.cons.inj this).2⟩
  have l0 := sn.2 p0 List.mem_cons_self
  have i0 : ∀ {Γ : Gm}, Γ[1]? = some (some (PLi K ((p0 :: ps).map fun p => D K (dS p)))) → Ev (tOp (rIx K) (tVar 1) (tC (.int 0))) Γ [] (D K (dS p0)) [] := fun e => ev_op (ev_var e) (ev_int (K := K)) (rv_ixL (by decide) rfl)
  have s0 := ev_slS (K := K) (M := []) (M1 := []) (Γ := [some (D K (dS w)), some (PLi K ((p0 :: ps).map fun p => D K (dS p))), none, none, none, none, none]) (i0 rfl) (ep_some (ev_neg (ev_int (K := K) (i := 1)))) ep_none (by omega)
  rw [cutN_end1] at s0
  refine (q_if (et_test (ev_neS s0 (ev_strL (l := [58]) rfl))) (fun hb => go_ret Le.refl (ev_non (K := K)) (k0 fun ⟨k', L', A, e⟩ => ?_)) fun hb => go_next ?_)
  · obtain ⟨rfl, _⟩ := fwd k' L' A e
    rw [List.length_append, List.length_singleton, Nat.add_sub_cancel, List.drop_left' rfl] at hb
    simp at hb
  obtain ⟨a, rfl⟩ : ∃ a, p0 = a ++ [58] := by
    have hb := hb.symm
    simp only [Bool.not_eq_false', decide_eq_true_eq] at hb
    exact ⟨p0.take (p0.length - 1), by rw [← hb, List.take_append_drop]⟩
  have fwd2 : ∀ k' L', AlphaOk k' L' → w = fa k' L' → lnF a = k' ∧ ps.map (pL lnF) = L' := fun k' L' A e => by
    obtain ⟨h1, h2⟩ := fwd k' L' A e
    have k1 := A.k1
    have k4 := A.k4
    have ea := (List.append_inj' h1 rfl).1
    refine ⟨?_, ?_⟩
    · rw [ea, show nm k' = nmS k'.toNat from rfl, lnF_nm (by omega)]; omega
    · rw [h2, List.map_map]
      conv => rhs; rw [← List.map_id L']
      exact List.map_congr_left fun l hl => pL_flt (fun n hn => lnF_nm hn) (places_small A l hl)
  have ln2 := ev_cb (ea_cons (i0 (Γ := [some (D K (dS w)), some (PLi K (((a ++ [58]) :: ps).map fun p => D K (dS p))), none, none, none, none, none]) rfl) ea_nil) (rc_lenS (K := K) (l := a ++ [58]) (M := []) (by omega))
  have s1 := ev_slS (K := K) (M := []) (M1 := []) (Γ := [some (D K (dS w)), some (PLi K (((a ++ [58]) :: ps).map fun p => D K (dS p))), none, none, none, none, none]) (i0 rfl) ep_none (ep_some (ev_op ln2 (ev_int (K := K) (i := 1)) (rv_i0 (g := fun i j => i - j)))) (by omega)
  rw [show (some (((List.length (α := Nat) (a ++ [58]) : Nat) : Int) - 1)) = some ((a.length : Nat) : Int) by congr 1; rw [List.length_append, List.length_singleton]; omega, Hq.cutN_to, List.take_left' rfl] at s1
  refine (q_asg (use__law_number (T := T) (X := E0) (ea_cons s1 ea_nil) (by rw [List.length_append, List.length_singleton] at l0; omega)) ?_)
  dsimp only [List.set]
  have sl := ev_newL (K := K) (evn_slM (K := K) (R := fun p => D K (dS p)) (xs := (a ++ [58]) :: ps) (M := []) (M1 := []) (Γ := [some (D K (dS w)), some (PLi K (((a ++ [58]) :: ps).map fun p => D K (dS p))), some (D K (.int (lnF a))), none, none, none, none]) (ev_var (i := 1) rfl) (ep_some (ev_int (K := K) (i := 1))) ep_none)
  rw [show (some (1 : Int)) = some ((1 : Nat) : Int) from rfl, cutG_drop, List.drop_one, List.tail_cons] at sl
  have lc := evn_lcL (K := K) (xs := ps) (R := fun p => D K (dS p)) (G := fun p => D K (dT (pL lnF p))) (i := 5) (t := tYes) (M := []) (M1 := []) (Γ := [some (D K (dS w)), some (PLi K (((a ++ [58]) :: ps).map fun p => D K (dS p))), some (D K (.int (lnF a))), none, none, none, none]) (te := tCB (rTuple K) (tCons (tLc (iStr (tVar 5)) (gName 6) tYes (tCall (sp__law_number T) [] E0 (tCons (tVar 6) tNil)) [6]) tNil)) (fun _ => true) sl (by have := sn.1; simp at this; omega) (fun _ _ => et_yes) (fun p hp _ => by
    have pl := sn.2 p (List.mem_cons_of_mem _ hp)
    have lc2 := evn_lcS (K := K) (l := p) (i := 6) (t := tYes) (M := []) (M1 := []) (Γ := [some (D K (dS w)), some (PLi K (((a ++ [58]) :: ps).map fun p => D K (dS p))), some (D K (.int (lnF a))), none, none, some (D K (dS p)), none]) (G := fun c => D K (.int (lnF [c]))) (te := tCall (sp__law_number T) [] E0 (tCons (tVar 6) tNil)) (fun _ => true) (ev_var (i := 5) rfl) (by omega) (fun _ _ => et_yes) (fun c hc _ => use__law_number (T := T) (X := E0) (ea_cons (ev_var (i := 6) rfl) ea_nil) (by simp))
    rw [filter_true] at lc2
    exact ev_tupDg (xs := pL lnF p) (lc2.is (by unfold pL MInts; rw [List.map_map]; rfl)))
  rw [filter_true] at lc
  have ll : ∀ l ∈ ps.map (pL lnF), l.length ≤ 900 := fun l hl => by
    obtain ⟨p, hp, rfl⟩ := List.mem_map.mp hl
    have := sn.2 p (List.mem_cons_of_mem _ hp)
    unfold pL
    rw [List.length_map]
    omega
  have eR : (ps.map fun p => D K (dT (pL lnF p))) = (ps.map (pL lnF)).map fun l => D K (dT l) := by rw [List.map_map]; rfl
  rw [eR] at lc
  generalize hL : ps.map (pL lnF) = L at lc fwd2 ll
  refine (q_asg ((ev_newL lc).weak (Lm_le (f := dT))) ?_)
  dsimp only [List.set]
  generalize hk : lnF a = kk at fwd2
  have ln3 := ev_lenM (K := K) (f := dT) (xs := L) (M := []) (M1 := []) (Γ := [some (D K (dS w)), some (PLi K (((a ++ [58]) :: ps).map fun p => D K (dS p))), some (D K (.int kk)), some (D K (.list (L.map dT))), none, none, none]) (ev_var (i := 3) rfl)
  refine (q_if (et_or (et_test (ev_op (ev_var (i := 2) rfl) (ev_int (K := K)) rv_b0)) (fun _ => et_or (et_test (ev_op (ev_var (i := 2) rfl) (ev_int (K := K)) rv_b0)) (fun _ => et_or (et_test (ev_op ln3 (ev_int (K := K)) rv_b0)) (fun _ => et_test (ev_op ln3 (ev_int (K := K)) rv_b0))))) (fun hb => go_ret Le.refl (ev_non (K := K)) (k0 fun ⟨k', L', A, e⟩ => ?_)) fun hb => go_next ?_)
  · obtain ⟨rfl, rfl⟩ := fwd2 k' L' A e
    have k1 := A.k1
    have k4 := A.k4
    have l1 := A.l1
    have l6 := A.l6
    have hb := hb.symm
    simp only [Bool.or_eq_true, decide_eq_true_eq] at hb
    omega
  obtain ⟨⟨k1, k4⟩, l1, l6⟩ : (1 ≤ kk ∧ kk ≤ 4) ∧ 1 ≤ L.length ∧ L.length ≤ 6 := by
    have hb := hb.symm
    simp only [Bool.or_eq_false_iff, decide_eq_false_iff_not] at hb
    omega
  refine (q_forL (ps := L.map fun l => D K (dT l)) ((ev_var (i := 3) rfl).weak (le_Lm (f := dT))) (fun i Γ M => ∃ g : Option MP, Γ = [some (D K (dS w)), some (PLi K (((a ++ [58]) :: ps).map fun p => D K (dS p))), some (D K (.int kk)), some (D K (.list (L.map dT))), g, none, none] ∧ M = [] ∧ ∀ l ∈ L.take i, LOk kk l) ⟨none, rfl, rfl, fun l hl => by simp at hl⟩ ?_ ?_)
  · rintro E' hE i P hP _ _ ⟨g, rfl, rfl, hp⟩
    rw [List.getElem?_map] at hP
    obtain ⟨l, hx, rfl⟩ := Option.map_eq_some_iff.mp hP
    have hm := List.mem_of_getElem? hx
    have lb := ll l hm
    dsimp only [List.set]
    have ne : decide (((l.map PyData.int).length : Int) = 0) = false → l ≠ [] := fun h z => by subst z; exact absurd h (by decide)
    have mm : decide (mnL l < 0) = false → decide (kk ≤ mxL l) = false → l ≠ [] → ∀ x ∈ l, 0 ≤ x ∧ x < kk := fun h1 h2 h3 x hx => by
      have a1 := (mnL_spec h3).2 x hx
      have a2 := (mxL_spec h3).2 x hx
      have := of_decide_eq_false h1
      have := of_decide_eq_false h2
      omega
    refine go_if (et_or (et_test (ev_op (ev_cb (ea_cons (ev_var (i := 4) rfl) ea_nil) (rc_lenDT (ds := l.map PyData.int))) (ev_int (K := K)) rv_eqI)) (fun h1 => et_or (et_test (ev_op (ev_cb (ea_cons (ev_var (i := 4) rfl) ea_nil) (rc_minIT (ne h1))) (ev_int (K := K)) rv_b0)) (fun h2 => et_or (et_test (ev_op (ev_cb (ea_cons (ev_var (i := 4) rfl) ea_nil) (rc_maxIT (ne h1))) (ev_var (i := 2) rfl) rv_b0)) (fun h3 => et_test (ev_op (ev_listW (b := true) (ev_var (i := 4) rfl)) (ev_srtB (D := [0, 1, 2, 3]) (ev_var (i := 4) rfl) (by omega) (by decide) fun x hx => by
      have := mm h2 h3 (ne h1) x hx
      simp only [List.mem_cons, List.not_mem_nil, or_false]
      omega) (rv_neE enc_dL (by decide))))))) (fun hb => ?_) fun hb => go_next (JA.of ⟨_, rfl, rfl, fun y hy => ?_⟩)
    · refine go_ret hE (ev_non (K := K)) (k0 fun ⟨k', L', A, e⟩ => ?_)
      obtain ⟨rfl, rfl⟩ := fwd2 k' L' A e
      obtain ⟨o1, o2, o3⟩ := A.ok l hm
      have hb := hb.symm
      simp only [Bool.or_eq_true, decide_eq_true_eq, Bool.not_eq_true', decide_eq_false_iff_not] at hb
      rcases hb with hb | hb | hb | hb
      · exact o1 (List.length_eq_zero_iff.mp (by rw [List.length_map] at hb; omega))
      · have := o3 _ (mnL_spec o1).1
        omega
      · have := o3 _ (mxL_spec o1).1
        omega
      · exact hb (srS_iff.mpr o2)
    · rw [List.take_add_one, hx] at hy
      rcases List.mem_append.mp hy with hy | hy
      · exact hp y hy
      · have : y = l := by simpa using hy
        subst this
        have hb := hb.symm
        rw [Bool.or_eq_false_iff, Bool.or_eq_false_iff, Bool.or_eq_false_iff] at hb
        obtain ⟨h1, h2, h3, h4⟩ := hb
        have h4 : y = srS y := by simpa only [Bool.not_eq_false', decide_eq_true_eq] using h4
        exact ⟨ne h1, srS_iff.mp h4, mm h2 h3 (ne h1)⟩
  · rintro _ _ ⟨g, rfl, rfl, hp⟩
    rw [List.length_map, List.take_length] at hp
    have A : AlphaOk kk L := alpha_iff.mpr ⟨⟨k1, k4⟩, ⟨l1, l6⟩, hp⟩
    have e : w = fa kk L := by
      rw [← hk, ← hL]
      refine fa_rebuilt ew hW (by omega) (fun z => by rw [← hL, z] at l1; simp at l1) fun p hp2 x hx => ?_
      have := (hp (pL lnF p) (by rw [← hL]; exact List.mem_map_of_mem hp2)).2.2 x hx
      exact this.1
    have o : oA w = .tuple [.int kk, .tuple (L.map dT)] := by rw [e]; exact oA_yes A
    rw [o] at k
    exact go_ret Le.refl ((ev_tup (ea_cons (ev_var (i := 2) rfl) (ea_cons ((ev_cb (ea_cons ((ev_var (i := 3) rfl).weak (le_Lm (f := dT))) ea_nil) rc_tupleL).weak (Tm_le (f := dT))) ea_nil)) (by simp)).weak (PTu_D (ds := [.int kk, dTT L]))) k
theorem use__law_read_alphabet {T : Txt K mg} {tr : TA} {Γ : Gm} {M M1 : Ms} {w : List Nat} {X : XK} (h : EvA tr Γ M [D K (dS w)] M1) (hn : w.length ≤ 900) : Ev (tCall (sp__law_read_alphabet T) [] X tr) Γ M (D K (oA w)) M1 :=
  call0 h fun vs H Q z => ⟨w, hn, z⟩
end
end My
namespace My
open PySem L2 Hq
local macro_rules | `(tactic| trivial) => `(tactic| omega)
section
variable {P : Program} {wo : World} {K : PySem.W.Frag} {mg : Str → Option Value} {base : Heap}
/-! ### _law_read_automaton -/
theorem sc__law_read_automaton : FnScope ["text", "lines", "rows", "heads", "numbers", "row", "states", "letters", "start", "line", "word", "head", "number"] ["text"] (defScope s__law_read_automaton) := ⟨rfl, rfl, rfl, by decide +kernel, rfl, by decide +kernel, by decide +kernel⟩
def sp__law_read_automaton (T : Txt K mg) : Sp := fun vs H Q _ => ∃ (w : List Nat), (w.length ≤ 900 ∧ (∀ p ∈ spl 10 w, p.length ≤ 100) ∧ ∀ c ∈ w, c < 200) ∧ Prom [D K (dS w)] [] (D K (oM w)) [] vs H Q
theorem sp__law_read_automaton_len {T : Txt K mg} {vs H Q E} (h : sp__law_read_automaton T vs H Q E) : vs.length = 1 := by obtain ⟨_, _, h⟩ := h; exact h.len
set_option maxHeartbeats 4000000 in
theorem ok__law_read_automaton (T : Txt K mg) : FnOk P wo K mg base CX0 2 T.f__law_read_automaton T.d__law_read_automaton ["text"] (sp__law_read_automaton T) := by
  have nd := (sc__law_read_automaton).nd
  refine T.F__law_read_automaton.ok sc__law_read_automaton (fun vs H Q E h => (sp__law_read_automaton_len h)) (fun cdv A outer s H vs Q E hr h => ?_)
  obtain ⟨w, ⟨wl, wb, wc⟩, F, wd, pp, k⟩ := h
  refine ⟨_, (pss_cons (ps_set (i := 1) nd rfl (Or.inl rfl) (pe_split (pv 0) pe_str))
    (pss_cons (ps_if (PW.pt (pw_or (pt_cmpR op_ne (pe_bm0 PySem.F.plainAttrs_list PySem.F.slot_list_pop PySem.F.type_list_pop mt_pop (pv 1)) pe_str (nomark _)) (pw_or1 (pt_cmpR op_lt (pe_callB (c_len (K := K) rfl) (by rfl) T.z_len PySem.boot_len (pa_cons (pv 1) pa_nil)) pe_int (nomark _))))) (pss_one (ps_ret pe_non)) pss_nil)
    (pss_cons (ps_setLc (i := 2) (own := [("line", 9)]) (by rfl) nd rfl rfl (sw_true rfl rfl rfl (by decide +kernel)) (pi_listK (K := K) rfl (pv 1)) (blkOk_by (N := ["text", "lines", "rows", "heads", "numbers", "row", "states", "letters", "start", "line", "word", "head", "number"]) (sc := defScope s__law_read_automaton) (own := [("line", 9)]) (by decide +kernel)) (fun _ _ _ _ _ => pg_name (i := 9) nd rfl (by first | exact Or.inl rfl | exact Or.inr rfl)) (fun _ _ _ _ _ => pts_nil) (fun _ _ _ _ _ => (pe_split (pv 9) pe_str)))
    (pss_cons (ps_setLc (i := 3) (own := [("row", 5)]) (by rfl) nd rfl rfl (sw_true rfl rfl rfl (by decide +kernel)) (pi_listK (K := K) rfl (pv 2)) (blkOk_by (N := ["text", "lines", "rows", "heads", "numbers", "row", "states", "letters", "start", "line", "word", "head", "number"]) (sc := defScope s__law_read_automaton) (own := [("row", 5)]) (by decide +kernel)) (fun _ _ _ _ _ => pg_name (i := 5) nd rfl (by first | exact Or.inl rfl | exact Or.inr rfl)) (fun _ _ _ _ _ => pts_nil) (fun _ _ _ _ _ => (pe_ix (c_ix (K := K) rfl) (pv 5) pe_int (fun _ _ => rfl))))
    (pss_cons (ps_setLc (i := 4) (own := [("row", 5)]) (by rfl) nd rfl rfl (sw_true rfl rfl rfl (by decide +kernel)) (pi_listK (K := K) rfl (pv 2)) (blkOk_by (N := ["text", "lines", "rows", "heads", "numbers", "row", "states", "letters", "start", "line", "word", "head", "number"]) (sc := defScope s__law_read_automaton) (own := [("row", 5)]) (by decide +kernel)) (fun _ _ _ _ _ => pg_name (i := 5) nd rfl (by first | exact Or.inl rfl | exact Or.inr rfl)) (fun _ _ _ _ _ => pts_nil) (fun _ _ _ _ _ => (pe_lc (own := [("word", 10)]) (by rfl) nd (pi_listK (K := K) rfl (pe_slice (c_slL (K := K) rfl) (pv 5) (po_some pe_int) po_none)) (blkOk_by (N := ["text", "lines", "rows", "heads", "numbers", "row", "states", "letters", "start", "line", "word", "head", "number"]) (sc := (relS ({ kind := PySem.ScopeKind.function, names := [(PySem.Str.ofString ".0", PySem.NameKind.local), (PySem.Str.ofString "row", PySem.NameKind.local)], isGenerator := false, isCoroutine := false, more := [] : PySem.Scope }) (defScope s__law_read_automaton))) (own := [("word", 10)]) (by decide +kernel)) (fun _ _ _ _ _ => pg_name (i := 10) nd rfl (by first | exact Or.inl rfl | exact Or.inr rfl)) (fun _ _ _ _ _ => pts_nil) (fun _ _ _ _ _ => (pe_call (ok__law_number T) (hr.mono (by decide)) rfl T.m__law_number T.F__law_number.kp T.b__law_number .nil pass0 (pa_cons (pv 10) pa_nil))))))
    (pss_cons (ps_if (PW.pt (pw_or (pt_cmpR (c_ne (K := K) rfl hr.units) (pe_slice (c_slL (K := K) rfl) (pv 3) po_none (po_some pe_int)) (pe_lst (pa_cons pe_str (pa_cons pe_str pa_nil))) (nomark _)) (pw_or1 (pt_cmpR op_gt (pe_callB (c_len (K := K) rfl) (by rfl) T.z_len PySem.boot_len (pa_cons (pe_lc (own := [("head", 11)]) (by rfl) nd (pi_listK (K := K) rfl (pe_slice (c_slL (K := K) rfl) (pv 3) (po_some pe_int) po_none)) (blkOk_by (N := ["text", "lines", "rows", "heads", "numbers", "row", "states", "letters", "start", "line", "word", "head", "number"]) (sc := defScope s__law_read_automaton) (own := [("head", 11)]) (by decide +kernel)) (fun _ _ _ _ _ => pg_name (i := 11) nd rfl (by first | exact Or.inl rfl | exact Or.inr rfl)) (fun _ _ _ _ _ => (pts_one (pt_cmpR op_ne (pv 11) pe_str (nomark _)))) (fun _ _ _ _ _ => (pv 11))) pa_nil)) pe_int (nomark _))))) (pss_one (ps_ret pe_non)) pss_nil)
    (pss_cons (ps_for PassesOwn.never rfl (pi_listK (K := K) rfl (pv 4)) (pg_name (i := 5) nd rfl (by first | exact Or.inl rfl | exact Or.inr rfl))
     (pss_one (ps_if (PW.pt (pw_and (pt_cmpR op_gt (pe_callB (c_len (K := K) rfl) (by rfl) T.z_len PySem.boot_len (pa_cons (pv 5) pa_nil)) pe_int (nomark _)) (pw_and1 (pt_cmpR op_lt (pe_callB (c_min (K := K) rfl rfl) (by rfl) T.z_min (by decide +kernel) (pa_cons (pv 5) pa_nil)) pe_int (nomark _))))) (pss_one (ps_ret pe_non)) pss_nil)))
    (pss_cons (ps_if (pt_cmpR op_ne (pe_callB (c_len (K := K) rfl) (by rfl) T.z_len PySem.boot_len (pa_cons (pe_ix (c_ix (K := K) rfl) (pv 4) pe_int (fun _ _ => rfl)) pa_nil)) pe_int (nomark _)) (pss_one (ps_ret pe_non)) pss_nil)
    (pss_cons (ps_set (i := 6) nd rfl (Or.inr rfl) (pe_op op_sub (pe_callB (c_len (K := K) rfl) (by rfl) T.z_len PySem.boot_len (pa_cons (pv 2) pa_nil)) pe_int))
    (pss_cons (ps_asg (pe_ix (c_ix (K := K) rfl) (pv 4) pe_int (fun _ _ => rfl)) (pg_lstK (K := K) (n := 2) rfl (by rfl) (pgs_cons (pg_name (i := 7) nd rfl (by first | exact Or.inl rfl | exact Or.inr rfl)) (pgs_cons (pg_name (i := 8) nd rfl (by first | exact Or.inl rfl | exact Or.inr rfl)) pgs_nil))))
    (pss_cons (ps_if (PW.pt (pw_or (pt_cmpR op_lt (pv 7) pe_int (nomark _)) (pw_or (pt_cmpR op_ge (pv 8) (pv 6) (nomark _)) (pw_or1 (pt_cmpR (c_ne (K := K) rfl hr.units) (pe_ix (c_ix (K := K) rfl) (pv 4) pe_int (fun _ _ => rfl)) (pe_callB (c_sortedSet (w := wo) rfl rfl) (by rfl) T.z_sorted (by decide +kernel) (pa_cons (pe_callTy (c_set (K := K) (w := wo) rfl rfl rfl) (by rfl) T.z_set (by decide +kernel) (pa_cons (pe_ix (c_ix (K := K) rfl) (pv 4) pe_int (fun _ _ => rfl)) pa_nil)) pa_nil)) (nomark _)))))) (pss_one (ps_ret pe_non)) pss_nil)
    (pss_cons (ps_if (pt_cmpR op_gt (pe_callB (c_len (K := K) rfl) (by rfl) T.z_len PySem.boot_len (pa_cons (pe_lc (own := [("number", 12)]) (by rfl) nd (pi_listK (K := K) rfl (pe_ix (c_ix (K := K) rfl) (pv 4) pe_int (fun _ _ => rfl))) (blkOk_by (N := ["text", "lines", "rows", "heads", "numbers", "row", "states", "letters", "start", "line", "word", "head", "number"]) (sc := defScope s__law_read_automaton) (own := [("number", 12)]) (by decide +kernel)) (fun _ _ _ _ _ => pg_name (i := 12) nd rfl (by first | exact Or.inl rfl | exact Or.inr rfl)) (fun _ _ _ _ _ => (pts_one (pt_cmpR op_ge (pv 12) (pv 6) (nomark _)))) (fun _ _ _ _ _ => (pv 12))) pa_nil)) pe_int (nomark _)) (pss_one (ps_ret pe_non)) pss_nil)
    (pss_cons (ps_for PassesOwn.never rfl (pi_listK (K := K) rfl (pe_slice (c_slL (K := K) rfl) (pv 4) (po_some pe_int) po_none)) (pg_name (i := 5) nd rfl (by first | exact Or.inl rfl | exact Or.inr rfl))
     (pss_one (ps_if (PW.pt (pw_or (pt_cmpR op_ne (pe_callB (c_len (K := K) rfl) (by rfl) T.z_len PySem.boot_len (pa_cons (pv 5) pa_nil)) (pv 7) (nomark _)) (pw_or1 (pt_cmpR op_ge (pe_callB (c_max (K := K) rfl rfl) (by rfl) T.z_max (by decide +kernel) (pa_cons (pv 5) pa_nil)) (pv 6) (nomark _))))) (pss_one (ps_ret pe_non)) pss_nil)))
    (pss_one (ps_ret (pe_tup (pa_cons (pv 7) (pa_cons (pv 8) (pa_cons (pe_callTy (c_tuple (K := K) rfl) (by rfl) T.z_tuple (by decide +kernel) (pa_cons (pe_ix (c_ix (K := K) rfl) (pv 4) pe_int (fun _ _ => rfl)) pa_nil)) (pa_cons (pe_callTy (c_tuple (K := K) rfl) (by rfl) T.z_tuple (by decide +kernel) (pa_cons (pe_lc (own := [("row", 5)]) (by rfl) nd (pi_listK (K := K) rfl (pe_slice (c_slL (K := K) rfl) (pv 4) (po_some pe_int) po_none)) (blkOk_by (N := ["text", "lines", "rows", "heads", "numbers", "row", "states", "letters", "start", "line", "word", "head", "number"]) (sc := defScope s__law_read_automaton) (own := [("row", 5)]) (by decide +kernel)) (fun _ _ _ _ _ => pg_name (i := 5) nd rfl (by first | exact Or.inl rfl | exact Or.inr rfl)) (fun _ _ _ _ _ => pts_nil) (fun _ _ _ _ _ => (pe_callTy (c_tuple (K := K) rfl) (by rfl) T.z_tuple (by decide +kernel) (pa_cons (pv 5) pa_nil)))) pa_nil)) pa_nil)))))))))))))))))))), ?_⟩
  refine go_start wd pp (Γ := [some (D K (dS w)), none, none, none, none, none, none, none, none, none, none, none, none]) rfl ?_
  have k0 : (¬ ∃ A, AuS A ∧ w = fm A) → Rt ⟨F, H, keys []⟩ [] (D K .none) Q := fun h => by
    have := k
    rw [oM_no h] at this
    exact this
  have sn := (spl_len 10 w).1
  have fwd : ∀ A, AuS A → w = fm A → spl 10 w = hsM A ++ [([] : List Nat)] ∧ (hsM A).map (rdL lnF) = [(A.L : Int), A.s] :: A.F :: A.R ∧ (hsM A).map hdW = tM :: tF :: A.R.map fun _ => tR := fun A O e => by rw [e]; exact fm_lines O
  refine (q_asgN (evn_split (c := 10) (ev_var (i := 0) rfl) (ev_strL (l := [10]) rfl) (by omega)) fun q hq => ?_)
  dsimp only [List.set]
  obtain ⟨S, pz, hS⟩ : ∃ S pz, spl 10 w = S ++ [pz] := by
    have : spl 10 w ≠ [] := spl_ne _ _
    exact ⟨(spl 10 w).dropLast, (spl 10 w).getLast this, (List.dropLast_concat_getLast this).symm⟩
  rw [hS] at sn wb fwd ⊢
  have fwd2 : ∀ A, AuS A → w = fm A → pz = [] ∧ S.map (rdL lnF) = [(A.L : Int), A.s] :: A.F :: A.R ∧ S.map hdW = tM :: tF :: A.R.map fun _ => tR := fun A O e => by
    obtain ⟨h1, h2, h3⟩ := fwd A O e
    obtain ⟨e1, e2⟩ := List.append_inj' h1 rfl
    subst e1
    exact ⟨(List.cons.inj e2).1, h2, h3⟩
  have ep : ((S ++ [pz]).map fun p => D K (dS p))[((S ++ [pz]).map fun p => D K (dS p)).length - 1]? = some (D K (dS pz)) := by
    rw [List.length_map, List.length_append, List.length_singleton, Nat.add_sub_cancel, List.getElem?_map, List.getElem?_concat_length]; rfl
  have po := ev_pop (K := K) (j := 0) (M := [(q, ML ((S ++ [pz]).map fun p => D K (dS p)))]) (Γ := [some (D K (dS w)), some (Own q), none, none, none, none, none, none, none, none, none, none, none]) (ev_var (i := 1) rfl) rfl ep
  dsimp only [List.set] at po
  rw [List.map_append, List.map_singleton, List.dropLast_concat] at po
  have ln := ev_cb (ea_cons (ev_var (i := 1) (M := [(q, ML (S.map fun p => D K (dS p)))]) (Γ := [some (D K (dS w)), some (Own q), none, none, none, none, none, none, none, none, none, none, none]) rfl) ea_nil) (rc_lenO (K := K) (j := 0) rfl)
  rw [List.length_map] at ln
  rw [List.map_append, List.map_singleton]
  refine (q_if (et_or (et_test (ev_neS po (ev_strL (l := []) rfl))) (fun _ => et_test (ev_op ln (ev_int (K := K)) rv_b0))) (fun hb => nx_drop (List.nil_sublist _) (go_ret Le.refl (ev_non (K := K)) (k0 fun ⟨A, O, e⟩ => ?_))) fun hb => go_next ?_)
  · obtain ⟨rfl, h2, _⟩ := fwd2 A O e
    have r1 : 0 < A.R.length := by have := O.ok.s.2; have := O.ok.s.1; omega
    have := congrArg List.length h2
    simp only [List.length_map, List.length_cons] at this
    have hb := hb.symm
    simp only [Bool.or_eq_true, Bool.not_eq_true', decide_eq_true_eq, decide_eq_false_iff_not] at hb
    rcases hb with hb | hb
    · simp at hb
    · omega
  obtain ⟨rfl, l3⟩ : pz = [] ∧ 3 ≤ S.length := by
    have hb := hb.symm
    simp only [Bool.or_eq_false_iff, Bool.not_eq_false', decide_eq_true_eq, decide_eq_false_iff_not] at hb
    exact ⟨hb.1, by omega⟩
  refine nx_freeze (K := K) (i := 1) 0 rfl hq rfl ?_
  dsimp only [List.set, List.eraseIdx]
  have wb2 : ∀ p ∈ S, p.length ≤ 100 := fun p hp => wb p (List.mem_append_left _ hp)
  have nS : S.length ≤ 900 := by rw [List.length_append, List.length_singleton] at sn; omega
  refine (q_asg (P := PLi K (S.map fun p => PLi K ((spl 32 p).map fun x => D K (dS x)))) ((ev_newL (evn_lcL (K := K) (xs := S) (R := fun p => D K (dS p)) (G := fun p => PLi K ((spl 32 p).map fun x => D K (dS x))) (i := 9) (fun _ => true) (ev_var (i := 1) rfl) (by omega) (fun _ _ => et_yes) (fun p hp _ => ev_newL (K := K) (evn_split (c := 32) (ev_var (i := 9) rfl) (ev_strL (l := [32]) rfl) (by have := wb2 p hp; omega))))).is (by rw [filter_true])) ?_)
  dsimp only [List.set]
  refine (q_asg (P := PLi K (S.map fun p => D K (dS (hdW p)))) ((ev_newL (evn_lcL (K := K) (xs := S) (R := fun p => PLi K ((spl 32 p).map fun x => D K (dS x))) (G := fun p => D K (dS (hdW p))) (i := 5) (fun _ => true) (ev_var (i := 2) rfl) (by omega) (fun _ _ => et_yes) (fun p hp _ => ev_op (ev_var (i := 5) rfl) (ev_int (K := K)) (rv_ixL (by decide) (by rw [hdW_spl p]; rfl))))).is (by rw [filter_true])) ?_)
  dsimp only [List.set]
  refine (q_asg (P := PLi K (S.map fun p => D K (dL (rdL lnF p)))) ((ev_newL (evn_lcL (K := K) (xs := S) (R := fun p => PLi K ((spl 32 p).map fun x => D K (dS x))) (G := fun p => D K (dL (rdL lnF p))) (i := 5) (fun _ => true) (ev_var (i := 2) rfl) (by omega) (fun _ _ => et_yes) (fun p hp _ => by
    have pl := wb2 p hp
    have sn2 := spl_len 32 p
    refine (ev_fr ((evn_lcL (K := K) (xs := (spl 32 p).drop 1) (R := fun p => D K (dS p)) (G := fun x => D K (.int (lnF x))) (i := 10) (fun _ => true) ((ev_newL (evn_slM (K := K) (R := fun p => D K (dS p)) (xs := spl 32 p) (ev_var (i := 5) rfl) (ep_some (ev_int (K := K) (i := 1))) ep_none)).is (by rw [show (some (1 : Int)) = some ((1 : Nat) : Int) from rfl, cutG_drop])) (by rw [List.length_drop]; omega) (fun _ _ => et_yes) (fun x hx _ => use__law_number (T := T) (X := E0) (ea_cons (ev_var (i := 10) rfl) ea_nil) (by have := sn2.2 x (List.mem_of_mem_drop hx); omega))).is (O2 := ML ((rdL lnF p).map fun n => D K (.int n))) (by rw [filter_true]; unfold rdL; rw [List.map_map]; rfl))).weak (MP.le_trans (fr_L (K := K)) (dL_le (K := K) (l := rdL lnF p)))))).is (by rw [filter_true])) ?_)
  dsimp only [List.set]
  have eR : (S.map fun p => D K (dL (rdL lnF p))) = (S.map (rdL lnF)).map fun l => D K (dL l) := by rw [List.map_map]; rfl
  have eH : (S.map fun p => D K (dS (hdW p))) = (S.map hdW).map fun l => D K (dS l) := by rw [List.map_map]; rfl
  rw [eR, eH]
  obtain ⟨l0, l1, ls, rfl⟩ : ∃ l0 l1 ls, S = l0 :: l1 :: ls := by
    match S, l3 with
    | a :: b :: c, _ => exact ⟨a, b, c, rfl⟩
  have few : ∀ p ∈ l0 :: l1 :: ls, (∀ x ∈ rdL lnF p, 0 ≤ x) → (rdL lnF p).length ≤ 50 := fun p hp h => by
    have := rd_few h
    have := wb2 p hp
    omega
  have hdc : ∀ l ∈ (l0 :: l1 :: ls).map hdW, ∀ c ∈ l, c < 1114112 := fun l hl c hc => by
    obtain ⟨p, hp, rfl⟩ := List.mem_map.mp hl
    have := wc c (spl_sub 10 w p (by rw [hS]; exact List.mem_append_left _ hp) c (hdW_sub c hc))
    omega
  generalize hH : (l0 :: l1 :: ls).map hdW = HD at fwd2 hdc ⊢
  generalize hN : (l0 :: l1 :: ls).map (rdL lnF) = N at fwd2 ⊢
  have nH : HD.length ≤ 900 := by rw [← hH, List.length_map]; exact nS
  have nN : N.length ≤ 900 := by rw [← hN, List.length_map]; exact nS
  refine (q_if (et_or (et_test (ev_op (((ev_newL (evn_slM (K := K) (R := fun l => D K (dS l)) (xs := HD) (ev_var (i := 3) rfl) ep_none (ep_some (ev_int (K := K) (i := 2))))).is (P' := PLi K ((HD.take 2).map fun l => D K (dS l))) (by rw [show (some (2 : Int)) = some ((2 : Nat) : Int) from rfl, cutG_take])).weak (Lm_le (f := fun l => dS l))) ((ev_newL (evn_lst (ps := [tM, tF].map fun l => D K (dS l)) (ea_cons (ev_strL (l := tM) rfl) (ea_cons (ev_strL (l := tF) rfl) ea_nil)) (by simp))).weak (Lm_le (f := fun l => dS l))) (rv_neTs (ls := HD.take 2) (ms := [tM, tF]) (fun l hl => hdc l (List.mem_of_mem_take hl)) (by decide)))) (fun _ => et_test (ev_op (ev_cb (ea_cons (ev_newL (evn_lcL (K := K) (xs := HD.drop 2) (R := fun l => D K (dS l)) (G := fun l => D K (dS l)) (i := 11) (fun p => !decide (p = tR)) ((ev_newL (evn_slM (K := K) (R := fun l => D K (dS l)) (xs := HD) (ev_var (i := 3) rfl) (ep_some (ev_int (K := K) (i := 2))) ep_none)).is (by rw [show (some (2 : Int)) = some ((2 : Nat) : Int) from rfl, cutG_drop])) (by rw [List.length_drop]; omega) (fun p hp => et_test (ev_neS (ev_var (i := 11) rfl) (ev_strL (l := tR) rfl))) (fun p hp _ => ev_var (i := 11) rfl))) ea_nil) (rc_len (K := K))) (ev_int (K := K)) rv_b0))) (fun hb => go_ret Le.refl (ev_non (K := K)) (k0 fun ⟨A, O, e⟩ => ?_)) fun hb => go_next ?_)
  · obtain ⟨_, _, h3⟩ := fwd2 A O e
    rw [h3] at hb
    have z : ((A.R.map fun _ => tR).filter fun p => !decide (p = tR)) = [] := by
      rw [List.filter_eq_nil_iff]
      intro p hp
      obtain ⟨_, _, rfl⟩ := List.mem_map.mp hp
      decide
    rw [show (tM :: tF :: A.R.map fun _ => tR).drop 2 = A.R.map fun _ => tR from rfl, z] at hb
    rw [show (tM :: tF :: A.R.map fun _ => tR).take 2 = [tM, tF] from rfl] at hb
    simp at hb
  obtain ⟨hm, hr⟩ : HD.take 2 = [tM, tF] ∧ ∀ p ∈ HD.drop 2, p = tR := by
    have hb := hb.symm
    simp only [Bool.or_eq_false_iff, Bool.not_eq_false', decide_eq_true_eq, decide_eq_false_iff_not, List.length_map] at hb
    refine ⟨hb.1, fun p hp => ?_⟩
    rcases Decidable.em (p = tR) with c | c
    · exact c
    · have : p ∈ (HD.drop 2).filter fun p => !decide (p = tR) := List.mem_filter.mpr ⟨hp, by rw [decide_eq_false c]; rfl⟩
      have := List.length_pos_of_mem this
      omega
  obtain ⟨d0, d1, d2⟩ : hdW l0 = tM ∧ hdW l1 = tF ∧ ∀ p ∈ ls, hdW p = tR := by
    rw [← hH] at hm hr
    have hm : [hdW l0, hdW l1] = [tM, tF] := hm
    simp only [List.cons.injEq, and_true] at hm
    exact ⟨hm.1, hm.2, fun p hp => hr _ (List.mem_map_of_mem hp)⟩
  refine (q_forL (ps := N.map fun l => D K (dL l)) (ev_var (i := 4) rfl) (fun i Γ M => ∃ g : Option MP, Γ = [some (D K (dS w)), some (PLi K ((l0 :: l1 :: ls).map fun p => D K (dS p))), some (PLi K ((l0 :: l1 :: ls).map fun p => PLi K ((spl 32 p).map fun x => D K (dS x)))), some (PLi K (HD.map fun l => D K (dS l))), some (PLi K (N.map fun l => D K (dL l))), g, none, none, none, none, none, none, none] ∧ M = [] ∧ ∀ r ∈ N.take i, ∀ x ∈ r, 0 ≤ x) ⟨none, rfl, rfl, fun r hr => by simp at hr⟩ ?_ ?_)
  · rintro E' hE i P hP _ _ ⟨g, rfl, rfl, hp⟩
    rw [List.getElem?_map] at hP
    obtain ⟨r, hx, rfl⟩ := Option.map_eq_some_iff.mp hP
    have hm := List.mem_of_getElem? hx
    dsimp only [List.set]
    have ne : decide (0 < (r.length : Int)) = true → r ≠ [] := fun h z => by subst z; exact absurd h (by decide)
    refine go_if (et_and (et_test (ev_op (ev_lenM (f := PyData.int) (ev_var (i := 5) rfl)) (ev_int (K := K)) rv_b0)) (fun h => et_test (ev_op (ev_cb (ea_cons (ev_var (i := 5) rfl) ea_nil) (rc_minV (ne h))) (ev_int (K := K)) rv_b0))) (fun hb => ?_) fun hb => go_next (JA.of ⟨_, rfl, rfl, fun y hy => ?_⟩)
    · have hb := hb.symm
      rw [Bool.and_eq_true] at hb
      refine go_ret hE (ev_non (K := K)) (k0 fun ⟨A, O, e⟩ => ?_)
      obtain ⟨_, h2, _⟩ := fwd2 A O e
      obtain ⟨⟨a1, a2⟩, a3, a4⟩ := O.nums
      have z := (mnL_spec (ne hb.1)).1
      have lt := of_decide_eq_true hb.2
      rw [h2] at hm
      rcases List.mem_cons.mp hm with rfl | hm
      · rcases List.mem_cons.mp z with z | z
        · omega
        · have := List.mem_singleton.mp z; omega
      rcases List.mem_cons.mp hm with rfl | hm
      · have := a3 _ z; omega
      · have := a4 _ hm _ z; omega
    · rw [List.take_add_one, hx] at hy
      rcases List.mem_append.mp hy with hy | hy
      · exact hp y hy
      · have : y = r := by simpa using hy
        subst this
        intro x hx2
        have hb := hb.symm
        have n0 : y ≠ [] := fun z => by subst z; cases hx2
        have p0 : decide (0 < (y.length : Int)) = true := decide_eq_true (by have := List.length_pos_iff.mpr n0; omega)
        rw [p0, Bool.true_and] at hb
        have := of_decide_eq_false hb
        have := (mnL_spec n0).2 x hx2
        omega
  rintro _ _ ⟨g, rfl, rfl, hp⟩
  rw [List.length_map, List.take_length] at hp
  have i0 : ∀ {Γ : Gm}, Γ[4]? = some (some (PLi K (N.map fun l => D K (dL l)))) → Ev (tOp (rIx K) (tVar 4) (tC (.int 0))) Γ [] (D K (dL (rdL lnF l0))) [] := fun e => ev_op (ev_var e) (ev_int (K := K)) (rv_ixL (by decide) (by rw [← hN]; rfl))
  have i1 : ∀ {Γ : Gm}, Γ[4]? = some (some (PLi K (N.map fun l => D K (dL l)))) → Ev (tOp (rIx K) (tVar 4) (tC (.int 1))) Γ [] (D K (dL (rdL lnF l1))) [] := fun e => ev_op (ev_var e) (ev_int (K := K)) (rv_ixL (by decide) (by rw [← hN]; rfl))
  have fwd3 : ∀ A, AuS A → w = fm A → rdL lnF l0 = [(A.L : Int), A.s] ∧ rdL lnF l1 = A.F ∧ ls.map (rdL lnF) = A.R := fun A O e => by
    obtain ⟨_, h2, _⟩ := fwd2 A O e
    rw [← hN] at h2
    have h2 : rdL lnF l0 :: rdL lnF l1 :: ls.map (rdL lnF) = [(A.L : Int), A.s] :: A.F :: A.R := h2
    simp only [List.cons.injEq] at h2
    exact h2
  have hp0 : ∀ p ∈ l0 :: l1 :: ls, ∀ x ∈ rdL lnF p, 0 ≤ x := fun p hq => hp _ (by rw [← hN]; exact List.mem_map_of_mem hq)
  refine (q_if (et_test (ev_op (ev_lenM (f := PyData.int) (i0 rfl)) (ev_int (K := K)) rv_neI)) (fun hb => go_ret Le.refl (ev_non (K := K)) (k0 fun ⟨A, O, e⟩ => ?_)) fun hb => go_next ?_)
  · rw [(fwd3 A O e).1] at hb
    simp at hb
  obtain ⟨n, s0, e0⟩ : ∃ n s0, rdL lnF l0 = [n, s0] := by
    have hb : (!decide (((rdL lnF l0).length : Int) = 2)) = false := hb.symm
    simp only [Bool.not_eq_false', decide_eq_true_eq] at hb
    match rdL lnF l0, hb with
    | [a, b], _ => exact ⟨a, b, rfl⟩
    | [], h => simp at h
    | [_], h => simp at h
    | _ :: _ :: _ :: _, h => simp at h; omega
  have back : w = fm ⟨n.toNat, s0, rdL lnF l1, ls.map (rdL lnF)⟩ := fm_rebuilt hS d0 d1 d2 hp0 e0
  rw [e0] at fwd3
  refine (q_asg (P := D K (.int (ls.length : Int))) ((ev_op (ev_cb (ea_cons (ev_var (i := 2) rfl) ea_nil) (rc_len (K := K))) (ev_int (K := K) (i := 2)) (rv_i0 (g := fun i j => i - j))).is (by congr 2; simp only [List.length_map, List.length_cons]; omega)) ?_)
  dsimp only [List.set]
  refine (q_unpL2 (((i0 rfl).is (by rw [e0])).weak (le_dL (K := K) (l := [n, s0]))) ?_)
  dsimp only [List.set]
  have f1 := few l1 (by simp) (hp0 l1 (by simp))
  have n0 : 0 ≤ n := hp0 l0 (by simp) n (by rw [e0]; exact List.mem_cons_self)
  have s00 : 0 ≤ s0 := hp0 l0 (by simp) s0 (by rw [e0]; simp)
  have fp := hp0 l1 (by simp)
  generalize eF : rdL lnF l1 = Fs at i1 fwd3 back f1 fp
  refine (q_if (et_or (et_test (ev_op (ev_var (i := 7) rfl) (ev_int (K := K)) rv_b0)) (fun _ => et_or (et_test (ev_op (ev_var (i := 8) rfl) (ev_var (i := 6) rfl) rv_b0)) (fun _ => et_test (ev_op (i1 rfl) (ev_srtL (i1 rfl) (by omega)) (rv_neE enc_dL (by decide)))))) (fun hb => go_ret Le.refl (ev_non (K := K)) (k0 fun ⟨A, O, e⟩ => ?_)) fun hb => go_next ?_)
  · obtain ⟨h1, h2, h3⟩ := fwd3 A O e
    simp only [List.cons.injEq, and_true] at h1
    obtain ⟨rfl, rfl⟩ := h1
    subst h2
    have hb := hb.symm
    simp only [Bool.or_eq_true, decide_eq_true_eq, Bool.not_eq_true', decide_eq_false_iff_not] at hb
    have h3 := congrArg List.length h3
    rw [List.length_map] at h3
    have o1 := O.ok.L1
    have o2 := O.ok.s.2
    rcases hb with hb | hb | hb
    · omega
    · omega
    · exact hb (srS_iff.mpr O.ok.up)
  obtain ⟨n1, sl, fu⟩ : 1 ≤ n ∧ s0 < (ls.length : Int) ∧ Fs.Pairwise (· < ·) := by
    have hb := hb.symm
    simp only [Bool.or_eq_false_iff, Bool.not_eq_false', decide_eq_true_eq, decide_eq_false_iff_not] at hb
    exact ⟨by omega, by omega, srS_iff.mp hb.2.2⟩
  refine (q_if (et_test (ev_op (ev_cb (ea_cons (ev_newL (evn_lcL (K := K) (xs := Fs) (R := fun x => D K (.int x)) (G := fun x => D K (.int x)) (i := 12) (fun x => decide ((ls.length : Int) ≤ x)) ((i1 rfl).weak le_dL) (by omega) (fun x hx => et_test (ev_op (ev_var (i := 12) rfl) (ev_var (i := 6) rfl) rv_b0)) (fun x hx _ => ev_var (i := 12) rfl))) ea_nil) (rc_len (K := K))) (ev_int (K := K)) rv_b0)) (fun hb => go_ret Le.refl (ev_non (K := K)) (k0 fun ⟨A, O, e⟩ => ?_)) fun hb => go_next ?_)
  · obtain ⟨h1, h2, h3⟩ := fwd3 A O e
    subst h2
    have h3 := congrArg List.length h3
    rw [List.length_map] at h3
    have z : (A.F.filter fun x => decide ((ls.length : Int) ≤ x)) = [] := by
      rw [List.filter_eq_nil_iff]
      intro x hx c
      have := (O.ok.F x hx).2
      have := of_decide_eq_true c
      omega
    rw [z] at hb
    simp at hb
  have fin : ∀ x ∈ Fs, x < (ls.length : Int) := by
    have hb := hb.symm
    simp only [decide_eq_false_iff_not, List.length_map] at hb
    intro x hx
    rcases (by omega : x < (ls.length : Int) ∨ (ls.length : Int) ≤ x) with c | c
    · exact c
    · have : x ∈ Fs.filter fun x => decide ((ls.length : Int) ≤ x) := List.mem_filter.mpr ⟨hx, decide_eq_true c⟩
      have := List.length_pos_of_mem this
      omega
  have nb2 : ls.length ≤ 900 := by rw [List.length_cons, List.length_cons] at nS; omega
  have slE : ∀ {Γ : Gm}, Γ[4]? = some (some (PLi K (N.map fun l => D K (dL l)))) → Ev (tSl (rSlL K) (tVar 4) (tPart (tC (.int 2))) tNoPart) Γ [] (PLi K ((ls.map (rdL lnF)).map fun l => D K (dL l))) [] := fun e => (ev_newL (evn_slM (K := K) (R := fun l => D K (dL l)) (xs := N) (ev_var (i := 4) e) (ep_some (ev_int (K := K) (i := 2))) ep_none)).is (by rw [show (some (2 : Int)) = some ((2 : Nat) : Int) from rfl, cutG_drop, ← hN]; rfl)
  generalize eR2 : ls.map (rdL lnF) = Rs at fwd3 back slE
  have rp : ∀ r ∈ Rs, ∀ x ∈ r, 0 ≤ x := fun r hr => by
    rw [← eR2] at hr
    obtain ⟨p, hq, rfl⟩ := List.mem_map.mp hr
    exact hp0 p (by simp [hq])
  have nR : Rs.length = ls.length := by rw [← eR2, List.length_map]
  refine (q_forL (ps := Rs.map fun l => D K (dL l)) (slE rfl) (fun i Γ M => ∃ g : Option MP, Γ = [some (D K (dS w)), some (PLi K ((l0 :: l1 :: ls).map fun p => D K (dS p))), some (PLi K ((l0 :: l1 :: ls).map fun p => PLi K ((spl 32 p).map fun x => D K (dS x)))), some (PLi K (HD.map fun l => D K (dS l))), some (PLi K (N.map fun l => D K (dL l))), g, some (D K (.int (ls.length : Int))), some (D K (.int n)), some (D K (.int s0)), none, none, none, none] ∧ M = [] ∧ ∀ r ∈ Rs.take i, (r.length : Int) = n ∧ ∀ x ∈ r, x < (ls.length : Int)) ⟨g, rfl, rfl, fun r hr => by simp at hr⟩ ?_ ?_)
  · rintro E' hE i P hP _ _ ⟨g, rfl, rfl, hq⟩
    rw [List.getElem?_map] at hP
    obtain ⟨r, hx, rfl⟩ := Option.map_eq_some_iff.mp hP
    have hm := List.mem_of_getElem? hx
    dsimp only [List.set]
    have ne : (!decide ((r.length : Int) = n)) = false → r ≠ [] := fun h z => by
      subst z
      simp at h
      omega
    refine go_if (et_or (et_test (ev_op (ev_lenM (f := PyData.int) (ev_var (i := 5) rfl)) (ev_var (i := 7) rfl) rv_neI)) (fun h => et_test (ev_op (ev_cb (ea_cons (ev_var (i := 5) rfl) ea_nil) (rc_maxV (ne h))) (ev_var (i := 6) rfl) rv_b0))) (fun hb => ?_) fun hb => go_next (JA.of ⟨_, rfl, rfl, fun y hy => ?_⟩)
    · refine go_ret hE (ev_non (K := K)) (k0 fun ⟨A, O, e⟩ => ?_)
      obtain ⟨h1, h2, h3⟩ := fwd3 A O e
      simp only [List.cons.injEq, and_true] at h1
      subst h3
      obtain ⟨o1, o2⟩ := O.ok.R r hm
      have hb := hb.symm
      rw [Bool.or_eq_true] at hb
      rcases hb with hb | hb
      · simp at hb
        omega
      · have := of_decide_eq_true hb
        have z := o2 _ (mxL_spec (ne (by simp; omega))).1
        have := z.2
        omega
    · rw [List.take_add_one, hx] at hy
      rcases List.mem_append.mp hy with hy | hy
      · exact hq y hy
      · have : y = r := by simpa using hy
        subst this
        have hb := hb.symm
        rw [Bool.or_eq_false_iff] at hb
        refine ⟨by simpa using hb.1, fun x hx2 => ?_⟩
        have := of_decide_eq_false hb.2
        have := (mxL_spec (ne hb.1)).2 x hx2
        omega
  rintro _ _ ⟨g, rfl, rfl, hq⟩
  rw [List.length_map, List.take_length] at hq
  have nn : ((n.toNat : Nat) : Int) = n := Int.toNat_of_nonneg n0
  have O : (⟨n.toNat, s0, Fs, Rs⟩ : Au).Ok := ⟨by show 1 ≤ n.toNat; omega, ⟨s00, by show s0 < (Rs.length : Int); rw [nR]; exact sl⟩, fun x hx => ⟨fp x hx, by show x < (Rs.length : Int); rw [nR]; exact fin x hx⟩, fu, fun r hr => ⟨by have := (hq r hr).1; show r.length = n.toNat; omega, fun x hx => ⟨rp r hr x hx, by show x < (Rs.length : Int); rw [nR]; exact (hq r hr).2 x hx⟩⟩⟩
  have sm : AuS ⟨n.toNat, s0, Fs, Rs⟩ := by
    refine ⟨O, ?_, by show Rs.length < 1000; omega⟩
    obtain ⟨r, hr1, e1⟩ : ∃ r ∈ Rs, r.length = n.toNat := ⟨_, Au.row_mem O.s, (O.R _ (Au.row_mem O.s)).1⟩
    rw [← eR2] at hr1
    obtain ⟨p, hq2, e2⟩ := List.mem_map.mp hr1
    have := few p (by simp [hq2]) (hp0 p (by simp [hq2]))
    rw [e2, e1] at this
    show n.toNat < 1000
    omega
  have o : oM w = .tuple [.int n, .int s0, dT Fs, .tuple (Rs.map dT)] := by
    rw [back, oM_yes sm]
    show PyData.tuple [.int ((n.toNat : Nat) : Int), _, _, _] = _
    rw [nn]
  rw [o] at k
  refine go_ret Le.refl ((ev_tup (ea_cons (ev_var (i := 7) rfl) (ea_cons (ev_var (i := 8) rfl) (ea_cons ((ev_cb (ea_cons ((i1 rfl).weak le_dL) ea_nil) rc_tupleL).weak dT_le) (ea_cons ((ev_cb (ea_cons ((ev_newL (evn_lcL (K := K) (xs := Rs) (R := fun l => D K (dL l)) (G := fun l => D K (dT l)) (i := 5) (fun _ => true) (slE rfl) (by omega) (fun _ _ => et_yes) (fun l _ _ => (ev_cb (ea_cons ((ev_var (i := 5) rfl).weak le_dL) ea_nil) rc_tupleL).weak dT_le))).is (by rw [filter_true])) ea_nil) rc_tupleL).weak (Tm_le (f := dT))) ea_nil)))) (by simp)).weak (PTu_D (ds := [.int n, .int s0, dT Fs, dTT Rs]))) k
theorem use__law_read_automaton {T : Txt K mg} {tr : TA} {Γ : Gm} {M M1 : Ms} {w : List Nat} {X : XK} (h : EvA tr Γ M [D K (dS w)] M1) (hn : w.length ≤ 900 ∧ (∀ p ∈ spl 10 w, p.length ≤ 100) ∧ ∀ c ∈ w, c < 200) : Ev (tCall (sp__law_read_automaton T) [] X tr) Γ M (D K (oM w)) M1 :=
  call0 h fun vs H Q z => ⟨w, hn, z⟩
end
end My
namespace My
open PySem L2 Hq
local macro_rules | `(tactic| trivial) => `(tactic| omega)
section
variable {P : Program} {wo : World} {K : PySem.W.Frag} {mg : Str → Option Value} {base : Heap}
/-! ### _law_changed -/
theorem sc__law_changed : FnScope ["draws", "text", "at", "sign", "kind", "lines", "k"] ["draws", "text"] (defScope s__law_changed) := ⟨rfl, rfl, rfl, by decide +kernel, rfl, by decide +kernel, by decide +kernel⟩
abbrev PTB (K : PySem.W.Frag) (N m : Nat) : MP := PEx fun w : List Nat => PAn (TB N m w) (D K (dS w))
def sp__law_changed (T : Txt K mg) : Sp := fun vs H Q _ => ∃ (d : Addr) (w : List Nat) (N m : Nat), (TB N m w ∧ N ≤ 400 ∧ m ≤ 100) ∧ Prom [Own d, D K (dS w)] [(d, MDr K)] (PTB K (N + m + 2) (2 * m + 1)) [(d, MDr K)] vs H Q
theorem sp__law_changed_len {T : Txt K mg} {vs H Q E} (h : sp__law_changed T vs H Q E) : vs.length = 2 := by obtain ⟨_, _, _, _, _, h⟩ := h; exact h.len
set_option maxHeartbeats 4000000 in
theorem ok__law_changed (T : Txt K mg) : FnOk P wo K mg base CX0 2 T.f__law_changed T.d__law_changed ["draws", "text"] (sp__law_changed T) := by
  have nd := (sc__law_changed).nd
  refine T.F__law_changed.ok sc__law_changed (fun vs H Q E h => (sp__law_changed_len h)) (fun cdv A outer s H vs Q E hr h => ?_)
  obtain ⟨d, w, N, m, ⟨tb, nN, nm⟩, F, wd, pp, k⟩ := h
  refine ⟨_, (pss_cons (ps_set (i := 2) nd rfl (Or.inl rfl) (pe_call (ok__law_take T) (hr.mono (by decide)) rfl T.m__law_take T.F__law_take.kp T.b__law_take .nil pass0 (pa_cons (pv 0) (pa_cons (pe_op op_add (pe_callB call_len_str (by rfl) T.z_len PySem.boot_len (pa_cons (pv 1) pa_nil)) pe_int) pa_nil))))
    (pss_cons (ps_set (i := 3) nd rfl (Or.inl rfl) (pe_ix (c_ix (K := K) rfl) pe_str (pe_call (ok__law_take T) (hr.mono (by decide)) rfl T.m__law_take T.F__law_take.kp T.b__law_take .nil pass0 (pa_cons (pv 0) (pa_cons pe_int pa_nil))) (fun _ _ => rfl)))
    (pss_cons (ps_set (i := 4) nd rfl (Or.inl rfl) (pe_call (ok__law_take T) (hr.mono (by decide)) rfl T.m__law_take T.F__law_take.kp T.b__law_take .nil pass0 (pa_cons (pv 0) (pa_cons pe_int pa_nil))))
    (pss_cons (ps_if (pt_cmpR op_eq (pv 4) pe_int (nomark _)) (pss_one (ps_ret (pe_op op_add_str (pe_slice sl_str (pv 1) po_none (po_some (pv 2))) (pe_slice sl_str (pv 1) (po_some (pe_op op_add (pv 2) pe_int)) po_none)))) pss_nil)
    (pss_cons (ps_if (pt_cmpR op_eq (pv 4) pe_int (nomark _)) (pss_one (ps_ret (pe_op op_add_str (pe_op op_add_str (pe_slice sl_str (pv 1) po_none (po_some (pv 2))) (pv 3)) (pe_slice sl_str (pv 1) (po_some (pv 2)) po_none)))) pss_nil)
    (pss_cons (ps_if (pt_cmpR op_eq (pv 4) pe_int (nomark _)) (pss_one (ps_ret (pe_op op_add_str (pe_op op_add_str (pe_slice sl_str (pv 1) po_none (po_some (pv 2))) (pv 3)) (pe_slice sl_str (pv 1) (po_some (pe_op op_add (pv 2) pe_int)) po_none)))) pss_nil)
    (pss_cons (ps_set (i := 5) nd rfl (Or.inl rfl) (pe_split (pv 1) pe_str))
    (pss_cons (ps_set (i := 6) nd rfl (Or.inl rfl) (pe_call (ok__law_take T) (hr.mono (by decide)) rfl T.m__law_take T.F__law_take.kp T.b__law_take .nil pass0 (pa_cons (pv 0) (pa_cons (pe_callB (c_len (K := K) rfl) (by rfl) T.z_len PySem.boot_len (pa_cons (pv 5) pa_nil)) pa_nil))))
    (pss_cons (ps_if (pt_cmpR op_eq (pv 4) pe_int (nomark _)) (pss_one (ps_ret (c_join (K := K) rfl pe_str (pe_op (c_catL (K := K) rfl) (pe_slice (c_slL (K := K) rfl) (pv 5) po_none (po_some (pv 6))) (pe_slice (c_slL (K := K) rfl) (pv 5) (po_some (pe_op op_add (pv 6) pe_int)) po_none))))) pss_nil)
    (pss_one (ps_ret (c_join (K := K) rfl pe_str (pe_op (c_catL (K := K) rfl) (pe_op (c_catL (K := K) rfl) (pe_slice (c_slL (K := K) rfl) (pv 5) po_none (po_some (pv 6))) (pe_slice (c_slL (K := K) rfl) (pv 5) (po_some (pv 6)) (po_some (pe_op op_add (pv 6) pe_int)))) (pe_slice (c_slL (K := K) rfl) (pv 5) (po_some (pv 6)) po_none)))))))))))))), ?_⟩
  refine go_start wd pp (Γ := [some (Own d), some (D K (dS w)), none, none, none, none, none]) rfl ?_
  have wl := tb.1
  have out : ∀ {w' : List Nat}, TB (N + m + 2) (2 * m + 1) w' → (D K (dS w')).le (PTB K (N + m + 2) (2 * m + 1)) := fun {w'} h => MP.le_trans (PAn.in h) (PEx.in (R := fun w : List Nat => PAn (TB (N + m + 2) (2 * m + 1) w) (D K (dS w))) w')
  refine (q_asg (use__law_take (T := T) (X := E0) (n := (w.length : Int) + 1) (ea_cons (ev_var (i := 0) rfl) (ea_cons (ev_op (ev_cb (ea_cons (ev_var (i := 1) rfl) ea_nil) (rc_lenS (by omega))) (ev_int (K := K)) rv_i0) ea_nil)) (by omega) (j := 0) rfl) (nx_ex (i := 2) rfl fun z => nx_an (i := 2) rfl fun hz => ?_))
  obtain ⟨a, rfl⟩ := Int.eq_ofNat_of_zero_le (by omega : 0 ≤ z)
  dsimp only [List.set]
  refine (q_asg (ev_op (ev_strL (l := [48, 49, 50, 51, 32, 58, 10, 97, 98, 114]) rfl) (use__law_take (T := T) (X := E0) (n := 10) (ea_cons (ev_var (i := 0) rfl) (ea_cons (ev_int (K := K)) ea_nil)) (by omega) (j := 0) rfl) (rv_ixSX (by decide))) (nx_ex (i := 3) rfl fun s => nx_an (i := 3) rfl fun hs => ?_))
  have hs : s < 200 := by
    have : ∀ x ∈ [48, 49, 50, 51, 32, 58, 10, 97, 98, 114], x < 200 := by decide
    exact this s hs
  dsimp only [List.set]
  refine (q_asg (use__law_take (T := T) (X := E0) (n := 5) (ea_cons (ev_var (i := 0) rfl) (ea_cons (ev_int (K := K)) ea_nil)) (by omega) (j := 0) rfl) (nx_ex (i := 4) rfl fun kd => nx_an (i := 4) rfl fun hkd => ?_))
  dsimp only [List.set]
  have tk : ∀ {Γ : Gm} {M : Ms}, Γ[1]? = some (some (D K (dS w))) → Γ[2]? = some (some (D K (.int (a : Int)))) → Ev (tSl rSlS (tVar 1) tNoPart (tPart (tVar 2))) Γ M (D K (dS (w.take a))) M := fun {Γ M} e1 e2 => by
    have := ev_slS (K := K) (M := M) (M1 := M) (Γ := Γ) (ev_var (i := 1) e1) ep_none (ep_some (ev_var (i := 2) e2)) (by omega)
    rwa [Hq.cutN_to] at this
  have dr : ∀ {Γ : Gm} {M : Ms}, Γ[1]? = some (some (D K (dS w))) → Γ[2]? = some (some (D K (.int (a : Int)))) → Ev (tSl rSlS (tVar 1) (tPart (tVar 2)) tNoPart) Γ M (D K (dS (w.drop a))) M := fun {Γ M} e1 e2 => by
    have := ev_slS (K := K) (M := M) (M1 := M) (Γ := Γ) (ev_var (i := 1) e1) (ep_some (ev_var (i := 2) e2)) ep_none (by omega)
    rwa [Hq.cutN_from] at this
  have dr1 : ∀ {Γ : Gm} {M : Ms}, Γ[1]? = some (some (D K (dS w))) → Γ[2]? = some (some (D K (.int (a : Int)))) → Ev (tSl rSlS (tVar 1) (tPart (tOp (rI0 fun i j => .int (i + j)) (tVar 2) (tC (.int 1)))) tNoPart) Γ M (D K (dS (w.drop (a + 1)))) M := fun {Γ M} e1 e2 => by
    have := ev_slS (K := K) (M := M) (M1 := M) (Γ := Γ) (ev_var (i := 1) e1) (ep_some (ev_op (ev_var (i := 2) e2) (ev_int (K := K) (i := 1)) (rv_i0 (g := fun i j => i + j)))) ep_none (by omega)
    rwa [show ((a : Int) + 1) = ((a + 1 : Nat) : Int) by omega, Hq.cutN_from] at this
  have lt := List.length_take_le a w
  have ld := List.length_drop (i := a) (l := w)
  have ld1 := List.length_drop (i := a + 1) (l := w)
  refine (q_if (et_test (ev_op (ev_var (i := 4) rfl) (ev_int (K := K)) rv_eqI)) (fun _ => ?_) fun _ => go_next ?_)
  · exact go_ret Le.refl ((ev_op (tk rfl rfl) (dr1 rfl rfl) (rv_addS (by rw [List.length_take]; omega))).weak (out (tb0 tb))) k
  refine (q_if (et_test (ev_op (ev_var (i := 4) rfl) (ev_int (K := K)) rv_eqI)) (fun _ => ?_) fun _ => go_next ?_)
  · exact go_ret Le.refl ((ev_op (ev_op (tk rfl rfl) (ev_var (i := 3) rfl) (rv_addS (by rw [List.length_take, List.length_singleton]; omega))) (dr rfl rfl) (rv_addS (by rw [List.length_append, List.length_take, List.length_singleton]; omega))).weak (out (tb1 tb hs (Nat.le_refl _)))) k
  refine (q_if (et_test (ev_op (ev_var (i := 4) rfl) (ev_int (K := K)) rv_eqI)) (fun _ => ?_) fun _ => go_next ?_)
  · exact go_ret Le.refl ((ev_op (ev_op (tk rfl rfl) (ev_var (i := 3) rfl) (rv_addS (by rw [List.length_take, List.length_singleton]; omega))) (dr1 rfl rfl) (rv_addS (by rw [List.length_append, List.length_take, List.length_singleton]; omega))).weak (out (tb1 tb hs (Nat.le_succ _)))) k
  refine (q_asgN (evn_split (c := 10) (ev_var (i := 1) rfl) (ev_strL (l := [10]) rfl) (by omega)) fun q hq => nx_freeze (K := K) (i := 5) 0 rfl hq rfl ?_)
  dsimp only [List.set, List.eraseIdx]
  have sn := spl_len 10 w
  have snz : 0 < (spl 10 w).length := List.length_pos_iff.mpr (spl_ne _ _)
  have ss := spl_sum 10 w
  have t3 := fun k => tb3 (k := k) tb
  have t4 := fun k => tb4 (k := k) tb
  generalize spl 10 w = S at sn snz ss t3 t4 ⊢
  refine (q_asg (use__law_take (T := T) (X := E0) (n := (S.length : Int)) (ea_cons (ev_var (i := 0) rfl) (ea_cons ((ev_cb (ea_cons (ev_var (i := 5) rfl) ea_nil) (rc_len (K := K))).is (by rw [List.length_map])) ea_nil)) (by omega) (j := 0) rfl) (nx_ex (i := 6) rfl fun z => nx_an (i := 6) rfl fun hz => ?_))
  obtain ⟨i, rfl⟩ := Int.eq_ofNat_of_zero_le (by omega : 0 ≤ z)
  dsimp only [List.set]
  have nS : S.length ≤ 402 := by omega
  have slT : ∀ {Γ : Gm} {M : Ms}, Γ[5]? = some (some (PLi K (S.map fun p => D K (dS p)))) → Γ[6]? = some (some (D K (.int (i : Int)))) → Ev (tSl (rSlL K) (tVar 5) tNoPart (tPart (tVar 6))) Γ M (PLi K ((S.take i).map fun p => D K (dS p))) M := fun {Γ M} e1 e2 => (ev_newL (evn_slM (K := K) (R := fun p => D K (dS p)) (xs := S) (M := M) (M1 := M) (Γ := Γ) (ev_var (i := 5) e1) ep_none (ep_some (ev_var (i := 6) e2)))).is (by rw [cutG_take])
  have slD : ∀ {Γ : Gm} {M : Ms}, Γ[5]? = some (some (PLi K (S.map fun p => D K (dS p)))) → Γ[6]? = some (some (D K (.int (i : Int)))) → Ev (tSl (rSlL K) (tVar 5) (tPart (tVar 6)) tNoPart) Γ M (PLi K ((S.drop i).map fun p => D K (dS p))) M := fun {Γ M} e1 e2 => (ev_newL (evn_slM (K := K) (R := fun p => D K (dS p)) (xs := S) (M := M) (M1 := M) (Γ := Γ) (ev_var (i := 5) e1) (ep_some (ev_var (i := 6) e2)) ep_none)).is (by rw [cutG_drop])
  have slD1 : ∀ {Γ : Gm} {M : Ms}, Γ[5]? = some (some (PLi K (S.map fun p => D K (dS p)))) → Γ[6]? = some (some (D K (.int (i : Int)))) → Ev (tSl (rSlL K) (tVar 5) (tPart (tOp (rI0 fun i j => .int (i + j)) (tVar 6) (tC (.int 1)))) tNoPart) Γ M (PLi K ((S.drop (i + 1)).map fun p => D K (dS p))) M := fun {Γ M} e1 e2 => (ev_newL (evn_slM (K := K) (R := fun p => D K (dS p)) (xs := S) (M := M) (M1 := M) (Γ := Γ) (ev_var (i := 5) e1) (ep_some (ev_op (ev_var (i := 6) e2) (ev_int (K := K) (i := 1)) (rv_i0 (g := fun i j => i + j)))) ep_none)).is (by rw [show ((i : Int) + 1) = ((i + 1 : Nat) : Int) by omega, cutG_drop])
  have slM : ∀ {Γ : Gm} {M : Ms}, Γ[5]? = some (some (PLi K (S.map fun p => D K (dS p)))) → Γ[6]? = some (some (D K (.int (i : Int)))) → Ev (tSl (rSlL K) (tVar 5) (tPart (tVar 6)) (tPart (tOp (rI0 fun i j => .int (i + j)) (tVar 6) (tC (.int 1))))) Γ M (PLi K (((S.drop i).take 1).map fun p => D K (dS p))) M := fun {Γ M} e1 e2 => (ev_newL (evn_slM (K := K) (R := fun p => D K (dS p)) (xs := S) (M := M) (M1 := M) (Γ := Γ) (ev_var (i := 5) e1) (ep_some (ev_var (i := 6) e2)) (ep_some (ev_op (ev_var (i := 6) e2) (ev_int (K := K) (i := 1)) (rv_i0 (g := fun i j => i + j)))))).is (by rw [show ((i : Int) + 1) = ((i + 1 : Nat) : Int) by omega, cutG_mid, Nat.min_eq_left (by omega : i ≤ S.length), Nat.min_eq_left (by omega : i + 1 ≤ S.length), Nat.add_sub_cancel_left])
  have j3 := js3 S i
  have j4 := js4 S i
  refine (q_if (et_test (ev_op (ev_var (i := 4) rfl) (ev_int (K := K)) rv_eqI)) (fun _ => ?_) fun _ => go_next ?_)
  · exact go_ret Le.refl ((ev_joinL (s := [10]) (ps := S.take i ++ S.drop (i + 1)) (ev_strL (l := [10]) rfl) ((ev_op (slT rfl rfl) (slD1 rfl rfl) (rv_catLP (by simp only [List.length_map, List.length_take, List.length_drop]; omega))).is (by rw [List.map_append])) (by rw [List.length_singleton]; omega)).weak (out (t3 i))) k
  · exact go_ret Le.refl ((ev_joinL (s := [10]) (ps := S.take i ++ (S.drop i).take 1 ++ S.drop i) (ev_strL (l := [10]) rfl) ((ev_op (ev_op (slT rfl rfl) (slM rfl rfl) (rv_catLP (by simp only [List.length_map, List.length_take, List.length_drop]; omega))) (slD rfl rfl) (rv_catLP (by simp only [List.length_append, List.length_map, List.length_take, List.length_drop]; omega))).is (by rw [List.map_append, List.map_append])) (by rw [List.length_singleton]; omega)).weak (out (t4 i))) k
theorem use__law_changed {T : Txt K mg} {tr : TA} {Γ : Gm} {M M1 : Ms} {d : Addr} {w : List Nat} {N m j : Nat} {X : XK} (h : EvA tr Γ M [Own d, D K (dS w)] M1) (hn : TB N m w ∧ N ≤ 400 ∧ m ≤ 100) (e : M1[j]? = some (d, MDr K)) : Ev (tCall (sp__law_changed T) [] X tr) Γ M (PTB K (N + m + 2) (2 * m + 1)) M1 :=
  call1 h e fun vs H Q z => ⟨d, w, N, m, hn, z⟩
end
end My
namespace My
open PySem L2 Hq
local macro_rules | `(tactic| trivial) => `(tactic| omega)
section
variable {P : Program} {wo : World} {K : PySem.W.Frag} {mg : Str → Option Value} {base : Heap}
/-! ### law -/
theorem sc_law : FnScope ["script", "draws", "count", "letters", "text", "start", "finals", "rows", "other", "row", "k", "there", "place", "state"] ["script"] (defScope s_law) := ⟨rfl, rfl, rfl, by decide +kernel, rfl, by decide +kernel, by decide +kernel⟩
def spLaw (K : PySem.W.Frag) : Sp := fun vs H Q _ => ∃ (a : Addr) (ns : List Int), vs = [.ref a] ∧ SqL K H a (ns.map V.int) ∧ ns.length ≤ 63 ∧ ∀ H', Q (.bl true) H'
def sp_law (T : Txt K mg) : Sp := spLaw K
theorem sp_law_len {T : Txt K mg} {vs H Q E} (h : sp_law T vs H Q E) : vs.length = 1 := by obtain ⟨a, ns, rfl, _⟩ := h; rfl
set_option maxHeartbeats 4000000 in
theorem ok_law (T : Txt K mg) : FnOk P wo K mg base CX0 6 T.f_law T.d_law ["script"] (sp_law T) := by
  have nd := (sc_law).nd
  refine T.F_law.ok sc_law (fun vs H Q E h => (sp_law_len h)) (fun cdv A outer s H vs Q E hr h => ?_)
  obtain ⟨a0, ns, rfl, hS, hns, k0⟩ := h
  have w : Wd H [] H := ⟨Evl.Ex.refl _, List.nodup_nil, fun r hr => by cases hr⟩
  have ps : Ps H [.ref a0] [PLi K (ns.map fun n => D K (.int n))] := .cons ⟨a0, _, rfl, hS, map_ints ns⟩ .nil
  have k : ∀ M, Rt ⟨H, H, keys []⟩ M (D K (.bool true)) Q := fun M v F H' _ hv => by cases dp_bl hv; exact k0 H'
  refine ⟨_, (pss_cons (ps_set (i := 1) nd rfl (Or.inl rfl) (pe_call (ok__law_draws T) (hr.mono (by decide)) rfl T.m__law_draws T.F__law_draws.kp T.b__law_draws .nil pass0 (pa_cons (pv 0) (pa_cons pe_int pa_nil))))
    (pss_cons (ps_asg (pe_call (ok__law_alphabet T) (hr.mono (by decide)) rfl T.m__law_alphabet T.F__law_alphabet.kp T.b__law_alphabet .nil pass0 (pa_cons (pv 1) (pa_cons pe_int (pa_cons pe_int pa_nil)))) (pg_tupK (K := K) (n := 2) rfl (by rfl) (pgs_cons (pg_name (i := 2) nd rfl (by first | exact Or.inl rfl | exact Or.inr rfl)) (pgs_cons (pg_name (i := 3) nd rfl (by first | exact Or.inl rfl | exact Or.inr rfl)) pgs_nil))))
    (pss_cons (ps_set (i := 4) nd rfl (Or.inl rfl) (pe_op op_add_str (pe_op op_add_str (pe_op op_add_str (pe_op op_add_str pe_str (pe_callTy call_str_int (by rfl) T.z_str (by decide +kernel) (pa_cons (pv 2) pa_nil))) pe_str) (c_join (K := K) rfl pe_str (pe_lc (own := [("there", 11)]) (by rfl) nd (pi_listK (K := K) rfl (pv 3)) (blkOk_by (N := ["script", "draws", "count", "letters", "text", "start", "finals", "rows", "other", "row", "k", "there", "place", "state"]) (sc := defScope s_law) (own := [("there", 11)]) (by decide +kernel)) (fun _ _ _ _ _ => pg_name (i := 11) nd rfl (by first | exact Or.inl rfl | exact Or.inr rfl)) (fun _ _ _ _ _ => pts_nil) (fun _ _ _ _ _ => (c_join (K := K) rfl pe_str (pe_lc (own := [("place", 12)]) (by rfl) nd (pi_tupK (K := K) rfl (pv 11)) (blkOk_by (N := ["script", "draws", "count", "letters", "text", "start", "finals", "rows", "other", "row", "k", "there", "place", "state"]) (sc := (relS ({ kind := PySem.ScopeKind.function, names := [(PySem.Str.ofString ".0", PySem.NameKind.local), (PySem.Str.ofString "there", PySem.NameKind.local)], isGenerator := false, isCoroutine := false, more := [] : PySem.Scope }) (defScope s_law))) (own := [("place", 12)]) (by decide +kernel)) (fun _ _ _ _ _ => pg_name (i := 12) nd rfl (by first | exact Or.inl rfl | exact Or.inr rfl)) (fun _ _ _ _ _ => pts_nil) (fun _ _ _ _ _ => (pe_callTy call_str_int (by rfl) T.z_str (by decide +kernel) (pa_cons (pv 12) pa_nil))))))))) pe_str))
    (pss_cons (ps_if (pt_cmpR op_ne (pe_call (ok_format_alphabet T) (hr.mono (by decide)) rfl T.m_format_alphabet T.F_format_alphabet.kp T.b_format_alphabet .nil pass0 (pa_cons (pe_make ⟨T.mk_Alphabet, T.in_Alphabet, T.if_Alphabet, T.kc_Alphabet⟩ (ok_Alphabet_init T) (hr.mono (by decide)) rfl T.mc_Alphabet T.b_Alphabet_init .nil passL (pa_cons (pv 2) (pa_cons (pe_callTy (c_list (K := K) rfl) (by rfl) T.z_list (by decide +kernel) (pa_cons (pv 3) pa_nil)) pa_nil))) pa_nil)) (pv 4) (nomark _)) (pss_one (ps_ret pe_bl)) pss_nil)
    (pss_cons (ps_asg (pe_call (ok__law_any_automaton T) (hr.mono (by decide)) rfl T.m__law_any_automaton T.F__law_any_automaton.kp T.b__law_any_automaton .nil pass0 (pa_cons (pv 1) (pa_cons (pe_op op_add pe_int (pe_call (ok__law_take T) (hr.mono (by decide)) rfl T.m__law_take T.F__law_take.kp T.b__law_take .nil pass0 (pa_cons (pv 1) (pa_cons pe_int pa_nil)))) (pa_cons pe_int pa_nil)))) (pg_tupK (K := K) (n := 3) rfl (by rfl) (pgs_cons (pg_name (i := 5) nd rfl (by first | exact Or.inl rfl | exact Or.inr rfl)) (pgs_cons (pg_name (i := 6) nd rfl (by first | exact Or.inl rfl | exact Or.inr rfl)) (pgs_cons (pg_name (i := 7) nd rfl (by first | exact Or.inl rfl | exact Or.inr rfl)) pgs_nil)))))
    (pss_cons (ps_set (i := 8) nd rfl (Or.inl rfl) (pe_op op_add_str (pe_op op_add_str (pe_op op_add_str (pe_op op_add_str pe_str (pe_callTy call_str_int (by rfl) T.z_str (by decide +kernel) (pa_cons (pe_callB (c_len (K := K) rfl) (by rfl) T.z_len PySem.boot_len (pa_cons (pe_ix (c_ix (K := K) rfl) (pv 7) pe_int (fun _ _ => rfl)) pa_nil)) pa_nil))) pe_str) (pe_callTy call_str_int (by rfl) T.z_str (by decide +kernel) (pa_cons (pv 5) pa_nil))) pe_str))
    (pss_cons (ps_set (i := 8) nd rfl (Or.inl rfl) (pe_op op_add_str (pe_op op_add_str (pv 8) (c_join (K := K) rfl pe_str (pe_op (c_catL (K := K) rfl) (pe_lst (pa_cons pe_str pa_nil)) (pe_lc (own := [("state", 13)]) (by rfl) nd (pi_listK (K := K) rfl (pv 6)) (blkOk_by (N := ["script", "draws", "count", "letters", "text", "start", "finals", "rows", "other", "row", "k", "there", "place", "state"]) (sc := defScope s_law) (own := [("state", 13)]) (by decide +kernel)) (fun _ _ _ _ _ => pg_name (i := 13) nd rfl (by first | exact Or.inl rfl | exact Or.inr rfl)) (fun _ _ _ _ _ => pts_nil) (fun _ _ _ _ _ => (pe_callTy call_str_int (by rfl) T.z_str (by decide +kernel) (pa_cons (pv 13) pa_nil))))))) pe_str))
    (pss_cons (ps_for PassesOwn.never rfl (pi_listK (K := K) rfl (pv 7)) (pg_name (i := 9) nd rfl (by first | exact Or.inl rfl | exact Or.inr rfl))
     (pss_one (ps_set (i := 8) nd rfl (Or.inl rfl) (pe_op op_add_str (pe_op op_add_str (pv 8) (c_join (K := K) rfl pe_str (pe_op (c_catL (K := K) rfl) (pe_lst (pa_cons pe_str pa_nil)) (pe_lc (own := [("state", 13)]) (by rfl) nd (pi_listK (K := K) rfl (pv 9)) (blkOk_by (N := ["script", "draws", "count", "letters", "text", "start", "finals", "rows", "other", "row", "k", "there", "place", "state"]) (sc := defScope s_law) (own := [("state", 13)]) (by decide +kernel)) (fun _ _ _ _ _ => pg_name (i := 13) nd rfl (by first | exact Or.inl rfl | exact Or.inr rfl)) (fun _ _ _ _ _ => pts_nil) (fun _ _ _ _ _ => (pe_callTy call_str_int (by rfl) T.z_str (by decide +kernel) (pa_cons (pv 13) pa_nil))))))) pe_str))))
    (pss_cons (ps_if (pt_cmpR op_ne (pe_call (ok_format_automaton T) (hr.mono (by decide)) rfl T.m_format_automaton T.F_format_automaton.kp T.b_format_automaton .nil pass0 (pa_cons (pe_make ⟨T.mk_Automaton, T.in_Automaton, T.if_Automaton, T.kc_Automaton⟩ (ok_Automaton_init T) (hr.mono (by decide)) rfl T.mc_Automaton T.b_Automaton_init .nil passL (pa_cons (pe_callB (c_len (K := K) rfl) (by rfl) T.z_len PySem.boot_len (pa_cons (pe_ix (c_ix (K := K) rfl) (pv 7) pe_int (fun _ _ => rfl)) pa_nil)) (pa_cons (pv 5) (pa_cons (pe_callTy (c_list (K := K) rfl) (by rfl) T.z_list (by decide +kernel) (pa_cons (pv 6) pa_nil)) (pa_cons (pv 7) pa_nil))))) pa_nil)) (pv 8) (nomark _)) (pss_one (ps_ret pe_bl)) pss_nil)
    (pss_cons (ps_for PassesOwn.never rfl (pi_range1 (by rfl) T.z_range (pa_cons (pe_ix (c_ix (K := K) rfl) (pe_lst (pa_cons pe_int (pa_cons pe_int (pa_cons pe_int (pa_cons pe_int pa_nil))))) (pe_call (ok__law_take T) (hr.mono (by decide)) rfl T.m__law_take T.F__law_take.kp T.b__law_take .nil pass0 (pa_cons (pv 1) (pa_cons pe_int pa_nil))) (fun _ _ => rfl)) pa_nil)) (pg_name (i := 10) nd rfl (by first | exact Or.inl rfl | exact Or.inr rfl))
     (pss_cons (ps_set (i := 4) nd rfl (Or.inl rfl) (pe_call (ok__law_changed T) (hr.mono (by decide)) rfl T.m__law_changed T.F__law_changed.kp T.b__law_changed .nil pass0 (pa_cons (pv 1) (pa_cons (pv 4) pa_nil))))
     (pss_one (ps_set (i := 8) nd rfl (Or.inl rfl) (pe_call (ok__law_changed T) (hr.mono (by decide)) rfl T.m__law_changed T.F__law_changed.kp T.b__law_changed .nil pass0 (pa_cons (pv 1) (pa_cons (pv 8) pa_nil)))))))
    (pss_one (ps_ret (pe_and (pe_cmpR (c_eq (K := K) rfl hr.units) (pe_call (ok__law_outcome T) (hr.mono (by decide)) rfl T.m__law_outcome T.F__law_outcome.kp T.b__law_outcome .nil pass0 (pa_cons (pv 4) pa_nil)) (pe_call (ok__law_read_alphabet T) (hr.mono (by decide)) rfl T.m__law_read_alphabet T.F__law_read_alphabet.kp T.b__law_read_alphabet .nil pass0 (pa_cons (pv 4) pa_nil)) (nomark _)) (pe_one (pe_cmpR (c_eq (K := K) rfl hr.units) (pe_call (ok__law_other_outcome T) (hr.mono (by decide)) rfl T.m__law_other_outcome T.F__law_other_outcome.kp T.b__law_other_outcome .nil pass0 (pa_cons (pv 8) pa_nil)) (pe_call (ok__law_read_automaton T) (hr.mono (by decide)) rfl T.m__law_read_automaton T.F__law_read_automaton.kp T.b__law_read_automaton .nil pass0 (pa_cons (pv 8) pa_nil)) (nomark _)))))))))))))))), ?_⟩
  refine go_start w ps (Γ := [some (PLi K (ns.map fun n => D K (.int n))), none, none, none, none, none, none, none, none, none, none, none, none, none]) rfl ?_
  refine (q_asgN (use__law_draws (ea_cons (ev_var rfl) (ea_cons (ev_int (K := K)) ea_nil)) (by decide) (by decide) (by omega)) fun d hd => ?_)
  generalize PLi K (ns.map fun n => D K (.int n)) = S at *
  show Nx _ _ [(d, MDr K)] _
  dsimp only [List.set]
  refine (q_unp2 (φ := fun x : Int × Lets => AlphaOk x.1 x.2 ∧ x.1 ≤ 4 ∧ (x.2.length : Int) ≤ 6) (R1 := fun x => D K (.int x.1)) (R2 := fun x => D K (dLT x.2)) ((use__law_alphabet (ea_cons (ev_var rfl) (ea_cons (ev_int (K := K)) (ea_cons (ev_int (K := K)) ea_nil))) (by decide) (j := 0) rfl).weak (PEx.le fun x => PAn.le fun _ => D_PTu)) fun x hx => ?_)
  obtain ⟨kk, L⟩ := x
  obtain ⟨A, n4, l6⟩ := hx
  dsimp only at A n4 l6
  dsimp only [List.set]
  have k1 := A.k1
  have k4 := A.k4
  have pls := places_small A
  have ll : ∀ l ∈ L, l.length ≤ 4 := fun l hl => by
    have := pw_len (A.ok l hl).2.1 (A.ok l hl).2.2 (by omega)
    omega
  have fl4 : ∀ l ∈ L, (flt l).length ≤ 4 := fun l hl => by
    rw [flt_small (pls l hl), List.length_map]
    exact ll l hl
  have sm : ∀ L : List (List Int), (∀ l ∈ L, (flt l).length ≤ 4) → ((L.map flt).map (·.length)).sum ≤ 4 * L.length := by
    intro L
    induction L with
    | nil => intro _; exact Nat.le_refl _
    | cons l L ih =>
      intro h
      have h1 := h l List.mem_cons_self
      have h2 := ih fun x hx => h x (List.mem_cons_of_mem _ hx)
      rw [List.map_cons, List.map_cons, List.sum_cons, List.length_cons]
      omega
  have sm := sm L fl4
  have jl := jn_len (s := [32]) (L.map flt)
  rw [List.length_map, List.length_singleton] at jl
  have n3 : (nm kk).length ≤ 3 := (nmS_len (n := kk.toNat)).2
  have tA9 : (tA ++ [32]).length = 9 := rfl
  have str : ∀ {Γ : Gm} {M : Ms} {te : TE} {x : Int}, Ev te Γ M (D K (.int x)) M → 0 ≤ x ∧ x < 1000 → Ev (tCB (fun xs H Q => ∃ i : Int, xs = [.int i] ∧ i.natAbs.log2 < 1920 ∧ Q (.str (toString i)) H) (tCons te tNil)) Γ M (D K (dS (nm x))) M := fun {Γ M te x} h hx => ev_cb (ea_cons (h.is (P' := D K (.int ((x.toNat : Nat) : Int))) (by rw [Int.toNat_of_nonneg hx.1])) ea_nil) (rc_strN (by omega))
  have jo := ev_joinL (K := K) (s := [32]) (ps := L.map flt) (M := [(d, MDr K)]) (Γ := [some S, some (Own d), some (D K (.int kk)), some (D K (dLT L)), none, none, none, none, none, none, none, none, none, none]) (ev_strL (l := [32]) rfl) ((ev_newL (evn_lcL (K := K) (xs := L) (R := fun l => D K (dT l)) (G := fun l => D K (dS (flt l))) (i := 11) (t := tYes) (te := tM1 (rJoin K) (tC (.str "")) (tLc (iTup K (tVar 11)) (gName 12) tYes (tCB (fun xs H Q => ∃ i : Int, xs = [.int i] ∧ i.natAbs.log2 < 1920 ∧ Q (.str (toString i)) H) (tCons (tVar 12) tNil)) [12])) (fun _ => true) ((ev_var (i := 3) rfl).weak (le_Lm (f := dT))) (by omega) (fun _ _ => et_yes) (fun l hl _ => ev_joinL (s := []) (ps := l.map nm) (ev_strL (l := []) rfl) ((ev_newL (evn_lcT (K := K) (xs := l) (R := fun x => D K (.int x)) (G := fun x => D K (dS (nm x))) (i := 12) (fun _ => true) ((ev_var (i := 11) rfl).weak le_dT) (by have := ll l hl; omega) (fun _ _ => et_yes) (fun x hx _ => str (ev_var (i := 12) rfl) (by have := pls l hl x hx; omega)))).is (by rw [filter_true, List.map_map]; rfl)) (by have := ll l hl; have := nm_sum l; rw [List.length_nil, Nat.mul_zero]; omega)))).is (by rw [filter_true, List.map_map]; rfl)) (by rw [List.length_map, List.length_singleton]; omega)
  refine (q_asg (P := D K (dS (fa kk L))) (ev_op (ev_op (ev_op (ev_op (ev_strL (l := tA ++ [32]) rfl) (str (ev_var (i := 2) rfl) ⟨by omega, by omega⟩) (rv_addS ?_)) (ev_strL (l := [58, 32]) rfl) (rv_addS ?_)) jo (rv_addS ?_)) (ev_strL (l := [10]) rfl) (rv_addS ?_)) ?_)
  any_goals simp only [List.length_append, tA9, List.length_cons, List.length_nil]
  any_goals omega
  dsimp only [List.set]
  have mkA := fun {X : XK} => (ev_fr (make1N (C := T.c_Alphabet) (sp := sp_Alphabet_init T) (X := X) (O := MIns T.c_Alphabet 2 (alF K kk L)) (O2 := MLT K L) (P := D K (.int kk)) (M := [(d, MDr K)]) (Γ := [some S, some (Own d), some (D K (.int kk)), some (D K (dLT L)), some (D K (dS (fa kk L))), none, none, none, none, none, none, none, none, none]) (ev_var (i := 2) rfl) (evn_cb (ea_cons ((ev_var (i := 3) rfl).weak (le_Lm (f := dT))) ea_nil) rcn_listL) fun x q vs H Q ⟨F, w, p, r⟩ => ⟨x, kk, L, q, ⟨by omega, fun l hl => by have := ll l hl; omega⟩, F, w, p, fun _ => r, fun c => absurd A c⟩)).weak fr_Ins
  refine (q_if (et_test (ev_neS (use_format_alphabet (T := T) (X := E0) (ea_cons mkA ea_nil) A) (ev_var (i := 4) rfl))) (fun hb => absurd hb (by simp)) fun hb => go_next ?_)
  have au : Ev (tCall (sp__law_any_automaton T) [] E0 (tCons (tVar 1) (tCons (tOp (rI0 fun i j => .int (i + j)) (tC (.int 1)) (tCall (sp__law_take T) [] E0 (tCons (tVar 1) (tCons (tC (.int 3)) tNil)))) (tCons (tC (.int 5)) tNil)))) [some S, some (Own d), some (D K (.int kk)), some (D K (dLT L)), some (D K (dS (fa kk L))), none, none, none, none, none, none, none, none, none] [(d, MDr K)] (PEx fun A : Au => PAn (A.Ok ∧ (A.L : Int) ≤ 3 ∧ A.R.length ≤ (5 : Int)) (PTu K [D K (.int A.s), D K (dL A.F), D K (dLL A.R)])) [(d, MDr K)] := call1 (j := 0) (ea_cons (ev_var (i := 1) rfl) (ea_cons (ev_op (ev_int (K := K) (i := 1)) (use__law_take (T := T) (X := E0) (n := 3) (ea_cons (ev_var (i := 1) rfl) (ea_cons (ev_int (K := K)) ea_nil)) (by omega) (j := 0) rfl) rv_addIn) (ea_cons (ev_int (K := K) (i := 5)) ea_nil))) rfl fun vs H Q ⟨F, w, p, kk⟩ => by
    cases p with
    | cons p1 p =>
      cases p with
      | cons p2 p =>
        obtain ⟨n, hn, p2⟩ := p2
        exact ⟨d, n, 5, by omega, F, w, .cons p1 (.cons p2 p), fun v F' H' g hv => kk v F' H' g (by
          obtain ⟨A, hA, q⟩ := hv
          exact ⟨A, ⟨hA.1, by omega, hA.2.2⟩, q⟩)⟩
  refine (q_unp3 (φ := fun A : Au => A.Ok ∧ (A.L : Int) ≤ 3 ∧ A.R.length ≤ (5 : Int)) (R1 := fun A => D K (.int A.s)) (R2 := fun A => D K (dL A.F)) (R3 := fun A => D K (dLL A.R)) au fun B hB => ?_)
  dsimp only [List.set]
  obtain ⟨O, bL, bR⟩ := hB
  have sB : AuS B := ⟨O, by omega, by omega⟩
  have bF : B.F.length ≤ 5 := by
    have := pw_len O.up (k := (B.R.length : Int)) (fun x hx => O.F x hx) (by omega)
    omega
  obtain ⟨⟨b1, b2⟩, b3, b4⟩ := sB.nums
  have b1' := b1
  obtain ⟨r0, hr0⟩ : ∃ r0, B.R[0]? = some r0 := by
    have := O.s.1
    have := O.s.2
    exact ⟨_, List.getElem?_eq_getElem (by omega : 0 < B.R.length)⟩
  have r0L := (O.R r0 (List.mem_of_getElem? hr0)).1
  have rL : ∀ r ∈ B.R, r.length ≤ 3 := fun r hr => by
    have := (O.R r hr).1
    omega
  have len0 : ∀ {Γ : Gm} {M : Ms}, Γ[7]? = some (some (D K (dLL B.R))) → Ev (tCB (rLn K) (tCons (tOp (rIx K) (tVar 7) (tC (.int 0))) tNil)) Γ M (D K (.int (B.L : Int))) M := fun {Γ M} e => (ev_lenM (f := PyData.int) (xs := r0) (ev_op (ev_var e) (ev_int (K := K)) (rv_ixDL (by decide) (by rw [show (0 : Int).toNat = 0 from rfl, List.getElem?_map, hr0]; rfl)))).is (by rw [r0L])
  have q1 : (nm (B.L : Int)).length ≤ 3 := nmS_len.2
  have q2 : (nm B.s).length ≤ 3 := nmS_len.2
  have tM9 : (tM ++ [32]).length = 10 := rfl
  have lM := lh_len tM [(B.L : Int), B.s]
  have lF := lh_len tF B.F
  have e6 : tF.length = 6 := rfl
  have e9 : tM.length = 9 := rfl
  have e3 : tR.length = 3 := rfl
  have e2l : [(B.L : Int), B.s].length = 2 := rfl
  have e1 : tM ++ [32] ++ nm (B.L : Int) ++ [32] ++ nm B.s ++ [10] = lh tM [(B.L : Int), B.s] ++ [10] := by
    have : lh tM [(B.L : Int), B.s] = tM ++ [32] ++ (nm (B.L : Int) ++ [32] ++ nm B.s) := rfl
    rw [this]
    simp only [List.append_assoc]
  refine (q_asg (P := D K (dS (lh tM [(B.L : Int), B.s] ++ [10]))) ((ev_op (ev_op (ev_op (ev_op (ev_strL (l := tM ++ [32]) rfl) (str (len0 rfl) ⟨by omega, by omega⟩) (rv_addS (by rw [tM9]; omega))) (ev_strL (l := [32]) rfl) (rv_addS (by simp only [List.length_append, List.length_cons, List.length_nil]; omega))) (str (ev_var (i := 5) rfl) b2) (rv_addS (by simp only [List.length_append, List.length_cons, List.length_nil]; omega))) (ev_strL (l := [10]) rfl) (rv_addS (by simp only [List.length_append, List.length_cons, List.length_nil]; omega))).is (by rw [e1])) ?_)
  dsimp only [List.set]
  have lnj : ∀ (W : List Nat) (x : Str) (ms : List Int) (g8 g9 : Option MP) (v : Nat), x = ⟨W.toArray⟩ → W.length ≤ 10 → ms.length ≤ 10 → (∀ y ∈ ms, 0 ≤ y ∧ y < 1000) → [some S, some (Own d), some (D K (.int kk)), some (D K (dLT L)), some (D K (dS (fa kk L))), some (D K (.int B.s)), some (D K (dL B.F)), some (D K (dLL B.R)), g8, g9, none, none, none, none][v]? = some (some (D K (dL ms))) → v ≠ 13 → Ev (tM1 (rJoin K) (tC (.str (Str.ofString " "))) (tOp (rCatL K) (tLst (tCons (tC (.str x)) tNil)) (tLc (iList K (tVar v)) (gName 13) tYes (tCB (fun xs H Q => ∃ i : Int, xs = [.int i] ∧ i.natAbs.log2 < 1920 ∧ Q (.str (toString i)) H) (tCons (tVar 13) tNil)) [13]))) [some S, some (Own d), some (D K (.int kk)), some (D K (dLT L)), some (D K (dS (fa kk L))), some (D K (.int B.s)), some (D K (dL B.F)), some (D K (dLL B.R)), g8, g9, none, none, none, none] [(d, MDr K)] (D K (dS (lh W ms))) [(d, MDr K)] := fun W x ms g8 g9 v hx hW hm hy hv h13 => by
    have sm2 := nm_sum ms
    have lc := evn_lcL (K := K) (xs := ms) (R := fun x => D K (.int x)) (G := fun x => D K (dS (nm x))) (i := 13) (t := tYes) (M := [(d, MDr K)]) (M1 := [(d, MDr K)]) (Γ := [some S, some (Own d), some (D K (.int kk)), some (D K (dLT L)), some (D K (dS (fa kk L))), some (D K (.int B.s)), some (D K (dL B.F)), some (D K (dLL B.R)), g8, g9, none, none, none, none]) (te := tCB (fun xs H Q => ∃ i : Int, xs = [.int i] ∧ i.natAbs.log2 < 1920 ∧ Q (.str (toString i)) H) (tCons (tVar 13) tNil)) (fun _ => true) ((ev_var (i := v) hv).weak (le_dL (K := K) (l := ms))) (by omega) (fun _ _ => et_yes) (fun y hy2 _ => str (ev_var (i := 13) rfl) (hy y hy2))
    rw [filter_true] at lc
    exact ev_joinL (s := [32]) (ps := W :: ms.map nm) (ev_strL (l := [32]) rfl) ((ev_op (ev_newL (evn_lst (ps := [D K (dS W)]) (ea_cons (ev_strL (l := W) hx) ea_nil) (by simp))) (ev_newL lc) (rv_catLP (by simp only [List.length_map, List.length_cons, List.length_nil]; omega))).is (by rw [List.map_cons, List.map_map]; rfl)) (by simp only [List.map_cons, List.sum_cons, List.length_cons, List.length_map, List.length_nil]; omega)
  refine (q_asg (P := D K (dS (lh tM [(B.L : Int), B.s] ++ [10] ++ (lh tF B.F ++ [10])))) ((ev_op (ev_op (ev_var (i := 8) rfl) (lnj tF _ B.F _ _ 6 rfl (by decide) (by omega) b3 rfl (by decide)) (rv_addS (by rw [List.length_append, List.length_singleton]; omega))) (ev_strL (l := [10]) rfl) (rv_addS (by rw [List.length_append, List.length_append, List.length_singleton]; omega))).is (by congr 2; simp only [List.append_assoc])) ?_)
  dsimp only [List.set]
  generalize hb0 : lh tM [(B.L : Int), B.s] ++ [10] ++ (lh tF B.F ++ [10]) = b0
  have b0l : b0.length ≤ 1000 := by
    rw [← hb0]
    simp only [List.length_append, List.length_singleton]
    omega
  have rlen : ∀ i, (jn [] ((B.R.take i).map fun r => lh tR r ++ [10])).length ≤ 200 := fun i => by
    have h1 := rows_len (B.R.take i) fun r hr => rL r (List.mem_of_mem_take hr)
    have h2 := List.length_take_le' i B.R
    omega
  refine (q_forL (ps := B.R.map fun l => D K (dL l)) ((ev_var (i := 7) rfl).weak (le_Lm (f := dL))) (fun i Γ M => ∃ g9 : Option MP, Γ = [some S, some (Own d), some (D K (.int kk)), some (D K (dLT L)), some (D K (dS (fa kk L))), some (D K (.int B.s)), some (D K (dL B.F)), some (D K (dLL B.R)), some (D K (dS (b0 ++ jn [] ((B.R.take i).map fun r => lh tR r ++ [10])))), g9, none, none, none, none] ∧ M = [(d, MDr K)]) ⟨none, by rw [List.take_zero]; show _ = [_, _, _, _, _, _, _, _, some (D K (dS (b0 ++ []))), _, _, _, _, _]; rw [List.append_nil], rfl⟩ ?_ ?_)
  · rintro E' hE i P hP _ _ ⟨g, rfl, rfl⟩
    rw [List.getElem?_map] at hP
    obtain ⟨r, hx, rfl⟩ := Option.map_eq_some_iff.mp hP
    have hm := List.mem_of_getElem? hx
    have ri := rlen i
    have rl := rL r hm
    have lr := lh_len tR r
    dsimp only [List.set]
    exact go_asg (P := D K (dS (b0 ++ jn [] ((B.R.take (i + 1)).map fun r => lh tR r ++ [10])))) ((ev_op (ev_op (ev_var (i := 8) rfl) (lnj tR _ r _ _ 9 rfl (by decide) (by omega) (b4 r hm) rfl (by decide)) (rv_addS (by rw [List.length_append]; omega))) (ev_strL (l := [10]) rfl) (rv_addS (by rw [List.length_append, List.length_append, List.length_singleton]; omega))).is (by rw [rows_step hx])) (JA.of ⟨_, rfl, rfl⟩)
  rintro _ _ ⟨g9, rfl, rfl⟩
  rw [List.length_map, List.take_length]
  have eb : b0 ++ jn [] (B.R.map fun r => lh tR r ++ [10]) = fm B := by rw [← hb0]; rfl
  rw [eb]
  refine (q_if (et_test (ev_neS (use_format_automaton (T := T) (X := E0) (ea_cons (use_Automaton (T := T) (X := E0) (A := B) (ea_cons (len0 rfl) (ea_cons (ev_var (i := 5) rfl) (ea_cons ((ev_newL (evn_cb (ea_cons ((ev_var (i := 6) rfl).weak le_dL) ea_nil) rcn_listL)).weak dL_le) (ea_cons (ev_var (i := 7) rfl) ea_nil)))) O ⟨by omega, by omega, by omega⟩) ea_nil) ⟨sB, by omega⟩) (ev_var (i := 8) rfl))) (fun hb => absurd hb (by simp)) fun hb => go_next ?_)
  have pick : RV (rIx K) (PLi K [D K (.int 0), D K (.int 1), D K (.int 1), D K (.int 2)]) (PIn K 0 4) [(d, MDr K)] (PIn K 0 3) [(d, MDr K)] := RV.ex2 fun x => RV.an2 fun hx => by
    have : x = 0 ∨ x = 1 ∨ x = 2 ∨ x = 3 := by omega
    rcases this with rfl | rfl | rfl | rfl <;> exact (rv_ixL (by decide) rfl).weak (pin_le (by decide))
  refine (q_forRX (φ := fun z => 0 ≤ z ∧ z < 3) (ev_op (ev_newL (evn_lst (ea_cons (ev_int (K := K)) (ea_cons (ev_int (K := K)) (ea_cons (ev_int (K := K)) (ea_cons (ev_int (K := K)) ea_nil)))) (by simp))) (use__law_take (T := T) (X := E0) (n := 4) (ea_cons (ev_var (i := 1) rfl) (ea_cons (ev_int (K := K)) ea_nil)) (by decide) (j := 0) rfl) pick) fun z hz tr' htr => ?_)
  refine (q_forR htr (by omega) (by omega) (fun n Γ M => ∃ (w1 w2 : List Nat) (g10 : Option MP), Γ = [some S, some (Own d), some (D K (.int kk)), some (D K (dLT L)), some (D K (dS w1)), some (D K (.int B.s)), some (D K (dL B.F)), some (D K (dLL B.R)), some (D K (dS w2)), g9, g10, none, none, none] ∧ M = [(d, MDr K)] ∧ TB (nA n) (mA n) w1 ∧ TB (nM n) (mM n) w2) ⟨fa kk L, fm B, none, rfl, rfl, fa_tb A ll, fm_tb sB (by omega) (by omega) bF⟩ ?_ ?_)
  · rintro n hn _ _ ⟨w1, w2, g10, rfl, rfl, t1, t2⟩
    dsimp only [List.set]
    have n2 : n = 0 ∨ n = 1 := by omega
    have c1 : nA n ≤ 400 ∧ mA n ≤ 100 ∧ nM n ≤ 400 ∧ mM n ≤ 100 ∧ nA n + mA n + 2 ≤ nA (n + 1) ∧ 2 * mA n + 1 ≤ mA (n + 1) ∧ nM n + mM n + 2 ≤ nM (n + 1) ∧ 2 * mM n + 1 ≤ mM (n + 1) := by
      rcases n2 with rfl | rfl <;> decide
    obtain ⟨c1, c2, c3, c4, c5, c6, c7, c8⟩ := c1
    refine (q_asg (use__law_changed (T := T) (X := E0) (N := nA n) (m := mA n) (j := 0) (ea_cons (ev_var (i := 1) rfl) (ea_cons (ev_var (i := 4) rfl) ea_nil)) ⟨t1, c1, c2⟩ rfl) (nx_ex (i := 4) rfl fun v1 => nx_an (i := 4) rfl fun h1 => ?_))
    dsimp only [List.set]
    exact go_asg (use__law_changed (T := T) (X := E0) (N := nM n) (m := mM n) (j := 0) (ea_cons (ev_var (i := 1) rfl) (ea_cons (ev_var (i := 8) rfl) ea_nil)) ⟨t2, c3, c4⟩ rfl) (nx_ex (i := 8) rfl fun v2 => nx_an (i := 8) rfl fun h2 => JA.of ⟨v1, v2, _, rfl, rfl, h1.up c5 c6, h2.up c7 c8⟩)
  · rintro _ _ ⟨w1, w2, g10, rfl, rfl, t1, t2⟩
    have z3 : z.toNat = 0 ∨ z.toNat = 1 ∨ z.toNat = 2 := by omega
    have cc : nA z.toNat ≤ 900 ∧ nM z.toNat ≤ 900 ∧ mM z.toNat ≤ 100 := by
      rcases z3 with e | e | e <;> rw [e] <;> decide
    obtain ⟨c1, c2, c3⟩ := cc
    have u1 : w1.length ≤ 900 := Nat.le_trans t1.1 c1
    have u2 : w2.length ≤ 900 := Nat.le_trans t2.1 c2
    have u3 := (t2.up c2 c3).2
    obtain ⟨s1, s2⟩ := oA_sh w1
    obtain ⟨s3, s4⟩ := oM_sh w2
    refine go_ret Le.refl ((ev_andV (ev_op (use__law_outcome (T := T) (X := E0) (ea_cons (ev_var (i := 4) rfl) ea_nil) u1) (use__law_read_alphabet (T := T) (X := E0) (ea_cons (ev_var (i := 4) rfl) ea_nil) u1) (rv_eqD s1 s1)) (fun _ => ev_op (use__law_other_outcome (T := T) (X := E0) (ea_cons (ev_var (i := 8) rfl) ea_nil) u2) (use__law_read_automaton (T := T) (X := E0) (ea_cons (ev_var (i := 8) rfl) ea_nil) ⟨u2, u3.1, u3.2⟩) (rv_eqD s3 s3))).is (by rw [s2, s4]; rfl)) (k _)
end
end My
namespace My
open PySem L2 Hq
set_option maxHeartbeats 0 in
theorem all_mk {l : PySem.W.OpenLaw} {wo : World} {K : PySem.W.Frag} {h : Heap} {mg : Str → Option Value} {fa c_Alphabet c_Automaton c_InvalidAlphabet c_InvalidAutomaton f__law_take f__law_draws f__check_letter f_Alphabet_init f__law_alphabet f__check_states f_Automaton_init f__law_any_automaton f__line f_format_alphabet f_format_automaton f__number f_parse_alphabet f_parse_automaton f__law_outcome f__law_other_outcome f__law_number f__law_read_alphabet f__law_read_automaton f__law_changed f_law : Addr} (X : K.In h) (G : h.Ns mainGlobals mg) (hfa : mg "law" = some (.ref fa))
    {od0 od1 od2 od3 od4 od5 od6 od7 od8 od9 od10 od11 od12 od13 od14 od15 od16 od17 od18 od19 od20 an0 an1 an2 an3 an4 an5 an6 an7 an8 an9 an10 an11 an12 an13 an14 an15 an16 an17 an18 an19 an20 : Option Addr} {sl0 sl1 sl2 sl3 sl4 sl5 sl6 sl7 sl8 sl9 sl10 sl11 sl12 sl13 sl14 sl15 sl16 sl17 sl18 sl19 sl20 : Array (Option Value)} {oc0 oc1 oc2 oc3 oc4 oc5 oc6 oc7 oc8 oc9 oc10 oc11 oc12 oc13 oc14 oc15 oc16 oc17 oc18 oc19 oc20 kV0 kV1 kV2 kV3 kV4 kV5 kV6 kV7 kV8 kV9 kV10 kV11 kV12 kV13 kV14 kV15 kV16 kV17 kV18 kV19 kV20 dc0 dc1 dc2 dc3 dc4 dc5 dc6 dc7 dc8 dc9 dc10 dc11 dc12 dc13 dc14 dc15 dc16 dc17 dc18 dc19 dc20 pm0 pm1 pm2 pm3 pm4 pm5 pm6 pm7 pm8 pm9 pm10 pm11 pm12 pm13 pm14 pm15 pm16 pm17 pm18 pm19 pm20 cd0 cd1 cd2 cd3 cd4 cd5 cd6 cd7 cd8 cd9 cd10 cd11 cd12 cd13 cd14 cd15 cd16 cd17 cd18 cd19 cd20 ct0 ct1 ct2 ct3 ct4 ct5 ct6 ct7 ct8 ct9 ct10 ct11 ct12 ct13 ct14 ct15 ct16 ct17 ct18 ct19 ct20 : Value}
    {t_DIGITS : Tok}
    {t_MOST_DIGITS : Tok}
    {t_MOST_LETTERS : Tok}
    {t_MOST_PLACES : Tok}
    (aC_Alphabet : PySem.W.nsIn K mainGlobals "Alphabet" = some (some (.ref c_Alphabet)))
    (aC_Automaton : PySem.W.nsIn K mainGlobals "Automaton" = some (some (.ref c_Automaton)))
    (a0 : PySem.W.nsIn K mainGlobals "_law_take" = some (some (.ref f__law_take)))
    (l0 : K.lookup f__law_take = some ⟨oc0, od0, .func (PySem.W.fnOf "_law_take" "_law_take" (defArgs s__law_take) (defBody s__law_take) (defScope s__law_take) .none kV0 dc0 pm0 an0 cd0 ct0), sl0⟩)
    (c0 : PySem.W.codeIn K cd0 "_law_take" = true)
    (k0 : PySem.W.keepIn K (.ref f__law_take) = true)
    (a1 : PySem.W.nsIn K mainGlobals "_law_draws" = some (some (.ref f__law_draws)))
    (l1 : K.lookup f__law_draws = some ⟨oc1, od1, .func (PySem.W.fnOf "_law_draws" "_law_draws" (defArgs s__law_draws) (defBody s__law_draws) (defScope s__law_draws) .none kV1 dc1 pm1 an1 cd1 ct1), sl1⟩)
    (c1 : PySem.W.codeIn K cd1 "_law_draws" = true)
    (k1 : PySem.W.keepIn K (.ref f__law_draws) = true)
    (a2 : PySem.W.nsIn K mainGlobals "_check_letter" = some (some (.ref f__check_letter)))
    (l2 : K.lookup f__check_letter = some ⟨oc2, od2, .func (PySem.W.fnOf "_check_letter" "_check_letter" (defArgs s__check_letter) (defBody s__check_letter) (defScope s__check_letter) .none kV2 dc2 pm2 an2 cd2 ct2), sl2⟩)
    (c2 : PySem.W.codeIn K cd2 "_check_letter" = true)
    (k2 : PySem.W.keepIn K (.ref f__check_letter) = true)
    (a3 : PySem.W.findIn K (.ref c_Alphabet) "__init__" = some (some (.ref f_Alphabet_init)))
    (i3 : PySem.W.isFn K (.ref f_Alphabet_init) = true)
    (l3 : K.lookup f_Alphabet_init = some ⟨oc3, od3, .func (PySem.W.fnOf "__init__" "Alphabet.__init__" (defArgs s_Alphabet_init) (defBody s_Alphabet_init) (defScope s_Alphabet_init) .none kV3 dc3 pm3 an3 cd3 ct3), sl3⟩)
    (c3 : PySem.W.codeIn K cd3 "Alphabet.__init__" = true)
    (k3 : PySem.W.keepIn K (.ref f_Alphabet_init) = true)
    (a4 : PySem.W.nsIn K mainGlobals "_law_alphabet" = some (some (.ref f__law_alphabet)))
    (l4 : K.lookup f__law_alphabet = some ⟨oc4, od4, .func (PySem.W.fnOf "_law_alphabet" "_law_alphabet" (defArgs s__law_alphabet) (defBody s__law_alphabet) (defScope s__law_alphabet) .none kV4 dc4 pm4 an4 cd4 ct4), sl4⟩)
    (c4 : PySem.W.codeIn K cd4 "_law_alphabet" = true)
    (k4 : PySem.W.keepIn K (.ref f__law_alphabet) = true)
    (a5 : PySem.W.nsIn K mainGlobals "_check_states" = some (some (.ref f__check_states)))
    (l5 : K.lookup f__check_states = some ⟨oc5, od5, .func (PySem.W.fnOf "_check_states" "_check_states" (defArgs s__check_states) (defBody s__check_states) (defScope s__check_states) .none kV5 dc5 pm5 an5 cd5 ct5), sl5⟩)
    (c5 : PySem.W.codeIn K cd5 "_check_states" = true)
    (k5 : PySem.W.keepIn K (.ref f__check_states) = true)
    (a6 : PySem.W.findIn K (.ref c_Automaton) "__init__" = some (some (.ref f_Automaton_init)))
    (i6 : PySem.W.isFn K (.ref f_Automaton_init) = true)
    (l6 : K.lookup f_Automaton_init = some ⟨oc6, od6, .func (PySem.W.fnOf "__init__" "Automaton.__init__" (defArgs s_Automaton_init) (defBody s_Automaton_init) (defScope s_Automaton_init) .none kV6 dc6 pm6 an6 cd6 ct6), sl6⟩)
    (c6 : PySem.W.codeIn K cd6 "Automaton.__init__" = true)
    (k6 : PySem.W.keepIn K (.ref f_Automaton_init) = true)
    (a7 : PySem.W.nsIn K mainGlobals "_law_any_automaton" = some (some (.ref f__law_any_automaton)))
    (l7 : K.lookup f__law_any_automaton = some ⟨oc7, od7, .func (PySem.W.fnOf "_law_any_automaton" "_law_any_automaton" (defArgs s__law_any_automaton) (defBody s__law_any_automaton) (defScope s__law_any_automaton) .none kV7 dc7 pm7 an7 cd7 ct7), sl7⟩)
    (c7 : PySem.W.codeIn K cd7 "_law_any_automaton" = true)
    (k7 : PySem.W.keepIn K (.ref f__law_any_automaton) = true)
    (a8 : PySem.W.nsIn K mainGlobals "_line" = some (some (.ref f__line)))
    (l8 : K.lookup f__line = some ⟨oc8, od8, .func (PySem.W.fnOf "_line" "_line" (defArgs s__line) (defBody s__line) (defScope s__line) .none kV8 dc8 pm8 an8 cd8 ct8), sl8⟩)
    (c8 : PySem.W.codeIn K cd8 "_line" = true)
    (k8 : PySem.W.keepIn K (.ref f__line) = true)
    (a9 : PySem.W.nsIn K mainGlobals "format_alphabet" = some (some (.ref f_format_alphabet)))
    (l9 : K.lookup f_format_alphabet = some ⟨oc9, od9, .func (PySem.W.fnOf "format_alphabet" "format_alphabet" (defArgs s_format_alphabet) (defBody s_format_alphabet) (defScope s_format_alphabet) .none kV9 dc9 pm9 an9 cd9 ct9), sl9⟩)
    (c9 : PySem.W.codeIn K cd9 "format_alphabet" = true)
    (k9 : PySem.W.keepIn K (.ref f_format_alphabet) = true)
    (a10 : PySem.W.nsIn K mainGlobals "format_automaton" = some (some (.ref f_format_automaton)))
    (l10 : K.lookup f_format_automaton = some ⟨oc10, od10, .func (PySem.W.fnOf "format_automaton" "format_automaton" (defArgs s_format_automaton) (defBody s_format_automaton) (defScope s_format_automaton) .none kV10 dc10 pm10 an10 cd10 ct10), sl10⟩)
    (c10 : PySem.W.codeIn K cd10 "format_automaton" = true)
    (k10 : PySem.W.keepIn K (.ref f_format_automaton) = true)
    (a11 : PySem.W.nsIn K mainGlobals "_number" = some (some (.ref f__number)))
    (l11 : K.lookup f__number = some ⟨oc11, od11, .func (PySem.W.fnOf "_number" "_number" (defArgs s__number) (defBody s__number) (defScope s__number) .none kV11 dc11 pm11 an11 cd11 ct11), sl11⟩)
    (c11 : PySem.W.codeIn K cd11 "_number" = true)
    (k11 : PySem.W.keepIn K (.ref f__number) = true)
    (a12 : PySem.W.nsIn K mainGlobals "parse_alphabet" = some (some (.ref f_parse_alphabet)))
    (l12 : K.lookup f_parse_alphabet = some ⟨oc12, od12, .func (PySem.W.fnOf "parse_alphabet" "parse_alphabet" (defArgs s_parse_alphabet) (defBody s_parse_alphabet) (defScope s_parse_alphabet) .none kV12 dc12 pm12 an12 cd12 ct12), sl12⟩)
    (c12 : PySem.W.codeIn K cd12 "parse_alphabet" = true)
    (k12 : PySem.W.keepIn K (.ref f_parse_alphabet) = true)
    (a13 : PySem.W.nsIn K mainGlobals "parse_automaton" = some (some (.ref f_parse_automaton)))
    (l13 : K.lookup f_parse_automaton = some ⟨oc13, od13, .func (PySem.W.fnOf "parse_automaton" "parse_automaton" (defArgs s_parse_automaton) (defBody s_parse_automaton) (defScope s_parse_automaton) .none kV13 dc13 pm13 an13 cd13 ct13), sl13⟩)
    (c13 : PySem.W.codeIn K cd13 "parse_automaton" = true)
    (k13 : PySem.W.keepIn K (.ref f_parse_automaton) = true)
    (a14 : PySem.W.nsIn K mainGlobals "_law_outcome" = some (some (.ref f__law_outcome)))
    (l14 : K.lookup f__law_outcome = some ⟨oc14, od14, .func (PySem.W.fnOf "_law_outcome" "_law_outcome" (defArgs s__law_outcome) (defBody s__law_outcome) (defScope s__law_outcome) .none kV14 dc14 pm14 an14 cd14 ct14), sl14⟩)
    (c14 : PySem.W.codeIn K cd14 "_law_outcome" = true)
    (k14 : PySem.W.keepIn K (.ref f__law_outcome) = true)
    (a15 : PySem.W.nsIn K mainGlobals "_law_other_outcome" = some (some (.ref f__law_other_outcome)))
    (l15 : K.lookup f__law_other_outcome = some ⟨oc15, od15, .func (PySem.W.fnOf "_law_other_outcome" "_law_other_outcome" (defArgs s__law_other_outcome) (defBody s__law_other_outcome) (defScope s__law_other_outcome) .none kV15 dc15 pm15 an15 cd15 ct15), sl15⟩)
    (c15 : PySem.W.codeIn K cd15 "_law_other_outcome" = true)
    (k15 : PySem.W.keepIn K (.ref f__law_other_outcome) = true)
    (a16 : PySem.W.nsIn K mainGlobals "_law_number" = some (some (.ref f__law_number)))
    (l16 : K.lookup f__law_number = some ⟨oc16, od16, .func (PySem.W.fnOf "_law_number" "_law_number" (defArgs s__law_number) (defBody s__law_number) (defScope s__law_number) .none kV16 dc16 pm16 an16 cd16 ct16), sl16⟩)
    (c16 : PySem.W.codeIn K cd16 "_law_number" = true)
    (k16 : PySem.W.keepIn K (.ref f__law_number) = true)
    (a17 : PySem.W.nsIn K mainGlobals "_law_read_alphabet" = some (some (.ref f__law_read_alphabet)))
    (l17 : K.lookup f__law_read_alphabet = some ⟨oc17, od17, .func (PySem.W.fnOf "_law_read_alphabet" "_law_read_alphabet" (defArgs s__law_read_alphabet) (defBody s__law_read_alphabet) (defScope s__law_read_alphabet) .none kV17 dc17 pm17 an17 cd17 ct17), sl17⟩)
    (c17 : PySem.W.codeIn K cd17 "_law_read_alphabet" = true)
    (k17 : PySem.W.keepIn K (.ref f__law_read_alphabet) = true)
    (a18 : PySem.W.nsIn K mainGlobals "_law_read_automaton" = some (some (.ref f__law_read_automaton)))
    (l18 : K.lookup f__law_read_automaton = some ⟨oc18, od18, .func (PySem.W.fnOf "_law_read_automaton" "_law_read_automaton" (defArgs s__law_read_automaton) (defBody s__law_read_automaton) (defScope s__law_read_automaton) .none kV18 dc18 pm18 an18 cd18 ct18), sl18⟩)
    (c18 : PySem.W.codeIn K cd18 "_law_read_automaton" = true)
    (k18 : PySem.W.keepIn K (.ref f__law_read_automaton) = true)
    (a19 : PySem.W.nsIn K mainGlobals "_law_changed" = some (some (.ref f__law_changed)))
    (l19 : K.lookup f__law_changed = some ⟨oc19, od19, .func (PySem.W.fnOf "_law_changed" "_law_changed" (defArgs s__law_changed) (defBody s__law_changed) (defScope s__law_changed) .none kV19 dc19 pm19 an19 cd19 ct19), sl19⟩)
    (c19 : PySem.W.codeIn K cd19 "_law_changed" = true)
    (k19 : PySem.W.keepIn K (.ref f__law_changed) = true)
    (a20 : PySem.W.nsIn K mainGlobals "law" = some (some (.ref f_law)))
    (l20 : K.lookup f_law = some ⟨oc20, od20, .func (PySem.W.fnOf "law" "law" (defArgs s_law) (defBody s_law) (defScope s_law) .none kV20 dc20 pm20 an20 cd20 ct20), sl20⟩)
    (c20 : PySem.W.codeIn K cd20 "law" = true)
    (k20 : PySem.W.keepIn K (.ref f_law) = true)
    (pg_Alphabet : PySem.W.plainGet K c_Alphabet Str.empty = true)
    (hd_Alphabet : PySem.W.hasDictIn K c_Alphabet = true)
    (po_Alphabet : PySem.W.plainOver K c_Alphabet = true)
    (sa_Alphabet : PySem.W.findIn K (.ref c_Alphabet) "__setattr__" = some (some (.builtin "object.__setattr__")))
    (mk_Alphabet : PySem.W.makesIn K c_Alphabet = true)
    (kc_Alphabet : PySem.W.keepIn K (.ref c_Alphabet) = true)
    (na_Alphabet_places : PySem.W.findIn K (.ref c_Alphabet) "places" = some none)
    (na_Alphabet_letters : PySem.W.findIn K (.ref c_Alphabet) "letters" = some none)
    (pg_Automaton : PySem.W.plainGet K c_Automaton Str.empty = true)
    (hd_Automaton : PySem.W.hasDictIn K c_Automaton = true)
    (po_Automaton : PySem.W.plainOver K c_Automaton = true)
    (sa_Automaton : PySem.W.findIn K (.ref c_Automaton) "__setattr__" = some (some (.builtin "object.__setattr__")))
    (mk_Automaton : PySem.W.makesIn K c_Automaton = true)
    (kc_Automaton : PySem.W.keepIn K (.ref c_Automaton) = true)
    (na_Automaton_letters : PySem.W.findIn K (.ref c_Automaton) "letters" = some none)
    (na_Automaton_start : PySem.W.findIn K (.ref c_Automaton) "start" = some none)
    (na_Automaton_finals : PySem.W.findIn K (.ref c_Automaton) "finals" = some none)
    (na_Automaton_rows : PySem.W.findIn K (.ref c_Automaton) "rows" = some none)
    (aC_InvalidAlphabet : PySem.W.nsIn K mainGlobals "InvalidAlphabet" = some (some (.ref c_InvalidAlphabet)))
    (x_InvalidAlphabet : PySem.W.excIn K c_InvalidAlphabet [.type "ValueError", .type "Exception", .type "BaseException", .type "object"] "ValueError.__new__" = true)
    (k_InvalidAlphabet : PySem.W.keepIn K (.ref c_InvalidAlphabet) = true)
    (b_InvalidAlphabet : PySem.W.subIn K (.ref c_InvalidAlphabet) (.type "BaseException") = some true)
    (t_InvalidAlphabet : PySem.W.typeIn K (.ref c_InvalidAlphabet) = some (.type "type"))
    (i_InvalidAlphabet : PySem.W.isClsIn K c_InvalidAlphabet = true)
    (s_InvalidAlphabet : PySem.W.subIn K (.ref c_InvalidAlphabet) (.ref c_InvalidAlphabet) = some true)
    (aC_InvalidAutomaton : PySem.W.nsIn K mainGlobals "InvalidAutomaton" = some (some (.ref c_InvalidAutomaton)))
    (x_InvalidAutomaton : PySem.W.excIn K c_InvalidAutomaton [.type "ValueError", .type "Exception", .type "BaseException", .type "object"] "ValueError.__new__" = true)
    (k_InvalidAutomaton : PySem.W.keepIn K (.ref c_InvalidAutomaton) = true)
    (b_InvalidAutomaton : PySem.W.subIn K (.ref c_InvalidAutomaton) (.type "BaseException") = some true)
    (t_InvalidAutomaton : PySem.W.typeIn K (.ref c_InvalidAutomaton) = some (.type "type"))
    (i_InvalidAutomaton : PySem.W.isClsIn K c_InvalidAutomaton = true)
    (s_InvalidAutomaton : PySem.W.subIn K (.ref c_InvalidAutomaton) (.ref c_InvalidAutomaton) = some true)
    (om_Alphabet : PySem.W.mroIn K c_Alphabet (.type "object") = some true)
    (oe_Alphabet : PySem.W.findIn K (.ref c_Alphabet) "__eq__" = some (some (.builtin "object.__eq__")))
    (z_any : PySem.W.nsIn K mainGlobals "any" = some none)
    (z_int : PySem.W.nsIn K mainGlobals "int" = some none)
    (z_len : PySem.W.nsIn K mainGlobals "len" = some none)
    (z_list : PySem.W.nsIn K mainGlobals "list" = some none)
    (z_max : PySem.W.nsIn K mainGlobals "max" = some none)
    (z_min : PySem.W.nsIn K mainGlobals "min" = some none)
    (z_range : PySem.W.nsIn K mainGlobals "range" = some none)
    (z_set : PySem.W.nsIn K mainGlobals "set" = some none)
    (z_sorted : PySem.W.nsIn K mainGlobals "sorted" = some none)
    (z_str : PySem.W.nsIn K mainGlobals "str" = some none)
    (z_tuple : PySem.W.nsIn K mainGlobals "tuple" = some none)
    (v_DIGITS : PySem.W.nsIn K mainGlobals "DIGITS" = some (some (.str "0123456789" t_DIGITS)))
    (v_MOST_DIGITS : PySem.W.nsIn K mainGlobals "MOST_DIGITS" = some (some (.int 9 t_MOST_DIGITS)))
    (v_MOST_LETTERS : PySem.W.nsIn K mainGlobals "MOST_LETTERS" = some (some (.int 6 t_MOST_LETTERS)))
    (v_MOST_PLACES : PySem.W.nsIn K mainGlobals "MOST_PLACES" = some (some (.int 4 t_MOST_PLACES)))
    : ∃ fd : FuncData, (∀ (s : Shared) (v : Value), BindsTo s fd ⟨[v], []⟩ [("script", v)]) ∧ ∀ base : Heap, K.In base → base.Ns mainGlobals mg → FnOk l.prog wo K mg base CX0 6 fa fd ["script"] (spLaw K) := by
  have e := hfa.symm.trans (PySem.W.mg_of X G a20)
  cases e
  let T : Txt K mg := {
    f__law_take := f__law_take, d__law_take := PySem.W.fnOf "_law_take" "_law_take" (defArgs s__law_take) (defBody s__law_take) (defScope s__law_take) .none kV0 dc0 pm0 an0 cd0 ct0,
    F__law_take := fun_mk l0 c0 k0,
    m__law_take := PySem.W.mg_of X G a0,
    b__law_take := (fun_mk (st := s__law_take) l0 c0 k0).binds (ps := ["draws", "limit"]) fun _ _ _ _ _ _ us hl => match us, hl with | [_, _], _ => rfl,
    f__law_draws := f__law_draws, d__law_draws := PySem.W.fnOf "_law_draws" "_law_draws" (defArgs s__law_draws) (defBody s__law_draws) (defScope s__law_draws) .none kV1 dc1 pm1 an1 cd1 ct1,
    F__law_draws := fun_mk l1 c1 k1,
    m__law_draws := PySem.W.mg_of X G a1,
    b__law_draws := (fun_mk (st := s__law_draws) l1 c1 k1).binds (ps := ["script", "count"]) fun _ _ _ _ _ _ us hl => match us, hl with | [_, _], _ => rfl,
    f__check_letter := f__check_letter, d__check_letter := PySem.W.fnOf "_check_letter" "_check_letter" (defArgs s__check_letter) (defBody s__check_letter) (defScope s__check_letter) .none kV2 dc2 pm2 an2 cd2 ct2,
    F__check_letter := fun_mk l2 c2 k2,
    m__check_letter := PySem.W.mg_of X G a2,
    b__check_letter := (fun_mk (st := s__check_letter) l2 c2 k2).binds (ps := ["places", "row"]) fun _ _ _ _ _ _ us hl => match us, hl with | [_, _], _ => rfl,
    f_Alphabet_init := f_Alphabet_init, d_Alphabet_init := PySem.W.fnOf "__init__" "Alphabet.__init__" (defArgs s_Alphabet_init) (defBody s_Alphabet_init) (defScope s_Alphabet_init) .none kV3 dc3 pm3 an3 cd3 ct3,
    F_Alphabet_init := fun_mk l3 c3 k3,
    b_Alphabet_init := (fun_mk (st := s_Alphabet_init) l3 c3 k3).binds (ps := ["self", "places", "letters"]) fun _ _ _ _ _ _ us hl => match us, hl with | [_, _, _], _ => rfl,
    f__law_alphabet := f__law_alphabet, d__law_alphabet := PySem.W.fnOf "_law_alphabet" "_law_alphabet" (defArgs s__law_alphabet) (defBody s__law_alphabet) (defScope s__law_alphabet) .none kV4 dc4 pm4 an4 cd4 ct4,
    F__law_alphabet := fun_mk l4 c4 k4,
    m__law_alphabet := PySem.W.mg_of X G a4,
    b__law_alphabet := (fun_mk (st := s__law_alphabet) l4 c4 k4).binds (ps := ["draws", "places", "most"]) fun _ _ _ _ _ _ us hl => match us, hl with | [_, _, _], _ => rfl,
    f__check_states := f__check_states, d__check_states := PySem.W.fnOf "_check_states" "_check_states" (defArgs s__check_states) (defBody s__check_states) (defScope s__check_states) .none kV5 dc5 pm5 an5 cd5 ct5,
    F__check_states := fun_mk l5 c5 k5,
    m__check_states := PySem.W.mg_of X G a5,
    b__check_states := (fun_mk (st := s__check_states) l5 c5 k5).binds (ps := ["many", "states"]) fun _ _ _ _ _ _ us hl => match us, hl with | [_, _], _ => rfl,
    f_Automaton_init := f_Automaton_init, d_Automaton_init := PySem.W.fnOf "__init__" "Automaton.__init__" (defArgs s_Automaton_init) (defBody s_Automaton_init) (defScope s_Automaton_init) .none kV6 dc6 pm6 an6 cd6 ct6,
    F_Automaton_init := fun_mk l6 c6 k6,
    b_Automaton_init := (fun_mk (st := s_Automaton_init) l6 c6 k6).binds (ps := ["self", "letters", "start", "finals", "rows"]) fun _ _ _ _ _ _ us hl => match us, hl with | [_, _, _, _, _], _ => rfl,
    f__law_any_automaton := f__law_any_automaton, d__law_any_automaton := PySem.W.fnOf "_law_any_automaton" "_law_any_automaton" (defArgs s__law_any_automaton) (defBody s__law_any_automaton) (defScope s__law_any_automaton) .none kV7 dc7 pm7 an7 cd7 ct7,
    F__law_any_automaton := fun_mk l7 c7 k7,
    m__law_any_automaton := PySem.W.mg_of X G a7,
    b__law_any_automaton := (fun_mk (st := s__law_any_automaton) l7 c7 k7).binds (ps := ["draws", "letters", "most"]) fun _ _ _ _ _ _ us hl => match us, hl with | [_, _, _], _ => rfl,
    f__line := f__line, d__line := PySem.W.fnOf "_line" "_line" (defArgs s__line) (defBody s__line) (defScope s__line) .none kV8 dc8 pm8 an8 cd8 ct8,
    F__line := fun_mk l8 c8 k8,
    m__line := PySem.W.mg_of X G a8,
    b__line := (fun_mk (st := s__line) l8 c8 k8).binds (ps := ["word", "numbers"]) fun _ _ _ _ _ _ us hl => match us, hl with | [_, _], _ => rfl,
    f_format_alphabet := f_format_alphabet, d_format_alphabet := PySem.W.fnOf "format_alphabet" "format_alphabet" (defArgs s_format_alphabet) (defBody s_format_alphabet) (defScope s_format_alphabet) .none kV9 dc9 pm9 an9 cd9 ct9,
    F_format_alphabet := fun_mk l9 c9 k9,
    m_format_alphabet := PySem.W.mg_of X G a9,
    b_format_alphabet := (fun_mk (st := s_format_alphabet) l9 c9 k9).binds (ps := ["alphabet"]) fun _ _ _ _ _ _ us hl => match us, hl with | [_], _ => rfl,
    f_format_automaton := f_format_automaton, d_format_automaton := PySem.W.fnOf "format_automaton" "format_automaton" (defArgs s_format_automaton) (defBody s_format_automaton) (defScope s_format_automaton) .none kV10 dc10 pm10 an10 cd10 ct10,
    F_format_automaton := fun_mk l10 c10 k10,
    m_format_automaton := PySem.W.mg_of X G a10,
    b_format_automaton := (fun_mk (st := s_format_automaton) l10 c10 k10).binds (ps := ["automaton"]) fun _ _ _ _ _ _ us hl => match us, hl with | [_], _ => rfl,
    f__number := f__number, d__number := PySem.W.fnOf "_number" "_number" (defArgs s__number) (defBody s__number) (defScope s__number) .none kV11 dc11 pm11 an11 cd11 ct11,
    F__number := fun_mk l11 c11 k11,
    m__number := PySem.W.mg_of X G a11,
    b__number := (fun_mk (st := s__number) l11 c11 k11).binds (ps := ["word"]) fun _ _ _ _ _ _ us hl => match us, hl with | [_], _ => rfl,
    f_parse_alphabet := f_parse_alphabet, d_parse_alphabet := PySem.W.fnOf "parse_alphabet" "parse_alphabet" (defArgs s_parse_alphabet) (defBody s_parse_alphabet) (defScope s_parse_alphabet) .none kV12 dc12 pm12 an12 cd12 ct12,
    F_parse_alphabet := fun_mk l12 c12 k12,
    m_parse_alphabet := PySem.W.mg_of X G a12,
    b_parse_alphabet := (fun_mk (st := s_parse_alphabet) l12 c12 k12).binds (ps := ["text"]) fun _ _ _ _ _ _ us hl => match us, hl with | [_], _ => rfl,
    f_parse_automaton := f_parse_automaton, d_parse_automaton := PySem.W.fnOf "parse_automaton" "parse_automaton" (defArgs s_parse_automaton) (defBody s_parse_automaton) (defScope s_parse_automaton) .none kV13 dc13 pm13 an13 cd13 ct13,
    F_parse_automaton := fun_mk l13 c13 k13,
    m_parse_automaton := PySem.W.mg_of X G a13,
    b_parse_automaton := (fun_mk (st := s_parse_automaton) l13 c13 k13).binds (ps := ["text"]) fun _ _ _ _ _ _ us hl => match us, hl with | [_], _ => rfl,
    f__law_outcome := f__law_outcome, d__law_outcome := PySem.W.fnOf "_law_outcome" "_law_outcome" (defArgs s__law_outcome) (defBody s__law_outcome) (defScope s__law_outcome) .none kV14 dc14 pm14 an14 cd14 ct14,
    F__law_outcome := fun_mk l14 c14 k14,
    m__law_outcome := PySem.W.mg_of X G a14,
    b__law_outcome := (fun_mk (st := s__law_outcome) l14 c14 k14).binds (ps := ["text"]) fun _ _ _ _ _ _ us hl => match us, hl with | [_], _ => rfl,
    f__law_other_outcome := f__law_other_outcome, d__law_other_outcome := PySem.W.fnOf "_law_other_outcome" "_law_other_outcome" (defArgs s__law_other_outcome) (defBody s__law_other_outcome) (defScope s__law_other_outcome) .none kV15 dc15 pm15 an15 cd15 ct15,
    F__law_other_outcome := fun_mk l15 c15 k15,
    m__law_other_outcome := PySem.W.mg_of X G a15,
    b__law_other_outcome := (fun_mk (st := s__law_other_outcome) l15 c15 k15).binds (ps := ["text"]) fun _ _ _ _ _ _ us hl => match us, hl with | [_], _ => rfl,
    f__law_number := f__law_number, d__law_number := PySem.W.fnOf "_law_number" "_law_number" (defArgs s__law_number) (defBody s__law_number) (defScope s__law_number) .none kV16 dc16 pm16 an16 cd16 ct16,
    F__law_number := fun_mk l16 c16 k16,
    m__law_number := PySem.W.mg_of X G a16,
    b__law_number := (fun_mk (st := s__law_number) l16 c16 k16).binds (ps := ["word"]) fun _ _ _ _ _ _ us hl => match us, hl with | [_], _ => rfl,
    f__law_read_alphabet := f__law_read_alphabet, d__law_read_alphabet := PySem.W.fnOf "_law_read_alphabet" "_law_read_alphabet" (defArgs s__law_read_alphabet) (defBody s__law_read_alphabet) (defScope s__law_read_alphabet) .none kV17 dc17 pm17 an17 cd17 ct17,
    F__law_read_alphabet := fun_mk l17 c17 k17,
    m__law_read_alphabet := PySem.W.mg_of X G a17,
    b__law_read_alphabet := (fun_mk (st := s__law_read_alphabet) l17 c17 k17).binds (ps := ["text"]) fun _ _ _ _ _ _ us hl => match us, hl with | [_], _ => rfl,
    f__law_read_automaton := f__law_read_automaton, d__law_read_automaton := PySem.W.fnOf "_law_read_automaton" "_law_read_automaton" (defArgs s__law_read_automaton) (defBody s__law_read_automaton) (defScope s__law_read_automaton) .none kV18 dc18 pm18 an18 cd18 ct18,
    F__law_read_automaton := fun_mk l18 c18 k18,
    m__law_read_automaton := PySem.W.mg_of X G a18,
    b__law_read_automaton := (fun_mk (st := s__law_read_automaton) l18 c18 k18).binds (ps := ["text"]) fun _ _ _ _ _ _ us hl => match us, hl with | [_], _ => rfl,
    f__law_changed := f__law_changed, d__law_changed := PySem.W.fnOf "_law_changed" "_law_changed" (defArgs s__law_changed) (defBody s__law_changed) (defScope s__law_changed) .none kV19 dc19 pm19 an19 cd19 ct19,
    F__law_changed := fun_mk l19 c19 k19,
    m__law_changed := PySem.W.mg_of X G a19,
    b__law_changed := (fun_mk (st := s__law_changed) l19 c19 k19).binds (ps := ["draws", "text"]) fun _ _ _ _ _ _ us hl => match us, hl with | [_, _], _ => rfl,
    f_law := fa, d_law := PySem.W.fnOf "law" "law" (defArgs s_law) (defBody s_law) (defScope s_law) .none kV20 dc20 pm20 an20 cd20 ct20,
    F_law := fun_mk l20 c20 k20,
    m_law := PySem.W.mg_of X G a20,
    b_law := (fun_mk (st := s_law) l20 c20 k20).binds (ps := ["script"]) fun _ _ _ _ _ _ us hl => match us, hl with | [_], _ => rfl,
    c_Alphabet := c_Alphabet, mc_Alphabet := PySem.W.mg_of X G aC_Alphabet, mk_Alphabet := mk_Alphabet, in_Alphabet := a3, if_Alphabet := i3, kc_Alphabet := kc_Alphabet, cl_Alphabet := ⟨pg_Alphabet, hd_Alphabet, po_Alphabet, sa_Alphabet⟩,
    na_Alphabet_places := na_Alphabet_places,
    na_Alphabet_letters := na_Alphabet_letters,
    c_Automaton := c_Automaton, mc_Automaton := PySem.W.mg_of X G aC_Automaton, mk_Automaton := mk_Automaton, in_Automaton := a6, if_Automaton := i6, kc_Automaton := kc_Automaton, cl_Automaton := ⟨pg_Automaton, hd_Automaton, po_Automaton, sa_Automaton⟩,
    na_Automaton_letters := na_Automaton_letters,
    na_Automaton_start := na_Automaton_start,
    na_Automaton_finals := na_Automaton_finals,
    na_Automaton_rows := na_Automaton_rows,
    om_Alphabet := om_Alphabet, oe_Alphabet := oe_Alphabet,
    c_InvalidAlphabet := c_InvalidAlphabet, mc_InvalidAlphabet := PySem.W.mg_of X G aC_InvalidAlphabet, x_InvalidAlphabet := x_InvalidAlphabet, k_InvalidAlphabet := k_InvalidAlphabet, b_InvalidAlphabet := b_InvalidAlphabet, t_InvalidAlphabet := t_InvalidAlphabet, e_InvalidAlphabet := exm_self b_InvalidAlphabet i_InvalidAlphabet t_InvalidAlphabet s_InvalidAlphabet,
    c_InvalidAutomaton := c_InvalidAutomaton, mc_InvalidAutomaton := PySem.W.mg_of X G aC_InvalidAutomaton, x_InvalidAutomaton := x_InvalidAutomaton, k_InvalidAutomaton := k_InvalidAutomaton, b_InvalidAutomaton := b_InvalidAutomaton, t_InvalidAutomaton := t_InvalidAutomaton, e_InvalidAutomaton := exm_self b_InvalidAutomaton i_InvalidAutomaton t_InvalidAutomaton s_InvalidAutomaton,
    z_any := PySem.W.mg_none_of X G z_any,
    z_int := PySem.W.mg_none_of X G z_int,
    z_len := PySem.W.mg_none_of X G z_len,
    z_list := PySem.W.mg_none_of X G z_list,
    z_max := PySem.W.mg_none_of X G z_max,
    z_min := PySem.W.mg_none_of X G z_min,
    z_range := PySem.W.mg_none_of X G z_range,
    z_set := PySem.W.mg_none_of X G z_set,
    z_sorted := PySem.W.mg_none_of X G z_sorted,
    z_str := PySem.W.mg_none_of X G z_str,
    z_tuple := PySem.W.mg_none_of X G z_tuple,
    t_DIGITS := t_DIGITS, v_DIGITS := PySem.W.mg_of X G v_DIGITS,
    t_MOST_DIGITS := t_MOST_DIGITS, v_MOST_DIGITS := PySem.W.mg_of X G v_MOST_DIGITS,
    t_MOST_LETTERS := t_MOST_LETTERS, v_MOST_LETTERS := PySem.W.mg_of X G v_MOST_LETTERS,
    t_MOST_PLACES := t_MOST_PLACES, v_MOST_PLACES := PySem.W.mg_of X G v_MOST_PLACES }
  exact ⟨_, fun s v => .of_eq rfl, fun base _ _ => ok_law T⟩
theorem walk {l : PySem.W.OpenLaw} {q : Program} {loose : List Str} {XP : (Str → Option Value) → Heap → Prop} {YP : World → Heap → Prop} {d : DefRec} {K : Params → PySem.W.Frag} (hn : l.most = some 63) (hdf : d.params.defaults = [])
    (hY : ∀ (w : World) (h : Heap), YP w h → (K w.params).In h)
    (F : ∀ (w : World) (mg : Str → Option Value) (fa : Addr) (h : Heap), (K w.params).In h → h.Ns mainGlobals mg → mg d.name = some (.ref fa) →
      ∃ fd : FuncData, (∀ (s : Shared) (u : Value), BindsTo s fd ⟨[u], []⟩ [("script", u)]) ∧ ∀ base : Heap, (K w.params).In base → base.Ns mainGlobals mg → FnOk l.prog w (K w.params) mg base CX0 6 fa fd ["script"] (spLaw (K w.params))) :
    PySem.W.WalkO q loose XP YP l.row.toRowW d [] (fun f vs => PySem.call f vs) :=
  L2.walk_of (n := 63) (k := 6) (x := "script") (CX := fun _ => CX0) (sp := fun w => spLaw (K w.params)) hn (by decide) hdf ⟨rfl, by decide, by decide⟩ hY F (fun _ _ a ns hl _ hS => ⟨a, ns, rfl, hS, hl, fun _ => rfl⟩) fun _ _ _ _ _ z => z
end My
open PySem PySem.W PyProof.Rows in
set_option maxRecDepth 100000 in
set_option maxHeartbeats 0 in
theorem PySem.Challenge.cw_placewords_k50_texts_of_alphabets_and_au_holds : PySem.Challenge.rw_placewords_k50_texts_of_alphabets_and_au.Holds := by
  w_on; o_law; k_head; (case hw => w_witness2)
  k_fill
  refine My.walk (l := PySem.Challenge.rw_placewords_k50_texts_of_alphabets_and_au) rfl rfl (fun w h Y => PySem.W.kIn_of Y) ?F
  case F =>
    intro w mg fa h KX G hmg
    refine' My.all_mk KX G hmg ?aC_Alphabet ?aC_Automaton ?a0 ?l0 ?c0 ?k0 ?a1 ?l1 ?c1 ?k1 ?a2 ?l2 ?c2 ?k2 ?a3 ?i3 ?l3 ?c3 ?k3 ?a4 ?l4 ?c4 ?k4 ?a5 ?l5 ?c5 ?k5 ?a6 ?i6 ?l6 ?c6 ?k6 ?a7 ?l7 ?c7 ?k7 ?a8 ?l8 ?c8 ?k8 ?a9 ?l9 ?c9 ?k9 ?a10 ?l10 ?c10 ?k10 ?a11 ?l11 ?c11 ?k11 ?a12 ?l12 ?c12 ?k12 ?a13 ?l13 ?c13 ?k13 ?a14 ?l14 ?c14 ?k14 ?a15 ?l15 ?c15 ?k15 ?a16 ?l16 ?c16 ?k16 ?a17 ?l17 ?c17 ?k17 ?a18 ?l18 ?c18 ?k18 ?a19 ?l19 ?c19 ?k19 ?a20 ?l20 ?c20 ?k20 ?pg_Alphabet ?hd_Alphabet ?po_Alphabet ?sa_Alphabet ?mk_Alphabet ?kc_Alphabet ?na_Alphabet_places ?na_Alphabet_letters ?pg_Automaton ?hd_Automaton ?po_Automaton ?sa_Automaton ?mk_Automaton ?kc_Automaton ?na_Automaton_letters ?na_Automaton_start ?na_Automaton_finals ?na_Automaton_rows ?aC_InvalidAlphabet ?x_InvalidAlphabet ?k_InvalidAlphabet ?b_InvalidAlphabet ?t_InvalidAlphabet ?i_InvalidAlphabet ?s_InvalidAlphabet ?aC_InvalidAutomaton ?x_InvalidAutomaton ?k_InvalidAutomaton ?b_InvalidAutomaton ?t_InvalidAutomaton ?i_InvalidAutomaton ?s_InvalidAutomaton ?om_Alphabet ?oe_Alphabet ?z_any ?z_int ?z_len ?z_list ?z_max ?z_min ?z_range ?z_set ?z_sorted ?z_str ?z_tuple ?v_DIGITS ?v_MOST_DIGITS ?v_MOST_LETTERS ?v_MOST_PLACES
    (case aC_Alphabet => k_is)
    (case aC_Automaton => k_is)
    (case a0 => k_is)
    (case l0 => k_is)
    (case c0 => k_is)
    (case k0 => k_is)
    (case a1 => k_is)
    (case l1 => k_is)
    (case c1 => k_is)
    (case k1 => k_is)
    (case a2 => k_is)
    (case l2 => k_is)
    (case c2 => k_is)
    (case k2 => k_is)
    (case a3 => k_is)
    (case i3 => k_is)
    (case l3 => k_is)
    (case c3 => k_is)
    (case k3 => k_is)
    (case a4 => k_is)
    (case l4 => k_is)
    (case c4 => k_is)
    (case k4 => k_is)
    (case a5 => k_is)
    (case l5 => k_is)
    (case c5 => k_is)
    (case k5 => k_is)
    (case a6 => k_is)
    (case i6 => k_is)
    (case l6 => k_is)
    (case c6 => k_is)
    (case k6 => k_is)
    (case a7 => k_is)
    (case l7 => k_is)
    (case c7 => k_is)
    (case k7 => k_is)
    (case a8 => k_is)
    (case l8 => k_is)
    (case c8 => k_is)
    (case k8 => k_is)
    (case a9 => k_is)
    (case l9 => k_is)
    (case c9 => k_is)
    (case k9 => k_is)
    (case a10 => k_is)
    (case l10 => k_is)
    (case c10 => k_is)
    (case k10 => k_is)
    (case a11 => k_is)
    (case l11 => k_is)
    (case c11 => k_is)
    (case k11 => k_is)
    (case a12 => k_is)
    (case l12 => k_is)
    (case c12 => k_is)
    (case k12 => k_is)
    (case a13 => k_is)
    (case l13 => k_is)
    (case c13 => k_is)
    (case k13 => k_is)
    (case a14 => k_is)
    (case l14 => k_is)
    (case c14 => k_is)
    (case k14 => k_is)
    (case a15 => k_is)
    (case l15 => k_is)
    (case c15 => k_is)
    (case k15 => k_is)
    (case a16 => k_is)
    (case l16 => k_is)
    (case c16 => k_is)
    (case k16 => k_is)
    (case a17 => k_is)
    (case l17 => k_is)
    (case c17 => k_is)
    (case k17 => k_is)
    (case a18 => k_is)
    (case l18 => k_is)
    (case c18 => k_is)
    (case k18 => k_is)
    (case a19 => k_is)
    (case l19 => k_is)
    (case c19 => k_is)
    (case k19 => k_is)
    (case a20 => k_is)
    (case l20 => k_is)
    (case c20 => k_is)
    (case k20 => k_is)
    (case pg_Alphabet => k_is)
    (case hd_Alphabet => k_is)
    (case po_Alphabet => k_is)
    (case sa_Alphabet => k_is)
    (case mk_Alphabet => k_is)
    (case kc_Alphabet => k_is)
    (case na_Alphabet_places => k_is)
    (case na_Alphabet_letters => k_is)
    (case pg_Automaton => k_is)
    (case hd_Automaton => k_is)
    (case po_Automaton => k_is)
    (case sa_Automaton => k_is)
    (case mk_Automaton => k_is)
    (case kc_Automaton => k_is)
    (case na_Automaton_letters => k_is)
    (case na_Automaton_start => k_is)
    (case na_Automaton_finals => k_is)
    (case na_Automaton_rows => k_is)
    (case aC_InvalidAlphabet => k_is)
    (case x_InvalidAlphabet => k_exc)
    (case k_InvalidAlphabet => k_is)
    (case b_InvalidAlphabet => k_is)
    (case t_InvalidAlphabet => k_is)
    (case i_InvalidAlphabet => k_is)
    (case s_InvalidAlphabet => first | rfl | k_is)
    (case aC_InvalidAutomaton => k_is)
    (case x_InvalidAutomaton => k_exc)
    (case k_InvalidAutomaton => k_is)
    (case b_InvalidAutomaton => k_is)
    (case t_InvalidAutomaton => k_is)
    (case i_InvalidAutomaton => k_is)
    (case s_InvalidAutomaton => first | rfl | k_is)
    (case om_Alphabet => k_is)
    (case oe_Alphabet => k_is)
    (case z_any => k_is)
    (case z_int => k_is)
    (case z_len => k_is)
    (case z_list => k_is)
    (case z_max => k_is)
    (case z_min => k_is)
    (case z_range => k_is)
    (case z_set => k_is)
    (case z_sorted => k_is)
    (case z_str => k_is)
    (case z_tuple => k_is)
    (case v_DIGITS => k_is)
    (case v_MOST_DIGITS => k_is)
    (case v_MOST_LETTERS => k_is)
    (case v_MOST_PLACES => k_is)
