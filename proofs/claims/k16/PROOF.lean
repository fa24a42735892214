import PyProof.Rows.All
import Wide.All
import OpenK.AllK
import Wide.FinOn
import HandS.ForMost
import HandS.ForExc
import HandS.Zip
import HandS.TupAny
import HandS.TupMul
import HandS.TupLe
import HandS.Style
import HandS.Conv
import HandS.More
import HandS.Deep
import KE.KEqNest
import KE.DataEq
import HandS.TupLen
import HandS.SortInts
import KE.GoesEnum
import PyProof.Rows.FactsT1
import PyProof.Rows.FactsT2
import PyProof.Rows.FactsT3
import PyProof.Rows.SeqGen
import PyProof.Rows.SeqCalls
import HandS.ExcInit
import HandS.ExcIs
import HandS.WordsExc
import HandS.IsInst
import PyProof.NeKinds
import KE.KEqDict
import KE.KIndexOf
import HandS.Defaults
import KE.KDictKeyed
import HandS.Small
import PyProof.AutoSeq1
import HandS.Star
import PyProof.ReprRoads
import HandS.Ends
import KE.SortKeyHeap
import KE.KDictCopyH
import KE.KDictDisplayH
import PyProof.Rows.SeqRoads
import HandS.SortKw
import PySem.Challenge.RW_guesshush_k16_whole_windows
set_option Elab.async false
set_option linter.all false
set_option maxRecDepth 100000
set_option maxHeartbeats 4000000
namespace Mi
open PySem PySem.Spec PyProof.Rows L2
inductive D where
  | non | bl (b : Bool) | int (i : Int) | str (x : Str) | ty (n : String)
  | tup (xs : List D) | lst (xs : List D) | sl (xs : List D) | kt (xs : List D)
  | dK (kvs : List (Key × D)) | dT (kvs : List (List Key × D))
  | ob (n : Str) (fs : List (Str × D)) | adr (a : Addr) | any
def Ex (H H' : Hp) : Prop := ∀ a o, H a = some o → H' a = some o
theorem Ex.refl (H : Hp) : Ex H H := fun _ _ h => h
theorem Ex.trans {H H1 H2 : Hp} (a : Ex H H1) (b : Ex H1 H2) : Ex H H2 := fun x o h => b x o (a x o h)
theorem Ex.new {H : Hp} {p : Addr} {o : HO} (h : H p = none) : Ex H (upd H p o) := fun a u e => by
  rw [upd_ne (ne_of_none e h)]
  exact e
theorem Ex.free {H H' : Hp} {p : Addr} (e : Ex H H') (h : H' p = none) : H p = none := by
  cases h1 : H p with
  | none => rfl
  | some o =>
    rw [e p o h1] at h
    cases h
theorem Ex.rd {H H' : Hp} {a : Addr} {u : HO} (e : Ex H H') (h : Rd H a u) : Rd H' a u := by
  rcases h with h | ⟨o, h⟩
  · exact .inl (e a _ h)
  · exact .inr ⟨o, e a _ h⟩
theorem Ex.l {K : PySem.W.Frag} {H H' : Hp} {a : Addr} {xs : List V} (e : Ex H H') (h : SqL K H a xs) : SqL K H' a xs := by
  rcases h with h | h
  · exact .inl (e.rd h)
  · exact .inr h
theorem Ex.t {K : PySem.W.Frag} {H H' : Hp} {a : Addr} {xs : List V} (e : Ex H H') (h : SqT K H a xs) : SqT K H' a xs := by
  rcases h with h | h
  · exact .inl (e.rd h)
  · exact .inr h
/-- the foot F, the heap H; both grow, what stood beyond the foot stays beyond it -/
structure Gr (F H F' H' : Hp) : Prop where
  f0 : Ex F H
  ff : Ex F F'
  hh : Ex H H'
  fh : Ex F' H'
  fr : ∀ a o, H a = some o → F' a = F a
theorem Gr.refl {F H : Hp} (e : Ex F H) : Gr F H F H := ⟨e, .refl _, .refl _, e, fun _ _ _ => rfl⟩
theorem Gr.trans {F H F1 H1 F2 H2 : Hp} (a : Gr F H F1 H1) (b : Gr F1 H1 F2 H2) : Gr F H F2 H2 :=
  ⟨a.f0, a.ff.trans b.ff, a.hh.trans b.hh, b.fh, fun x o h => (b.fr x o (a.hh x o h)).trans (a.fr x o h)⟩
/-- beyond the foot -/
theorem Gr.off {F H : Hp} {p : Addr} {o : HO} (e : Ex F H) (h : H p = none) : Gr F H F (upd H p o) :=
  ⟨e, .refl _, .new h, e.trans (.new h), fun _ _ _ => rfl⟩
theorem Ex.into {F H : Hp} {p : Addr} {o : HO} (e : Ex F H) (h : H p = some o) : Ex (upd F p o) H := fun a u q => by
  by_cases z : a = p
  · subst z
    rw [upd_same] at q
    rw [h]
    exact q
  · rw [upd_ne z] at q
    exact e a u q
/-- what stands beyond the foot, and was not there, is taken in -/
theorem Gr.take {F H F' H' : Hp} {p : Addr} {o : HO} (g : Gr F H F' H') (h : H p = none) (h1 : F' p = none) (h' : H' p = some o) : Gr F H (upd F' p o) H' :=
  ⟨g.f0, g.ff.trans (.new h1), g.hh, g.fh.into h', fun a u q => by
    rw [upd_ne (ne_of_none q h)]
    exact g.fr a u q⟩
theorem Gr.new {F H : Hp} {p : Addr} {o : HO} (e : Ex F H) (h : H p = none) : Gr F H (upd F p o) (upd H p o) :=
  (Gr.off e h).take h (e.free h) upd_same
/-- a tuple that is known to have no dict -/
def TD (K : PySem.W.Frag) (H : Hp) (a : Addr) : Prop := (∃ o : Obj, K.lookup a = some o ∧ o.cls = .type "tuple" ∧ o.dict = none) ∨ ∃ (o : Obj) (xs : List V), H a = some (.frz o (.tup xs)) ∧ o.cls = .type "tuple" ∧ o.dict = none
theorem TD.m {K : PySem.W.Frag} {F H : Hp} {a : Addr} (e : Ex F H) (h : TD K F a) : TD K H a := by
  rcases h with h | ⟨o, xs, h1, h2⟩
  · exact .inl h
  · exact .inr ⟨o, xs, e _ _ h1, h2⟩
/-- the fields' names that the classes of data do not have -/
def obF : List Str := ["plain", "notes", "guesses", "before", "kind", "since", "_program", "_meaning", "_secrets", "_window", "_now", "_seen", "missing", "inside", "last", "asked", "mixed", "loaded", "one", "other", "registers", "slots", "olds"]
/-- the class n of data stands at C -/
def ObC (K : PySem.W.Frag) (n : Str) (C : Addr) : Prop := PySem.W.nsIn K mainGlobals n = some (some (.ref C)) ∧ Cls K C ∧ (∀ f ∈ obF, NoAttr K C f) ∧ (n = "Machine" ∨ NoAttr K C "direct")
mutual
def Rep (K : PySem.W.Frag) (H : Hp) : D → V → Prop
  | .non, v => v = .non
  | .bl b, v => v = .bl b
  | .int i, v => v = .int i
  | .str x, v => v = .str x
  | .ty n, v => v = .ty n
  | .tup ds, v => ∃ a vs, v = .ref a ∧ H a = some (.tup vs) ∧ Reps K H ds vs
  | .sl ds, v => ∃ a vs, v = .ref a ∧ SqL K H a vs ∧ Reps K H ds vs
  | .kt ds, v => ∃ a vs, v = .ref a ∧ SqT K H a vs ∧ TD K H a ∧ Reps K H ds vs
  | .lst ds, v => ∃ a vs, v = .ref a ∧ H a = some (.lst vs) ∧ Reps K H ds vs
  | .dK ps, v => ∃ a vs, v = .ref a ∧ H a = some (.dK vs) ∧ RepK K H ps vs
  | .dT ps, v => ∃ a vs, v = .ref a ∧ H a = some (.dT vs) ∧ RepT K H ps vs
  | .ob n fs, v => ∃ a C dx vs, v = .ref a ∧ H a = some (.ins C dx vs) ∧ ObC K n C ∧ RepF K H fs vs
  | .adr a, v => v = .ref a
  | .any, v => ∃ a, v = .ref a
def Reps (K : PySem.W.Frag) (H : Hp) : List D → List V → Prop
  | [], vs => vs = []
  | d :: ds, vs => ∃ v r, vs = v :: r ∧ Rep K H d v ∧ Reps K H ds r
def RepK (K : PySem.W.Frag) (H : Hp) : List (Key × D) → List (Key × V) → Prop
  | [], vs => vs = []
  | (k, d) :: ps, vs => ∃ v r, vs = (k, v) :: r ∧ Rep K H d v ∧ RepK K H ps r
def RepT (K : PySem.W.Frag) (H : Hp) : List (List Key × D) → List (List Key × V) → Prop
  | [], vs => vs = []
  | (k, d) :: ps, vs => ∃ v r, vs = (k, v) :: r ∧ Rep K H d v ∧ RepT K H ps r
def RepF (K : PySem.W.Frag) (H : Hp) : List (Str × D) → List (Str × V) → Prop
  | [], vs => vs = []
  | (k, d) :: ps, vs => ∃ v r, vs = (k, v) :: r ∧ Rep K H d v ∧ RepF K H ps r
end
section
variable {K : PySem.W.Frag} {H H' : Hp}
mutual
theorem Rep.mono (e : Ex H H') : ∀ (d : D) (v : V), Rep K H d v → Rep K H' d v
  | .non, _, h | .bl _, _, h | .int _, _, h | .str _, _, h | .ty _, _, h => by unfold Rep at h ⊢; exact h
  | .tup ds, _, h => by
    unfold Rep at h ⊢
    obtain ⟨a, vs, e1, e2, e3⟩ := h
    exact ⟨a, vs, e1, e a _ e2, Reps.mono e ds vs e3⟩
  | .sl ds, _, h => by
    unfold Rep at h ⊢
    obtain ⟨a, vs, e1, e2, e3⟩ := h
    exact ⟨a, vs, e1, e.l e2, Reps.mono e ds vs e3⟩
  | .kt ds, _, h => by
    unfold Rep at h ⊢
    obtain ⟨a, vs, e1, e2, e4, e3⟩ := h
    exact ⟨a, vs, e1, e.t e2, e4.m e, Reps.mono e ds vs e3⟩
  | .lst ds, _, h => by
    unfold Rep at h ⊢
    obtain ⟨a, vs, e1, e2, e3⟩ := h
    exact ⟨a, vs, e1, e a _ e2, Reps.mono e ds vs e3⟩
  | .dK ps, _, h => by
    unfold Rep at h ⊢
    obtain ⟨a, vs, e1, e2, e3⟩ := h
    exact ⟨a, vs, e1, e a _ e2, RepK.mono e ps vs e3⟩
  | .dT ps, _, h => by
    unfold Rep at h ⊢
    obtain ⟨a, vs, e1, e2, e3⟩ := h
    exact ⟨a, vs, e1, e a _ e2, RepT.mono e ps vs e3⟩
  | .ob n fs, _, h => by
    unfold Rep at h ⊢
    obtain ⟨a, C, dx, vs, e1, e2, e4, e3⟩ := h
    exact ⟨a, C, dx, vs, e1, e a _ e2, e4, RepF.mono e fs vs e3⟩
  | .adr _, _, h => by unfold Rep at h ⊢; exact h
  | .any, _, h => by unfold Rep at h ⊢; exact h
theorem Reps.mono (e : Ex H H') : ∀ (ds : List D) (vs : List V), Reps K H ds vs → Reps K H' ds vs
  | [], _, h => by unfold Reps at h ⊢; exact h
  | d :: ds, _, h => by
    unfold Reps at h ⊢
    obtain ⟨v, r, e1, e2, e3⟩ := h
    exact ⟨v, r, e1, Rep.mono e d v e2, Reps.mono e ds r e3⟩
theorem RepK.mono (e : Ex H H') : ∀ (ps : List (Key × D)) (vs : List (Key × V)), RepK K H ps vs → RepK K H' ps vs
  | [], _, h => by unfold RepK at h ⊢; exact h
  | (k, d) :: ps, _, h => by
    unfold RepK at h ⊢
    obtain ⟨v, r, e1, e2, e3⟩ := h
    exact ⟨v, r, e1, Rep.mono e d v e2, RepK.mono e ps r e3⟩
theorem RepT.mono (e : Ex H H') : ∀ (ps : List (List Key × D)) (vs : List (List Key × V)), RepT K H ps vs → RepT K H' ps vs
  | [], _, h => by unfold RepT at h ⊢; exact h
  | (k, d) :: ps, _, h => by
    unfold RepT at h ⊢
    obtain ⟨v, r, e1, e2, e3⟩ := h
    exact ⟨v, r, e1, Rep.mono e d v e2, RepT.mono e ps r e3⟩
theorem RepF.mono (e : Ex H H') : ∀ (ps : List (Str × D)) (vs : List (Str × V)), RepF K H ps vs → RepF K H' ps vs
  | [], _, h => by unfold RepF at h ⊢; exact h
  | (k, d) :: ps, _, h => by
    unfold RepF at h ⊢
    obtain ⟨v, r, e1, e2, e3⟩ := h
    exact ⟨v, r, e1, Rep.mono e d v e2, RepF.mono e ps r e3⟩
end
theorem Rep.m {d : D} {v : V} (h : Rep K H d v) (e : Ex H H') : Rep K H' d v := Rep.mono e d v h
theorem Reps.m {d : List D} {v : List V} (h : Reps K H d v) (e : Ex H H') : Reps K H' d v := Reps.mono e d v h
theorem rep_non {v : V} : Rep K H .non v ↔ v = .non := by unfold Rep; exact Iff.rfl
theorem rep_bl {v : V} {b : Bool} : Rep K H (.bl b) v ↔ v = .bl b := by unfold Rep; exact Iff.rfl
theorem rep_int {v : V} {i : Int} : Rep K H (.int i) v ↔ v = .int i := by unfold Rep; exact Iff.rfl
theorem rep_str {v : V} {x : Str} : Rep K H (.str x) v ↔ v = .str x := by unfold Rep; exact Iff.rfl
theorem rep_ty {v : V} {x : String} : Rep K H (.ty x) v ↔ v = .ty x := by unfold Rep; exact Iff.rfl
theorem rep_tup {v : V} {ds : List D} : Rep K H (.tup ds) v ↔ ∃ a vs, v = .ref a ∧ H a = some (.tup vs) ∧ Reps K H ds vs := by conv => lhs; unfold Rep
theorem rep_sl {v : V} {ds : List D} : Rep K H (.sl ds) v ↔ ∃ a vs, v = .ref a ∧ SqL K H a vs ∧ Reps K H ds vs := by conv => lhs; unfold Rep
theorem rep_kt {v : V} {ds : List D} : Rep K H (.kt ds) v ↔ ∃ a vs, v = .ref a ∧ SqT K H a vs ∧ TD K H a ∧ Reps K H ds vs := by conv => lhs; unfold Rep
theorem rep_ktl {v : V} {ds : List D} (h : Rep K H (.kt ds) v) : ∃ a vs, v = .ref a ∧ SqT K H a vs ∧ Reps K H ds vs := by
  obtain ⟨a, vs, h1, h2, _, h3⟩ := rep_kt.mp h
  exact ⟨a, vs, h1, h2, h3⟩
theorem rep_lst {v : V} {ds : List D} : Rep K H (.lst ds) v ↔ ∃ a vs, v = .ref a ∧ H a = some (.lst vs) ∧ Reps K H ds vs := by conv => lhs; unfold Rep
theorem rep_dK {v : V} {ps : List (Key × D)} : Rep K H (.dK ps) v ↔ ∃ a vs, v = .ref a ∧ H a = some (.dK vs) ∧ RepK K H ps vs := by conv => lhs; unfold Rep
theorem rep_dT {v : V} {ps : List (List Key × D)} : Rep K H (.dT ps) v ↔ ∃ a vs, v = .ref a ∧ H a = some (.dT vs) ∧ RepT K H ps vs := by conv => lhs; unfold Rep
theorem rep_ob {v : V} {n : Str} {fs : List (Str × D)} : Rep K H (.ob n fs) v ↔ ∃ a C dx vs, v = .ref a ∧ H a = some (.ins C dx vs) ∧ ObC K n C ∧ RepF K H fs vs := by conv => lhs; unfold Rep
theorem rep_adr {v : V} {a : Addr} : Rep K H (.adr a) v ↔ v = .ref a := by unfold Rep; exact Iff.rfl
theorem rep_any {v : V} : Rep K H .any v ↔ ∃ a, v = .ref a := by unfold Rep; exact Iff.rfl
theorem repF_nil {vs : List (Str × V)} : RepF K H [] vs ↔ vs = [] := by conv => lhs; unfold RepF
theorem repF_cons {k : Str} {d : D} {ds : List (Str × D)} {vs : List (Str × V)} : RepF K H ((k, d) :: ds) vs ↔ ∃ v r, vs = (k, v) :: r ∧ Rep K H d v ∧ RepF K H ds r := by conv => lhs; unfold RepF
theorem reps_nil {vs : List V} : Reps K H [] vs ↔ vs = [] := by conv => lhs; unfold Reps
theorem reps_cons {d : D} {ds : List D} {vs : List V} : Reps K H (d :: ds) vs ↔ ∃ v r, vs = v :: r ∧ Rep K H d v ∧ Reps K H ds r := by conv => lhs; unfold Reps
theorem repK_nil {vs : List (Key × V)} : RepK K H [] vs ↔ vs = [] := by conv => lhs; unfold RepK
theorem repK_cons {k : Key} {d : D} {ds : List (Key × D)} {vs : List (Key × V)} : RepK K H ((k, d) :: ds) vs ↔ ∃ v r, vs = (k, v) :: r ∧ Rep K H d v ∧ RepK K H ds r := by conv => lhs; unfold RepK
theorem repT_nil {vs : List (List Key × V)} : RepT K H [] vs ↔ vs = [] := by conv => lhs; unfold RepT
theorem repT_cons {k : List Key} {d : D} {ds : List (List Key × D)} {vs : List (List Key × V)} : RepT K H ((k, d) :: ds) vs ↔ ∃ v r, vs = (k, v) :: r ∧ Rep K H d v ∧ RepT K H ds r := by conv => lhs; unfold RepT
theorem Reps.nil : Reps K H [] [] := reps_nil.mpr rfl
theorem Reps.cons {d : D} {v : V} {ds : List D} {vs : List V} (h : Rep K H d v) (r : Reps K H ds vs) : Reps K H (d :: ds) (v :: vs) := reps_cons.mpr ⟨v, vs, rfl, h, r⟩
theorem Reps.len : ∀ {ds : List D} {vs : List V}, Reps K H ds vs → ds.length = vs.length
  | [], _, h => by rw [reps_nil] at h; subst h; rfl
  | _ :: _, _, h => by
    obtain ⟨v, r, rfl, _, t⟩ := reps_cons.mp h
    simp [t.len]
theorem Reps.get : ∀ {ds : List D} {vs : List V} {i : Nat} {d : D}, Reps K H ds vs → ds[i]? = some d → ∃ v, vs[i]? = some v ∧ Rep K H d v
  | [], _, _, _, _, e => by simp at e
  | d0 :: ds, _, 0, d, h, e => by
    obtain ⟨v, r, rfl, h1, t⟩ := reps_cons.mp h
    simp at e
    subst e
    exact ⟨v, by simp, h1⟩
  | d0 :: ds, _, i + 1, d, h, e => by
    obtain ⟨v, r, rfl, h1, t⟩ := reps_cons.mp h
    obtain ⟨v', h2, h3⟩ := t.get (i := i) (d := d) (by simpa using e)
    exact ⟨v', by simpa using h2, h3⟩
theorem Reps.append : ∀ {ds es : List D} {vs us : List V}, Reps K H ds vs → Reps K H es us → Reps K H (ds ++ es) (vs ++ us)
  | [], _, _, _, h, q => by rw [reps_nil] at h; subst h; exact q
  | _ :: _, _, _, _, h, q => by
    obtain ⟨v, r, rfl, h1, t⟩ := reps_cons.mp h
    exact .cons h1 (t.append q)
theorem Reps.one {d : D} {v : V} (h : Rep K H d v) : Reps K H [d] [v] := .cons h .nil
theorem Reps.reverse : ∀ {ds : List D} {vs : List V}, Reps K H ds vs → Reps K H ds.reverse vs.reverse
  | [], _, h => by rw [reps_nil] at h; subst h; exact .nil
  | _ :: _, _, h => by
    obtain ⟨v, r, rfl, h1, t⟩ := reps_cons.mp h
    rw [List.reverse_cons, List.reverse_cons]
    exact t.reverse.append (.one h1)
theorem Reps.set {d : D} {v : V} (q : Rep K H d v) : ∀ {ds : List D} {vs : List V} (i : Nat), Reps K H ds vs → Reps K H (ds.set i d) (vs.set i v)
  | [], _, _, h => by rw [reps_nil] at h; subst h; exact .nil
  | _ :: _, _, 0, h => by
    obtain ⟨v, r, rfl, h1, t⟩ := reps_cons.mp h
    exact .cons q t
  | _ :: _, _, i + 1, h => by
    obtain ⟨v, r, rfl, h1, t⟩ := reps_cons.mp h
    exact .cons h1 (t.set q i)
theorem Reps.rep {ds : List D} {vs : List V} (n : Nat) (h : Reps K H ds vs) : Reps K H (List.replicate n ds).flatten (List.replicate n vs).flatten := by
  induction n with
  | zero => exact .nil
  | succ n ih =>
    rw [List.replicate_succ, List.replicate_succ, List.flatten_cons, List.flatten_cons]
    exact h.append ih
/-- ints, texts -/
theorem reps_ints : ∀ {ns : List Int} {vs : List V}, Reps K H (ns.map D.int) vs ↔ vs = ns.map V.int
  | [], vs => by simp [reps_nil]
  | n :: ns, vs => by
    simp only [List.map_cons, reps_cons, rep_int, reps_ints]
    constructor
    · rintro ⟨v, r, rfl, rfl, rfl⟩
      rfl
    · intro h
      exact ⟨_, _, h, rfl, rfl⟩
end
abbrev E := List (Option D)
abbrev FE := E → Option D
structure RE (K : PySem.W.Frag) (F : Hp) (σ : L2.St) (ρ : E) : Prop where
  len : ρ.length = σ.length
  at_ : ∀ (i : Nat) (d : D), ρ[i]? = some (some d) → ∃ v, σ[i]? = some (some v) ∧ Rep K F d v
theorem RE.m {K : PySem.W.Frag} {F F' : Hp} {σ : L2.St} {ρ : E} (h : RE K F σ ρ) (e : Ex F F') : RE K F' σ ρ := ⟨h.len, fun i d q => by
  obtain ⟨v, h1, h2⟩ := h.at_ i d q
  exact ⟨v, h1, h2.m e⟩⟩
def SemE (K : PySem.W.Frag) (t : TE) (f : FE) : Prop := ∀ F H σ ρ, Ex F H → RE K F σ ρ → ∀ d, f ρ = some d → ∀ Q : VK, (∀ v F' H', Gr F H F' H' → Rep K F' d v → Q v H') → t σ H Q
def SemT (K : PySem.W.Frag) (t : TT) (f : E → Option Bool) : Prop := ∀ F H σ ρ, Ex F H → RE K F σ ρ → ∀ d, f ρ = some d → ∀ Q : Bool → Hp → Prop, (∀ F' H', Gr F H F' H' → Q d H') → t σ H Q
def SemA (K : PySem.W.Frag) (t : TA) (f : E → Option (List D)) : Prop := ∀ F H σ ρ, Ex F H → RE K F σ ρ → ∀ d, f ρ = some d → ∀ Q : List V → Hp → Prop, (∀ v F' H', Gr F H F' H' → Reps K F' d v → Q v H') → t σ H Q
/-- a new object beyond the foot -/
inductive O where
  | l (xs : List D) | k (kvs : List (Key × D)) | t (kvs : List (List Key × D))
def O.d : O → D
  | .l xs => .lst xs
  | .k xs => .dK xs
  | .t xs => .dT xs
def RepO (K : PySem.W.Frag) (F : Hp) : O → HO → Prop
  | .l ds, h => ∃ vs, h = .lst vs ∧ Reps K F ds vs
  | .k ds, h => ∃ vs, h = .dK vs ∧ RepK K F ds vs
  | .t ds, h => ∃ vs, h = .dT vs ∧ RepT K F ds vs
theorem RepO.m {K : PySem.W.Frag} {F F' : Hp} {o : O} {h : HO} (r : RepO K F o h) (e : Ex F F') : RepO K F' o h := by
  cases o with
  | l xs => obtain ⟨vs, e1, e2⟩ := r; exact ⟨vs, e1, Reps.mono e _ _ e2⟩
  | k xs => obtain ⟨vs, e1, e2⟩ := r; exact ⟨vs, e1, RepK.mono e _ _ e2⟩
  | t xs => obtain ⟨vs, e1, e2⟩ := r; exact ⟨vs, e1, RepT.mono e _ _ e2⟩
theorem RepO.rep {K : PySem.W.Frag} {F : Hp} {o : O} {h : HO} {p : Addr} (r : RepO K F o h) (e : F p = none) : Rep K (upd F p h) o.d (.ref p) := by
  have r := r.m (Ex.new (o := h) e)
  cases o with
  | l xs => obtain ⟨vs, rfl, e2⟩ := r; exact rep_lst.mpr ⟨p, vs, rfl, upd_same, e2⟩
  | k xs => obtain ⟨vs, rfl, e2⟩ := r; exact rep_dK.mpr ⟨p, vs, rfl, upd_same, e2⟩
  | t xs => obtain ⟨vs, rfl, e2⟩ := r; exact rep_dT.mpr ⟨p, vs, rfl, upd_same, e2⟩
def SemN (K : PySem.W.Frag) (t : TE) (f : E → Option O) : Prop := ∀ F H σ ρ, Ex F H → RE K F σ ρ → ∀ d, f ρ = some d → ∀ Q : VK, (∀ p h F' H', Gr F H F' H' → H p = none → F' p = none → H' p = some h → RepO K F' d h → Q (.ref p) H') → t σ H Q
theorem SemN.e {K : PySem.W.Frag} {t : TE} {f : E → Option O} (s : SemN K t f) : SemE K t (fun ρ => (f ρ).map O.d) := fun F H σ ρ e r d h Q q => by
  obtain ⟨o, h1, rfl⟩ := Option.map_eq_some_iff.mp h
  exact s F H σ ρ e r o h1 Q fun p h F' H' g n1 n2 a b => q _ _ _ (g.take n1 n2 a) (b.rep n2)
def Lf2 (K : PySem.W.Frag) (r : R2) (g : D → D → Option D) : Prop := ∀ F H a b x y, Ex F H → Rep K F a x → Rep K F b y → ∀ d, g a b = some d → ∀ Q : VK, (∀ v F' H', Gr F H F' H' → Rep K F' d v → Q v H') → r x y H Q
def Lf1 (K : PySem.W.Frag) (r : V → Hp → VK → Prop) (g : D → Option D) : Prop := ∀ F H a x, Ex F H → Rep K F a x → ∀ d, g a = some d → ∀ Q : VK, (∀ v F' H', Gr F H F' H' → Rep K F' d v → Q v H') → r x H Q
def LfC (K : PySem.W.Frag) (r : List V → Hp → VK → Prop) (g : List D → Option D) : Prop := ∀ F H a x, Ex F H → Reps K F a x → ∀ d, g a = some d → ∀ Q : VK, (∀ v F' H', Gr F H F' H' → Rep K F' d v → Q v H') → r x H Q
def LfCN (K : PySem.W.Frag) (r : List V → Hp → VK → Prop) (g : List D → Option O) : Prop := ∀ F H a x, Ex F H → Reps K F a x → ∀ d, g a = some d → ∀ Q : VK, (∀ p h F' H', Gr F H F' H' → H p = none → F' p = none → H' p = some h → RepO K F' d h → Q (.ref p) H') → r x H Q
def eVar (i : Nat) : FE := fun ρ => (ρ[i]?).bind id
def eC (d : D) : FE := fun _ => some d
def e2 (g : D → D → Option D) (fa fb : FE) : FE := fun ρ => (fa ρ).bind fun a => (fb ρ).bind fun b => g a b
def e1 (g : D → Option D) (fa : FE) : FE := fun ρ => (fa ρ).bind g
def eN2 (g : D → D → Option O) (fa fb : FE) : E → Option O := fun ρ => (fa ρ).bind fun a => (fb ρ).bind fun b => g a b
def aNil : E → Option (List D) := fun _ => some []
def aCons (fa : FE) (fr : E → Option (List D)) : E → Option (List D) := fun ρ => (fa ρ).bind fun a => (fr ρ).bind fun r => some (a :: r)
def eA (g : List D → Option D) (fa : E → Option (List D)) : FE := fun ρ => (fa ρ).bind g
def eNA (g : List D → Option O) (fa : E → Option (List D)) : E → Option O := fun ρ => (fa ρ).bind g
def D.b? : D → Option Bool
  | .bl b => some b
  | _ => none
def D.i? : D → Option Int
  | .int b => some b
  | _ => none
def tB (fa : FE) : E → Option Bool := fun ρ => (fa ρ).bind D.b?
def fAnd (fa fb : E → Option Bool) : E → Option Bool := fun ρ => (fa ρ).bind fun b => if b then fb ρ else some false
def fOr (fa fb : E → Option Bool) : E → Option Bool := fun ρ => (fa ρ).bind fun b => if b then some true else fb ρ
def fNot (fa : E → Option Bool) : E → Option Bool := fun ρ => (fa ρ).bind fun b => some (!b)
def fAndV (fa fb : FE) : FE := fun ρ => (fa ρ).bind fun a => a.b?.bind fun b => if b then fb ρ else some (.bl false)
def fOrV (fa fb : FE) : FE := fun ρ => (fa ρ).bind fun a => a.b?.bind fun b => if b then some (.bl true) else fb ρ
def fNotV (fa : FE) : FE := fun ρ => (fa ρ).bind fun a => a.b?.bind fun b => some (.bl (!b))
def fIf (fc : E → Option Bool) (fa fb : FE) : FE := fun ρ => (fc ρ).bind fun b => if b then fa ρ else fb ρ
def fTup (fa : E → Option (List D)) : FE := fun ρ => (fa ρ).bind fun xs => if xs.length ≤ 100000 then some (.tup xs) else none
def fLst (fa : E → Option (List D)) : E → Option O := fun ρ => (fa ρ).bind fun xs => if xs.length ≤ 100000 then some (.l xs) else none
def fChain (g g' : D → D → Option D) (fa fb fc : FE) : FE := fun ρ => (fa ρ).bind fun a => (fb ρ).bind fun b => (g a b).bind fun z => z.b?.bind fun k => if k then (fc ρ).bind fun c => g' b c else some (.bl false)
theorem rep_b {K : PySem.W.Frag} {H : Hp} {d : D} {b : Bool} {v : V} (h : Rep K H d v) (e : d.b? = some b) : v = .bl b := by
  cases d <;> simp only [D.b?, Option.some.injEq, reduceCtorEq] at e
  subst e
  exact rep_bl.mp h
theorem sz_of {n : Nat} (h : n ≤ 100000) : n ≤ sizeLine := Nat.le_trans h (by decide)
theorem sz_lt {n : Nat} (h : n < 100000) : n < sizeLine := Nat.lt_of_lt_of_le h (by decide)
section
variable {K : PySem.W.Frag} {ta tb tc te : TE} {fa fb fc : FE} {r r' : R2} {g g' : D → D → Option D} {t u : TT} {tg ug : E → Option Bool}
theorem sem_var {i : Nat} : SemE K (tVar i) (eVar i) := fun F H σ ρ e r d h Q q => by
  unfold eVar at h
  cases h1 : ρ[i]? with
  | none => rw [h1] at h; cases h
  | some o =>
    rw [h1] at h
    have h : o = some d := h
    subst h
    obtain ⟨v, e1, e2⟩ := r.at_ i d h1
    exact ⟨v, e1, q v F H (.refl e) e2⟩
theorem sem_c {v : V} {d : D} (h : ∀ F, Rep K F d v) : SemE K (tC v) (eC d) := fun F H σ ρ e r d' h' Q q => by
  cases h'
  exact q v F H (.refl e) (h F)
theorem sem_op (ha : SemE K ta fa) (hb : SemE K tb fb) (L : Lf2 K r g) : SemE K (tOp r ta tb) (e2 g fa fb) := fun F H σ ρ e re d h Q q => by
  obtain ⟨a, h1, h⟩ := Option.bind_eq_some_iff.mp h
  obtain ⟨b, h2, h3⟩ := Option.bind_eq_some_iff.mp h
  refine ha F H σ ρ e re a h1 _ fun x F1 H1 g1 r1 => ?_
  refine hb F1 H1 σ ρ g1.fh (re.m g1.ff) b h2 _ fun y F2 H2 g2 r2 => ?_
  exact L F2 H2 a b x y g2.fh (r1.m g2.ff) r2 d h3 Q fun v F3 H3 g3 r3 => q v F3 H3 ((g1.trans g2).trans g3) r3
theorem sem_un {r : V → Hp → VK → Prop} {g : D → Option D} (ha : SemE K ta fa) (L : Lf1 K r g) : SemE K (tUn r ta) (e1 g fa) := fun F H σ ρ e re d h Q q => by
  obtain ⟨a, h1, h3⟩ := Option.bind_eq_some_iff.mp h
  refine ha F H σ ρ e re a h1 _ fun x F1 H1 g1 r1 => ?_
  exact L F1 H1 a x g1.fh r1 d h3 Q fun v F3 H3 g3 r3 => q v F3 H3 (g1.trans g3) r3
theorem sem_nil : SemA K tNil aNil := fun F H σ ρ e re d h Q q => by
  cases h
  exact q [] F H (.refl e) .nil
theorem sem_cons {tr : TA} {fr : E → Option (List D)} (ha : SemE K ta fa) (hr : SemA K tr fr) : SemA K (tCons ta tr) (aCons fa fr) := fun F H σ ρ e re d h Q q => by
  obtain ⟨a, h1, h⟩ := Option.bind_eq_some_iff.mp h
  obtain ⟨b, h2, h3⟩ := Option.bind_eq_some_iff.mp h
  cases h3
  refine ha F H σ ρ e re a h1 _ fun x F1 H1 g1 r1 => ?_
  refine hr F1 H1 σ ρ g1.fh (re.m g1.ff) b h2 _ fun y F2 H2 g2 r2 => ?_
  exact q _ F2 H2 (g1.trans g2) (.cons (r1.m g2.ff) r2)
theorem sem_tup {t : TA} {f : E → Option (List D)} (h : SemA K t f) : SemE K (tTup t) (fTup f) := fun F H σ ρ e re d hd Q q => by
  obtain ⟨xs, h1, h2⟩ := Option.bind_eq_some_iff.mp hd
  split at h2
  · rename_i hl
    cases h2
    refine h F H σ ρ e re xs h1 _ fun vs F1 H1 g1 r1 => ⟨by rw [← r1.len]; exact sz_of hl, fun p hp => ?_⟩
    exact q _ _ _ (g1.trans (.new g1.fh hp)) (rep_tup.mpr ⟨p, vs, rfl, upd_same, r1.m (.new (g1.fh.free hp))⟩)
  · cases h2
theorem sem_lst {t : TA} {f : E → Option (List D)} (h : SemA K t f) : SemN K (tLst t) (fLst f) := fun F H σ ρ e re d hd Q q => by
  obtain ⟨xs, h1, h2⟩ := Option.bind_eq_some_iff.mp hd
  split at h2
  · rename_i hl
    cases h2
    refine h F H σ ρ e re xs h1 _ fun vs F1 H1 g1 r1 => ⟨by rw [← r1.len]; exact sz_of hl, fun p hp => ?_⟩
    exact q _ _ F1 _ (g1.trans (.off g1.fh hp)) (g1.hh.free hp) (g1.fh.free hp) upd_same ⟨vs, rfl, r1⟩
  · cases h2
theorem sem_callB {r : List V → Hp → VK → Prop} {g : List D → Option D} {t : TA} {f : E → Option (List D)} (h : SemA K t f) (L : LfC K r g) : SemE K (tCB r t) (eA g f) := fun F H σ ρ e re d hd Q q => by
  obtain ⟨a, h1, h3⟩ := Option.bind_eq_some_iff.mp hd
  refine h F H σ ρ e re a h1 _ fun x F1 H1 g1 r1 => ?_
  exact L F1 H1 a x g1.fh r1 d h3 Q fun v F3 H3 g3 r3 => q v F3 H3 (g1.trans g3) r3
theorem sem_callBN {r : List V → Hp → VK → Prop} {g : List D → Option O} {t : TA} {f : E → Option (List D)} (h : SemA K t f) (L : LfCN K r g) : SemN K (tCB r t) (eNA g f) := fun F H σ ρ e re d hd Q q => by
  obtain ⟨a, h1, h3⟩ := Option.bind_eq_some_iff.mp hd
  refine h F H σ ρ e re a h1 _ fun x F1 H1 g1 r1 => ?_
  exact L F1 H1 a x g1.fh r1 d h3 Q fun p h F3 H3 g3 n1 n2 a b => q p h F3 H3 (g1.trans g3) (g1.hh.free n1) n2 a b
theorem sem_test (h : SemE K ta fa) : SemT K (tTest ta) (tB fa) := fun F H σ ρ e re d hd Q q => by
  obtain ⟨a, h1, h3⟩ := Option.bind_eq_some_iff.mp hd
  refine h F H σ ρ e re a h1 _ fun x F1 H1 g1 r1 => ⟨d, rep_b r1 h3, q F1 H1 g1⟩
theorem sem_B (h : SemE K ta fa) : SemT K (L2.tB ta) (tB fa) := fun F H σ ρ e re d hd Q q => by
  obtain ⟨a, h1, h3⟩ := Option.bind_eq_some_iff.mp hd
  refine h F H σ ρ e re a h1 _ fun x F1 H1 g1 r1 => ⟨d, rep_b r1 h3, q F1 H1 g1⟩
theorem sem_and (h1 : SemT K t tg) (h2 : SemT K u ug) : SemT K (tAnd t u) (fAnd tg ug) := fun F H σ ρ e re d hd Q q => by
  obtain ⟨a, e1, e3⟩ := Option.bind_eq_some_iff.mp hd
  refine h1 F H σ ρ e re a e1 _ fun F1 H1 g1 => ?_
  cases a with
  | true => exact h2 F1 H1 σ ρ g1.fh (re.m g1.ff) d e3 Q fun F2 H2 g2 => q F2 H2 (g1.trans g2)
  | false => cases e3; exact q F1 H1 g1
theorem sem_or (h1 : SemT K t tg) (h2 : SemT K u ug) : SemT K (tOr t u) (fOr tg ug) := fun F H σ ρ e re d hd Q q => by
  obtain ⟨a, e1, e3⟩ := Option.bind_eq_some_iff.mp hd
  refine h1 F H σ ρ e re a e1 _ fun F1 H1 g1 => ?_
  cases a with
  | false => exact h2 F1 H1 σ ρ g1.fh (re.m g1.ff) d e3 Q fun F2 H2 g2 => q F2 H2 (g1.trans g2)
  | true => cases e3; exact q F1 H1 g1
theorem sem_not (h1 : SemT K t tg) : SemT K (tNot t) (fNot tg) := fun F H σ ρ e re d hd Q q => by
  obtain ⟨a, e1, e3⟩ := Option.bind_eq_some_iff.mp hd
  cases e3
  exact h1 F H σ ρ e re a e1 _ fun F1 H1 g1 => q F1 H1 g1
theorem sem_andV (h1 : SemE K ta fa) (h2 : SemE K tb fb) : SemE K (tAndV ta tb) (fAndV fa fb) := fun F H σ ρ e re d hd Q q => by
  obtain ⟨a, e1, e3⟩ := Option.bind_eq_some_iff.mp hd
  obtain ⟨b, e4, e5⟩ := Option.bind_eq_some_iff.mp e3
  refine h1 F H σ ρ e re a e1 _ fun x F1 H1 g1 r1 => ⟨b, rep_b r1 e4, ?_⟩
  cases b with
  | true => exact h2 F1 H1 σ ρ g1.fh (re.m g1.ff) d e5 Q fun v F2 H2 g2 => q v F2 H2 (g1.trans g2)
  | false => cases e5; exact q _ F1 H1 g1 (rep_bl.mpr rfl)
theorem sem_orV (h1 : SemE K ta fa) (h2 : SemE K tb fb) : SemE K (tOrV ta tb) (fOrV fa fb) := fun F H σ ρ e re d hd Q q => by
  obtain ⟨a, e1, e3⟩ := Option.bind_eq_some_iff.mp hd
  obtain ⟨b, e4, e5⟩ := Option.bind_eq_some_iff.mp e3
  refine h1 F H σ ρ e re a e1 _ fun x F1 H1 g1 r1 => ⟨b, rep_b r1 e4, ?_⟩
  cases b with
  | false => exact h2 F1 H1 σ ρ g1.fh (re.m g1.ff) d e5 Q fun v F2 H2 g2 => q v F2 H2 (g1.trans g2)
  | true => cases e5; exact q _ F1 H1 g1 (rep_bl.mpr rfl)
theorem sem_notV (h1 : SemE K ta fa) : SemE K (tNotV ta) (fNotV fa) := fun F H σ ρ e re d hd Q q => by
  obtain ⟨a, e1, e3⟩ := Option.bind_eq_some_iff.mp hd
  obtain ⟨b, e4, e5⟩ := Option.bind_eq_some_iff.mp e3
  cases e5
  exact h1 F H σ ρ e re a e1 _ fun x F1 H1 g1 r1 => ⟨b, rep_b r1 e4, q _ F1 H1 g1 (rep_bl.mpr rfl)⟩
theorem sem_if (h1 : SemT K t tg) (ha : SemE K ta fa) (hb : SemE K tb fb) : SemE K (tIf t ta tb) (fIf tg fa fb) := fun F H σ ρ e re d hd Q q => by
  obtain ⟨a, e1, e3⟩ := Option.bind_eq_some_iff.mp hd
  refine h1 F H σ ρ e re a e1 _ fun F1 H1 g1 => ?_
  cases a with
  | false => exact hb F1 H1 σ ρ g1.fh (re.m g1.ff) d e3 Q fun v F2 H2 g2 => q v F2 H2 (g1.trans g2)
  | true => exact ha F1 H1 σ ρ g1.fh (re.m g1.ff) d e3 Q fun v F2 H2 g2 => q v F2 H2 (g1.trans g2)
theorem sem_chain (ha : SemE K ta fa) (hb : SemE K tb fb) (hc : SemE K tc fc) (L : Lf2 K r g) (L' : Lf2 K r' g') : SemE K (tChain r r' ta tb tc) (fChain g g' fa fb fc) := fun F H σ ρ e re d h Q q => by
  obtain ⟨a, h1, h⟩ := Option.bind_eq_some_iff.mp h
  obtain ⟨b, h2, h⟩ := Option.bind_eq_some_iff.mp h
  obtain ⟨z, h3, h⟩ := Option.bind_eq_some_iff.mp h
  obtain ⟨k, h4, h⟩ := Option.bind_eq_some_iff.mp h
  refine ha F H σ ρ e re a h1 _ fun x F1 H1 g1 r1 => ?_
  refine hb F1 H1 σ ρ g1.fh (re.m g1.ff) b h2 _ fun y F2 H2 g2 r2 => ?_
  refine L F2 H2 a b x y g2.fh (r1.m g2.ff) r2 z h3 _ fun zv F3 H3 g3 r3 => ⟨k, rep_b r3 h4, ?_⟩
  cases k with
  | true =>
    obtain ⟨c, h5, h6⟩ := Option.bind_eq_some_iff.mp h
    refine hc F3 H3 σ ρ g3.fh (re.m ((g1.trans g2).trans g3).ff) c h5 _ fun w F4 H4 g4 r4 => ?_
    exact L' F4 H4 b c y w g4.fh (r2.m (g3.trans g4).ff) r4 d h6 Q fun v F5 H5 g5 r5 => q v F5 H5 ((((g1.trans g2).trans g3).trans g4).trans g5) r5
  | false =>
    cases h
    exact q _ F3 H3 ((g1.trans g2).trans g3) (rep_bl.mpr rfl)
end
end Mi
namespace Mi
open PySem PySem.Spec PyProof.Rows L2
section
variable {K : PySem.W.Frag} {F H : Hp}
theorem rep_i {d : D} {b : Int} {v : V} (h : Rep K H d v) (e : d.i? = some b) : v = .int b := by
  cases d <;> simp only [D.i?, Option.some.injEq, reduceCtorEq] at e
  subst e
  exact rep_int.mp h
end
def gI (f : Int → Int → D) (C : Int → Int → Bool) : D → D → Option D
  | .int a, .int b => if C a b then some (f a b) else none
  | _, _ => none
theorem gI_some {f : Int → Int → D} {C : Int → Int → Bool} {a b d : D} (h : gI f C a b = some d) : ∃ i j, a = .int i ∧ b = .int j ∧ C i j = true ∧ d = f i j := by
  unfold gI at h
  split at h
  · rename_i i j
    split at h
    · cases h
      exact ⟨i, j, rfl, rfl, by assumption, rfl⟩
    · cases h
  · cases h
theorem lf_I {K : PySem.W.Frag} {C : Int → Int → Prop} {g : Int → Int → V} {f : Int → Int → D} {c : Int → Int → Bool} (hc : ∀ i j, c i j = true → C i j) (hf : ∀ F i j, Rep K F (f i j) (g i j)) : Lf2 K (rI C g) (gI f c) := fun F H a b x y e ra rb d hd Q q => by
  obtain ⟨i, j, rfl, rfl, h1, rfl⟩ := gI_some hd
  exact ⟨i, j, rep_int.mp ra, rep_int.mp rb, hc i j h1, q _ F H (.refl e) (hf F i j)⟩
theorem lf_I0 {K : PySem.W.Frag} {g : Int → Int → V} {f : Int → Int → D} (hf : ∀ F i j, Rep K F (f i j) (g i j)) : Lf2 K (rI0 g) (gI f fun _ _ => true) := fun F H a b x y e ra rb d hd Q q => by
  obtain ⟨i, j, rfl, rfl, h1, rfl⟩ := gI_some hd
  exact ⟨i, j, rep_int.mp ra, rep_int.mp rb, q _ F H (.refl e) (hf F i j)⟩
abbrev dSub : D → D → Option D := gI (fun i j => .int (i - j)) fun _ _ => true
abbrev dMod : D → D → Option D := gI (fun i j => .int (i % j)) fun _ j => decide (0 < j)
abbrev dDiv : D → D → Option D := gI (fun i j => .int (i / j)) fun _ j => decide (0 < j ∧ j < 1073741824)
abbrev dPow : D → D → Option D := gI (fun i j => .int (i ^ j.toNat)) fun i j => decide (0 ≤ j ∧ j ≤ 1000000 ∧ i.natAbs < 2 ^ 64)
abbrev dMulI : D → D → Option D := gI (fun i j => .int (i * j)) fun i j => decide ((-(2 ^ 64) < i ∧ i < 2 ^ 64) ∨ (-(2 ^ 64) < j ∧ j < 2 ^ 64))
abbrev dLt : D → D → Option D := gI (fun i j => .bl (decide (i < j))) fun _ _ => true
abbrev dLe : D → D → Option D := gI (fun i j => .bl (decide (i ≤ j))) fun _ _ => true
abbrev dGt : D → D → Option D := gI (fun i j => .bl (decide (j < i))) fun _ _ => true
abbrev dGe : D → D → Option D := gI (fun i j => .bl (decide (j ≤ i))) fun _ _ => true
section
variable {K : PySem.W.Frag}
theorem lf_sub : Lf2 K (rI0 fun i j => .int (i - j)) dSub := lf_I0 fun _ _ _ => rep_int.mpr rfl
theorem lf_mod : Lf2 K (rI (fun _ j => 0 < j) fun i j => .int (i % j)) dMod := lf_I (fun i j h => by simpa using h) fun _ _ _ => rep_int.mpr rfl
theorem lf_div : Lf2 K (rI CDiv fun i j => .int (i / j)) dDiv := lf_I (fun i j h => by have z := of_decide_eq_true h; exact z) fun _ _ _ => rep_int.mpr rfl
theorem lf_pow : Lf2 K (rI CPow fun i j => .int (i ^ j.toNat)) dPow := lf_I (fun i j h => by have z := of_decide_eq_true h; exact z) fun _ _ _ => rep_int.mpr rfl
theorem lf_mulI : Lf2 K (rI CMul fun i j => .int (i * j)) dMulI := lf_I (fun i j h => by have z := of_decide_eq_true h; exact z) fun _ _ _ => rep_int.mpr rfl
theorem lf_lt : Lf2 K (rI0 fun i j => .bl (decide (i < j))) dLt := lf_I0 fun _ _ _ => rep_bl.mpr rfl
theorem lf_le : Lf2 K (rI0 fun i j => .bl (decide (i ≤ j))) dLe := lf_I0 fun _ _ _ => rep_bl.mpr rfl
theorem lf_gt : Lf2 K (rI0 fun i j => .bl (decide (j < i))) dGt := lf_I0 fun _ _ _ => rep_bl.mpr rfl
theorem lf_ge : Lf2 K (rI0 fun i j => .bl (decide (j ≤ i))) dGe := lf_I0 fun _ _ _ => rep_bl.mpr rfl
end
def rAddA (K : PySem.W.Frag) : R2 := fun x y H Q => rI0 (fun i j => .int (i + j)) x y H Q ∨ rCatA K x y H Q
theorem op_addA {X : Cx} : OpR X (binaryOp .Add) (rAddA X.K) := OpR.or op_add op_catA
def dAdd : D → D → Option D
  | .int a, .int b => some (.int (a + b))
  | .tup a, .tup b => if a.length + b.length ≤ 100000 then some (.tup (a ++ b)) else none
  | _, _ => none
theorem lf_add {K : PySem.W.Frag} : Lf2 K (rAddA K) dAdd := fun F H a b x y e ra rb d hd Q q => by
  unfold dAdd at hd
  split at hd
  · cases hd
    exact .inl ⟨_, _, rep_int.mp ra, rep_int.mp rb, q _ F H (.refl e) (rep_int.mpr rfl)⟩
  · rename_i as bs
    split at hd
    · rename_i hl
      cases hd
      obtain ⟨p, vs, rfl, h1, r1⟩ := rep_tup.mp ra
      obtain ⟨p', us, rfl, h2, r2⟩ := rep_tup.mp rb
      refine .inr ⟨p, p', vs, us, rfl, rfl, .of (e _ _ h1), .of (e _ _ h2), by rw [← r1.len, ← r2.len]; exact sz_of hl, fun z => ?_, fun n z => ?_, fun n n' p'' hp => ?_⟩
      · subst z
        have : as = [] := List.length_eq_zero_iff.mp r1.len
        subst this
        exact q _ F H (.refl e) rb
      · subst z
        have : bs = [] := List.length_eq_zero_iff.mp r2.len
        subst this
        rw [List.append_nil] at q
        exact q _ F H (.refl e) ra
      · exact q _ _ _ (.new e hp) (rep_tup.mpr ⟨_, _, rfl, upd_same, (r1.append r2).m (.new (e.free hp))⟩)
    · cases hd
  · cases hd
/-- a list and a list -/
def dCat : D → D → Option O
  | .lst a, .lst b => if a.length + b.length ≤ 100000 then some (.l (a ++ b)) else none
  | _, _ => none
def rMulA (K : PySem.W.Frag) : R2 := fun x y H Q => rI CMul (fun i j => .int (i * j)) x y H Q ∨ rRepT K x y H Q
theorem op_mulA {X : Cx} : OpR X (binaryOp .Mult) (rMulA X.K) := OpR.or op_mul op_repT
def dMul : D → D → Option D
  | .tup a, .int k => if a ≠ [] ∧ 2 ≤ k ∧ k ≤ 1000 ∧ a.length ≤ 1000 then some (.tup (List.replicate k.toNat a).flatten) else none
  | a, b => dMulI a b
theorem lf_mul {K : PySem.W.Frag} : Lf2 K (rMulA K) dMul := fun F H a b x y e ra rb d hd Q q => by
  unfold dMul at hd
  split at hd
  · rename_i as k
    split at hd
    · rename_i hl
      cases hd
      obtain ⟨p, vs, rfl, h1, r1⟩ := rep_tup.mp ra
      have hn : vs ≠ [] := fun z => hl.1 (List.length_eq_zero_iff.mp (by rw [r1.len, z]; rfl))
      exact .inr ⟨p, k, vs, rfl, rep_int.mp rb, .of (e _ _ h1), hn, hl.2.1, hl.2.2.1, by rw [← r1.len]; exact hl.2.2.2, fun p' hp => q _ _ _ (.new e hp) (rep_tup.mpr ⟨_, _, rfl, upd_same, (r1.rep _).m (.new (e.free hp))⟩)⟩
    · cases hd
  · exact .inl (lf_mulI F H a b x y e ra rb d hd Q q)
def D.seq? : D → Option (List D)
  | .tup xs => some xs
  | .lst xs => some xs
  | .sl xs => some xs
  | .kt xs => some xs
  | _ => none
def D.flat? : D → Option V
  | .non => some .non
  | .bl b => some (.bl b)
  | .int b => some (.int b)
  | .str b => some (.str b)
  | _ => none
theorem rep_flat {K : PySem.W.Frag} {H : Hp} {d : D} {x v : V} (h : Rep K H d v) (e : d.flat? = some x) : v = x ∧ flatV x = true := by
  cases d <;> simp only [D.flat?, Option.some.injEq, reduceCtorEq] at e
  · subst e; exact ⟨rep_non.mp h, rfl⟩
  · subst e; exact ⟨rep_bl.mp h, rfl⟩
  · subst e; exact ⟨rep_int.mp h, rfl⟩
  · subst e; exact ⟨rep_str.mp h, rfl⟩
def flats : List D → Option (List V)
  | [] => some []
  | d :: ds => (D.flat? d).bind fun v => (flats ds).bind fun vs => some (v :: vs)
theorem reps_flat {K : PySem.W.Frag} {H : Hp} : ∀ {ds : List D} {xs vs : List V}, Reps K H ds vs → flats ds = some xs → vs = xs ∧ xs.all flatV = true
  | [], _, _, h, e => by
    cases e
    exact ⟨reps_nil.mp h, rfl⟩
  | d :: ds, _, _, h, e => by
    obtain ⟨v, h1, e⟩ := Option.bind_eq_some_iff.mp e
    obtain ⟨vs, h2, e⟩ := Option.bind_eq_some_iff.mp e
    cases e
    obtain ⟨v', r, rfl, a, b⟩ := reps_cons.mp h
    obtain ⟨rfl, e1⟩ := rep_flat a h1
    obtain ⟨rfl, e2⟩ := reps_flat b h2
    exact ⟨rfl, by rw [List.all_cons, e1, e2]; rfl⟩
theorem rep_seq {K : PySem.W.Frag} {H : Hp} {d : D} {xs : List D} {v : V} (h : Rep K H d v) (e : d.seq? = some xs) : ∃ a vs, v = .ref a ∧ (SqL K H a vs ∨ SqT K H a vs) ∧ Reps K H xs vs := by
  cases d <;> simp only [D.seq?, Option.some.injEq, reduceCtorEq] at e
  · subst e
    obtain ⟨a, vs, h1, h2, h3⟩ := rep_tup.mp h
    exact ⟨a, vs, h1, .inr (.of h2), h3⟩
  · subst e
    obtain ⟨a, vs, h1, h2, h3⟩ := rep_lst.mp h
    exact ⟨a, vs, h1, .inl (.of h2), h3⟩
  · subst e
    obtain ⟨a, vs, h1, h2, h3⟩ := rep_sl.mp h
    exact ⟨a, vs, h1, .inl h2, h3⟩
  · subst e
    obtain ⟨a, vs, h1, h2, h3⟩ := rep_ktl h
    exact ⟨a, vs, h1, .inr h2, h3⟩
section
variable {κ : Type} [DecidableEq κ]
def valD (kvs : List (κ × D)) (k : κ) : Option D := (kvs.find? fun kv => decide (kv.1 = k)).map (·.2)
def putD (kvs : List (κ × D)) (k : κ) (v : D) : List (κ × D) :=
  if (kvs.any fun kv => decide (kv.1 = k)) = true then kvs.map (fun kv => if kv.1 = k then (kv.1, v) else kv) else kvs ++ [(k, v)]
theorem valD_pos {p : κ × D} {r : List (κ × D)} {k : κ} (e : p.1 = k) : valD (p :: r) k = some p.2 := by simp [valD, List.find?_cons, e]
theorem valD_neg {p : κ × D} {r : List (κ × D)} {k : κ} (e : ¬ p.1 = k) : valD (p :: r) k = valD r k := by simp [valD, List.find?_cons, e]
end
def D.key? : D → Option Key
  | .int i => some (.inl i)
  | .str x => some (.inr x)
  | _ => none
theorem rep_key {K : PySem.W.Frag} {H : Hp} {d : D} {k : Key} {v : V} (h : Rep K H d v) (e : d.key? = some k) : v = kV k := by
  cases d <;> simp only [D.key?, Option.some.injEq, reduceCtorEq] at e
  · subst e; exact rep_int.mp h
  · subst e; exact rep_str.mp h
def keys : List D → Option (List Key)
  | [] => some []
  | d :: ds => (D.key? d).bind fun v => (keys ds).bind fun vs => some (v :: vs)
theorem reps_keys {K : PySem.W.Frag} {H : Hp} : ∀ {ds : List D} {ks : List Key} {vs : List V}, Reps K H ds vs → keys ds = some ks → vs = ks.map kV
  | [], _, _, h, e => by
    cases e
    exact reps_nil.mp h
  | d :: ds, _, _, h, e => by
    obtain ⟨v, h1, e⟩ := Option.bind_eq_some_iff.mp e
    obtain ⟨vs, h2, e⟩ := Option.bind_eq_some_iff.mp e
    cases e
    obtain ⟨v', r, rfl, a, b⟩ := reps_cons.mp h
    rw [rep_key a h1, reps_keys b h2]
    rfl
def D.keyT? : D → Option (List Key)
  | .tup xs => keys xs
  | _ => none
section
variable {K : PySem.W.Frag} {F : Hp} {k : Key}
theorem RepK.len : ∀ {ds : List (Key × D)} {vs : List (Key × V)}, RepK K F ds vs → ds.length = vs.length
  | [], _, h => by rw [repK_nil] at h; subst h; rfl
  | (_, _) :: _, _, h => by
    obtain ⟨v, r, rfl, _, t⟩ := repK_cons.mp h
    simp [t.len]
theorem RepT.len : ∀ {ds : List (List Key × D)} {vs : List (List Key × V)}, RepT K F ds vs → ds.length = vs.length
  | [], _, h => by rw [repT_nil] at h; subst h; rfl
  | (_, _) :: _, _, h => by
    obtain ⟨v, r, rfl, _, t⟩ := repT_cons.mp h
    simp [t.len]
theorem RepK.val {k : Key} : ∀ {ds : List (Key × D)} {vs : List (Key × V)}, RepK K F ds vs → (∀ d, valD ds k = some d → ∃ v, valV vs k = some v ∧ Rep K F d v) ∧ (valD ds k = none → valV vs k = none)
  | [], _, h => by
    rw [repK_nil] at h
    subst h
    exact ⟨fun d e => by simp [valD] at e, fun _ => rfl⟩
  | (k', d') :: ds, _, h => by
    obtain ⟨v, r, rfl, h1, t⟩ := repK_cons.mp h
    by_cases e : k' = k
    · rw [valD_pos (p := (k', d')) e, valV_pos (p := (k', v)) e]
      exact ⟨fun d q => by cases q; exact ⟨v, rfl, h1⟩, fun q => by cases q⟩
    · rw [valD_neg (p := (k', d')) e, valV_neg (p := (k', v)) e]
      exact t.val
theorem RepT.val {k : List Key} : ∀ {ds : List (List Key × D)} {vs : List (List Key × V)}, RepT K F ds vs → (∀ d, valD ds k = some d → ∃ v, valV vs k = some v ∧ Rep K F d v) ∧ (valD ds k = none → valV vs k = none)
  | [], _, h => by
    rw [repT_nil] at h
    subst h
    exact ⟨fun d e => by simp [valD] at e, fun _ => rfl⟩
  | (k', d') :: ds, _, h => by
    obtain ⟨v, r, rfl, h1, t⟩ := repT_cons.mp h
    by_cases e : k' = k
    · rw [valD_pos (p := (k', d')) e, valV_pos (p := (k', v)) e]
      exact ⟨fun d q => by cases q; exact ⟨v, rfl, h1⟩, fun q => by cases q⟩
    · rw [valD_neg (p := (k', d')) e, valV_neg (p := (k', v)) e]
      exact t.val
theorem RepK.keys : ∀ {ds : List (Key × D)} {vs : List (Key × V)}, RepK K F ds vs → vs.map (·.1) = ds.map (·.1)
  | [], _, h => by rw [repK_nil] at h; subst h; rfl
  | (_, _) :: _, _, h => by
    obtain ⟨v, r, rfl, _, t⟩ := repK_cons.mp h
    simp [t.keys]
theorem RepT.keys : ∀ {ds : List (List Key × D)} {vs : List (List Key × V)}, RepT K F ds vs → vs.map (·.1) = ds.map (·.1)
  | [], _, h => by rw [repT_nil] at h; subst h; rfl
  | (_, _) :: _, _, h => by
    obtain ⟨v, r, rfl, _, t⟩ := repT_cons.mp h
    simp [t.keys]
theorem RepK.app : ∀ {ds es : List (Key × D)} {vs us : List (Key × V)}, RepK K F ds vs → RepK K F es us → RepK K F (ds ++ es) (vs ++ us)
  | [], _, _, _, h, q => by rw [repK_nil] at h; subst h; exact q
  | (_, _) :: _, _, _, _, h, q => by
    obtain ⟨v, r, rfl, h1, t⟩ := repK_cons.mp h
    exact repK_cons.mpr ⟨v, _, rfl, h1, t.app q⟩
theorem RepT.app : ∀ {ds es : List (List Key × D)} {vs us : List (List Key × V)}, RepT K F ds vs → RepT K F es us → RepT K F (ds ++ es) (vs ++ us)
  | [], _, _, _, h, q => by rw [repT_nil] at h; subst h; exact q
  | (_, _) :: _, _, _, _, h, q => by
    obtain ⟨v, r, rfl, h1, t⟩ := repT_cons.mp h
    exact repT_cons.mpr ⟨v, _, rfl, h1, t.app q⟩
theorem any_keys {κ α β : Type} [DecidableEq κ] {ds : List (κ × α)} {vs : List (κ × β)} (h : vs.map (·.1) = ds.map (·.1)) (k : κ) : (vs.any fun kv => decide (kv.1 = k)) = (ds.any fun kv => decide (kv.1 = k)) := by
  have e : ∀ {γ : Type} (l : List (κ × γ)), (l.any fun kv => decide (kv.1 = k)) = ((l.map (·.1)).any fun z => decide (z = k)) := fun l => by rw [List.any_map]; rfl
  rw [e, e, h]
theorem RepK.mapd {k : Key} {d : D} {v : V} (q : Rep K F d v) {ds : List (Key × D)} {vs : List (Key × V)} (h : RepK K F ds vs) : RepK K F (ds.map (fun kv => if kv.1 = k then (kv.1, d) else kv)) (vs.map (fun kv => if kv.1 = k then (kv.1, v) else kv)) := by
  induction ds generalizing vs with
  | nil => rw [repK_nil] at h; subst h; exact repK_nil.mpr rfl
  | cons p ds ih =>
    obtain ⟨k', d'⟩ := p
    obtain ⟨v', r, rfl, h1, t⟩ := repK_cons.mp h
    rw [List.map_cons, List.map_cons]
    by_cases e : k' = k
    · simp only [e, if_true]
      exact repK_cons.mpr ⟨v, _, rfl, q, ih t⟩
    · simp only [e, if_false]
      exact repK_cons.mpr ⟨v', _, rfl, h1, ih t⟩
theorem RepK.put {d : D} {v : V} (q : Rep K F d v) {ds : List (Key × D)} {vs : List (Key × V)} (h : RepK K F ds vs) : RepK K F (putD ds k d) (putK vs k v) := by
  unfold putD putK
  rw [any_keys h.keys]
  split
  · exact h.mapd q
  · exact h.app (repK_cons.mpr ⟨v, [], rfl, q, repK_nil.mpr rfl⟩)
theorem RepT.mapd {k : List Key} {d : D} {v : V} (q : Rep K F d v) {ds : List (List Key × D)} {vs : List (List Key × V)} (h : RepT K F ds vs) : RepT K F (ds.map (fun kv => if kv.1 = k then (kv.1, d) else kv)) (vs.map (fun kv => if kv.1 = k then (kv.1, v) else kv)) := by
  induction ds generalizing vs with
  | nil => rw [repT_nil] at h; subst h; exact repT_nil.mpr rfl
  | cons p ds ih =>
    obtain ⟨k', d'⟩ := p
    obtain ⟨v', r, rfl, h1, t⟩ := repT_cons.mp h
    rw [List.map_cons, List.map_cons]
    by_cases e : k' = k
    · simp only [e, if_true]
      exact repT_cons.mpr ⟨v, _, rfl, q, ih t⟩
    · simp only [e, if_false]
      exact repT_cons.mpr ⟨v', _, rfl, h1, ih t⟩
theorem RepT.put {k : List Key} {d : D} {v : V} (q : Rep K F d v) {ds : List (List Key × D)} {vs : List (List Key × V)} (h : RepT K F ds vs) : RepT K F (putD ds k d) (putK vs k v) := by
  unfold putD putK
  rw [any_keys h.keys]
  split
  · exact h.mapd q
  · exact h.app (repT_cons.mpr ⟨v, [], rfl, q, repT_nil.mpr rfl⟩)
end
/-- d[k], there or not; some none: it is not there -/
def dGet : D → D → Option (Option D)
  | .dK kvs, k => (D.key? k).bind fun k => some (valD kvs k)
  | .dT kvs, k => (D.keyT? k).bind fun k => some (valD kvs k)
  | _, _ => none
theorem dGet_ok {K : PySem.W.Frag} {F H : Hp} {a k : D} {x y : V} {o : Option D} (e : Ex F H) (ra : Rep K F a x) (rk : Rep K F k y) (h : dGet a k = some o) :
    ∃ p r, x = .ref p ∧ DGet H p y r ∧ IsD H p ∧ (∀ d, o = some d → ∃ v, r = some v ∧ Rep K F d v) ∧ (o = none → r = none) := by
  unfold dGet at h
  split at h
  · obtain ⟨k', h1, h⟩ := Option.bind_eq_some_iff.mp h
    cases h
    obtain ⟨p, vs, rfl, h2, h3⟩ := rep_dK.mp ra
    rw [rep_key rk h1]
    exact ⟨p, _, rfl, .k (e _ _ h2), .inl ⟨_, .inl (e _ _ h2)⟩, h3.val⟩
  · obtain ⟨k', h1, h⟩ := Option.bind_eq_some_iff.mp h
    cases h
    obtain ⟨p, vs, rfl, h2, h3⟩ := rep_dT.mp ra
    cases k <;> simp only [D.keyT?, reduceCtorEq] at h1
    obtain ⟨b, us, rfl, h4, h5⟩ := rep_tup.mp rk
    rw [reps_keys h5 h1] at h4
    exact ⟨p, _, rfl, .t (e _ _ h2) (e _ _ h4), .inr ⟨_, .inl (e _ _ h2)⟩, h3.val⟩
  · cases h
theorem ix_dict {X : Cx} (hu : X.A.units + 1 < cLine) : IxR X (fun x y H Q => ∃ a v, x = .ref a ∧ DGet H a y (some v) ∧ Q v H) := by
  intro value slice pins s σ H x y v u Q I rx ry h hs
  obtain ⟨a, w, rfl, hg, q⟩ := h
  cases rx
  exact tail_any (dict_typeIs I hg) slot_dict_getitem.lookup (d_getItem hu I hg ry fun w' s' I' rw' => ⟨w, H, I', rw', q⟩) hs
def rIxA (K : PySem.W.Frag) : R2 := fun x y H Q => rIxL K x y H Q ∨ (rIxT K x y H Q ∨ ∃ a v, x = .ref a ∧ DGet H a y (some v) ∧ Q v H)
theorem ix_all {X : Cx} (hu : X.A.units + 1 < cLine) : IxR X (rIxA X.K) := IxR.or ix_list (IxR.or ix_tup (ix_dict hu))
def dIx (a b : D) : Option D := match a.seq?, b.i? with
  | some xs, some i => atI xs i
  | _, _ => (dGet a b).bind id
theorem atI_rep {K : PySem.W.Frag} {H : Hp} {xs : List D} {vs : List V} {i : Int} {d : D} (r : Reps K H xs vs) (h : atI xs i = some d) : ∃ v, atI vs i = some v ∧ Rep K H d v := by
  unfold atI at h ⊢
  obtain ⟨j, h1, h2⟩ := Option.bind_eq_some_iff.mp h
  obtain ⟨v, h3, h4⟩ := r.get h2
  rw [← r.len, h1]
  exact ⟨v, h3, h4⟩
theorem lf_ix {K : PySem.W.Frag} : Lf2 K (rIxA K) dIx := fun F H a b x y e ra rb d hd Q q => by
  unfold dIx at hd
  split at hd
  · rename_i xs i h1 h2
    obtain ⟨p, vs, rfl, hs, rs⟩ := rep_seq ra h1
    obtain ⟨v, h3, h4⟩ := atI_rep rs hd
    rcases hs with hs | hs
    · exact .inl ⟨p, vs, i, v, rfl, rep_i rb h2, e.l hs, h3, q _ F H (.refl e) h4⟩
    · exact .inr (.inl ⟨p, vs, i, v, rfl, rep_i rb h2, e.t hs, h3, q _ F H (.refl e) h4⟩)
  · obtain ⟨o, h1, h2⟩ := Option.bind_eq_some_iff.mp hd
    have h2 : o = some d := h2
    subst h2
    obtain ⟨p, r, rfl, g, _, h3, _⟩ := dGet_ok e ra rb h1
    obtain ⟨v, rfl, h4⟩ := h3 d rfl
    exact .inr (.inr ⟨p, v, rfl, g, q _ F H (.refl e) h4⟩)
theorem op_din {X : Cx} (hu : X.A.units + 1 < cLine) : OpR X (compareOp .In) (fun y x H Q => ∃ a o, x = .ref a ∧ DGet H a y o ∧ Q (.bl o.isSome) H) := by
  intro pins s σ H x y v u Q I rx ry h
  obtain ⟨a, o, rfl, hg, q⟩ := h
  cases ry
  exact d_in hu I hg rx fun s' I' => ⟨.bl o.isSome, H, I', rfl, q⟩
theorem op_dnotin {X : Cx} (hu : X.A.units + 1 < cLine) : OpR X (compareOp .NotIn) (fun y x H Q => ∃ a o, x = .ref a ∧ DGet H a y o ∧ Q (.bl (!o.isSome)) H) := by
  intro pins s σ H x y v u Q I rx ry h
  obtain ⟨a, o, rfl, hg, q⟩ := h
  cases ry
  exact d_notIn hu I hg rx fun s' I' => ⟨.bl (!o.isSome), H, I', rfl, q⟩
def rInA (K : PySem.W.Frag) : R2 := fun x y H Q => rIn K false x y H Q ∨ ∃ a o, y = .ref a ∧ DGet H a x o ∧ Q (.bl o.isSome) H
def rNinA (K : PySem.W.Frag) : R2 := fun x y H Q => rIn K true x y H Q ∨ ∃ a o, y = .ref a ∧ DGet H a x o ∧ Q (.bl (!o.isSome)) H
theorem op_inA {X : Cx} (hu : X.A.units + 1 < cLine) : OpR X (compareOp .In) (rInA X.K) := OpR.or op_in_seq (op_din hu)
theorem op_ninA {X : Cx} (hu : X.A.units + 1 < cLine) : OpR X (compareOp .NotIn) (rNinA X.K) := OpR.or op_notIn_seq (op_dnotin hu)
def bIn (a b : D) : Option Bool := match b.seq? with
  | some xs => a.flat?.bind fun v => (flats xs).bind fun vs => some (inV v vs)
  | none => (dGet b a).bind fun o => some o.isSome
def dIn (a b : D) : Option D := (bIn a b).map .bl
def dNin (a b : D) : Option D := (bIn a b).map fun k => .bl (!k)
theorem lf_in {K : PySem.W.Frag} : Lf2 K (rInA K) dIn := fun F H a b x y e ra rb d hd Q q => by
  obtain ⟨k, hk, rfl⟩ := Option.map_eq_some_iff.mp hd
  unfold bIn at hk
  split at hk
  · rename_i xs h0
    obtain ⟨v, h1, h2⟩ := Option.bind_eq_some_iff.mp hk
    obtain ⟨vs, h3, h4⟩ := Option.bind_eq_some_iff.mp h2
    cases h4
    obtain ⟨p, us, rfl, hs, rs⟩ := rep_seq rb h0
    obtain ⟨rfl, f1⟩ := rep_flat ra h1
    obtain ⟨rfl, f2⟩ := reps_flat rs h3
    exact .inl ⟨p, _, rfl, hs.imp e.l e.t, f1, f2, q _ F H (.refl e) (rep_bl.mpr rfl)⟩
  · obtain ⟨o, h1, h2⟩ := Option.bind_eq_some_iff.mp hk
    cases h2
    obtain ⟨p, r, rfl, g, _, h3, h4⟩ := dGet_ok e rb ra h1
    refine .inr ⟨p, r, rfl, g, q _ F H (.refl e) (rep_bl.mpr ?_)⟩
    cases o with
    | none => rw [h4 rfl]; rfl
    | some d => obtain ⟨v, rfl, _⟩ := h3 d rfl; rfl
theorem lf_nin {K : PySem.W.Frag} : Lf2 K (rNinA K) dNin := fun F H a b x y e ra rb d hd Q q => by
  obtain ⟨k, hk, rfl⟩ := Option.map_eq_some_iff.mp hd
  unfold bIn at hk
  split at hk
  · rename_i xs h0
    obtain ⟨v, h1, h2⟩ := Option.bind_eq_some_iff.mp hk
    obtain ⟨vs, h3, h4⟩ := Option.bind_eq_some_iff.mp h2
    cases h4
    obtain ⟨p, us, rfl, hs, rs⟩ := rep_seq rb h0
    obtain ⟨rfl, f1⟩ := rep_flat ra h1
    obtain ⟨rfl, f2⟩ := reps_flat rs h3
    exact .inl ⟨p, _, rfl, hs.imp e.l e.t, f1, f2, q _ F H (.refl e) (rep_bl.mpr rfl)⟩
  · obtain ⟨o, h1, h2⟩ := Option.bind_eq_some_iff.mp hk
    cases h2
    obtain ⟨p, r, rfl, g, _, h3, h4⟩ := dGet_ok e rb ra h1
    refine .inr ⟨p, r, rfl, g, q _ F H (.refl e) (rep_bl.mpr ?_)⟩
    cases o with
    | none => rw [h4 rfl]; rfl
    | some d => obtain ⟨v, rfl, _⟩ := h3 d rfl; rfl
def rIsA : R2 := fun x y H Q => (y = .non ∧ Q (.bl (decide (x = .non))) H) ∨ ((∃ a b, x = .bl a ∧ y = .bl b ∧ Q (.bl (decide (a = b))) H) ∨ ∃ a b, x = .ty a ∧ y = .ty b ∧ Q (.bl (decide (a = b))) H)
def rIsnA : R2 := fun x y H Q => (y = .non ∧ Q (.bl (!decide (x = .non))) H) ∨ ((∃ a b, x = .bl a ∧ y = .bl b ∧ Q (.bl (!decide (a = b))) H) ∨ ∃ a b, x = .ty a ∧ y = .ty b ∧ Q (.bl (!decide (a = b))) H)
theorem op_isA {X : Cx} : OpR X (compareOp .Is) rIsA := OpR.or op_isN (OpR.or op_is_bl op_isTyB)
theorem op_isnA {X : Cx} : OpR X (compareOp .IsNot) rIsnA := OpR.or op_notN (OpR.or op_isnot_bl op_notTyB)
def D.isNon : D → Bool
  | .non => true
  | _ => false
theorem rep_isNon {K : PySem.W.Frag} {H : Hp} {d : D} {x : V} (h : Rep K H d x) : decide (x = .non) = d.isNon := by
  cases d with
  | non => rw [rep_non.mp h]; rfl
  | bl _ => rw [rep_bl.mp h]; rfl
  | int _ => rw [rep_int.mp h]; rfl
  | str _ => rw [rep_str.mp h]; rfl
  | ty _ => rw [rep_ty.mp h]; rfl
  | tup _ => obtain ⟨_, _, rfl, _⟩ := rep_tup.mp h; rfl
  | lst _ => obtain ⟨_, _, rfl, _⟩ := rep_lst.mp h; rfl
  | sl _ => obtain ⟨_, _, rfl, _⟩ := rep_sl.mp h; rfl
  | kt _ => obtain ⟨_, _, rfl, _⟩ := rep_ktl h; rfl
  | dK _ => obtain ⟨_, _, rfl, _⟩ := rep_dK.mp h; rfl
  | dT _ => obtain ⟨_, _, rfl, _⟩ := rep_dT.mp h; rfl
  | ob _ _ => obtain ⟨_, _, _, _, rfl, _⟩ := rep_ob.mp h; rfl
  | adr _ => rw [rep_adr.mp h]; rfl
  | any => obtain ⟨_, rfl⟩ := rep_any.mp h; rfl
def bIs : D → D → Option Bool
  | a, .non => some a.isNon
  | .bl a, .bl b => some (decide (a = b))
  | .ty a, .ty b => some (decide (a = b))
  | _, _ => none
def dIs (a b : D) : Option D := (bIs a b).map .bl
def dIsn (a b : D) : Option D := (bIs a b).map fun k => .bl (!k)
theorem lf_is {K : PySem.W.Frag} : Lf2 K rIsA dIs := fun F H a b x y e ra rb d hd Q q => by
  obtain ⟨k, hk, rfl⟩ := Option.map_eq_some_iff.mp hd
  unfold bIs at hk
  split at hk
  · cases hk
    exact .inl ⟨rep_non.mp rb, q _ F H (.refl e) (rep_bl.mpr (by rw [rep_isNon ra]))⟩
  · cases hk
    exact .inr (.inl ⟨_, _, rep_bl.mp ra, rep_bl.mp rb, q _ F H (.refl e) (rep_bl.mpr rfl)⟩)
  · cases hk
    exact .inr (.inr ⟨_, _, rep_ty.mp ra, rep_ty.mp rb, q _ F H (.refl e) (rep_bl.mpr rfl)⟩)
  · cases hk
theorem lf_isn {K : PySem.W.Frag} : Lf2 K rIsnA dIsn := fun F H a b x y e ra rb d hd Q q => by
  obtain ⟨k, hk, rfl⟩ := Option.map_eq_some_iff.mp hd
  unfold bIs at hk
  split at hk
  · cases hk
    exact .inl ⟨rep_non.mp rb, q _ F H (.refl e) (rep_bl.mpr (by rw [rep_isNon ra]))⟩
  · cases hk
    exact .inr (.inl ⟨_, _, rep_bl.mp ra, rep_bl.mp rb, q _ F H (.refl e) (rep_bl.mpr rfl)⟩)
  · cases hk
    exact .inr (.inr ⟨_, _, rep_ty.mp ra, rep_ty.mp rb, q _ F H (.refl e) (rep_bl.mpr rfl)⟩)
  · cases hk
mutual
def D.py? : D → Option PyData
  | .non => some .none
  | .bl b => some (.bool b)
  | .int i => some (.int i)
  | .str x => some (.str x)
  | .tup xs => (pys? xs).map .tuple
  | .kt xs => (pys? xs).map .tuple
  | .lst xs => (pys? xs).map .list
  | .sl xs => (pys? xs).map .list
  | _ => none
def pys? : List D → Option (List PyData)
  | [] => some []
  | d :: ds => (D.py? d).bind fun p => (pys? ds).bind fun ps => some (p :: ps)
end
mutual
theorem rep_py {K : PySem.W.Frag} {H : Hp} : ∀ (d : D) (p : PyData) (v : V), Rep K H d v → d.py? = some p → Dp K H v p
  | .non, _, _, h, e => by cases e; rw [rep_non.mp h]; exact .non
  | .bl _, _, _, h, e => by cases e; rw [rep_bl.mp h]; exact .bl _
  | .int _, _, _, h, e => by cases e; rw [rep_int.mp h]; exact .int _
  | .str _, _, _, h, e => by cases e; rw [rep_str.mp h]; exact .str _
  | .tup xs, _, _, h, e => by
    simp only [D.py?] at e
    obtain ⟨ps, h1, rfl⟩ := Option.map_eq_some_iff.mp e
    obtain ⟨a, vs, rfl, h2, h3⟩ := rep_tup.mp h
    exact .tup (.of h2) (reps_py xs ps vs h3 h1)
  | .kt xs, _, _, h, e => by
    simp only [D.py?] at e
    obtain ⟨ps, h1, rfl⟩ := Option.map_eq_some_iff.mp e
    obtain ⟨a, vs, rfl, h2, h3⟩ := rep_ktl h
    exact .tup h2 (reps_py xs ps vs h3 h1)
  | .lst xs, _, _, h, e => by
    simp only [D.py?] at e
    obtain ⟨ps, h1, rfl⟩ := Option.map_eq_some_iff.mp e
    obtain ⟨a, vs, rfl, h2, h3⟩ := rep_lst.mp h
    exact .lst (.of h2) (reps_py xs ps vs h3 h1)
  | .sl xs, _, _, h, e => by
    simp only [D.py?] at e
    obtain ⟨ps, h1, rfl⟩ := Option.map_eq_some_iff.mp e
    obtain ⟨a, vs, rfl, h2, h3⟩ := rep_sl.mp h
    exact .lst h2 (reps_py xs ps vs h3 h1)
  | .dK _, _, _, _, e | .dT _, _, _, _, e | .ob _ _, _, _, _, e | .adr _, _, _, _, e | .any, _, _, _, e | .ty _, _, _, _, e => by simp only [D.py?, reduceCtorEq] at e
theorem reps_py {K : PySem.W.Frag} {H : Hp} : ∀ (ds : List D) (ps : List PyData) (vs : List V), Reps K H ds vs → pys? ds = some ps → DpAll K H vs ps
  | [], _, _, h, e => by cases e; rw [reps_nil.mp h]; exact .nil
  | d :: ds, _, _, h, e => by
    simp only [pys?] at e
    obtain ⟨p, h1, e⟩ := Option.bind_eq_some_iff.mp e
    obtain ⟨ps, h2, e⟩ := Option.bind_eq_some_iff.mp e
    cases e
    obtain ⟨v, r, rfl, a, b⟩ := reps_cons.mp h
    exact .cons (rep_py d p v a h1) (reps_py ds ps r b h2)
end
end Mi
namespace Mi
open PySem PySem.Spec PyProof.Rows L2
mutual
theorem py_plain : ∀ (d : D) (p : PyData), d.py? = some p → p.plain = true
  | .non, _, e | .bl _, _, e | .int _, _, e | .str _, _, e => by cases e; rfl
  | .tup xs, _, e | .kt xs, _, e | .lst xs, _, e | .sl xs, _, e => by
    simp only [D.py?] at e
    obtain ⟨ps, h1, rfl⟩ := Option.map_eq_some_iff.mp e
    exact pys_plain xs ps h1
  | .dK _, _, e | .dT _, _, e | .ob _ _, _, e | .adr _, _, e | .any, _, e | .ty _, _, e => by simp only [D.py?, reduceCtorEq] at e
theorem pys_plain : ∀ (ds : List D) (ps : List PyData), pys? ds = some ps → PyData.plainAll ps = true
  | [], _, e => by cases e; rfl
  | d :: ds, _, e => by
    simp only [pys?] at e
    obtain ⟨p, h1, e⟩ := Option.bind_eq_some_iff.mp e
    obtain ⟨ps, h2, e⟩ := Option.bind_eq_some_iff.mp e
    cases e
    simp only [PyData.plainAll, py_plain d p h1, pys_plain ds ps h2, Bool.and_self]
end
mutual
def same : D → D → Bool
  | .non, .non => true
  | .bl a, .bl b => a == b
  | .int a, .int b => a == b
  | .str a, .str b => decide (a = b)
  | .tup a, .tup b => sames a b
  | .lst a, .lst b => sames a b
  | .dK a, .dK b => sameK a b
  | _, _ => false
def sames : List D → List D → Bool
  | [], [] => true
  | a :: as, b :: bs => same a b && sames as bs
  | _, _ => false
def sameK : List (Key × D) → List (Key × D) → Bool
  | [], [] => true
  | (k, a) :: as, (l, b) :: bs => decide (k = l) && same a b && sameK as bs
  | _, _ => false
end
mutual
def dep : D → Nat
  | .tup xs | .lst xs => deps xs + 1
  | .dK xs => depK xs + 1
  | _ => 0
def deps : List D → Nat
  | [] => 0
  | x :: xs => max (dep x) (deps xs)
def depK : List (Key × D) → Nat
  | [] => 0
  | (_, x) :: xs => max (dep x) (depK xs)
end
section
open PySem.W
variable {X : Cx} {pins : List (Addr × Obj)} {σ : L2.St} {H : Hp} {s : Shared}
theorem leaf_flat {P : Program} {w : World} {x : V} {v u : Value} (r1 : RelV x v) (r2 : RelV x u) (f : flatV x = true) (n : Nat) : EqTree P w s n v u true :=
  .leaf fun A _ => by
    have h := eqAt_V (A := A) (s := s) r2 r1 f f
    have e : eqV x x = true := by cases x <;> simp_all [flatV, eqV]
    rw [e] at h
    have h2 := eqAt_V (A := A) (s := s) (y := x) (x := x) (u := v) (v := u) r1 r2 f f
    rw [e] at h2
    first | exact h | exact h2
mutual
theorem tree_same (I : Inv X pins σ H s) : ∀ (d e : D) (n : Nat) (x y : V) (v u : Value), same d e = true → dep d ≤ n → Rep X.K H d x → Rep X.K H e y → RelV x v → RelV y u → EqTree X.prog X.w s n v u true
  | .non, e, n, x, y, v, u, h, _, r1, r2, q1, q2 => by
    cases e <;> simp only [same, Bool.false_eq_true] at h
    rw [rep_non.mp r1] at q1
    rw [rep_non.mp r2] at q2
    exact leaf_flat q1 q2 rfl n
  | .bl b, e, n, x, y, v, u, h, _, r1, r2, q1, q2 => by
    cases e <;> simp only [same, Bool.false_eq_true, beq_iff_eq] at h
    subst h
    rw [rep_bl.mp r1] at q1
    rw [rep_bl.mp r2] at q2
    exact leaf_flat q1 q2 rfl n
  | .int b, e, n, x, y, v, u, h, _, r1, r2, q1, q2 => by
    cases e <;> simp only [same, Bool.false_eq_true, beq_iff_eq] at h
    subst h
    rw [rep_int.mp r1] at q1
    rw [rep_int.mp r2] at q2
    exact leaf_flat q1 q2 rfl n
  | .str b, e, n, x, y, v, u, h, _, r1, r2, q1, q2 => by
    cases e <;> simp only [same, Bool.false_eq_true, decide_eq_true_eq] at h
    subst h
    rw [rep_str.mp r1] at q1
    rw [rep_str.mp r2] at q2
    exact leaf_flat q1 q2 rfl n
  | .tup ds, e, n, x, y, v, u, h, hn, r1, r2, q1, q2 => by
    cases e <;> simp only [same, Bool.false_eq_true] at h
    rename_i es
    obtain ⟨a, vs, rfl, h1, p1⟩ := rep_tup.mp r1
    obtain ⟨b, us, rfl, h2, p2⟩ := rep_tup.mp r2
    cases q1; cases q2
    simp only [dep] at hn
    obtain ⟨m, rfl⟩ : ∃ m, n = m + 1 := ⟨n - 1, by omega⟩
    obtain ⟨its, rv, t1, z1⟩ := I.tuple (.of h1)
    obtain ⟨iu, ru, t2, z2⟩ := I.tuple (.of h2)
    by_cases hab : a = b
    · subst hab; exact .same
    · have hl := trees_same I ds es m vs us its iu h (by omega) p1 p2 rv ru
      have := EqTree.tuples (prog := X.prog) (w := X.w) (s := s) (n := m) (e := fun _ => true) hab t1 t2 (fun j h1 h2 => by
        simpa using hl.2 j (by simpa using h1) (by simpa using h2))
      have e0 : ((List.range (min its.toArray.size iu.toArray.size)).all (fun _ => true) && its.toArray.size == iu.toArray.size) = true := by
        simp [hl.1]
      rw [e0] at this
      exact this
  | .lst ds, e, n, x, y, v, u, h, hn, r1, r2, q1, q2 => by
    cases e <;> simp only [same, Bool.false_eq_true] at h
    rename_i es
    obtain ⟨a, vs, rfl, h1, p1⟩ := rep_lst.mp r1
    obtain ⟨b, us, rfl, h2, p2⟩ := rep_lst.mp r2
    cases q1; cases q2
    simp only [dep] at hn
    obtain ⟨m, rfl⟩ : ∃ m, n = m + 1 := ⟨n - 1, by omega⟩
    obtain ⟨its, rv, t1, z1⟩ := I.list (.of h1)
    obtain ⟨iu, ru, t2, z2⟩ := I.list (.of h2)
    by_cases hab : a = b
    · subst hab; exact .same
    · have hl := trees_same I ds es m vs us its iu h (by omega) p1 p2 rv ru
      have := EqTree.lists (prog := X.prog) (w := X.w) (s := s) (n := m) (e := fun _ => true) hab t1.isList t2.isList (by simp [hl.1]) (fun j h1 h2 => by
        simpa using hl.2 j (by simpa using h1) (by simpa using h2))
      have e0 : ((List.range its.toArray.size).all (fun _ => true)) = true := by simp
      rw [e0] at this
      exact this
  | .dK ds, e, n, x, y, v, u, h, hn, r1, r2, q1, q2 => by
    cases e <;> simp only [same, Bool.false_eq_true] at h
    rename_i es
    obtain ⟨a, vs, rfl, h1, p1⟩ := rep_dK.mp r1
    obtain ⟨b, us, rfl, h2, p2⟩ := rep_dK.mp r2
    cases q1; cases q2
    simp only [dep] at hn
    obtain ⟨m, rfl⟩ : ∃ m, n = m + 1 := ⟨n - 1, by omega⟩
    obtain ⟨_, ya, va, ra, da⟩ := (show ObjOk X.prog X.w H s.heap a (.dK vs) from I.hok a _ h1)
    obtain ⟨_, yb, vb, rb, db⟩ := (show ObjOk X.prog X.w H s.heap b (.dK us) from I.hok b _ h2)
    by_cases hab : a = b
    · subst hab; exact .same
    · have nd : (va.map (·.1)).Nodup := by
        obtain ⟨_, _, _, _, _, _, _, _, nd⟩ := da
        exact nd
      have hl := treesK_same I ds es m vs us va vb h (by omega) p1 p2 ra rb
      have e1 : ∀ k v, (k, v) ∈ va → ∃ y, valueAt vb k = some y ∧ EqTree X.prog X.w s m v y true := hl.2 nd
      have := EqTree.dicts (prog := X.prog) (w := X.w) (s := s) (n := m) (knd := mixKind X.prog X.w) (e := fun _ => true) hab ya yb da db (fun k v y hm hv => by
        obtain ⟨y', h3, h4⟩ := e1 k v hm
        rw [hv] at h3
        cases h3
        exact h4)
      have e0 : (va.length == vb.length && va.all fun p => (valueAt vb p.1).isSome && true) = true := by
        rw [hl.1]
        simp only [beq_self_eq_true, Bool.and_true, Bool.true_and, List.all_eq_true]
        intro p hp
        obtain ⟨y', h3, h4⟩ := e1 p.1 p.2 hp
        rw [h3]; rfl
      rw [e0] at this
      exact this
  | .sl _, e, n, x, y, v, u, h, hn, r1, r2, q1, q2 | .kt _, e, n, x, y, v, u, h, hn, r1, r2, q1, q2 | .dT _, e, n, x, y, v, u, h, hn, r1, r2, q1, q2 | .ob _ _, e, n, x, y, v, u, h, hn, r1, r2, q1, q2 | .adr _, e, n, x, y, v, u, h, hn, r1, r2, q1, q2 | .any, e, n, x, y, v, u, h, hn, r1, r2, q1, q2 | .ty _, e, n, x, y, v, u, h, hn, r1, r2, q1, q2 => by
    simp only [same, Bool.false_eq_true] at h
theorem trees_same (I : Inv X pins σ H s) : ∀ (ds es : List D) (n : Nat) (xs ys : List V) (vs us : List Value), sames ds es = true → deps ds ≤ n → Reps X.K H ds xs → Reps X.K H es ys → Vals xs vs → Vals ys us →
    vs.length = us.length ∧ ∀ j (h1 : j < vs.length) (h2 : j < us.length), EqTree X.prog X.w s n vs[j] us[j] true
  | [], es, n, xs, ys, vs, us, h, hn, r1, r2, q1, q2 => by
    cases es <;> simp only [sames, Bool.false_eq_true] at h
    rw [reps_nil.mp r1] at q1
    rw [reps_nil.mp r2] at q2
    cases q1; cases q2
    exact ⟨rfl, fun j h1 => absurd h1 (by simp)⟩
  | d :: ds, es, n, xs, ys, vs, us, h, hn, r1, r2, q1, q2 => by
    cases es <;> simp only [sames, Bool.false_eq_true, Bool.and_eq_true] at h
    rename_i e es
    obtain ⟨x, xr, rfl, a1, b1⟩ := reps_cons.mp r1
    obtain ⟨y, yr, rfl, a2, b2⟩ := reps_cons.mp r2
    simp only [deps] at hn
    cases q1 with
    | cons c1 d1 =>
      cases q2 with
      | cons c2 d2 =>
        have t := tree_same I d e n x y _ _ h.1 (by omega) a1 a2 c1 c2
        have ts := trees_same I ds es n xr yr _ _ h.2 (by omega) b1 b2 d1 d2
        refine ⟨by simp [ts.1], fun j h1 h2 => ?_⟩
        cases j with
        | zero => exact t
        | succ j => exact ts.2 j (by simpa using h1) (by simpa using h2)
theorem treesK_same (I : Inv X pins σ H s) : ∀ (ds es : List (Key × D)) (n : Nat) (xs ys : List (Key × V)) (vs us : List (Key × Value)), sameK ds es = true → depK ds ≤ n → RepK X.K H ds xs → RepK X.K H es ys → KV xs vs → KV ys us →
    vs.length = us.length ∧ ((vs.map (·.1)).Nodup → ∀ k v, (k, v) ∈ vs → ∃ y, valueAt us k = some y ∧ EqTree X.prog X.w s n v y true)
  | [], es, n, xs, ys, vs, us, h, hn, r1, r2, q1, q2 => by
    cases es <;> simp only [sameK, Bool.false_eq_true] at h
    rw [repK_nil.mp r1] at q1
    rw [repK_nil.mp r2] at q2
    cases q1; cases q2
    exact ⟨rfl, fun _ k v h => by simp at h⟩
  | (k, d) :: ds, es, n, xs, ys, vs, us, h, hn, r1, r2, q1, q2 => by
    cases es <;> simp only [sameK, Bool.false_eq_true, Bool.and_eq_true, decide_eq_true_eq] at h
    rename_i e es
    obtain ⟨l, e⟩ := e
    simp only [Bool.and_eq_true, decide_eq_true_eq] at h
    obtain ⟨⟨rfl, h1⟩, h2⟩ := h
    obtain ⟨x, xr, rfl, a1, b1⟩ := repK_cons.mp r1
    obtain ⟨y, yr, rfl, a2, b2⟩ := repK_cons.mp r2
    simp only [depK] at hn
    unfold KV at q1 q2
    cases q1 with
    | @cons _ p _ ps c1 d1 =>
      cases q2 with
      | @cons _ q _ qs c2 d2 =>
        obtain ⟨k1, v1⟩ := p
        obtain ⟨k2, u1⟩ := q
        have z1 : k = k1 := c1.1
        have z2 : k = k2 := c2.1
        have t := tree_same I d e n x y v1 u1 h1 (by omega) a1 a2 c1.2 c2.2
        subst z1
        subst z2
        have ts := treesK_same I ds es n xr yr _ _ h2 (by omega) b1 b2 d1 d2
        refine ⟨by simp [ts.1], fun nd k' v' hm => ?_⟩
        rw [List.map_cons, List.nodup_cons] at nd
        rcases List.mem_cons.mp hm with e0 | hm
        · cases e0
          exact ⟨u1, by simp [valueAt], t⟩
        · obtain ⟨y', h3, h4⟩ := ts.2 nd.2 k' v' hm
          have hne : k ≠ k' := fun z => nd.1 (by subst z; exact List.mem_map.mpr ⟨_, hm, rfl⟩)
          exact ⟨y', by simpa [valueAt, hne] using h3, h4⟩
end
end
end Mi
namespace Mi
open PySem PySem.Spec PyProof.Rows L2
section
open PySem.W
variable {X : Cx} {pins : List (Addr × Obj)} {σ : L2.St} {H : Hp} {s : Shared}
theorem cmp_same (I : Inv X pins σ H s) {A : Around} (hu : A.units + 64 < cLine) {d e : D} {x y : V} {v u : Value} (h : same d e = true) (hd : dep d ≤ 60) (h0 : 0 < dep d) (r1 : Rep X.K H d x) (r2 : Rep X.K H e y) (q1 : RelV x v) (q2 : RelV y u)
    {E Q : Value → Shared → Prop} (q : Q (.bool true) s) : wpAny (model X.prog X.w) A (compareOp .Eq v u) Q E s := by
  cases d with
  | tup ds =>
    cases e <;> simp only [same, Bool.false_eq_true] at h
    rename_i es
    obtain ⟨a, vs, rfl, h1, p1⟩ := rep_tup.mp r1
    obtain ⟨b, us, rfl, h2, p2⟩ := rep_tup.mp r2
    cases q1; cases q2
    simp only [dep] at hd
    obtain ⟨its, rv, t1, z1⟩ := I.tuple (.of h1)
    obtain ⟨iu, ru, t2, z2⟩ := I.tuple (.of h2)
    have hl := trees_same I ds es 59 vs us its iu h (by omega) p1 p2 rv ru
    refine eq_tuplesT (n := 59) (e := fun _ => true) t1 t2 (fun j h1 h2 => by simpa using hl.2 j (by simpa using h1) (by simpa using h2)) (by omega) ?_
    have e0 : ((List.range (min its.toArray.size iu.toArray.size)).all (fun _ => true) && its.toArray.size == iu.toArray.size) = true := by simp [hl.1]
    rw [e0]
    exact q
  | lst ds =>
    cases e <;> simp only [same, Bool.false_eq_true] at h
    rename_i es
    obtain ⟨a, vs, rfl, h1, p1⟩ := rep_lst.mp r1
    obtain ⟨b, us, rfl, h2, p2⟩ := rep_lst.mp r2
    cases q1; cases q2
    simp only [dep] at hd
    obtain ⟨its, rv, t1, z1⟩ := I.list (.of h1)
    obtain ⟨iu, ru, t2, z2⟩ := I.list (.of h2)
    have hl := trees_same I ds es 59 vs us its iu h (by omega) p1 p2 rv ru
    refine eq_listsT (n := 59) (e := fun _ => true) t1.isList t2.isList (by simp [hl.1]) (fun j h1 h2 => by simpa using hl.2 j (by simpa using h1) (by simpa using h2)) (by omega) ?_
    have e0 : ((List.range its.toArray.size).all (fun _ => true)) = true := by simp
    rw [e0]
    exact q
  | dK ds =>
    cases e <;> simp only [same, Bool.false_eq_true] at h
    rename_i es
    obtain ⟨a, vs, rfl, h1, p1⟩ := rep_dK.mp r1
    obtain ⟨b, us, rfl, h2, p2⟩ := rep_dK.mp r2
    cases q1; cases q2
    simp only [dep] at hd
    obtain ⟨_, ya, va, ra, da⟩ := (show ObjOk X.prog X.w H s.heap a (.dK vs) from I.hok a _ h1)
    obtain ⟨_, yb, vb, rb, db⟩ := (show ObjOk X.prog X.w H s.heap b (.dK us) from I.hok b _ h2)
    have nd : (va.map (·.1)).Nodup := by
      obtain ⟨_, _, _, _, _, _, _, _, nd⟩ := da
      exact nd
    have hl := treesK_same I ds es 59 vs us va vb h (by omega) p1 p2 ra rb
    have e1 : ∀ k v, (k, v) ∈ va → ∃ y, valueAt vb k = some y ∧ EqTree X.prog X.w s 59 v y true := hl.2 nd
    refine eq_dictsT (n := 59) (knd := mixKind X.prog X.w) (e := fun _ => true) ya yb da db (fun k v y hm hv => by
      obtain ⟨y', h3, h4⟩ := e1 k v hm
      rw [hv] at h3
      cases h3
      exact h4) (by omega) ?_
    have e0 : (va.length == vb.length && va.all fun p => (valueAt vb p.1).isSome && true) = true := by
      rw [hl.1]
      simp only [beq_self_eq_true, Bool.and_true, Bool.true_and, List.all_eq_true]
      intro p hp
      obtain ⟨y', h3, h4⟩ := e1 p.1 p.2 hp
      rw [h3]; rfl
    rw [e0]
    exact q
  | _ => simp [dep] at h0
end
def rEqA (K : PySem.W.Frag) : R2 := fun x y H Q => rEq x y H Q ∨ ((∃ p q, Dp K H x p ∧ Dp K H y q ∧ p.plain = true ∧ q.plain = true ∧ p.depth ≤ 60 ∧ Q (.bl (PyData.eqv p q)) H) ∨
  ∃ d e, same d e = true ∧ dep d ≤ 60 ∧ 0 < dep d ∧ Rep K H d x ∧ Rep K H e y ∧ Q (.bl true) H)
theorem op_eqA {X : Cx} (hu : X.A.units + 64 < cLine) : OpR X (compareOp .Eq) (rEqA X.K) := by
  refine OpR.or op_eq (OpR.or ?_ ?_)
  · intro pins s σ H x y v u Q I rx ry h
    obtain ⟨d, e, hd, he, sd, se, dd, q⟩ := h
    obtain ⟨as, r1⟩ := Dp.reads I d x v hd rx
    obtain ⟨bs, r2⟩ := Dp.reads I e y u he ry
    exact PySem.SeqAt.eq_plain r1 r2 sd se (by omega) ⟨.bl _, H, I, rfl, q⟩
  · intro pins s σ H x y v u Q I rx ry h
    obtain ⟨d, e, h1, h2, h3, h4, h5, q⟩ := h
    exact cmp_same I hu h1 h2 h3 h4 h5 rx ry ⟨.bl _, H, I, rfl, q⟩
def bEq (a b : D) : Option Bool := match a.flat?, b.flat? with
  | some x, some y => if scal x y then some (decide (x = y)) else none
  | _, _ => match a.py?, b.py? with
    | some p, some q => if p.depth ≤ 60 then some (PyData.eqv p q) else none
    | _, _ => if same a b = true ∧ dep a ≤ 60 ∧ 0 < dep a then some true else none
def dEq (a b : D) : Option D := (bEq a b).map .bl
theorem lf_eq {K : PySem.W.Frag} : Lf2 K (rEqA K) dEq := fun F H a b x y e ra rb d hd Q q => by
  obtain ⟨k, hk, rfl⟩ := Option.map_eq_some_iff.mp hd
  unfold bEq at hk
  split at hk
  · rename_i v w h1 h2
    split at hk
    · rename_i hs
      cases hk
      obtain ⟨rfl, _⟩ := rep_flat ra h1
      obtain ⟨rfl, _⟩ := rep_flat rb h2
      exact .inl ⟨hs, q _ F H (.refl e) (rep_bl.mpr rfl)⟩
    · cases hk
  · split at hk
    · rename_i v w h1 h2
      split at hk
      · rename_i hs
        cases hk
        exact .inr (.inl ⟨_, _, rep_py _ _ _ (ra.m e) h1, rep_py _ _ _ (rb.m e) h2, py_plain _ _ h1, py_plain _ _ h2, hs, q _ F H (.refl e) (rep_bl.mpr rfl)⟩)
      · cases hk
    · split at hk
      · rename_i hs
        cases hk
        exact .inr (.inr ⟨a, b, hs.1, hs.2.1, hs.2.2, ra.m e, rb.m e, q _ F H (.refl e) (rep_bl.mpr rfl)⟩)
      · cases hk
/-- != of flat data, of data without dicts -/
def rNeA (K : PySem.W.Frag) : R2 := fun x y H Q => rNe x y H Q ∨ (∃ p q, Dp K H x p ∧ Dp K H y q ∧ p.plain = true ∧ q.plain = true ∧ p.depth ≤ 60 ∧ Q (.bl (!PyData.eqv p q)) H)
theorem op_neA {X : Cx} (hu : X.A.units + 64 < cLine) : OpR X (compareOp .NotEq) (rNeA X.K) := by
  refine OpR.or op_ne ?_
  intro pins s σ H x y v u Q I rx ry h
  obtain ⟨d, e, hd, he, sd, se, dd, q⟩ := h
  obtain ⟨as, r1⟩ := Dp.reads I d x v hd rx
  obtain ⟨bs, r2⟩ := Dp.reads I e y u he ry
  exact PySem.SeqAt.ne_plain r1 r2 sd se (by omega) ⟨.bl _, H, I, rfl, q⟩
def bNe (a b : D) : Option Bool := match a.flat?, b.flat? with
  | some x, some y => if scal x y then some (!decide (x = y)) else none
  | _, _ => match a.py?, b.py? with
    | some p, some q => if p.depth ≤ 60 then some (!PyData.eqv p q) else none
    | _, _ => none
def dNeP (a b : D) : Option D := (bNe a b).map .bl
theorem lf_ne {K : PySem.W.Frag} : Lf2 K (rNeA K) dNeP := fun F H a b x y e ra rb d hd Q q => by
  obtain ⟨k, hk, rfl⟩ := Option.map_eq_some_iff.mp hd
  unfold bNe at hk
  split at hk
  · rename_i v w h1 h2
    split at hk
    · rename_i hs
      cases hk
      obtain ⟨rfl, _⟩ := rep_flat ra h1
      obtain ⟨rfl, _⟩ := rep_flat rb h2
      exact .inl ⟨hs, q _ F H (.refl e) (rep_bl.mpr rfl)⟩
    · cases hk
  · split at hk
    · rename_i v w h1 h2
      split at hk
      · rename_i hs
        cases hk
        exact .inr ⟨_, _, rep_py _ _ _ (ra.m e) h1, rep_py _ _ _ (rb.m e) h2, py_plain _ _ h1, py_plain _ _ h2, hs, q _ F H (.refl e) (rep_bl.mpr rfl)⟩
      · cases hk
    · cases hk
section
variable {K : PySem.W.Frag}
theorem one_of {F : Hp} {d : D} {vs : List V} (h : Reps K F [d] vs) : ∃ v, vs = [v] ∧ Rep K F d v := by
  obtain ⟨v, r, rfl, a, b⟩ := reps_cons.mp h
  rw [reps_nil.mp b]
  exact ⟨v, rfl, a⟩
theorem two_of {F : Hp} {d e : D} {vs : List V} (h : Reps K F [d, e] vs) : ∃ v u, vs = [v, u] ∧ Rep K F d v ∧ Rep K F e u := by
  obtain ⟨v, r, rfl, a, b⟩ := reps_cons.mp h
  obtain ⟨u, rfl, c⟩ := one_of b
  exact ⟨v, u, rfl, a, c⟩
def g1 (g : D → Option D) : List D → Option D
  | [d] => g d
  | _ => none
theorem lf_g1 {r : List V → Hp → VK → Prop} {g : D → Option D} (h : Lf1 K (fun x H Q => r [x] H Q) g) : LfC K r (g1 g) := fun F H a x e ra d hd Q q => by
  unfold g1 at hd
  split at hd
  · obtain ⟨v, rfl, rv⟩ := one_of ra
    exact h F H _ v e rv d hd Q q
  · cases hd
def gN1 (g : D → Option O) : List D → Option O
  | [d] => g d
  | _ => none
def Lf1N (K : PySem.W.Frag) (r : V → Hp → VK → Prop) (g : D → Option O) : Prop := ∀ F H a x, Ex F H → Rep K F a x → ∀ d, g a = some d → ∀ Q : VK, (∀ p h F' H', Gr F H F' H' → H p = none → F' p = none → H' p = some h → RepO K F' d h → Q (.ref p) H') → r x H Q
theorem lf_gN1 {r : List V → Hp → VK → Prop} {g : D → Option O} (h : Lf1N K (fun x H Q => r [x] H Q) g) : LfCN K r (gN1 g) := fun F H a x e ra d hd Q q => by
  unfold gN1 at hd
  split at hd
  · obtain ⟨v, rfl, rv⟩ := one_of ra
    exact h F H _ v e rv d hd Q q
  · cases hd
def rLenA (K : PySem.W.Frag) : List V → Hp → VK → Prop := fun xs H Q => (∃ p ys, xs = [.ref p] ∧ (SqL K H p ys ∨ SqT K H p ys) ∧ Q (.int ys.length) H) ∨ ((∃ z, xs = [.str z] ∧ z.length ≤ sizeLine ∧ Q (.int z.length) H) ∨
  ((∃ a kvs, xs = [V.ref a] ∧ H a = some (.dK kvs) ∧ Q (.int kvs.length) H) ∨ rLenT xs H Q))
theorem call_lenA {X : Cx} : CallR X (.builtin "len") (rLenA X.K) := CallR.or call_len_seq (CallR.or call_len_str (CallR.or call_lenD call_len_dT))
def dLen (d : D) : Option D := match d.seq? with
  | some xs => some (.int xs.length)
  | none => match d with
    | .dK kvs => some (.int kvs.length)
    | .dT kvs => some (.int kvs.length)
    | .str z => if z.length ≤ 100000 then some (.int z.length) else none
    | _ => none
theorem lf_len : LfC K (rLenA K) (g1 dLen) := lf_g1 fun F H a x e ra d hd Q q => by
  unfold dLen at hd
  split at hd
  · rename_i xs h
    cases hd
    obtain ⟨p, vs, rfl, hs, rs⟩ := rep_seq ra h
    exact .inl ⟨p, vs, rfl, hs.imp e.l e.t, q _ F H (.refl e) (rep_int.mpr (by rw [rs.len]))⟩
  · split at hd
    · cases hd
      obtain ⟨p, vs, rfl, hs, rs⟩ := rep_dK.mp ra
      exact .inr (.inr (.inl ⟨p, vs, rfl, e _ _ hs, q _ F H (.refl e) (rep_int.mpr (by rw [rs.len]))⟩))
    · cases hd
      obtain ⟨p, vs, rfl, hs, rs⟩ := rep_dT.mp ra
      exact .inr (.inr (.inr ⟨p, vs, rfl, e _ _ hs, q _ F H (.refl e) (rep_int.mpr (by rw [rs.len]))⟩))
    · split at hd
      · rename_i hz
        cases hd
        rw [rep_str.mp ra]
        exact .inr (.inl ⟨_, rfl, sz_of hz, q _ F H (.refl e) (rep_int.mpr rfl)⟩)
      · cases hd
    · cases hd
def dTuple : D → Option D
  | .lst xs => some (.tup xs)
  | .tup xs => some (.tup xs)
  | _ => none
theorem lf_tuple : LfC K (fun xs H Q => ∃ p ys, xs = [.ref p] ∧ ((SqL K H p ys ∧ ∀ l, H l = none → Q (.ref l) (upd H l (.tup ys))) ∨ (SqT K H p ys ∧ Q (.ref p) H))) (g1 dTuple) := lf_g1 fun F H a x e ra d hd Q q => by
  unfold dTuple at hd
  split at hd
  · cases hd
    obtain ⟨p, vs, rfl, hs, rs⟩ := rep_lst.mp ra
    exact ⟨p, vs, rfl, .inl ⟨.of (e _ _ hs), fun l hl => q _ _ _ (.new e hl) (rep_tup.mpr ⟨l, vs, rfl, upd_same, rs.m (.new (e.free hl))⟩)⟩⟩
  · cases hd
    obtain ⟨p, vs, rfl, hs, rs⟩ := rep_tup.mp ra
    exact ⟨p, vs, rfl, .inr ⟨.of (e _ _ hs), q _ F H (.refl e) ra⟩⟩
  · cases hd
def dList (d : D) : Option O := d.seq?.map .l
theorem lf_list : LfCN K (fun xs H Q => ∃ p ys, xs = [.ref p] ∧ (SqL K H p ys ∨ SqT K H p ys) ∧ ∀ l, H l = none → Q (.ref l) (upd H l (.lst ys))) (gN1 dList) := lf_gN1 fun F H a x e ra d hd Q q => by
  obtain ⟨xs, h, rfl⟩ := Option.map_eq_some_iff.mp hd
  obtain ⟨p, vs, rfl, hs, rs⟩ := rep_seq ra h
  exact ⟨p, vs, rfl, hs.imp e.l e.t, fun l hl => q _ _ F _ (.off e hl) hl (e.free hl) upd_same ⟨vs, rfl, rs⟩⟩
def dAbs : D → Option D
  | .int i => some (.int (if i < 0 then -i else i))
  | _ => none
theorem lf_abs : LfC K (fun xs H Q => ∃ i, xs = [.int i] ∧ Q (.int (if i < 0 then -i else i)) H) (g1 dAbs) := lf_g1 fun F H a x e ra d hd Q q => by
  unfold dAbs at hd
  split at hd
  · cases hd
    exact ⟨_, by rw [rep_int.mp ra], q _ F H (.refl e) (rep_int.mpr rfl)⟩
  · cases hd
def dInt : D → Option D
  | .int i => some (.int i)
  | .bl k => some (.int (if k then 1 else 0))
  | _ => none
theorem lf_int : LfC K (fun xs H Q => (∃ i, xs = [.int i] ∧ Q (.int i) H) ∨ ∃ k, xs = [.bl k] ∧ Q (.int (if k then 1 else 0)) H) (g1 dInt) := lf_g1 fun F H a x e ra d hd Q q => by
  unfold dInt at hd
  split at hd
  · cases hd
    exact .inl ⟨_, by rw [rep_int.mp ra], q _ F H (.refl e) (rep_int.mpr rfl)⟩
  · cases hd
    exact .inr ⟨_, by rw [rep_bl.mp ra], q _ F H (.refl e) (rep_int.mpr rfl)⟩
  · cases hd
def bools : List D → Option (List Bool)
  | [] => some []
  | d :: ds => (D.b? d).bind fun b => (bools ds).bind fun bs => some (b :: bs)
def intsD : List D → Option (List Int)
  | [] => some []
  | d :: ds => (D.i? d).bind fun b => (intsD ds).bind fun bs => some (b :: bs)
theorem intsD_eq : ∀ {ds : List D} {bs : List Int}, intsD ds = some bs → ds = bs.map D.int
  | [], _, e => by cases e; rfl
  | d :: ds, _, e => by
    obtain ⟨b, h1, e⟩ := Option.bind_eq_some_iff.mp e
    obtain ⟨bs, h2, e⟩ := Option.bind_eq_some_iff.mp e
    cases e
    cases d <;> simp only [D.i?, Option.some.injEq, reduceCtorEq] at h1
    subst h1
    rw [intsD_eq h2]
    rfl
def dAll : D → Option D
  | .lst xs => (bools xs).map fun bs => .bl (bs.all id)
  | _ => none
def dTy : D → Option String
  | .non => some "NoneType"
  | .bl _ => some "bool"
  | .int _ => some "int"
  | .str _ => some "str"
  | .tup _ | .kt _ => some "tuple"
  | .lst _ | .sl _ => some "list"
  | .dK _ => some "dict"
  | _ => none
def dType (d : D) : Option D := (dTy d).map .ty
theorem lf_type : LfC K (rTyp K) (g1 dType) := lf_g1 fun F H a x e ra d hd Q q => by
  obtain ⟨T, h, rfl⟩ := Option.map_eq_some_iff.mp hd
  refine ⟨x, T, rfl, ?_, q _ F H (.refl e) (rep_ty.mpr rfl)⟩
  cases a <;> simp only [dTy, Option.some.injEq, reduceCtorEq] at h <;> subst h
  · rw [rep_non.mp ra]; exact .non
  · rw [rep_bl.mp ra]; exact .bl _
  · rw [rep_int.mp ra]; exact .int _
  · rw [rep_str.mp ra]; exact .str _
  · obtain ⟨p, vs, rfl, hs, rs⟩ := rep_tup.mp ra; exact .tup (.of (e _ _ hs))
  · obtain ⟨p, vs, rfl, hs, rs⟩ := rep_lst.mp ra; exact .lst (.of (e _ _ hs))
  · obtain ⟨p, vs, rfl, hs, rs⟩ := rep_sl.mp ra; exact .lst (e.l hs)
  · obtain ⟨p, vs, rfl, hs, rs⟩ := rep_ktl ra; exact .tup (e.t hs)
  · obtain ⟨p, vs, rfl, hs, rs⟩ := rep_dK.mp ra; exact .dK (e _ _ hs)
end
end Mi
namespace Mi
open PySem PySem.Spec PyProof.Rows L2
set_option maxHeartbeats 4000000 in
theorem meets_enumT (l : Addr) (its : Array Value) :
    Meets (Builtin.«enumerate.__new__» ⟨[.type "enumerate", .ref l], []⟩) (fun _ R s => s.heap.IsTuple l its ∧
      R (.ok (.ret (.ref (s.heap.push { cls := .type "tuple_iterator", data := .fields #[.ref l, .int 0 0] }).objs.size))) { s with heap := (s.heap.push { cls := .type "tuple_iterator", data := .fields #[.ref l, .int 0 0] }).push { cls := .type "enumerate", data := .fields #[.none, .bool false, .ref s.heap.objs.size, rawInt 0, .none, .none] } }) :=
  .of_wp fun prog w A R s h => by
    obtain ⟨hp, g, d, tk, os⟩ := s
    obtain ⟨h1, h⟩ := h
    have hsub := sub_enumerate
    have hL : Heap.IsTuple (Shared.heap ⟨hp, g, d, tk, os⟩) l its := h1
    wp_walk using wpAny_pyIter_tuple hL
    refine wpAny_stack_any fun st => wpAny_pure ?_
    split
    · rename_i c _ _ _ _ _
      cases (c == Value.type "enumerate") <;> (wp_walk using wpAny_pyIter_tuple hL; exact ⟨_, rfl, h⟩)
    · wp_walk using wpAny_pyIter_tuple hL
      exact ⟨_, rfl, h⟩
section
variable {prog : Program} {w : World} {A : Around} {E : Value → Shared → Prop} {s : Shared}
theorem call_enumT {l : Addr} {its : Array Value} {Q : Value → Shared → Prop} (hL : s.heap.IsTuple l its)
    (h : ∀ h', IsEnum h' (s.heap.objs.size + 1) s.heap.objs.size 0 .none → h'.IsTupleIter s.heap.objs.size l 0 → (∀ b o, s.heap.get? b = some o → h'.get? b = some o) → Q (.ref (s.heap.objs.size + 1)) { s with heap := h' }) :
    wpAny (model prog w) A (call (.type "enumerate") [.ref l]) Q E s := by
  refine callType_new F.called_enumerate (by decide) (F.typeCall_enumerate_1 _) (F.newCall_enumerate_1 _) (fun obj => F.args_object_init_2 obj _) F.entry_enumerate_new (meets_enumT l its) ⟨hL, ?_⟩
  have hz : (s.heap.push { cls := .type "tuple_iterator", data := .fields #[.ref l, .int 0 0] }).objs.size = s.heap.objs.size + 1 := Heap.size_push ..
  show _ ∧ _
  rw [hz]
  have he : IsEnum ((s.heap.push { cls := .type "tuple_iterator", data := .fields #[.ref l, .int 0 0] }).push { cls := .type "enumerate", data := .fields #[.none, .bool false, .ref s.heap.objs.size, rawInt 0, .none, .none] }) (s.heap.objs.size + 1) s.heap.objs.size 0 .none := by
    have z := Heap.get?_push_size (s.heap.push { cls := .type "tuple_iterator", data := .fields #[.ref l, .int 0 0] }) (o := { cls := .type "enumerate", data := .fields #[.none, .bool false, .ref s.heap.objs.size, rawInt 0, .none, .none] }) rfl
    rw [hz] at z
    exact z
  exact ⟨⟨_, he, rfl⟩, h _ he ⟨_, Heap.get?_push_of_some _ (Heap.get?_push_size _ rfl), rfl, rfl⟩ fun b o x => Heap.get?_push_of_some _ (Heap.get?_push_of_some _ x)⟩
end
/-- the tuple at a, each item in a new pair -/
def IteT (K : PySem.W.Frag) (a : Addr) : It :=
  ⟨fun i H => ∃ (xs : List V) (x : V), SqT K H a xs ∧ xs[i]? = some x, fun i H v H' => ∃ T x, v = .ref T ∧ H T = none ∧ H' = upd H T (.tup [.int (i : Nat), x]) ∧ ∀ xs, SqT K H a xs → xs[i]? = some x, fun i H => ∃ xs : List V, SqT K H a xs ∧ xs.length = i⟩
theorem turn_enumT {P : Program} {w : World} {K : PySem.W.Frag} {elts : List Expr} {kk : Nat} {tpos : Pos} (a e it : Addr) :
    Turn P w K (.Tuple elts kk tpos) (IteT K a) [e, it] e (fun i h => (∃ old, IsEnum h e it ((i : Nat) : Int) old) ∧ h.IsTupleIter it a i ∧ e ≠ it) where
  mem := by simp
  obj := fun i h st b hb => by
    obtain ⟨⟨old, he⟩, ⟨o, ho, hc, hd⟩, _⟩ := st
    have e' : b = e ∨ b = it := by simpa using hb
    rcases e' with z | z <;> rw [z]
    · exact ⟨_, he, fun v q => nomatch q⟩
    · exact ⟨o, ho, fun v q => by rw [hd] at q; cases q⟩
  keep := fun i h h' st k => by
    obtain ⟨⟨old, he⟩, hi, hne⟩ := st
    exact ⟨⟨old, k e (by simp) _ he⟩, hi.at fun o q => k it (by simp) o q, hne⟩
  item := by
    intro X hP hw hK hc i pins s σ H E I hf st hg
    subst hP hw hK
    obtain ⟨⟨old, he⟩, hit, hne⟩ := st
    obtain ⟨xs, x, hq, hx⟩ := hg
    obtain ⟨its, rv, p, hz⟩ := I.tuple hq
    obtain ⟨u, hu, ru⟩ := rv.get hx
    have hel : e < s.heap.objs.size := Heap.lt_size he
    have hil : it < s.heap.objs.size := by
      obtain ⟨_, q, _⟩ := hit
      exact Heap.lt_size q
    have hai : a ≠ it := fun z => by
      obtain ⟨_, q, qc, _⟩ := hit
      obtain ⟨_, q', qc', _⟩ := p
      rw [z, q] at q'
      cases q'
      rw [qc] at qc'
      simp at qc'
    have hae : a ≠ e := fun z => by
      obtain ⟨_, q', qc', _⟩ := p
      have he' : s.heap.get? e = some _ := he
      rw [z, he'] at q'
      cases q'
      simp at qc'
    have Dw := Draws.tuple (prog := X.prog) (w := X.w) (A := X.A.in1) (show X.A.in1.handled = none from I.ok.hd hc) it a hai its.toArray
    have hlt : i < its.toArray.size := by
      have z := (List.getElem?_eq_some_iff.mp hu).1
      simpa using z
    refine wpAny_pyNext_enum_itemC Dw he ⟨hit, p⟩ hlt hne (fun z => by
      rcases (show e = it ∨ e = a by simpa using z) with z | z
      · exact hne z
      · exact hae z.symm) fun u' h' tk hP ho hit' hT hsz hk => ?_
    have eu : u' = u := by
      have z : its.toArray[i]? = some u' := hP
      rw [List.getElem?_toArray, hu] at z
      exact (Option.some.inj z).symm
    subst eu
    refine ⟨_, rfl, wpAny_letOwnedTupleGo_enum (s := { s with heap := h', toks := tk + 1 }) ho fun h'' he' sb => ?_⟩
    have hT2 : h''.get? s.heap.objs.size = some { cls := .type "tuple", data := .seq #[.int i tk, u'] } := (sb.2 _ (Nat.ne_of_gt hel)).trans hT
    have new : ObjOk X.prog X.w (upd H s.heap.objs.size (.tup [.int (i : Nat), x])) h'' s.heap.objs.size (.tup [.int (i : Nat), x]) :=
      ⟨by show 2 ≤ sizeLine; decide, [.int i tk, u'], .cons ⟨_, rfl⟩ (.cons ru .nil), ⟨_, hT2, rfl, _, rfl⟩⟩
    have I1 : Inv X pins σ (upd H s.heap.objs.size (.tup [.int (i : Nat), x])) { s with heap := h'', toks := tk + 1 } :=
      I.turnedNew (ch := [e, it]) (fun b ob hb q => (sb.2 b (fun z => hb (by simp [z]))).trans (hk b ob (fun z => hb (by simp [z])) (fun z => hb (by simp [z])) q)) hf (Nat.le_refl _) new
    refine ⟨.ref s.heap.objs.size, _, I1, rfl, ⟨_, x, rfl, I.hok.fresh (Nat.le_refl _), rfl, fun ys hy => by rw [I.tuple_inj hy hq]; exact hx⟩, ⟨⟨u', ?_⟩, hit'.1.at fun o q => (sb.2 it (Ne.symm hne)).trans q, hne⟩, fun b hb => ?_⟩
    · have e1 : ((i + 1 : Nat) : Int) = (i : Int) + 1 := by omega
      rw [e1]
      exact he'
    · have hb' : b < s.heap.objs.size := by
        rcases (show b = e ∨ b = it by simpa using hb) with z | z <;> rw [z] <;> assumption
      rw [upd_ne (Nat.ne_of_lt hb')]
      exact (hf b hb).1
  done := by
    intro X hP hw hK hc i pins s σ H E I hf st hg
    subst hP hw hK
    obtain ⟨⟨old, he⟩, hit, hne⟩ := st
    obtain ⟨xs, hq, hx⟩ := hg
    obtain ⟨its, rv, p, hz⟩ := I.tuple hq
    obtain ⟨f0, f1, f2, f3, f4, f5⟩ := hf it (by simp)
    have hl := rv.length
    have hai : a ≠ it := fun z => by
      obtain ⟨_, q, qc, _⟩ := hit
      obtain ⟨_, q', qc', _⟩ := p
      rw [z, q] at q'
      cases q'
      rw [qc] at qc'
      simp at qc'
    have hae : a ≠ e := fun z => by
      obtain ⟨_, q', qc', _⟩ := p
      have he' : s.heap.get? e = some _ := he
      rw [z, he'] at q'
      cases q'
      simp at qc'
    have Dw := Draws.tuple (prog := X.prog) (w := X.w) (A := X.A.in1) (show X.A.in1.handled = none from I.ok.hd hc) it a hai its.toArray
    have en : i = its.toArray.size := by simp; omega
    exact wpAny_pyNext_enum_endD Dw he (show s.heap.IsTupleIter it a its.toArray.size ∧ _ from ⟨en ▸ hit, p⟩) fun h' eb => ⟨rfl, I.turned (t' := s.toks) (fun b o hb q => eb b o hb q) f0 f1 f3 f4 f5⟩
  self := fun A i s Q E st h => by
    obtain ⟨⟨_, he⟩, _⟩ := st
    exact wpAny_pyIter_enum he h
def iEnumA (K : PySem.W.Frag) (ta : TA) : TI := fun σ H R => ta σ H fun vs H1 => (∃ a xs, vs = [.ref a] ∧ SqL K H1 a xs ∧ R (Ite K a) H1) ∨ ∃ a xs, vs = [.ref a] ∧ SqT K H1 a xs ∧ R (IteT K a) H1
theorem pi_enumA {X : Cx} {e : Expr} {ta : TA} {p pos tpos : Pos} {elts : List Expr} {kk : Nat} (hg : Gl X "enumerate") (hm : X.mg "enumerate" = none) (ha : PA X [e] ta) (hs : starEach [e] X.env = [(false, eval e X.env)] := by rfl) :
    PI X (.Tuple elts kk tpos) (.Call (.Name "enumerate" p) [e] [] pos) (iEnumA X.K ta) := by
  refine ⟨fun pins s σ H R I h => ?_⟩
  refine Call_ (ld_blt I hg hm boot_enumerate (PyProof.Rows.callWith_type1 (thn (ha.run pos pins s σ H _ I h) fun us s1 ⟨vs, H1, I1, r1, q1⟩ => ?_) hs rfl))
  have fp : ∀ b ∈ [s1.heap.objs.size + 1, s1.heap.objs.size], FpOk X pins H1 b := fun b hb => by
    have hle : s1.heap.objs.size ≤ b := by
      rcases (show b = s1.heap.objs.size + 1 ∨ b = s1.heap.objs.size by simpa using hb) with z | z <;> rw [z] <;> omega
    exact I1.fpOk hle (I1.hok.fresh hle)
  rcases q1 with ⟨a, xs, ex, hq, q⟩ | ⟨a, xs, ex, hq, q⟩
  · subst ex
    cases r1 with
    | cons r rr =>
      cases rr
      cases r
      obtain ⟨its, rv, p', hz⟩ := I1.list hq
      exact call_enumerate_list p'.isList fun h' he hit hsz hk => wpAny_pyIter_enum he
        ⟨s1.heap.objs.size + 1, [s1.heap.objs.size + 1, s1.heap.objs.size], _, _, H1, rfl, I1.kept (t' := s1.toks) hk, turn_enum a (s1.heap.objs.size + 1) s1.heap.objs.size, ⟨⟨.none, he⟩, hit, Nat.succ_ne_self _⟩, fp, q⟩
  · subst ex
    cases r1 with
    | cons r rr =>
      cases rr
      cases r
      obtain ⟨its, rv, p', hz⟩ := I1.tuple hq
      exact call_enumT p' fun h' he hit hk => wpAny_pyIter_enum he
        ⟨s1.heap.objs.size + 1, [s1.heap.objs.size + 1, s1.heap.objs.size], _, _, H1, rfl, I1.kept (t' := s1.toks) hk, turn_enumT a (s1.heap.objs.size + 1) s1.heap.objs.size, ⟨⟨.none, he⟩, hit, Nat.succ_ne_self _⟩, fp, q⟩
/-- a list or a tuple -/
def iSeq (K : PySem.W.Frag) (tl : TE) : TI := fun σ H R => tl σ H fun x H1 => (∃ a, x = .ref a ∧ (∃ xs, SqL K H1 a xs) ∧ R (Itl K a) H1) ∨ ∃ a, x = .ref a ∧ (∃ xs, SqT K H1 a xs) ∧ R (Itt K a) H1
theorem pi_seq {X : Cx} {tg l : Expr} {tl : TE} (hl : PE X l tl) : PI X tg l (iSeq X.K tl) := by
  refine ⟨fun pins s σ H R I h => ?_⟩
  refine thn (hl.run pins s σ H _ I h) fun v s1 ⟨x, H1, I1, r1, q1⟩ => ?_
  have fp : ∀ b ∈ [s1.heap.objs.size], FpOk X pins H1 b := fun b hb => by
    rw [List.mem_singleton.mp hb]
    exact I1.fpOk (Nat.le_refl _) (I1.hok.fresh (Nat.le_refl _))
  rcases q1 with ⟨a, e, ⟨xs, hq⟩, q⟩ | ⟨a, e, ⟨xs, hq⟩, q⟩
  · subst e
    cases r1
    obtain ⟨its, rv, p, hz⟩ := I1.list hq
    exact wpAny_pyIter_list p.isList ⟨s1.heap.objs.size, [s1.heap.objs.size], _, _, H1, rfl, I1.kept (t' := s1.toks) fun b o e => Heap.get?_push_of_some _ e, turn_list a _, ⟨_, Heap.get?_push_size _ rfl, rfl, rfl⟩, fp, q⟩
  · subst e
    cases r1
    obtain ⟨its, rv, p, hz⟩ := I1.tuple hq
    exact wpAny_pyIter_tuple (show s1.heap.IsTuple a its.toArray from p) ⟨s1.heap.objs.size, [s1.heap.objs.size], _, _, H1, rfl, I1.kept (t' := s1.toks) fun b o e => Heap.get?_push_of_some _ e, turn_tuple a _, ⟨_, Heap.get?_push_size _ rfl, rfl, rfl⟩, fp, q⟩
end Mi
namespace Mi
open PySem PySem.Spec PyProof.Rows L2
structure WalkD (K : PySem.W.Frag) (J : It) (ds : List D) (F : Hp) : Prop where
  go : ∀ i F1 H1, Ex F F1 → Ex F1 H1 → i < ds.length → J.go i H1
  yld : ∀ i F1 H1 x H2 d, Ex F F1 → Ex F1 H1 → ds[i]? = some d → J.yld i H1 x H2 → ∃ F2, Gr F1 H1 F2 H2 ∧ Rep K F2 d x
  stop : ∀ F1 H1, Ex F F1 → Ex F1 H1 → J.stop ds.length H1
def SemI (K : PySem.W.Frag) (wi : TI) (fi : E → Option (List D)) : Prop := ∀ F H σ ρ, Ex F H → RE K F σ ρ → ∀ ds, fi ρ = some ds → ∀ R : It → Hp → Prop, (∀ J F' H', Gr F H F' H' → WalkD K J ds F' → R J H') → wi σ H R
def RepW (K : PySem.W.Frag) (F : Hp) : List (Nat × D) → List (Nat × V) → Prop
  | [], us => us = []
  | (k, d) :: ws, us => ∃ v r, us = (k, v) :: r ∧ Rep K F d v ∧ RepW K F ws r
def putS (σ : L2.St) (us : List (Nat × V)) : L2.St := us.foldl (fun σ p => σ.set p.1 (some p.2)) σ
def putE (ρ : E) (ws : List (Nat × D)) : E := ws.foldl (fun ρ p => ρ.set p.1 (some p.2)) ρ
abbrev FG := D → Option (List (Nat × D))
def SemG (K : PySem.W.Frag) (g : TG) (tg : FG) : Prop := ∀ F H σ d v ws, Ex F H → Rep K F d v → tg d = some ws → ∀ Q : L2.St → Hp → Prop, (∀ us, RepW K F ws us → Q (putS σ us) H) → g v σ H Q
def SemGs (K : PySem.W.Frag) (g : TGs) (tg : List D → Option (List (Nat × D))) : Prop := ∀ F H σ d v ws, Ex F H → Reps K F d v → tg d = some ws → ∀ Q : L2.St → Hp → Prop, (∀ us, RepW K F ws us → Q (putS σ us) H) → g v σ H Q
def gN (i : Nat) : FG := fun d => some [(i, d)]
def gsN : List D → Option (List (Nat × D))
  | [] => some []
  | _ => none
def gsC (g : FG) (gs : List D → Option (List (Nat × D))) : List D → Option (List (Nat × D))
  | d :: ds => (g d).bind fun w => (gs ds).bind fun ws => some (w ++ ws)
  | [] => none
def gT (gs : List D → Option (List (Nat × D))) : FG := fun d => match d with
  | .tup xs => gs xs
  | _ => none
section
variable {K : PySem.W.Frag} {F : Hp}
theorem RepW.app : ∀ {ws zs : List (Nat × D)} {us ys : List (Nat × V)}, RepW K F ws us → RepW K F zs ys → RepW K F (ws ++ zs) (us ++ ys)
  | [], _, _, _, h, q => by
    have h : _ = [] := h
    rw [h]
    exact q
  | (k, d) :: ws, _, _, _, h, q => by
    obtain ⟨v, r, rfl, h1, h2⟩ := h
    exact ⟨v, _, rfl, h1, h2.app q⟩
theorem RepW.m {F' : Hp} (e : Ex F F') : ∀ {ws : List (Nat × D)} {us : List (Nat × V)}, RepW K F ws us → RepW K F' ws us
  | [], _, h => h
  | (k, d) :: ws, _, h => by
    obtain ⟨v, r, rfl, h1, h2⟩ := h
    exact ⟨v, r, rfl, h1.m e, h2.m e⟩
theorem RepW.ix : ∀ {ws : List (Nat × D)} {us : List (Nat × V)}, RepW K F ws us → us.map (·.1) = ws.map (·.1)
  | [], _, h => by
    have h : _ = [] := h
    rw [h]
    rfl
  | (k, d) :: ws, _, h => by
    obtain ⟨v, r, rfl, h1, h2⟩ := h
    simp [h2.ix]
theorem putS_len (us : List (Nat × V)) : ∀ σ : L2.St, (putS σ us).length = σ.length := by
  induction us with
  | nil => intro σ; rfl
  | cons u us ih => intro σ; exact (ih _).trans (List.length_set ..)
theorem RE.set {σ : L2.St} {ρ : E} {i : Nat} {d : D} {v : V} (r : RE K F σ ρ) (h : Rep K F d v) : RE K F (σ.set i (some v)) (ρ.set i (some d)) := by
  refine ⟨by simp [r.len], fun j e q => ?_⟩
  by_cases hj : i = j
  · subst hj
    have hl : i < ρ.length := by
      have z := (List.getElem?_eq_some_iff.mp q).1
      simpa using z
    rw [List.getElem?_set_self hl] at q
    cases q
    exact ⟨v, by rw [List.getElem?_set_self (by rw [← r.len]; exact hl)], h⟩
  · rw [List.getElem?_set_ne hj] at q ⊢
    exact r.at_ j e q
theorem RE.put : ∀ {ws : List (Nat × D)} {us : List (Nat × V)} {σ : L2.St} {ρ : E}, RE K F σ ρ → RepW K F ws us → RE K F (putS σ us) (putE ρ ws)
  | [], _, _, _, r, h => by
    have h : _ = [] := h
    rw [h]
    exact r
  | (k, d) :: ws, _, _, _, r, h => by
    obtain ⟨v, q, rfl, h1, h2⟩ := h
    exact (r.set h1).put h2
theorem sem_gN {i : Nat} : SemG K (gName i) (gN i) := fun F H σ d v ws e r h Q q => by
  cases h
  exact q [(i, v)] ⟨v, [], rfl, r, rfl⟩
theorem sem_gsN : SemGs K gNil gsN := fun F H σ d v ws e r h Q q => by
  unfold gsN at h
  split at h
  · cases h
    exact ⟨reps_nil.mp r, q [] rfl⟩
  · cases h
theorem sem_gsC {t : TG} {u : TGs} {g : FG} {gs : List D → Option (List (Nat × D))} (h1 : SemG K t g) (h2 : SemGs K u gs) : SemGs K (gCons t u) (gsC g gs) := fun F H σ d v ws e r h Q q => by
  unfold gsC at h
  split at h
  · obtain ⟨w1, e1, h⟩ := Option.bind_eq_some_iff.mp h
    obtain ⟨w2, e2, h⟩ := Option.bind_eq_some_iff.mp h
    cases h
    obtain ⟨x, xs, rfl, a, b⟩ := reps_cons.mp r
    refine ⟨x, xs, rfl, h1 F H σ _ x w1 e a e1 _ fun us1 p1 => ?_⟩
    refine h2 F H _ _ xs w2 e b e2 _ fun us2 p2 => ?_
    have z := q (us1 ++ us2) (p1.app p2)
    rw [putS, List.foldl_append] at z
    exact z
  · cases h
theorem sem_gT {n : Nat} {u : TGs} {gs : List D → Option (List (Nat × D))} (h : SemGs K u gs) (hn : ∀ xs ws, gs xs = some ws → xs.length = n) : SemG K (gTup K n u) (gT gs) := fun F H σ d v ws e r hd Q q => by
  unfold gT at hd
  split at hd
  · obtain ⟨a, vs, rfl, h1, h2⟩ := rep_tup.mp r
    exact ⟨a, vs, rfl, .of (e _ _ h1), by rw [← h2.len]; exact hn _ _ hd, h F H σ _ vs ws e h2 hd Q q⟩
  · cases hd
theorem walk_l {a : Addr} {ds : List D} {vs : List V} (h : SqL K F a vs) (r : Reps K F ds vs) : WalkD K (Itl K a) ds F where
  go := fun i F1 H1 e1 e2 hi => by
    obtain ⟨v, hv, _⟩ := r.get (List.getElem?_eq_getElem hi)
    exact ⟨vs, v, (e1.trans e2).l h, hv⟩
  yld := fun i F1 H1 x H2 d e1 e2 hd ⟨e, hx⟩ => by
    subst e
    obtain ⟨v, hv, rv⟩ := r.get hd
    rw [hx vs ((e1.trans e2).l h)] at hv
    cases hv
    exact ⟨F1, .refl e2, rv.m e1⟩
  stop := fun F1 H1 e1 e2 => ⟨vs, (e1.trans e2).l h, by rw [r.len]; exact Nat.le_refl _⟩
theorem walk_t {a : Addr} {ds : List D} {vs : List V} (h : SqT K F a vs) (r : Reps K F ds vs) : WalkD K (Itt K a) ds F where
  go := fun i F1 H1 e1 e2 hi => by
    obtain ⟨v, hv, _⟩ := r.get (List.getElem?_eq_getElem hi)
    exact ⟨vs, v, (e1.trans e2).t h, hv⟩
  yld := fun i F1 H1 x H2 d e1 e2 hd ⟨e, hx⟩ => by
    subst e
    obtain ⟨v, hv, rv⟩ := r.get hd
    rw [hx vs ((e1.trans e2).t h)] at hv
    cases hv
    exact ⟨F1, .refl e2, rv.m e1⟩
  stop := fun F1 H1 e1 e2 => ⟨vs, (e1.trans e2).t h, by rw [r.len]; exact Nat.le_refl _⟩
def fSeq (fe : FE) : E → Option (List D) := fun ρ => (fe ρ).bind D.seq?
theorem sem_iSeq {tl : TE} {fe : FE} (h : SemE K tl fe) : SemI K (iSeq K tl) (fSeq fe) := fun F H σ ρ e r ds hd R q => by
  obtain ⟨d, h1, h2⟩ := Option.bind_eq_some_iff.mp hd
  refine h F H σ ρ e r d h1 _ fun v F1 H1 g1 r1 => ?_
  obtain ⟨a, vs, rfl, hs, rs⟩ := rep_seq r1 h2
  rcases hs with hs | hs
  · exact .inl ⟨a, rfl, ⟨vs, g1.fh.l hs⟩, q _ F1 H1 g1 (walk_l hs rs)⟩
  · exact .inr ⟨a, rfl, ⟨vs, g1.fh.t hs⟩, q _ F1 H1 g1 (walk_t hs rs)⟩
def rngD (lo : Int) (n : Nat) : List D := (List.range n).map fun i => .int (lo + (i : Nat))
theorem walk_r {lo : Int} {n : Nat} : WalkD K (Itr lo n) (rngD lo n) F where
  go := fun i F1 H1 e1 e2 hi => by simpa [rngD, Itr] using hi
  yld := fun i F1 H1 x H2 d e1 e2 hd ⟨e, hx⟩ => by
    subst e
    have hx : x = V.int (lo + (i : Nat)) := hx
    subst hx
    refine ⟨F1, .refl e2, ?_⟩
    unfold rngD at hd
    rw [List.getElem?_map] at hd
    obtain ⟨j, hj, rfl⟩ := Option.map_eq_some_iff.mp hd
    obtain ⟨_, e⟩ := List.getElem?_eq_some_iff.mp hj
    simp at e
    subst e
    exact rep_int.mpr rfl
  stop := fun F1 H1 e1 e2 => by simp [rngD, Itr]
noncomputable def fRng1 (fa : E → Option (List D)) : E → Option (List D) := fun ρ => (fa ρ).bind fun xs => match xs with
  | [.int n] => @ite _ (-(2 ^ 62) ≤ n ∧ n < 2 ^ 62) (Classical.propDecidable _) (some (rngD 0 n.toNat)) none
  | _ => none
theorem sem_iRng1 {ta : TA} {fa : E → Option (List D)} (h : SemA K ta fa) : SemI K (iRng1 ta) (fRng1 fa) := fun F H σ ρ e r ds hd R q => by
  obtain ⟨xs, h1, h2⟩ := Option.bind_eq_some_iff.mp hd
  refine h F H σ ρ e r xs h1 _ fun v F1 H1 g1 r1 => ?_
  split at h2
  · split at h2
    · rename_i n hn
      cases h2
      obtain ⟨v, rfl, rv⟩ := one_of r1
      exact ⟨n, by rw [rep_int.mp rv], hn.1, hn.2, q _ F1 H1 g1 walk_r⟩
    · cases h2
  · cases h2
noncomputable def fRng2 (fa : E → Option (List D)) : E → Option (List D) := fun ρ => (fa ρ).bind fun xs => match xs with
  | [.int m, .int n] => @ite _ (-(2 ^ 62) ≤ m ∧ m < 2 ^ 62 ∧ -(2 ^ 62) ≤ n ∧ n < 2 ^ 62) (Classical.propDecidable _) (some (rngD m (n - m).toNat)) none
  | _ => none
def enumD (i : Nat) : List D → List D
  | [] => []
  | d :: ds => .tup [.int (i : Nat), d] :: enumD (i + 1) ds
theorem enumD_len : ∀ (ds : List D) (i : Nat), (enumD i ds).length = ds.length
  | [], _ => rfl
  | d :: ds, i => by simp [enumD, enumD_len ds]
theorem enumD_get : ∀ (ds : List D) (i j : Nat) (e : D), (enumD i ds)[j]? = some e → ∃ d, ds[j]? = some d ∧ e = .tup [.int ((i + j : Nat)), d]
  | [], _, _, _, h => by simp [enumD] at h
  | d :: ds, i, 0, e, h => by
    simp [enumD] at h
    exact ⟨d, by simp, h.symm⟩
  | d :: ds, i, j + 1, e, h => by
    simp [enumD] at h
    obtain ⟨d', h1, h2⟩ := enumD_get ds (i + 1) j e h
    exact ⟨d', by simpa using h1, by rw [h2, show i + 1 + j = i + (j + 1) by omega]⟩
theorem pair_new {F1 H1 : Hp} {T : Addr} {x y : V} {a b : D} (e : Ex F1 H1) (h : H1 T = none) (ra : Rep K F1 a x) (rb : Rep K F1 b y) : ∃ F2, Gr F1 H1 F2 (upd H1 T (.tup [x, y])) ∧ Rep K F2 (.tup [a, b]) (.ref T) :=
  ⟨_, .new e h, rep_tup.mpr ⟨T, _, rfl, upd_same, (Reps.cons ra (.one rb)).m (.new (e.free h))⟩⟩
theorem walk_el {a : Addr} {ds : List D} {vs : List V} (h : SqL K F a vs) (r : Reps K F ds vs) : WalkD K (Ite K a) (enumD 0 ds) F where
  go := fun i F1 H1 e1 e2 hi => by
    rw [enumD_len] at hi
    obtain ⟨v, hv, _⟩ := r.get (List.getElem?_eq_getElem hi)
    exact ⟨vs, v, (e1.trans e2).l h, hv⟩
  yld := fun i F1 H1 x H2 d e1 e2 hd ⟨T, y, ex, hT, eH, hy⟩ => by
    obtain ⟨d', h1, rfl⟩ := enumD_get ds 0 i d hd
    obtain ⟨v, hv, rv⟩ := r.get h1
    rw [hy vs ((e1.trans e2).l h)] at hv
    cases hv
    rw [ex, eH, Nat.zero_add]
    exact pair_new e2 hT (rep_int.mpr rfl) (rv.m e1)
  stop := fun F1 H1 e1 e2 => ⟨vs, (e1.trans e2).l h, by rw [enumD_len, r.len]; exact Nat.le_refl _⟩
theorem walk_et {a : Addr} {ds : List D} {vs : List V} (h : SqT K F a vs) (r : Reps K F ds vs) : WalkD K (IteT K a) (enumD 0 ds) F where
  go := fun i F1 H1 e1 e2 hi => by
    rw [enumD_len] at hi
    obtain ⟨v, hv, _⟩ := r.get (List.getElem?_eq_getElem hi)
    exact ⟨vs, v, (e1.trans e2).t h, hv⟩
  yld := fun i F1 H1 x H2 d e1 e2 hd ⟨T, y, ex, hT, eH, hy⟩ => by
    obtain ⟨d', h1, rfl⟩ := enumD_get ds 0 i d hd
    obtain ⟨v, hv, rv⟩ := r.get h1
    rw [hy vs ((e1.trans e2).t h)] at hv
    cases hv
    rw [ex, eH, Nat.zero_add]
    exact pair_new e2 hT (rep_int.mpr rfl) (rv.m e1)
  stop := fun F1 H1 e1 e2 => ⟨vs, (e1.trans e2).t h, by rw [enumD_len, r.len]⟩
def fEnum (fa : E → Option (List D)) : E → Option (List D) := fun ρ => (fa ρ).bind fun xs => match xs with
  | [d] => d.seq?.map (enumD 0)
  | _ => none
theorem sem_iEnum {ta : TA} {fa : E → Option (List D)} (h : SemA K ta fa) : SemI K (iEnumA K ta) (fEnum fa) := fun F H σ ρ e r ds hd R q => by
  obtain ⟨xs, h1, h2⟩ := Option.bind_eq_some_iff.mp hd
  refine h F H σ ρ e r xs h1 _ fun v F1 H1 g1 r1 => ?_
  split at h2
  · obtain ⟨ys, h3, rfl⟩ := Option.map_eq_some_iff.mp h2
    obtain ⟨v, rfl, rv⟩ := one_of r1
    obtain ⟨a, vs, rfl, hs, rs⟩ := rep_seq rv h3
    rcases hs with hs | hs
    · exact .inl ⟨a, vs, rfl, g1.fh.l hs, q _ F1 H1 g1 (walk_el hs rs)⟩
    · exact .inr ⟨a, vs, rfl, g1.fh.t hs, q _ F1 H1 g1 (walk_et hs rs)⟩
  · cases h2
def zipD : List D → List D → List D
  | a :: as, b :: bs => .tup [a, b] :: zipD as bs
  | _, _ => []
def D.lq? : D → Option (List D)
  | .lst xs => some xs
  | .sl xs => some xs
  | _ => none
def D.tq? : D → Option (List D)
  | .tup xs => some xs
  | .kt xs => some xs
  | _ => none
def fZip (fa : E → Option (List D)) : E → Option (List D) := fun ρ => (fa ρ).bind fun xs => match xs with
  | [c, d] => match c.tq?, d.tq? with
    | some xs, some ys => some (zipD xs ys)
    | _, _ => c.lq?.bind fun xs => d.lq?.bind fun ys => some (zipD xs ys)
  | _ => none
def wipeE (ρ : E) : List Nat → E
  | [] => ρ
  | v :: vs => (wipeE ρ vs).set v none
theorem wipe_get (σ : L2.St) (i : Nat) : ∀ vs : List Nat, (wipe σ vs)[i]? = if i ∈ vs ∧ i < σ.length then some none else σ[i]?
  | [] => by simp [wipe]
  | v :: vs => by
    unfold wipe
    rw [List.getElem?_set, wipe_length, wipe_get σ i vs]
    by_cases h1 : v = i
    · subst h1
      by_cases h2 : v < σ.length
      · simp [h2]
      · simp [h2, List.getElem?_eq_none (Nat.le_of_not_lt h2)]
    · have h3 : ¬ i = v := fun z => h1 z.symm
      simp [h1, h3]
theorem wipeE_get (ρ : E) (i : Nat) : ∀ vs : List Nat, (wipeE ρ vs)[i]? = if i ∈ vs ∧ i < ρ.length then some none else ρ[i]?
  | [] => by simp [wipeE]
  | v :: vs => by
    have hl : (wipeE ρ vs).length = ρ.length := by
      clear v
      induction vs with
      | nil => rfl
      | cons w ws ih => unfold wipeE; rw [List.length_set, ih]
    unfold wipeE
    rw [List.getElem?_set, hl, wipeE_get ρ i vs]
    by_cases h1 : v = i
    · subst h1
      by_cases h2 : v < ρ.length
      · simp [h2]
      · simp [h2, List.getElem?_eq_none (Nat.le_of_not_lt h2)]
    · have h3 : ¬ i = v := fun z => h1 z.symm
      simp [h1, h3]
theorem wipeE_len (ρ : E) : ∀ vs : List Nat, (wipeE ρ vs).length = ρ.length
  | [] => rfl
  | v :: vs => by unfold wipeE; rw [List.length_set, wipeE_len ρ vs]
theorem RE.wipe {σ : L2.St} {ρ : E} (r : RE K F σ ρ) (vs : List Nat) : RE K F (L2.wipe σ vs) (wipeE ρ vs) := by
  refine ⟨by rw [wipeE_len, wipe_length, r.len], fun i d h => ?_⟩
  rw [wipeE_get] at h
  rw [wipe_get, ← r.len]
  split at h
  · cases h
  · rename_i hn
    rw [if_neg hn]
    exact r.at_ i d h
theorem putS_get (us : List (Nat × V)) : ∀ (σ : L2.St) (i : Nat), i ∉ us.map (·.1) → (putS σ us)[i]? = σ[i]? := by
  induction us with
  | nil => intro σ i _; rfl
  | cons u us ih =>
    intro σ i h
    simp only [List.map_cons, List.mem_cons, not_or] at h
    exact (ih _ i h.2).trans (List.getElem?_set_ne fun z => h.1 z.symm)
theorem wipe_put {σ : L2.St} {us : List (Nat × V)} {vs : List Nat} (h : ∀ p ∈ us.map (·.1), p ∈ vs) : L2.wipe (putS (L2.wipe σ vs) us) vs = L2.wipe σ vs := by
  apply List.ext_getElem?
  intro i
  rw [wipe_get, wipe_get, putS_len, wipe_length]
  by_cases hi : i ∈ vs
  · by_cases hl : i < σ.length
    · simp [hi, hl]
    · simp only [hl, and_false, if_false]
      rw [List.getElem?_eq_none (by rw [putS_len, wipe_length]; exact Nat.le_of_not_lt hl), List.getElem?_eq_none (Nat.le_of_not_lt hl)]
  · simp only [hi, false_and, if_false]
    rw [putS_get _ _ _ (fun z => hi (h i z)), wipe_get]
    simp [hi]
end
end Mi
namespace Mi
open PySem PySem.Spec PyProof.Rows L2
def lcF (tg : FG) (fc : E → Option Bool) (fe : FE) (ρ : E) : List D → Option (List D)
  | [] => some []
  | d :: ds => (tg d).bind fun ws => (fc (putE ρ ws)).bind fun b => if b then (fe (putE ρ ws)).bind fun y => (lcF tg fc fe ρ ds).bind fun ys => some (y :: ys) else lcF tg fc fe ρ ds
def fLc (fi : E → Option (List D)) (tg : FG) (fc : E → Option Bool) (fe : FE) (vs : List Nat) : E → Option O := fun ρ =>
  (fi ρ).bind fun ds => if ds.length ≤ 50000 then (lcF tg fc fe (wipeE ρ vs) ds).map .l else none
def fYes : E → Option Bool := fun _ => some true
section
variable {K : PySem.W.Frag}
theorem sem_yes : SemT K tYes fYes := fun F H σ ρ e r d h Q q => by
  cases h
  exact q F H (.refl e)
theorem lc_go {J : It} {g : TG} {tt : TT} {te : TE} {vs : List Nat} {tg : FG} {fc : E → Option Bool} {fe : FE} (hg : SemG K g tg) (ht : SemT K tt fc) (he : SemE K te fe)
    (hw : ∀ d ws, tg d = some ws → ∀ p ∈ ws.map (·.1), p ∈ vs) {F1 H1 : Hp} {σ : L2.St} {ρ : E} {ds ys : List D} {Dl : Addr} {Q : VK} (e1 : Ex F1 H1) (r : RE K F1 σ ρ) (wk : WalkD K J ds F1) (h3 : lcF tg fc fe (wipeE ρ vs) ds = some ys) (hlen : ds.length ≤ 50000) (hD : H1 Dl = none)
    (q : ∀ av F2 H2, Gr F1 H1 F2 H2 → F2 Dl = none → H2 Dl = some (.lst av) → Reps K F2 ys av → Q (.ref Dl) H2) :
    ∃ W : Nat → Nat → Hp → Prop, (∃ m, W 0 m (upd H1 Dl (.lst []))) ∧ ∀ i m H, W i m H →
      (J.stop i H ∧ Q (.ref Dl) H) ∨ (J.go i H ∧ ∃ Nx : Hp → Prop, (∀ H', Nx H' → ∃ m', m' < m ∧ W (i + 1) m' H') ∧ ∀ x H', J.yld i H x H' → g x (L2.wipe σ vs) H' fun σ2 H2 => L2.wipe σ2 vs = L2.wipe σ vs ∧ tt σ2 H2 fun b H3 =>
        if b = true then te σ2 H3 fun y H4 => ∃ acc, H4 Dl = some (.lst acc) ∧ acc.length < sizeLine ∧ Nx (upd H4 Dl (.lst (acc ++ [y]))) else Nx H3) := by
    have g1 := Gr.refl e1
    refine ⟨fun i m H2 => m = ds.length - i ∧ i ≤ ds.length ∧ ∃ F2 av ad rest, Gr F1 H1 F2 H2 ∧ F2 Dl = none ∧ H2 Dl = some (.lst av) ∧ Reps K F2 ad av ∧ ad.length ≤ i ∧ lcF tg fc fe (wipeE ρ vs) (ds.drop i) = some rest ∧ ys = ad ++ rest,
      ⟨ds.length, by simp, Nat.zero_le _, F1, [], [], ys, .off g1.fh hD, g1.fh.free hD, upd_same, .nil, Nat.le_refl _, by simpa using h3, rfl⟩, ?_⟩
    rintro i m H2 ⟨rfl, hi', F2, av, ad, rest, g2, n2, hd2, ra, hal, hr, hys⟩
    by_cases hlt : i < ds.length
    · refine .inr ⟨wk.go i F2 H2 g2.ff g2.fh hlt, fun H3 => ∃ F2 av ad rest, Gr F1 H1 F2 H3 ∧ F2 Dl = none ∧ H3 Dl = some (.lst av) ∧ Reps K F2 ad av ∧ ad.length ≤ i + 1 ∧ lcF tg fc fe (wipeE ρ vs) (ds.drop (i + 1)) = some rest ∧ ys = ad ++ rest,
        fun H3 hN => ⟨ds.length - (i + 1), by omega, rfl, by omega, hN⟩, fun x H3 hy => ?_⟩
      have hdi : ds[i]? = some ds[i] := List.getElem?_eq_getElem hlt
      obtain ⟨F3, g3, r3⟩ := wk.yld i F2 H2 x H3 ds[i] g2.ff g2.fh hdi hy
      rw [List.drop_eq_getElem_cons hlt] at hr
      obtain ⟨ws, e1, hr⟩ := Option.bind_eq_some_iff.mp hr
      obtain ⟨b, e2, hr⟩ := Option.bind_eq_some_iff.mp hr
      refine hg F3 H3 _ ds[i] x ws g3.fh r3 e1 _ fun us ru => ⟨wipe_put (by rw [ru.ix]; exact hw _ _ e1), ?_⟩
      have re : RE K F3 (putS (L2.wipe σ vs) us) (putE (wipeE ρ vs) ws) := ((r.m ((g1.trans g2).trans g3).ff).wipe vs).put ru
      refine ht F3 H3 _ _ g3.fh re b e2 _ fun F4 H4 g4 => ?_
      have g24 := g3.trans g4
      have n4 : F4 Dl = none := (g24.fr _ _ hd2).trans n2
      cases b with
      | true =>
        obtain ⟨y, e3, hr⟩ := Option.bind_eq_some_iff.mp hr
        obtain ⟨rest', e4, hr⟩ := Option.bind_eq_some_iff.mp hr
        cases hr
        rw [if_pos rfl]
        refine he F4 H4 _ _ g4.fh (re.m g4.ff) y e3 _ fun yv F5 H5 g5 r5 => ?_
        have g25 := g24.trans g5
        have n5 : F5 Dl = none := (g25.fr _ _ hd2).trans n2
        have g15 := g2.trans g25
        refine ⟨av, g25.hh _ _ hd2, ?_, F5, av ++ [yv], ad ++ [y], rest', ⟨g15.f0, g15.ff, ?_, ?_, g15.fr⟩, n5, upd_same, (ra.m g25.ff).append (.one r5), ?_, e4, ?_⟩
        · rw [← ra.len]
          exact sz_lt (by omega)
        · intro a u qa
          rw [upd_ne (ne_of_none qa hD)]
          exact g15.hh a u qa
        · intro a u qa
          rw [upd_ne (ne_of_none qa n5)]
          exact g15.fh a u qa
        · rw [List.length_append]
          simp
          omega
        · rw [hys, List.append_assoc]
          rfl
      | false =>
        rw [if_neg Bool.false_ne_true]
        exact ⟨F4, av, ad, rest, g2.trans g24, n4, g24.hh _ _ hd2, ra.m g24.ff, by omega, hr, hys⟩
    · have ei : i = ds.length := by omega
      subst ei
      rw [List.drop_length] at hr
      cases hr
      rw [List.append_nil] at hys
      subst hys
      exact .inl ⟨wk.stop F2 H2 g2.ff g2.fh, q av F2 H2 g2 n2 hd2 ra⟩
theorem sem_lc {wi : TI} {g : TG} {tt : TT} {te : TE} {vs : List Nat} {fi : E → Option (List D)} {tg : FG} {fc : E → Option Bool} {fe : FE} (hi : SemI K wi fi) (hg : SemG K g tg) (ht : SemT K tt fc) (he : SemE K te fe)
    (hw : ∀ d ws, tg d = some ws → ∀ p ∈ ws.map (·.1), p ∈ vs) : SemN K (tLc wi g tt te vs) (fLc fi tg fc fe vs) := fun F H σ ρ e r o ho Q q => by
  obtain ⟨ds, h1, h2⟩ := Option.bind_eq_some_iff.mp ho
  split at h2
  · rename_i hlen
    obtain ⟨ys, h3, rfl⟩ := Option.map_eq_some_iff.mp h2
    refine hi F H σ ρ e r ds h1 _ fun J F1 H1 g1 wk => ?_
    intro Dl hD
    exact lc_go hg ht he hw g1.fh (r.m g1.ff) wk h3 hlen hD fun av F2 H2 g2 n2 hd2 ra => q Dl (.lst av) F2 H2 (g1.trans g2) (g1.hh.free hD) n2 hd2 ⟨av, rfl, ra⟩
  · cases h2
end
end Mi
namespace Mi
open PySem PySem.Spec PyProof.Rows L2
inductive Slot where
  | no | sh (d : D) | ow (o : O)
abbrev SEnv := List Slot
def Slot.hid : Slot → Option D
  | .sh d => some d
  | _ => none
def Slot.full : Slot → Option D
  | .sh d => some d
  | .ow o => some o.d
  | .no => none
def hid (ρ : SEnv) : E := ρ.map Slot.hid
def full (ρ : SEnv) : E := ρ.map Slot.full
inductive Out where
  | nx (ρ : SEnv) | bk (ρ : SEnv) | ct (ρ : SEnv) | rt (d : D) | ex (x : Str)
structure RS (K : PySem.W.Frag) (F0 H0 F H : Hp) (σ : L2.St) (ρ : SEnv) : Prop where
  gr : Gr F0 H0 F H
  len : ρ.length = σ.length
  sh : ∀ (i : Nat) (d : D), ρ[i]? = some (.sh d) → ∃ v, σ[i]? = some (some v) ∧ Rep K F d v
  ow : ∀ (i : Nat) (o : O), ρ[i]? = some (.ow o) → ∃ a h, σ[i]? = some (some (.ref a)) ∧ H a = some h ∧ F a = none ∧ H0 a = none ∧ RepO K F o h
  dj : ∀ (i j : Nat) (o o' : O) (a : Addr), ρ[i]? = some (.ow o) → ρ[j]? = some (.ow o') → σ[i]? = some (some (.ref a)) → σ[j]? = some (some (.ref a)) → i = j
def End (K : PySem.W.Frag) (mg : Str → Option Value) (X : XK) (F0 H0 Fs : Hp) (Dn : Ends) : Out → Prop
  | .nx ρ => ∀ F H σ, RS K F0 H0 F H σ ρ → Ex Fs F → Dn.nx σ H
  | .bk ρ => ∀ F H σ, RS K F0 H0 F H σ ρ → Ex Fs F → Dn.bk σ H
  | .ct ρ => ∀ F H σ, RS K F0 H0 F H σ ρ → Ex Fs F → Dn.ct σ H
  | .rt d => ∀ F H v, Gr F0 H0 F H → Rep K F d v → Dn.rt v H
  | .ex x => ∀ F H C, Gr F0 H0 F H → mg x = some (.ref C) → X (.ref C) none H
abbrev FS := SEnv → Option Out
def SemS (K : PySem.W.Frag) (mg : Str → Option Value) (X : XK) (t : TS) (g : FS) : Prop := ∀ F0 H0 F H σ ρ, RS K F0 H0 F H σ ρ → ∀ o, g ρ = some o → ∀ Dn, End K mg X F0 H0 F Dn o → t Dn σ H
section
variable {K : PySem.W.Frag} {F0 H0 F H F1 H1 : Hp} {σ : L2.St} {ρ : SEnv}
theorem RS.fh (r : RS K F0 H0 F H σ ρ) : Ex F H := r.gr.fh
theorem RS.hid (r : RS K F0 H0 F H σ ρ) : RE K F σ (hid ρ) := ⟨by simp [Mi.hid, r.len], fun i d h => by
  unfold Mi.hid at h
  rw [List.getElem?_map] at h
  cases z : ρ[i]? with
  | none => rw [z] at h; cases h
  | some s =>
    rw [z] at h
    cases s with
    | sh d' =>
      have : d' = d := by simpa [Slot.hid] using h
      subst this
      exact r.sh i _ z
    | no => simp [Slot.hid] at h
    | ow o => simp [Slot.hid] at h⟩
theorem RepO.at_ {o : O} {h : HO} {a : Addr} (r : RepO K F o h) (e : Ex F H) (ha : H a = some h) : Rep K H o.d (.ref a) := by
  have r := r.m e
  cases o with
  | l xs => obtain ⟨vs, rfl, e2⟩ := r; exact rep_lst.mpr ⟨a, vs, rfl, ha, e2⟩
  | k xs => obtain ⟨vs, rfl, e2⟩ := r; exact rep_dK.mpr ⟨a, vs, rfl, ha, e2⟩
  | t xs => obtain ⟨vs, rfl, e2⟩ := r; exact rep_dT.mpr ⟨a, vs, rfl, ha, e2⟩
theorem RS.full (r : RS K F0 H0 F H σ ρ) : RE K H σ (full ρ) := ⟨by simp [Mi.full, r.len], fun i d h => by
  unfold Mi.full at h
  rw [List.getElem?_map] at h
  cases z : ρ[i]? with
  | none => rw [z] at h; cases h
  | some s =>
    rw [z] at h
    cases s with
    | sh d' =>
      have : d' = d := by simpa [Slot.full] using h
      subst this
      obtain ⟨v, h1, h2⟩ := r.sh i _ z
      exact ⟨v, h1, h2.m r.fh⟩
    | no => simp [Slot.full] at h
    | ow o =>
      have : o.d = d := by simpa [Slot.full] using h
      subst this
      obtain ⟨a, h, h1, h2, h3, h4, h5⟩ := r.ow i _ z
      exact ⟨_, h1, h5.at_ r.fh h2⟩⟩
/-- both heaps have grown -/
theorem RS.grow (r : RS K F0 H0 F H σ ρ) (g : Gr F H F1 H1) : RS K F0 H0 F1 H1 σ ρ where
  gr := r.gr.trans g
  len := r.len
  sh := fun i d h => by
    obtain ⟨v, h1, h2⟩ := r.sh i d h
    exact ⟨v, h1, h2.m g.ff⟩
  ow := fun i o h => by
    obtain ⟨a, h, h1, h2, h3, h4, h5⟩ := r.ow i o h
    exact ⟨a, h, h1, g.hh _ _ h2, (g.fr _ _ h2).trans h3, h4, h5.m g.ff⟩
  dj := r.dj
/-- the whole heap as the foot: the foot itself stays -/
theorem Gr.back {F' : Hp} (e : Ex F H) (g : Gr H H F' H1) : Gr F H F H1 := ⟨e, .refl _, g.hh, e.trans g.hh, fun _ _ _ => rfl⟩
theorem set_get {α : Type} {l : List α} {i j : Nat} {x y : α} (h : (l.set i x)[j]? = some y) : (i = j ∧ x = y ∧ i < l.length) ∨ (i ≠ j ∧ l[j]? = some y) := by
  by_cases e : i = j
  · subst e
    have hl : i < l.length := by
      have z := (List.getElem?_eq_some_iff.mp h).1
      simpa using z
    rw [List.getElem?_set_self hl] at h
    exact .inl ⟨rfl, Option.some.inj h, hl⟩
  · rw [List.getElem?_set_ne e] at h
    exact .inr ⟨e, h⟩
theorem RS.setSh {i : Nat} {d : D} {v : V} (r : RS K F0 H0 F H σ ρ) (h : Rep K F d v) : RS K F0 H0 F H (σ.set i (some v)) (ρ.set i (.sh d)) where
  gr := r.gr
  len := by simp [r.len]
  sh := fun j e q => by
    rcases set_get q with ⟨rfl, z, hl⟩ | ⟨hj, q⟩
    · cases z
      exact ⟨v, List.getElem?_set_self (by rw [← r.len]; exact hl), h⟩
    · rw [List.getElem?_set_ne hj]
      exact r.sh j e q
  ow := fun j e q => by
    rcases set_get q with ⟨rfl, z, hl⟩ | ⟨hj, q⟩
    · cases z
    · rw [List.getElem?_set_ne hj]
      exact r.ow j e q
  dj := fun j k o o' a q1 q2 s1 s2 => by
    rcases set_get q1 with ⟨rfl, z, hl⟩ | ⟨hj, q1⟩
    · cases z
    rcases set_get q2 with ⟨rfl, z, hl⟩ | ⟨hk, q2⟩
    · cases z
    rw [List.getElem?_set_ne hj] at s1
    rw [List.getElem?_set_ne hk] at s2
    exact r.dj j k o o' a q1 q2 s1 s2
theorem RS.setOw {i : Nat} {o : O} {p : Addr} {h : HO} (r : RS K F0 H0 F H σ ρ) (g : Gr F H F1 H1) (n : H p = none) (n1 : F1 p = none) (h1 : H1 p = some h) (ro : RepO K F1 o h) : RS K F0 H0 F1 H1 (σ.set i (some (.ref p))) (ρ.set i (.ow o)) := by
  have r1 := r.grow g
  have ne : ∀ (j : Nat) (o' : O), ρ[j]? = some (.ow o') → σ[j]? ≠ some (some (.ref p)) := fun j o' q z => by
    obtain ⟨a, h', h2, h3, _⟩ := r.ow j o' q
    rw [h2] at z
    cases z
    rw [n] at h3
    cases h3
  refine ⟨r1.gr, by simp [r.len], fun j e q => ?_, fun j e q => ?_, fun j k o1 o2 a q1 q2 s1 s2 => ?_⟩
  · rcases set_get q with ⟨rfl, z, hl⟩ | ⟨hj, q⟩
    · cases z
    · rw [List.getElem?_set_ne hj]
      exact r1.sh j e q
  · rcases set_get q with ⟨rfl, z, hl⟩ | ⟨hj, q⟩
    · cases z
      exact ⟨p, h, List.getElem?_set_self (by rw [← r.len]; exact hl), h1, n1, r.gr.hh.free n, ro⟩
    · rw [List.getElem?_set_ne hj]
      exact r1.ow j e q
  · rcases set_get q1 with ⟨rfl, z, hl⟩ | ⟨hj, q1⟩
    · rcases set_get q2 with ⟨rfl, z2, hl2⟩ | ⟨hk, q2⟩
      · rfl
      · rw [List.getElem?_set_self (by rw [← r.len]; exact hl)] at s1
        cases s1
        rw [List.getElem?_set_ne hk] at s2
        exact absurd s2 (ne k o2 q2)
    · rcases set_get q2 with ⟨rfl, z2, hl2⟩ | ⟨hk, q2⟩
      · rw [List.getElem?_set_self (by rw [← r.len]; exact hl2)] at s2
        cases s2
        rw [List.getElem?_set_ne hj] at s1
        exact absurd s1 (ne j o1 q1)
      · rw [List.getElem?_set_ne hj] at s1
        rw [List.getElem?_set_ne hk] at s2
        exact r.dj j k o1 o2 a q1 q2 s1 s2
/-- the owned object is written -/
theorem RS.write {i : Nat} {o o' : O} {a : Addr} {h' : HO} (r : RS K F0 H0 F H σ ρ) (hi : ρ[i]? = some (.ow o)) (hs : σ[i]? = some (some (.ref a))) (ro : RepO K F o' h') : RS K F0 H0 F (upd H a h') σ (ρ.set i (.ow o')) := by
  obtain ⟨a', h, z1, ha, fa, ha0, _⟩ := r.ow i o hi
  rw [hs] at z1
  cases z1
  have hne : ∀ (j : Nat) (o' : O) (b : Addr), i ≠ j → ρ[j]? = some (.ow o') → σ[j]? = some (some (.ref b)) → b ≠ a := fun j o' b hj q s z => by
    subst z
    exact hj (r.dj i j o o' b hi q hs s)
  refine ⟨⟨r.gr.f0, r.gr.ff, fun b u q => ?_, fun b u q => ?_, r.gr.fr⟩, by simp [r.len], fun j e q => ?_, fun j e q => ?_, fun j k o1 o2 b q1 q2 s1 s2 => ?_⟩
  · rw [upd_ne (ne_of_none q ha0)]
    exact r.gr.hh b u q
  · rw [upd_ne (ne_of_none q fa)]
    exact r.fh b u q
  · rcases set_get q with ⟨rfl, z, hl⟩ | ⟨hj, q⟩
    · cases z
    · exact r.sh j e q
  · rcases set_get q with ⟨rfl, z, hl⟩ | ⟨hj, q⟩
    · cases z
      exact ⟨a, h', hs, upd_same, fa, ha0, ro⟩
    · obtain ⟨b, u, s1, s2, s3, s4, s5⟩ := r.ow j e q
      exact ⟨b, u, s1, by rw [upd_ne (hne j e b hj q s1)]; exact s2, s3, s4, s5⟩
  · have z1 : ∃ o1, ρ[j]? = some (.ow o1) := by
      rcases set_get q1 with ⟨rfl, z, hl⟩ | ⟨hj, q⟩
      · exact ⟨o, hi⟩
      · exact ⟨o1, q⟩
    have z2 : ∃ o1, ρ[k]? = some (.ow o1) := by
      rcases set_get q2 with ⟨rfl, z, hl⟩ | ⟨hj, q⟩
      · exact ⟨o, hi⟩
      · exact ⟨o2, q⟩
    obtain ⟨o3, q3⟩ := z1
    obtain ⟨o4, q4⟩ := z2
    exact r.dj j k o3 o4 b q3 q4 s1 s2
/-- an owned object is given away: it may be told from now on, no longer written -/
def frz (i : Nat) (ρ : SEnv) : SEnv := match ρ[i]? with
  | some (.ow o) => ρ.set i (.sh o.d)
  | _ => ρ
theorem RS.frz {i : Nat} (r : RS K F0 H0 F H σ ρ) : ∃ F', Ex F F' ∧ RS K F0 H0 F' H σ (frz i ρ) := by
  unfold Mi.frz
  split
  · rename_i o hi
    obtain ⟨a, h, hs, ha, fa, ha0, ro⟩ := r.ow i o hi
    have g : Gr F0 H0 (upd F a h) H := r.gr.take ha0 fa ha
    refine ⟨upd F a h, .new fa, g, by simp [r.len], fun j e q => ?_, fun j e q => ?_, fun j k o1 o2 b q1 q2 s1 s2 => ?_⟩
    · rcases set_get q with ⟨rfl, z, hl⟩ | ⟨hj, q⟩
      · cases z
        exact ⟨_, hs, ro.rep fa⟩
      · obtain ⟨v, h1, h2⟩ := r.sh j e q
        exact ⟨v, h1, h2.m (.new fa)⟩
    · rcases set_get q with ⟨rfl, z, hl⟩ | ⟨hj, q⟩
      · cases z
      · obtain ⟨b, u, s1, s2, s3, s4, s5⟩ := r.ow j e q
        have hb : b ≠ a := fun z => by
          subst z
          exact hj (r.dj i j o e b hi q hs s1)
        exact ⟨b, u, s1, s2, by rw [upd_ne hb]; exact s3, s4, s5.m (.new fa)⟩
    · rcases set_get q1 with ⟨rfl, z, hl⟩ | ⟨hj, q1⟩
      · cases z
      rcases set_get q2 with ⟨rfl, z, hl⟩ | ⟨hk, q2⟩
      · cases z
      exact r.dj j k o1 o2 b q1 q2 s1 s2
  · exact ⟨F, .refl _, r⟩
def putR (ρ : SEnv) (ws : List (Nat × D)) : SEnv := ws.foldl (fun ρ p => ρ.set p.1 (.sh p.2)) ρ
theorem RS.put : ∀ {ws : List (Nat × D)} {us : List (Nat × V)} {σ : L2.St} {ρ : SEnv}, RS K F0 H0 F H σ ρ → RepW K F ws us → RS K F0 H0 F H (putS σ us) (putR ρ ws)
  | [], _, _, _, r, h => by
    have h : _ = [] := h
    rw [h]
    exact r
  | (k, d) :: ws, _, _, _, r, h => by
    obtain ⟨v, q, rfl, h1, h2⟩ := h
    exact (r.setSh h1).put h2
end
def sNext : FS := fun ρ => some (.nx ρ)
def sSeq (g h : FS) : FS := fun ρ => (g ρ).bind fun o => match o with
  | .nx ρ' => h ρ'
  | o => some o
def sAsg (i : Nat) (f : FE) : FS := fun ρ => (f (hid ρ)).bind fun d => some (.nx (ρ.set i (.sh d)))
def sAsgF (i : Nat) (f : FE) : FS := fun ρ => (f (full ρ)).bind fun d => d.flat?.bind fun _ => some (.nx (ρ.set i (.sh d)))
def sAsgN (i : Nat) (f : E → Option O) : FS := fun ρ => (f (hid ρ)).bind fun o => some (.nx (ρ.set i (.ow o)))
def sAsgT (tg : FG) (f : FE) : FS := fun ρ => (f (hid ρ)).bind fun d => (tg d).bind fun ws => some (.nx (putR ρ ws))
def sPar (i j : Nat) (fa : E → Option (List D)) : FS := fun ρ => (fa (hid ρ)).bind fun ds => match ds with
  | [a, b] => some (.nx ((ρ.set i (.sh a)).set j (.sh b)))
  | _ => none
def sRet (f : FE) : FS := fun ρ => (f (hid ρ)).bind fun d => some (.rt d)
def sIf (c : E → Option Bool) (g h : FS) : FS := fun ρ => (c (full ρ)).bind fun b => if b then g ρ else h ρ
def sApp (i : Nat) (f : FE) : FS := fun ρ => (f (hid ρ)).bind fun d => match ρ[i]? with
  | some (.ow (.l xs)) => if xs.length < 100000 then some (.nx (ρ.set i (.ow (.l (xs ++ [d]))))) else none
  | _ => none
def sFrz (i : Nat) (g : FS) : FS := fun ρ => g (frz i ρ)
/-- the turns of a for -/
def forF (tg : FG) (body : FS) : List D → SEnv → Option Out
  | [], ρ => some (.nx ρ)
  | d :: ds, ρ => (tg d).bind fun ws => (body (putR ρ ws)).bind fun o => match o with
    | .nx ρ' => forF tg body ds ρ'
    | .ct ρ' => forF tg body ds ρ'
    | .bk ρ' => some (.nx ρ')
    | o => some o
def sFor (fi : E → Option (List D)) (tg : FG) (body : FS) : FS := fun ρ => (fi (hid ρ)).bind fun ds => forF tg body ds ρ
section
variable {K : PySem.W.Frag} {mg : Str → Option Value} {X : XK} {t u : TS} {g h : FS} {te tk tv : TE} {f fk fv : FE} {i j : Nat}
theorem ss_next : SemS K mg X tNext sNext := fun F0 H0 F H σ ρ r o ho Dn q => by
  cases ho
  exact q F H σ r (.refl _)
theorem ss_seq (h1 : SemS K mg X t g) (h2 : SemS K mg X u h) : SemS K mg X (tSeq t u) (sSeq g h) := fun F0 H0 F H σ ρ r o ho Dn q => by
  obtain ⟨o1, e1, e2⟩ := Option.bind_eq_some_iff.mp ho
  refine h1 F0 H0 F H σ ρ r o1 e1 _ ?_
  cases o1 with
  | nx ρ' =>
    refine fun F' H' σ' r' ef => h2 F0 H0 F' H' σ' ρ' r' o e2 Dn ?_
    cases o with
    | nx ρ2 => exact fun F2 H2 σ2 r2 ef2 => q F2 H2 σ2 r2 (ef.trans ef2)
    | bk ρ2 => exact fun F2 H2 σ2 r2 ef2 => q F2 H2 σ2 r2 (ef.trans ef2)
    | ct ρ2 => exact fun F2 H2 σ2 r2 ef2 => q F2 H2 σ2 r2 (ef.trans ef2)
    | rt d => exact q
    | ex x => exact q
  | bk ρ' => cases e2; exact q
  | ct ρ' => cases e2; exact q
  | rt d => cases e2; exact q
  | ex x => cases e2; exact q
theorem ss_asg (h : SemE K te f) : SemS K mg X (tAsg te (gName i)) (sAsg i f) := fun F0 H0 F H σ ρ r o ho Dn q => by
  obtain ⟨d, e1, e2⟩ := Option.bind_eq_some_iff.mp ho
  cases e2
  exact h F H σ _ r.fh r.hid d e1 _ fun v F1 H1 g1 r1 => q F1 H1 _ ((r.grow g1).setSh r1) g1.ff
theorem ss_asgN {f : E → Option O} (h : SemN K te f) : SemS K mg X (tAsg te (gName i)) (sAsgN i f) := fun F0 H0 F H σ ρ r o ho Dn q => by
  obtain ⟨d, e1, e2⟩ := Option.bind_eq_some_iff.mp ho
  cases e2
  exact h F H σ _ r.fh r.hid d e1 _ fun p hp F1 H1 g1 n n1 h1 ro => q F1 H1 _ (r.setOw g1 n n1 h1 ro) g1.ff
theorem ss_asgT {tt : TG} {tg : FG} (h : SemE K te f) (hg : SemG K tt tg) : SemS K mg X (tAsg te tt) (sAsgT tg f) := fun F0 H0 F H σ ρ r o ho Dn q => by
  obtain ⟨d, e1, e2⟩ := Option.bind_eq_some_iff.mp ho
  obtain ⟨ws, e3, e4⟩ := Option.bind_eq_some_iff.mp e2
  cases e4
  refine h F H σ _ r.fh r.hid d e1 _ fun v F1 H1 g1 r1 => ?_
  exact hg F1 H1 σ d v ws g1.fh r1 e3 _ fun us ru => q F1 H1 _ ((r.grow g1).put ru) g1.ff
theorem ss_par {ta : TA} {fa : E → Option (List D)} (h : SemA K ta fa) : SemS K mg X (tPar i j ta) (sPar i j fa) := fun F0 H0 F H σ ρ r o ho Dn q => by
  obtain ⟨ds, e1, e2⟩ := Option.bind_eq_some_iff.mp ho
  refine h F H σ _ r.fh r.hid ds e1 _ fun vs F1 H1 g1 r1 => ?_
  split at e2
  · cases e2
    obtain ⟨v, w, rfl, a, b⟩ := two_of r1
    exact ⟨v, w, rfl, q F1 H1 _ (((r.grow g1).setSh a).setSh b) g1.ff⟩
  · cases e2
theorem ss_ret (h : SemE K te f) : SemS K mg X (tRet te) (sRet f) := fun F0 H0 F H σ ρ r o ho Dn q => by
  obtain ⟨d, e1, e2⟩ := Option.bind_eq_some_iff.mp ho
  cases e2
  exact h F H σ _ r.fh r.hid d e1 _ fun v F1 H1 g1 r1 => q F1 H1 v (r.gr.trans g1) r1
theorem ss_if {c : TT} {fc : E → Option Bool} (hc : SemT K c fc) (h1 : SemS K mg X t g) (h2 : SemS K mg X u h) : SemS K mg X (tIfS c t u) (sIf fc g h) := fun F0 H0 F H σ ρ r o ho Dn q => by
  obtain ⟨b, e1, e2⟩ := Option.bind_eq_some_iff.mp ho
  refine hc H H σ _ (.refl H) r.full b e1 _ fun F1 H1 g1 => ?_
  have r1 := r.grow (g1.back r.fh)
  cases b with
  | true => exact h1 F0 H0 F H1 σ ρ r1 o e2 Dn q
  | false => exact h2 F0 H0 F H1 σ ρ r1 o e2 Dn q
theorem ss_app (h : SemE K te f) : SemS K mg X (tDrop (tBM K "list" rAppend (tVar i) (tCons te tNil))) (sApp i f) := fun F0 H0 F H σ ρ r o ho Dn q => by
  obtain ⟨d, e1, e2⟩ := Option.bind_eq_some_iff.mp ho
  split at e2
  · rename_i xs hi
    split at e2
    · rename_i hl
      cases e2
      obtain ⟨a, hh, hs, ha, fa, ha0, ro⟩ := r.ow i _ hi
      obtain ⟨vs, rfl, rv⟩ := ro
      refine ⟨.ref a, hs, .inl ⟨rfl, vs, .of ha⟩, ?_⟩
      refine h F H σ _ r.fh r.hid d e1 _ fun v F1 H1 g1 r1 => ?_
      refine ⟨a, vs, v, rfl, rfl, g1.hh _ _ ha, by rw [← rv.len]; exact sz_lt hl, ?_⟩
      exact q F1 _ _ ((r.grow g1).write hi hs ⟨_, rfl, (rv.m g1.ff).append (.one r1)⟩) g1.ff
    · cases e2
  · cases e2
theorem ss_frz (h1 : SemS K mg X t g) : SemS K mg X t (sFrz i g) := fun F0 H0 F H σ ρ r o ho Dn q => by
  obtain ⟨F', ef, r'⟩ := r.frz (i := i)
  refine h1 F0 H0 F' H σ _ r' o ho Dn ?_
  cases o with
  | nx ρ2 => exact fun F2 H2 σ2 r2 ef2 => q F2 H2 σ2 r2 (ef.trans ef2)
  | bk ρ2 => exact fun F2 H2 σ2 r2 ef2 => q F2 H2 σ2 r2 (ef.trans ef2)
  | ct ρ2 => exact fun F2 H2 σ2 r2 ef2 => q F2 H2 σ2 r2 (ef.trans ef2)
  | rt d => exact q
  | ex x => exact q
theorem ss_for {wi : TI} {tt : TG} {fi : E → Option (List D)} {tg : FG} (hi : SemI K wi fi) (hg : SemG K tt tg) (hb : SemS K mg X t g) : SemS K mg X (tFor wi tt t) (sFor fi tg g) := fun F0 H0 F H σ ρ r o ho Dn q => by
  obtain ⟨ds, e1, e2⟩ := Option.bind_eq_some_iff.mp ho
  refine hi F H σ _ r.fh r.hid ds e1 _ fun J F1 H1 g1 wk => ?_
  have ef1 := g1.ff
  refine ⟨fun i m σ' H' => m = ds.length - i ∧ i ≤ ds.length ∧ ∃ F' ρ', Ex F1 F' ∧ RS K F0 H0 F' H' σ' ρ' ∧ forF tg g (ds.drop i) ρ' = some o, ⟨ds.length, by simp, Nat.zero_le _, F1, ρ, .refl _, r.grow g1, by simpa using e2⟩, ?_⟩
  rintro i m σ' H' ⟨rfl, hi', F', ρ', ef, r', hr⟩
  by_cases hlt : i < ds.length
  · refine .inr ⟨wk.go i F' H' ef r'.fh hlt, fun σ2 H2 => ∃ F2 ρ2, Ex F1 F2 ∧ RS K F0 H0 F2 H2 σ2 ρ2 ∧ forF tg g (ds.drop (i + 1)) ρ2 = some o, fun σ2 H2 hN => ⟨ds.length - (i + 1), by omega, rfl, by omega, hN⟩, fun x H2 hy => ?_⟩
    have hdi : ds[i]? = some ds[i] := List.getElem?_eq_getElem hlt
    obtain ⟨F2, g2, r2⟩ := wk.yld i F' H' x H2 ds[i] ef r'.fh hdi hy
    rw [List.drop_eq_getElem_cons hlt] at hr
    obtain ⟨ws, h1, hr⟩ := Option.bind_eq_some_iff.mp hr
    obtain ⟨o1, h2, hr⟩ := Option.bind_eq_some_iff.mp hr
    have rs2 := r'.grow g2
    refine hg F2 H2 _ ds[i] x ws g2.fh r2 h1 _ fun us ru => ?_
    refine hb F0 H0 F2 H2 _ _ (rs2.put ru) o1 h2 _ ?_
    have e12 := ef.trans g2.ff
    cases o1 with
    | nx ρ2 => exact fun F3 H3 σ3 r3 e3 => ⟨F3, ρ2, e12.trans e3, r3, hr⟩
    | ct ρ2 => exact fun F3 H3 σ3 r3 e3 => ⟨F3, ρ2, e12.trans e3, r3, hr⟩
    | bk ρ2 =>
      cases hr
      exact fun F3 H3 σ3 r3 e3 => q F3 H3 σ3 r3 (ef1.trans (e12.trans e3))
    | rt d =>
      cases hr
      exact q
    | ex x =>
      cases hr
      exact q
  · have ei : i = ds.length := by omega
    subst ei
    rw [List.drop_length] at hr
    cases hr
    exact .inl ⟨wk.stop F' H' ef r'.fh, q F' H' σ' r' (ef1.trans ef)⟩
end
end Mi
namespace Mi
open PySem PySem.Spec PyProof.Rows L2
def cutD (xs : List D) (lo hi : Option Int) : List D := (xs.drop (HT.sIx xs.length 0 lo)).take (HT.sIx xs.length xs.length hi - HT.sIx xs.length 0 lo)
def dSl (d : D) (lo hi : Option Int) : Option D := match d with
  | .tup xs => some (.tup (cutD xs lo hi))
  | .lst xs => some (.lst (cutD xs lo hi))
  | _ => none
def eSl (fe : FE) (fl fh : E → Option (Option Int)) : FE := fun ρ => (fe ρ).bind fun d => (fl ρ).bind fun lo => (fh ρ).bind fun hi => dSl d lo hi
def fPart (fe : FE) : E → Option (Option Int) := fun ρ => (fe ρ).bind fun d => d.i?.map some
section
variable {K : PySem.W.Frag}
def dRev : D → Option O
  | .lst xs => some (.l xs.reverse)
  | _ => none
def eN1 (g : D → Option O) (fa : FE) : E → Option O := fun ρ => (fa ρ).bind g
theorem sem_rev {te : TE} {fe : FE} (h : SemE K te fe) : SemN K (tRevL K te) (eN1 dRev fe) := fun F H σ ρ e r d hd Q q => by
  obtain ⟨x, h1, h2⟩ := Option.bind_eq_some_iff.mp hd
  refine h F H σ ρ e r x h1 _ fun v F1 H1 g1 r1 => ?_
  unfold dRev at h2
  split at h2
  · cases h2
    obtain ⟨a, vs, rfl, ha, rv⟩ := rep_lst.mp r1
    exact ⟨a, vs, rfl, .of (g1.fh _ _ ha), fun p hp => q _ _ F1 _ (g1.trans (.off g1.fh hp)) (g1.hh.free hp) (g1.fh.free hp) upd_same ⟨_, rfl, rv.reverse⟩⟩
  · cases h2
def pNil : E → Option (List (Key × D)) := fun _ => some []
def pCons (k : Str) (fv : FE) (fr : E → Option (List (Key × D))) : E → Option (List (Key × D)) := fun ρ => (fv ρ).bind fun v => (fr ρ).bind fun r => some ((.inr k, v) :: r)
def mergeD (kvs more : List (Key × D)) : List (Key × D) := more.foldl (fun acc kv => putD acc kv.1 kv.2) kvs
def fDisp (fp : E → Option (List (Key × D))) : E → Option O := fun ρ => (fp ρ).bind fun ps => if ps.length ≤ 15 then some (.k (mergeD [] ps)) else none
def SemP (K : PySem.W.Frag) (trs : List (TE × TE)) (f : E → Option (List (Key × D))) : Prop := ∀ F H σ ρ, Ex F H → RE K F σ ρ → ∀ ds, f ρ = some ds → ∀ Q : List (V × V) → Hp → Prop, (∀ kvs F' H', Gr F H F' H' → RepK K F' ds kvs → Q (kvs.map fun kv => (kV kv.1, kv.2)) H') → tPairs trs σ H Q
theorem sem_pNil : SemP K [] pNil := fun F H σ ρ e r d h Q q => by
  cases h
  exact q [] F H (.refl e) (repK_nil.mpr rfl)
theorem sem_pCons {k : Str} {tv : TE} {fv : FE} {trs : List (TE × TE)} {fr : E → Option (List (Key × D))} (h1 : SemE K tv fv) (h2 : SemP K trs fr) : SemP K ((tC (.str k), tv) :: trs) (pCons k fv fr) := fun F H σ ρ e r d h Q q => by
  obtain ⟨v, e1, h⟩ := Option.bind_eq_some_iff.mp h
  obtain ⟨ds, e2, h⟩ := Option.bind_eq_some_iff.mp h
  cases h
  refine h1 F H σ ρ e r v e1 _ fun y F1 H1 g1 r1 => ?_
  refine h2 F1 H1 σ ρ g1.fh (r.m g1.ff) ds e2 _ fun kvs F2 H2 g2 r2 => ?_
  exact q ((.inr k, y) :: kvs) F2 H2 (g1.trans g2) (repK_cons.mpr ⟨y, kvs, rfl, r1.m g2.ff, r2⟩)
theorem RepK.merge {F : Hp} : ∀ {more : List (Key × D)} {rs : List (Key × V)} {kvs : List (Key × D)} {vs : List (Key × V)}, RepK K F more rs → RepK K F kvs vs → RepK K F (mergeD kvs more) (mergeK vs rs)
  | [], _, _, _, h, q => by
    rw [repK_nil] at h
    subst h
    exact q
  | (k, d) :: ps, _, _, _, h, q => by
    obtain ⟨v, r, rfl, h1, t⟩ := repK_cons.mp h
    exact t.merge (q.put h1)
theorem sem_disp {trs : List (TE × TE)} {fp : E → Option (List (Key × D))} (h : SemP K trs fp) : SemN K (tDisp trs) (fDisp fp) := fun F H σ ρ e r d hd Q q => by
  obtain ⟨ps, h1, h2⟩ := Option.bind_eq_some_iff.mp hd
  split at h2
  · rename_i hl
    cases h2
    intro p hp
    refine h F _ σ ρ (e.trans (.new hp)) r ps h1 _ fun kvs F1 H1 g1 r1 => ?_
    have n1 : F1 p = none := (g1.fr p _ upd_same).trans (e.free hp)
    refine ⟨g1.hh _ _ upd_same, kvs, rfl, by rw [← r1.len]; exact hl, ?_⟩
    refine q p _ F1 _ ⟨e, g1.ff, fun a u qa => ?_, fun a u qa => ?_, fun a o qa => ?_⟩ hp n1 upd_same ⟨_, rfl, r1.merge (repK_nil.mpr rfl)⟩
    · rw [upd_ne (ne_of_none qa hp)]
      exact g1.hh a u (by rw [upd_ne (ne_of_none qa hp)]; exact qa)
    · rw [upd_ne (ne_of_none qa n1)]
      exact g1.fh a u qa
    · exact g1.fr a o (by rw [upd_ne (ne_of_none qa hp)]; exact qa)
  · cases h2
def spD (K : PySem.W.Frag) (n : Nat) (m : List D → Option D) : Sp := fun vs H Q _ => ∃ F ds d, Ex F H ∧ Reps K F ds vs ∧ vs.length = n ∧ m ds = some d ∧ ∀ v F' H', Gr F H F' H' → Rep K F' d v → Q v H'
theorem sem_call {n : Nat} {m : List D → Option D} {ta : TA} {fa : E → Option (List D)} (hm : ∀ ds d, m ds = some d → ds.length = n) (h : SemA K ta fa) : SemE K (tCall (spD K n m) [] E0 ta) (eA m fa) := fun F H σ ρ e r d hd Q q => by
  obtain ⟨ds, h1, h2⟩ := Option.bind_eq_some_iff.mp hd
  refine h F H σ ρ e r ds h1 _ fun vs F1 H1 g1 r1 => ?_
  show spD K n m (vs ++ []) H1 Q E0
  rw [List.append_nil]
  exact ⟨F1, ds, d, g1.fh, r1, by rw [← r1.len]; exact hm _ _ h2, h2, fun v F2 H2 g2 r2 => q v F2 H2 (g1.trans g2) r2⟩
end
/-- a def of the top keeps its promise -/
structure Fx (P : Program) (w : World) (K : PySem.W.Frag) (mg : Str → Option Value) (base : Heap) (k : Nat) (x : Str) (n : Nat) (m : List D → Option D) : Prop where
  ok : ∃ f fd ps, FnOk P w K mg base CX0 k f fd ps (spD K n m) ∧ mg x = some (.ref f) ∧ PySem.W.keepIn K (.ref f) = true ∧ Binds K fd ps []
  hm : ∀ ds d, m ds = some d → ds.length = n
/-- the mirror of a def: N slots, n of them parameters -/
def defM (N n : Nat) (g : FS) : List D → Option D := fun ds => if ds.length = n then (g (ds.map Slot.sh ++ List.replicate (N - n) Slot.no)).bind fun o => match o with
  | .rt d => some d
  | .nx _ => some .non
  | _ => none else none
theorem defM_len {N n : Nat} {g : FS} (ds : List D) (d : D) (h : defM N n g ds = some d) : ds.length = n := by
  unfold defM at h
  split at h
  · assumption
  · cases h
structure SE (X : Cx) (e : Expr) (t : TE) (f : FE) : Prop where
  pe : PE X e t
  se : SemE X.K t f
structure SN (X : Cx) (e : Expr) (t : TE) (f : E → Option O) : Prop where
  pe : PE X e t
  se : SemN X.K t f
structure ST (X : Cx) (e : Expr) (t : TT) (f : E → Option Bool) : Prop where
  pe : PT X e t
  se : SemT X.K t f
structure SW (X : Cx) (e : Expr) (t : TT) (f : E → Option Bool) : Prop where
  pe : PW X e t
  se : SemT X.K t f
structure SA (X : Cx) (es : List Expr) (t : TA) (f : E → Option (List D)) : Prop where
  pe : PA X es t
  se : SemA X.K t f
structure SI (X : Cx) (tg e : Expr) (t : TI) (f : E → Option (List D)) : Prop where
  pe : PI X tg e t
  se : SemI X.K t f
structure SG (X : Cx) (e : Expr) (t : TG) (f : FG) : Prop where
  pe : PG X e t
  se : SemG X.K t f
structure SGs (X : Cx) (es : List Expr) (t : TGs) (f : List D → Option (List (Nat × D))) : Prop where
  pe : PGs X es t
  se : SemGs X.K t f
/-- tests of a comprehension -/
structure STs (X : Cx) (es : List Expr) (t : TT) (f : E → Option Bool) : Prop where
  pe : PTs X es t
  se : SemT X.K t f
structure SP (X : Cx) (pos : Pos) (ks : List (Option Expr)) (vs : List Expr) (trs : List (TE × TE)) (f : E → Option (List (Key × D))) : Prop where
  pe : PPs X pos ks vs trs
  se : SemP X.K trs f
def SS (X : Cx) (W : XK) (st : Stmt) (g : FS) : Prop := ∃ t, PS X st t ∧ SemS X.K X.mg W t g
def SSs (X : Cx) (W : XK) (st : List Stmt) (g : FS) : Prop := ∃ t, PSs X st t ∧ SemS X.K X.mg W t g
section
variable {X : Cx} {a b c e : Expr} {es : List Expr} {ta tb tc te : TE} {fa fb fc fe : FE} {pos p apos : Pos} {x : Str}
def eO (f : E → Option O) : FE := fun ρ => (f ρ).map O.d
theorem sn_e {f : E → Option O} (h : SN X e te f) : SE X e te (eO f) := ⟨h.pe, h.se.e⟩
theorem se_v (i : Nat) (hN : X.N[i]? = some x := by rfl) (hv : Vis X.env.scope x := by first | exact Or.inl rfl | exact Or.inr (Or.inl rfl) | exact Or.inr (Or.inr rfl)) (hd : (x == ("__debug__" : Str)) = false := by decide)
    (hcd : (x == ("__classdict__" : Str)) = false := by decide) : SE X (.Name x pos) (tVar i) (eVar i) := ⟨pe_var hN hv hd hcd, sem_var⟩
theorem se_int {i : Int} {j : Nat} : SE X (.Constant (.int i) j pos) (tC (.int i)) (eC (.int i)) := ⟨pe_int, sem_c fun _ => rep_int.mpr rfl⟩
theorem se_bl {i : Bool} {j : Nat} : SE X (.Constant (.bool i) j pos) (tC (.bl i)) (eC (.bl i)) := ⟨pe_bl, sem_c fun _ => rep_bl.mpr rfl⟩
theorem se_str {i : Str} {j : Nat} : SE X (.Constant (.str i) j pos) (tC (.str i)) (eC (.str i)) := ⟨pe_str, sem_c fun _ => rep_str.mpr rfl⟩
theorem se_non {j : Nat} : SE X (.Constant .none j pos) (tC .non) (eC .non) := ⟨pe_non, sem_c fun _ => rep_non.mpr rfl⟩
theorem se_glob {v : V} {u : Value} {d : D} (hg : Gl X x) (hm : X.mg x = some u) (r : RelV v u) (h : ∀ F, Rep X.K F d v) (hd : (x == ("__debug__" : Str)) = false := by decide) : SE X (.Name x pos) (tC v) (eC d) := ⟨pe_glob hg hm r hd, sem_c h⟩
theorem se_ty {n : String} (hg : Gl X x) (hm : X.mg x = none) (hv : bootBuiltins x = some (.type n)) (hn : x ≠ "__name__" := by decide) (hd : (x == ("__debug__" : Str)) = false := by decide) : SE X (.Name x pos) (tC (.ty n)) (eC (.ty n)) :=
  ⟨pe_bltn hg hm hv (show RelV (.ty n) (.type n) from rfl) hn hd, sem_c fun _ => rep_ty.mpr rfl⟩
theorem se_bin {op : Operator} {r : R2} {g : D → D → Option D} (ho : OpR X (binaryOp op) r) (L : Lf2 X.K r g) (ha : SE X a ta fa) (hb : SE X b tb fb) : SE X (.BinOp a op b pos) (tOp r ta tb) (e2 g fa fb) := ⟨pe_op ho ha.pe hb.pe, sem_op ha.se hb.se L⟩
def dNeg : D → Option D
  | .int i => some (.int (-i))
  | _ => none
theorem lf_neg {K : PySem.W.Frag} : Lf1 K (rU fun i => .int (-i)) dNeg := fun F H a x e ra d hd Q q => by
  unfold dNeg at hd
  split at hd
  · cases hd
    exact ⟨_, rep_int.mp ra, q _ F H (.refl e) (rep_int.mpr rfl)⟩
  · cases hd
theorem se_neg (ha : SE X a ta fa) : SE X (.UnaryOp .USub a pos) (tUn (rU fun i => .int (-i)) ta) (e1 dNeg fa) := ⟨pe_un un_neg ha.pe, sem_un ha.se lf_neg⟩
theorem se_cmp {op : CmpOp} {r : R2} {g : D → D → Option D} (ho : OpR X (compareOp op) r) (L : Lf2 X.K r g) (ha : SE X a ta fa) (hb : SE X b tb fb) (hm : behindInMarks op b = false := by with_unfolding_all rfl) : SE X (.Compare a [op] [b] pos) (tOp r ta tb) (e2 g fa fb) := ⟨pe_cmpR ho ha.pe hb.pe hm, sem_op ha.se hb.se L⟩
theorem st_cmp {op : CmpOp} {r : R2} {g : D → D → Option D} (ho : OpR X (compareOp op) r) (L : Lf2 X.K r g) (ha : SE X a ta fa) (hb : SE X b tb fb) (hm : behindInMarks op b = false := by with_unfolding_all rfl) : ST X (.Compare a [op] [b] pos) (tTest (tOp r ta tb)) (tB (e2 g fa fb)) := ⟨pt_cmpR ho ha.pe hb.pe hm, sem_test (sem_op ha.se hb.se L)⟩
theorem st_chain {op op' : CmpOp} {r r' : R2} {g g' : D → D → Option D} (ho : OpR X (compareOp op) r) (ho' : OpR X (compareOp op') r') (L : Lf2 X.K r g) (L' : Lf2 X.K r' g') (ha : SE X a ta fa) (hb : SE X b tb fb) (hc : SE X c tc fc) (hm : lastMarks [op, op'] [b, c] = false := by with_unfolding_all rfl) :
    ST X (.Compare a [op, op'] [b, c] pos) (tTest (tChain r r' ta tb tc)) (tB (fChain g g' fa fb fc)) := ⟨pt_chain ho ho' ha.pe hb.pe hc.pe hm, sem_test (sem_chain ha.se hb.se hc.se L L')⟩
theorem se_and (ha : SE X a ta fa) (hb : SE X (.BoolOp .And (b :: es) pos) tb fb) : SE X (.BoolOp .And (a :: b :: es) pos) (tAndV ta tb) (fAndV fa fb) := ⟨pe_and ha.pe hb.pe, sem_andV ha.se hb.se⟩
theorem se_or (ha : SE X a ta fa) (hb : SE X (.BoolOp .Or (b :: es) pos) tb fb) : SE X (.BoolOp .Or (a :: b :: es) pos) (tOrV ta tb) (fOrV fa fb) := ⟨pe_or ha.pe hb.pe, sem_orV ha.se hb.se⟩
theorem se_one {op : BoolOp} (ha : SE X a ta fa) : SE X (.BoolOp op [a] pos) ta fa := ⟨pe_one ha.pe, ha.se⟩
theorem se_not (ha : SE X a ta fa) : SE X (.UnaryOp .Not a pos) (tNotV ta) (fNotV fa) := ⟨pe_not ha.pe, sem_notV ha.se⟩
theorem st_val (ha : SE X a ta fa) (he : ∀ whole, isTrue a X.env whole = (do let v ← whole; standAt a.pos; holding [v] (truthy v)) := by intro _; rfl) : ST X a (L2.tB ta) (tB fa) := ⟨pt_val ha.pe he, sem_B ha.se⟩
section
variable {t u : TT} {f g : E → Option Bool}
theorem sw_t (h : SW X e t f) : ST X e t f := ⟨h.pe.pt, h.se⟩
theorem sw_and (ha : ST X a t f) (hb : SW X (.BoolOp .And (b :: es) pos) u g) : SW X (.BoolOp .And (a :: b :: es) pos) (tAnd t u) (fAnd f g) := ⟨pw_and ha.pe hb.pe, sem_and ha.se hb.se⟩
theorem sw_or (ha : ST X a t f) (hb : SW X (.BoolOp .Or (b :: es) pos) u g) : SW X (.BoolOp .Or (a :: b :: es) pos) (tOr t u) (fOr f g) := ⟨pw_or ha.pe hb.pe, sem_or ha.se hb.se⟩
theorem sw_and1 (ha : ST X a t f) : SW X (.BoolOp .And [a] pos) t f := ⟨pw_and1 ha.pe, ha.se⟩
theorem sw_or1 (ha : ST X a t f) : SW X (.BoolOp .Or [a] pos) t f := ⟨pw_or1 ha.pe, ha.se⟩
theorem st_not (ha : ST X a t f) : ST X (.UnaryOp .Not a pos) (tNot t) (fNot f) := ⟨pt_not ha.pe, sem_not ha.se⟩
theorem se_ifx (hc : ST X c t f) (ha : SE X a ta fa) (hb : SE X b tb fb) : SE X (.IfExp c a b pos) (tIf t ta tb) (fIf f fa fb) := ⟨pe_ifExp hc.pe ha.pe hb.pe, sem_if hc.se ha.se hb.se⟩
theorem sts_nil : STs X [] tYes fYes := ⟨pts_nil, sem_yes⟩
end
theorem sa_nil : SA X [] tNil aNil := ⟨pa_nil, sem_nil⟩
theorem sa_cons {t : TA} {f : E → Option (List D)} (ha : SE X e te fe) (hr : SA X es t f) (hs : starEach (e :: es) X.env = (false, eval e X.env) :: starEach es X.env := by rfl) : SA X (e :: es) (tCons te t) (aCons fe f) := ⟨pa_cons ha.pe hr.pe hs, sem_cons ha.se hr.se⟩
section
variable {t : TA} {f : E → Option (List D)}
theorem se_tup {k : Nat} (h : SA X es t f) : SE X (.Tuple es k pos) (tTup t) (fTup f) := ⟨pe_tup h.pe, sem_tup h.se⟩
theorem sn_lst (h : SA X es t f) : SN X (.List es pos) (tLst t) (fLst f) := ⟨pe_lst h.pe, sem_lst h.se⟩
theorem se_call {k n : Nat} {m : List D → Option D} (F : Fx X.prog X.w X.K X.mg X.base k x n m) (hr : Room k X.A) (hg : Gl X x) (ha : SA X (e :: es) t f) (hdb : (x == ("__debug__" : Str)) = false := by decide) (he : starEach (e :: es) X.env = (false, eval e X.env) :: starEach es X.env := by rfl)
    (hpl : (backTo pos (starEach es X.env)).any (·.1) = false := by rfl) : SE X (.Call (.Name x p) (e :: es) [] pos) (tCall (spD X.K n m) [] E0 t) (eA m f) := by
  obtain ⟨a, fd, ps, h1, h2, h3, h4⟩ := F.ok
  exact ⟨pe_call h1 hr hg h2 h3 h4 .nil pass0 ha.pe hdb he hpl, sem_call F.hm ha.se⟩
theorem se_callB {id : String} {r : List V → Hp → VK → Prop} {g : List D → Option D} (hc : CallR X (.builtin id) r) (L : LfC X.K r g) (hg : Gl X x) (hm : X.mg x = none) (hv : bootBuiltins x = some (.builtin id)) (ha : SA X (e :: es) t f) (hn : x ≠ "__name__" := by decide) (hdb : (x == ("__debug__" : Str)) = false := by decide)
    (he : starEach (e :: es) X.env = (false, eval e X.env) :: starEach es X.env := by rfl) (hpl : (backTo pos (starEach es X.env)).any (·.1) = false := by rfl) : SE X (.Call (.Name x p) (e :: es) [] pos) (tCB r t) (eA g f) := ⟨pe_callB hc hg hm hv ha.pe hn hdb he hpl, sem_callB ha.se L⟩
theorem sn_callB {id : String} {r : List V → Hp → VK → Prop} {g : List D → Option O} (hc : CallR X (.builtin id) r) (L : LfCN X.K r g) (hg : Gl X x) (hm : X.mg x = none) (hv : bootBuiltins x = some (.builtin id)) (ha : SA X (e :: es) t f) (hn : x ≠ "__name__" := by decide) (hdb : (x == ("__debug__" : Str)) = false := by decide)
    (he : starEach (e :: es) X.env = (false, eval e X.env) :: starEach es X.env := by rfl) (hpl : (backTo pos (starEach es X.env)).any (·.1) = false := by rfl) : SN X (.Call (.Name x p) (e :: es) [] pos) (tCB r t) (eNA g f) := ⟨pe_callB hc hg hm hv ha.pe hn hdb he hpl, sem_callBN ha.se L⟩
theorem se_callTy {T : String} {r : List V → Hp → VK → Prop} {g : List D → Option D} (hc : CallR X (.type T) r) (L : LfC X.K r g) (hg : Gl X x) (hm : X.mg x = none) (hv : bootBuiltins x = some (.type T)) (ha : SA X (e :: es) t f) (hn : x ≠ "__name__" := by decide) (hdb : (x == ("__debug__" : Str)) = false := by decide)
    (he : starEach (e :: es) X.env = (false, eval e X.env) :: starEach es X.env := by rfl) (hpl : (backTo pos (starEach es X.env)).any (·.1) = false := by rfl) : SE X (.Call (.Name x p) (e :: es) [] pos) (tCB r t) (eA g f) := ⟨pe_callTy hc hg hm hv ha.pe hn hdb he hpl, sem_callB ha.se L⟩
theorem sn_callTy {T : String} {r : List V → Hp → VK → Prop} {g : List D → Option O} (hc : CallR X (.type T) r) (L : LfCN X.K r g) (hg : Gl X x) (hm : X.mg x = none) (hv : bootBuiltins x = some (.type T)) (ha : SA X (e :: es) t f) (hn : x ≠ "__name__" := by decide) (hdb : (x == ("__debug__" : Str)) = false := by decide)
    (he : starEach (e :: es) X.env = (false, eval e X.env) :: starEach es X.env := by rfl) (hpl : (backTo pos (starEach es X.env)).any (·.1) = false := by rfl) : SN X (.Call (.Name x p) (e :: es) [] pos) (tCB r t) (eNA g f) := ⟨pe_callTy hc hg hm hv ha.pe hn hdb he hpl, sem_callBN ha.se L⟩
end
theorem se_ix (hu : X.A.units + 1 < cLine) (ha : SE X a ta fa) (hb : SE X b tb fb) (hs : PlainIx b := by intro _ _; rfl) : SE X (.Subscript a b pos) (tOp (rIxA X.K) ta tb) (e2 dIx fa fb) := ⟨pe_ix (ix_all hu) ha.pe hb.pe hs, sem_op ha.se hb.se lf_ix⟩
theorem sn_rev {k : Nat} {p1 p2 p3 : Pos} (h : SE X e te fe) : SN X (.Subscript e (.Slice none none (some (.UnaryOp .USub (.Constant (.int 1) k p1) p2)) p3) pos) (tRevL X.K te) (eN1 dRev fe) := ⟨pe_revL h.pe, sem_rev h.se⟩
theorem si_seq {tg : Expr} (h : SE X e te fe) : SI X tg e (iSeq X.K te) (fSeq fe) := ⟨pi_seq h.pe, sem_iSeq h.se⟩
section
variable {t : TA} {f : E → Option (List D)} {tg : Expr}
theorem si_r1 (hg : Gl X "range") (hm : X.mg "range" = none) (h : SA X [a] t f) (hs : starEach [a] X.env = [(false, eval a X.env)] := by rfl) : SI X tg (.Call (.Name "range" p) [a] [] pos) (iRng1 t) (fRng1 f) := ⟨pi_range1 hg hm h.pe hs, sem_iRng1 h.se⟩
theorem si_enum {k : Nat} {tp : Pos} (hg : Gl X "enumerate") (hm : X.mg "enumerate" = none) (h : SA X [a] t f) (hs : starEach [a] X.env = [(false, eval a X.env)] := by rfl) : SI X (.Tuple es k tp) (.Call (.Name "enumerate" p) [a] [] pos) (iEnumA X.K t) (fEnum f) := ⟨pi_enumA hg hm h.pe hs, sem_iEnum h.se⟩
end
theorem sg_n {i : Nat} (hN : X.N.Nodup) (hi : X.N[i]? = some x) (hx : Loc X.env.scope x) (hf : X.fn x = true ∨ X.env.scope.names.lookup x = some .local := by first | exact .inl rfl | exact .inr rfl | assumption) : SG X (.Name x pos) (gName i) (gN i) := ⟨pg_name hN hi hx hf, sem_gN⟩
theorem sgs_nil : SGs X [] gNil gsN := ⟨pgs_nil, sem_gsN⟩
theorem sgs_cons {t : TG} {u : TGs} {f : FG} {fs : List D → Option (List (Nat × D))} (h1 : SG X e t f) (h2 : SGs X es u fs) (hs : (assignEach (e :: es) X.env).map (·.2) = assign e X.env :: (assignEach es X.env).map (·.2) := by rfl) : SGs X (e :: es) (gCons t u) (gsC f fs) := ⟨pgs_cons h1.pe h2.pe hs, sem_gsC h1.se h2.se⟩
theorem gs_len2 {f g : FG} (xs : List D) (ws : List (Nat × D)) (h : gsC f (gsC g gsN) xs = some ws) : xs.length = 2 := by
  match xs, h with
  | [], h => simp [gsC] at h
  | [a], h => simp [gsC] at h
  | [a, b], _ => rfl
  | a :: b :: c :: r, h => simp [gsC, gsN] at h
theorem gs_len3 {f g k : FG} (xs : List D) (ws : List (Nat × D)) (h : gsC f (gsC g (gsC k gsN)) xs = some ws) : xs.length = 3 := by
  match xs, h with
  | [], h => simp [gsC] at h
  | [a], h => simp [gsC] at h
  | [a, b], h => simp [gsC] at h
  | [a, b, c], _ => rfl
  | a :: b :: c :: d :: r, h => simp [gsC, gsN] at h
theorem sg_t {k n : Nat} {u : TGs} {fs : List D → Option (List (Nat × D))} (hc : X.calm = true) (h : SGs X es u fs) (hl : ∀ xs ws, fs xs = some ws → xs.length = n) (hn : (assignEach es X.env).length = n := by rfl) (hst : (assignEach es X.env).findIdx? (·.1) = none := by rfl) : SG X (.Tuple es k pos) (gTup X.K n u) (gT fs) := ⟨pg_tup hc h.pe hn hst, sem_gT h.se hl⟩
end
end Mi
namespace Mi
open PySem PySem.Spec PyProof.Rows L2
section
variable {X : Cx} {a b c e : Expr} {es : List Expr} {ta tb tc te : TE} {fa fb fc fe : FE} {pos p apos : Pos} {x : Str}
theorem sn_lc {elt tg iter : Expr} {ifs : List Expr} {scope : Scope} {own : List (Str × Nat)} {wi : TI} {g : TG} {tt : TT} {fi : E → Option (List D)} {gf : FG} {fcn : E → Option Bool} (hc : X.calm = true) (hN : X.N.Nodup) (hi : SI X tg iter wi fi) (ok : BlkOk X.N X.env.scope scope own)
    (hg : ∀ (s : Shared) (H : Hp) (C : Addr) (cl : List (Str × Addr)) (fp : List Addr), SG (X.blk s H scope (compEnvC scope cl C X.env) fp) tg g gf) (ht : ∀ (s : Shared) (H : Hp) (C : Addr) (cl : List (Str × Addr)) (fp : List Addr), STs (X.blk s H scope (compEnvC scope cl C X.env) fp) ifs tt fcn)
    (he : ∀ (s : Shared) (H : Hp) (C : Addr) (cl : List (Str × Addr)) (fp : List Addr), SE (X.blk s H scope (compEnvC scope cl C X.env) fp) elt te fe) (hw : ∀ d ws, gf d = some ws → ∀ p ∈ ws.map (·.1), p ∈ own.map (·.2)) (hs : ∀ x, foldedSetIterable iter X.env x = pure x := by intro _; rfl) :
    SN X (.ListComp elt [⟨tg, iter, ifs, 0⟩] scope pos) (tLc wi g tt te (own.map (·.2))) (fLc fi gf fcn fe (own.map (·.2))) :=
  ⟨pe_lc hc hN hi.pe ok (fun s H C cl fp => (hg s H C cl fp).pe) (fun s H C cl fp => (ht s H C cl fp).pe) (fun s H C cl fp => (he s H C cl fp).pe) hs,
    sem_lc hi.se (hg X.s_0 X.H_0 0 [] []).se (ht X.s_0 X.H_0 0 [] []).se (he X.s_0 X.H_0 0 [] []).se hw⟩
theorem own1 {i : Nat} {x : Str} : ∀ d ws, gN i d = some ws → ∀ p ∈ ws.map (·.1), p ∈ [(x, i)].map (·.2) := fun d ws h p hp => by
  cases h
  simpa using hp
theorem gs_two {f g : FG} {d : D} {ws : List (Nat × D)} (h : gT (gsC f (gsC g gsN)) d = some ws) : ∃ a b w1 w2, f a = some w1 ∧ g b = some w2 ∧ ws = w1 ++ w2 := by
  unfold gT at h
  split at h
  · rename_i xs
    match xs, h with
    | [], h => simp [gsC] at h
    | [a], h => simp [gsC] at h
    | a :: b :: c :: r, h => simp [gsC, gsN] at h
    | [a, b], h =>
      obtain ⟨w1, h1, h⟩ := Option.bind_eq_some_iff.mp h
      obtain ⟨w2, h2, h⟩ := Option.bind_eq_some_iff.mp h
      obtain ⟨w3, h3, h4⟩ := Option.bind_eq_some_iff.mp h2
      obtain ⟨w4, h5, h6⟩ := Option.bind_eq_some_iff.mp h4
      cases h5
      cases h6
      cases h
      exact ⟨a, b, w1, w3, h1, h3, by simp⟩
  · cases h
theorem own2 {i j : Nat} {x y : Str} : ∀ d ws, gT (gsC (gN i) (gsC (gN j) gsN)) d = some ws → ∀ p ∈ ws.map (·.1), p ∈ [(x, i), (y, j)].map (·.2) := fun d ws h p hp => by
  obtain ⟨a, b, w1, w2, h1, h2, rfl⟩ := gs_two h
  cases h1
  cases h2
  simpa using hp
end
section
variable {X : Cx} {W : XK} {a b c e : Expr} {es : List Expr} {ta tb tc te : TE} {fa fb fc fe : FE} {pos p apos pos' : Pos} {x : Str} {i : Nat} {st : Stmt} {rest : List Stmt} {g h : FS}
theorem sss_nil : SSs X W [] sNext := ⟨_, pss_nil, ss_next⟩
theorem sss_cons (h1 : SS X W st g) (h2 : SSs X W rest h) : SSs X W (st :: rest) (sSeq g h) := by
  obtain ⟨t, p1, s1⟩ := h1
  obtain ⟨u, p2, s2⟩ := h2
  exact ⟨_, pss_cons p1 p2, ss_seq s1 s2⟩
theorem sss_one (h1 : SS X W st g) : SSs X W [st] g := by
  obtain ⟨t, p1, s1⟩ := h1
  exact ⟨_, pss_one p1, s1⟩
theorem sp_frz (i : Nat) (h1 : SS X W st g) : SS X W st (sFrz i g) := by
  obtain ⟨t, p1, s1⟩ := h1
  exact ⟨_, p1, ss_frz s1⟩
theorem sp_set (hN : X.N.Nodup) (hi : X.N[i]? = some x) (hx : Loc X.env.scope x) (he : SE X e te fe) (hs : swapsWith e (some (.Name x pos')) pos.line X.env = pure false := by rfl) (hf : X.fn x = true ∨ X.env.scope.names.lookup x = some .local := by first | exact .inl rfl | exact .inr rfl | assumption) :
    SS X W (.Assign [.Name x pos'] e pos) (sAsg i fe) := ⟨_, ps_set hN hi hx he.pe hs hf, ss_asg he.se⟩
theorem sp_setN {f : E → Option O} (hN : X.N.Nodup) (hi : X.N[i]? = some x) (hx : Loc X.env.scope x) (he : SN X e te f) (hs : swapsWith e (some (.Name x pos')) pos.line X.env = pure false := by rfl) (hf : X.fn x = true ∨ X.env.scope.names.lookup x = some .local := by first | exact .inl rfl | exact .inr rfl | assumption) :
    SS X W (.Assign [.Name x pos'] e pos) (sAsgN i f) := ⟨_, ps_set hN hi hx he.pe hs hf, ss_asgN he.se⟩
section
variable {elt tg iter : Expr} {ifs : List Expr} {scope : Scope} {own : List (Str × Nat)} {wi : TI} {gg : TG} {tt : TT} {fi : E → Option (List D)} {gf : FG} {fcn : E → Option Bool} {py : Pos} {y : Str}
theorem lc_pe (hc : X.calm = true) (hN : X.N.Nodup) (hy : X.N[i]? = some y) (hyl : X.env.scope.names.lookup y = some .local) (hsw : swapsWith (.ListComp elt [⟨tg, iter, ifs, 0⟩] scope pos) (some (.Name y py)) apos.line X.env = pure true)
    (hi : SI X tg iter wi fi) (ok : BlkOk X.N X.env.scope scope own)
    (hg : ∀ (s : Shared) (H : Hp) (C : Addr) (cl : List (Str × Addr)) (fp : List Addr), SG (X.blk s H scope (compEnvC scope cl C X.env) fp) tg gg gf) (ht : ∀ (s : Shared) (H : Hp) (C : Addr) (cl : List (Str × Addr)) (fp : List Addr), STs (X.blk s H scope (compEnvC scope cl C X.env) fp) ifs tt fcn)
    (he : ∀ (s : Shared) (H : Hp) (C : Addr) (cl : List (Str × Addr)) (fp : List Addr), SE (X.blk s H scope (compEnvC scope cl C X.env) fp) elt te fe) (hw : ∀ d ws, gf d = some ws → ∀ p ∈ ws.map (·.1), p ∈ own.map (·.2)) (hs : ∀ x, foldedSetIterable iter X.env x = pure x := by intro _; rfl) :
    PS X (.Assign [.Name y py] (.ListComp elt [⟨tg, iter, ifs, 0⟩] scope pos) apos) (tAsg (tLc wi gg tt te (own.map (·.2))) (gName i)) ∧ SemN X.K (tLc wi gg tt te (own.map (·.2))) (fLc fi gf fcn fe (own.map (·.2))) :=
  ⟨ps_setLc hc hN hy hyl hsw hi.pe ok (fun s H C cl fp => (hg s H C cl fp).pe) (fun s H C cl fp => (ht s H C cl fp).pe) (fun s H C cl fp => (he s H C cl fp).pe) hs,
    sem_lc hi.se (hg X.s_0 X.H_0 0 [] []).se (ht X.s_0 X.H_0 0 [] []).se (he X.s_0 X.H_0 0 [] []).se hw⟩
/-- name = [..] -/
theorem sp_setLc {t : TE} {f : E → Option O} (h : PS X (.Assign [.Name y py] (.ListComp elt [⟨tg, iter, ifs, 0⟩] scope pos) apos) (tAsg t (gName i)) ∧ SemN X.K t f) : SS X W (.Assign [.Name y py] (.ListComp elt [⟨tg, iter, ifs, 0⟩] scope pos) apos) (sAsg i (eO f)) := ⟨_, h.1, ss_asg h.2.e⟩
end
theorem sp_asgT {tgt : Expr} {gg : TG} {gf : FG} (he : SE X e te fe) (hg : SG X tgt gg gf) (hs : swapsWithSole [tgt] e pos.line X.env = pure false := by rfl) (hw : swappedStores [tgt] e X.env = pure none := by rfl) (h1 : (assignEach [tgt] X.env).map (·.2) = [assign tgt X.env] := by rfl) :
    SS X W (.Assign [tgt] e pos) (sAsgT gf fe) := ⟨_, ps_asg he.pe hg.pe hs hw h1, ss_asgT he.se hg.se⟩
theorem sp_par {i j : Nat} {x y : Str} {t : TA} {f : E → Option (List D)} {px py pt pt2 : Pos} {kt k2 : Nat} (hc : X.calm = true) (hN : X.N.Nodup) (hi : X.N[i]? = some x) (hj : X.N[j]? = some y) (hij : i ≠ j)
    (hx : X.env.scope.names.lookup x = some .local) (hy : X.env.scope.names.lookup y = some .local) (ha : SA X [a, b] t f)
    (hw : swappedStores [.Tuple [.Name x px, .Name y py] kt pt] (.Tuple [a, b] k2 pt2) X.env = pure (some [x, y]) := by rfl) (hs : swapsWithSole [.Tuple [.Name x px, .Name y py] kt pt] (.Tuple [a, b] k2 pt2) pos.line X.env = pure false := by rfl) :
    SS X W (.Assign [.Tuple [.Name x px, .Name y py] kt pt] (.Tuple [a, b] k2 pt2) pos) (sPar i j f) := ⟨_, ps_par hc hN hi hj hij hx hy ha.pe hw hs, ss_par ha.se⟩
theorem sp_ret (he : SE X e te fe) : SS X W (.Return (some e) pos) (sRet fe) := ⟨_, ps_ret he.pe, ss_ret he.se⟩
theorem sp_if {t : TT} {f : E → Option Bool} {aa bb : List Stmt} (hc : ST X c t f) (ha : SSs X W aa g) (hb : SSs X W bb h) : SS X W (.If c aa bb pos) (sIf f g h) := by
  obtain ⟨t1, p1, s1⟩ := ha
  obtain ⟨t2, p2, s2⟩ := hb
  exact ⟨_, ps_if hc.pe p1 p2, ss_if hc.se s1 s2⟩
theorem sp_app {cpos : Pos} (ho : PE X a (tVar i)) (he : SE X e te fe) (hs : swapsWith (.Call (.Attribute a "append" apos) [e] [] cpos) none pos.line X.env = pure false := by rfl) (hd : starEach [e] X.env = (false, eval e X.env) :: starEach [] X.env := by rfl)
    (hbase : attributeBase a "append" X.env (eval a X.env) = eval a X.env := by rfl) (hfew : (((backTo cpos (starEach [e] X.env)).all fun x => !x.1) && (backToKw cpos (keywordEach [] X.env)).all fun x => x.1.isSome) && decide (([e].length + ([] : List Keyword).length + if ([] : List Keyword).isEmpty = true then 0 else 1) < 30) = true := by rfl)
    (hline : (apos.endLine == cpos.line) = true := by rfl) :
    SS X W (.Expr (.Call (.Attribute a "append" apos) [e] [] cpos) pos) (sApp i fe) :=
  ⟨_, ps_expr (pe_bm (hbase := hbase) (hfew := hfew) (hline := hline) (hs := hd) PySem.F.plainAttrs_list PySem.F.slot_list_append PySem.F.type_list_append mt_append ho (pa_cons he.pe pa_nil hd)) hs, ss_app he.se⟩
theorem sp_for {iter tgt : Expr} {body : List Stmt} {wi : TI} {gg : TG} {fi : E → Option (List D)} {gf : FG} (hp : PassesOwn (model X.prog X.w) X.A X.env X.xe) (hc : X.calm = true) (hi : SI X tgt iter wi fi) (hg : SG X tgt gg gf) (hb : SSs X W body g)
    (hs : ∀ x, foldedSetIterable iter X.env x = pure x := by intro _; rfl) : SS X W (.For tgt iter body [] pos) (sFor fi gf g) := by
  obtain ⟨t1, p1, s1⟩ := hb
  exact ⟨_, ps_for hp hc hi.pe hg.pe p1 hs, ss_for hi.se hg.se s1⟩
end
section
variable {P : Program} {w : World} {K : PySem.W.Frag} {mg : Str → Option Value} {base : Heap}
theorem rs_start {N : List Str} {ds : List D} {vs : List V} {F H : Hp} (e : Ex F H) (r : Reps K F ds vs) (hl : ds.length ≤ N.length) : RS K F H F H (L2.start N vs) (ds.map Slot.sh ++ List.replicate (N.length - ds.length) Slot.no) := by
  have hlen := r.len
  refine ⟨.refl e, ?_, fun i d h => ?_, fun i o h => ?_, fun i j o o' a h => ?_⟩
  · unfold L2.start
    simp [hlen]
  · by_cases hi : i < ds.length
    · rw [List.getElem?_append_left (by simpa using hi), List.getElem?_map] at h
      obtain ⟨d', h1, h2⟩ := Option.map_eq_some_iff.mp h
      cases h2
      obtain ⟨v, h3, h4⟩ := r.get h1
      refine ⟨v, ?_, h4⟩
      unfold L2.start
      rw [List.getElem?_append_left (by rw [List.length_map, ← hlen]; exact hi), List.getElem?_map, h3]
      rfl
    · rw [List.getElem?_append_right (by simpa using hi), List.getElem?_replicate] at h
      split at h <;> cases h
  · by_cases hi : i < ds.length
    · rw [List.getElem?_append_left (by simpa using hi), List.getElem?_map] at h
      obtain ⟨d', h1, h2⟩ := Option.map_eq_some_iff.mp h
      cases h2
    · rw [List.getElem?_append_right (by simpa using hi), List.getElem?_replicate] at h
      split at h <;> cases h
  · exfalso
    by_cases hi : i < ds.length
    · rw [List.getElem?_append_left (by simpa using hi), List.getElem?_map] at h
      obtain ⟨d', h1, h2⟩ := Option.map_eq_some_iff.mp h
      cases h2
    · rw [List.getElem?_append_right (by simpa using hi), List.getElem?_replicate] at h
      split at h <;> cases h
theorem fn_mk {x : Str} {st : Stmt} {f : Addr} {fd : FuncData} {N ps : List Str} {k : Nat} {g : FS} (Fn : Fun K x x st f fd) (S : FnScope N ps (defScope st)) (hpl : ps.length ≤ N.length)
    (body : ∀ (cdv : Value) (A : Around) (outer : List Env) (s : Shared) (H : Hp) (W : XK), Room k (A.deeper (envOfC x (defScope st) s.heap.objs.size f cdv)) →
      SSs (cxOf CX0 P w K mg base N x (defScope st) f cdv A outer s H W).nox E0 (defBody st) g) : FnOk P w K mg base CX0 (k + 1) f fd ps (spD K ps.length (defM N.length ps.length g)) := by
  refine Fn.ok S (fun vs H Q W h => ?_) (fun cdv A outer s H vs Q W hr h => ?_)
  · obtain ⟨F, ds, d, _, _, hl, _⟩ := h
    exact hl
  · obtain ⟨F, ds, d, e, r, hl, hd, q⟩ := h
    obtain ⟨t, hp, hs⟩ := body cdv A outer s H W hr
    refine ⟨t, hp, ?_⟩
    have hdl : ds.length = ps.length := by rw [r.len, hl]
    unfold defM at hd
    rw [if_pos hdl] at hd
    obtain ⟨o, ho, hd⟩ := Option.bind_eq_some_iff.mp hd
    rw [← hdl] at ho
    refine hs F H F H _ _ (rs_start e r (by omega)) o ho _ ?_
    cases o with
    | nx ρ =>
      cases hd
      exact fun F1 H1 σ r1 _ => q _ F1 H1 r1.gr (rep_non.mpr rfl)
    | rt d' =>
      cases hd
      exact fun F1 H1 v g1 r1 => q v F1 H1 g1 r1
    | bk ρ => cases hd
    | ct ρ => cases hd
    | ex c => cases hd
theorem fx_mk {x : Str} {st : Stmt} {f : Addr} {fd : FuncData} {N ps : List Str} {k : Nat} {g : FS} (Fn : Fun K x x st f fd) (S : FnScope N ps (defScope st)) (hmg : mg x = some (.ref f)) (hb : Binds K fd ps []) (hpl : ps.length ≤ N.length)
    (body : ∀ (cdv : Value) (A : Around) (outer : List Env) (s : Shared) (H : Hp) (W : XK), Room k (A.deeper (envOfC x (defScope st) s.heap.objs.size f cdv)) →
      SSs (cxOf CX0 P w K mg base N x (defScope st) f cdv A outer s H W).nox E0 (defBody st) g) : Fx P w K mg base (k + 1) x ps.length (defM N.length ps.length g) :=
  ⟨⟨f, fd, ps, fn_mk Fn S hpl body, hmg, Fn.kp, hb⟩, fun ds d h => defM_len ds d h⟩
theorem fx_mkL {x : Str} {st : Stmt} {f : Addr} {fd : FuncData} {N ps : List Str} {k n m : Nat} {g : FS} (Fn : Fun K x x st f fd) (S : FnScope N ps (defScope st)) (hmg : mg x = some (.ref f)) (hb : Binds K fd ps []) (hpl : ps.length ≤ N.length) (hn : ps.length = n) (hm : N.length = m)
    (body : ∀ (cdv : Value) (A : Around) (outer : List Env) (s : Shared) (H : Hp) (W : XK), Room k (A.deeper (envOfC x (defScope st) s.heap.objs.size f cdv)) →
      SSs (cxOf CX0 P w K mg base N x (defScope st) f cdv A outer s H W).nox E0 (defBody st) g) : Fx P w K mg base (k + 1) x n (defM m n g) := by
  subst hn hm
  exact fx_mk Fn S hmg hb hpl body
end
end Mi
namespace Mi
open PySem PySem.Spec PyProof.Rows L2
abbrev Tab := List (Str × Option D)
structure KTab (K : PySem.W.Frag) (w : World) (d : Addr) (tbl : Tab) : Prop where
  kd : ∃ es n, KDict K w d es n
  at_ : ∀ z o, tbl.lookup z = some o → match o with
    | none => PySem.W.nsIn K d z = some none
    | some dd => ∃ u v, PySem.W.nsIn K d z = some (some u) ∧ RelV v u ∧ ∀ F, Rep K F dd v
def kIn (tbl : Tab) : D → Option D
  | .str z => (tbl.lookup z).map fun o => .bl o.isSome
  | _ => none
def kNin (tbl : Tab) : D → Option D
  | .str z => (tbl.lookup z).map fun o => .bl (!o.isSome)
  | _ => none
def kIx (tbl : Tab) : D → Option D
  | .str z => (tbl.lookup z).bind id
  | _ => none
section
variable {X : Cx} {a b : Expr} {ta : TE} {fa : FE} {pos : Pos} {x : Str} {d : Addr} {tbl : Tab}
theorem sem_knin {r : R2} (hr : ∀ (x : V) (H : Hp) (Q : VK) (z : Str) (o : Option Value), x = .str z → PySem.W.nsIn X.K d z = some o → Q (.bl (!o.isSome)) H → r x (.ref d) H Q) (T : KTab X.K X.w d tbl) (ha : SemE X.K ta fa) : SemE X.K (tOp r ta (tC (.ref d))) (e1 (kNin tbl) fa) := fun F H σ ρ e re dd h Q q => by
  obtain ⟨y, h1, h2⟩ := Option.bind_eq_some_iff.mp h
  refine ha F H σ ρ e re y h1 _ fun v F1 H1 g1 r1 => ?_
  unfold kNin at h2
  split at h2
  · obtain ⟨o, h3, rfl⟩ := Option.map_eq_some_iff.mp h2
    have z := T.at_ _ _ h3
    cases o with
    | none => exact hr v H1 Q _ none (rep_str.mp r1) z (q _ F1 H1 g1 (rep_bl.mpr rfl))
    | some dd =>
      obtain ⟨u, v', e1, _⟩ := z
      exact hr v H1 Q _ (some u) (rep_str.mp r1) e1 (q _ F1 H1 g1 (rep_bl.mpr rfl))
  · cases h2
def rKnin (K : PySem.W.Frag) (d : Addr) : R2 := fun x y H Q => ∃ (z : Str) (r : Option Value), x = .str z ∧ y = .ref d ∧ PySem.W.nsIn K d z = some r ∧ Q (.bl (!r.isSome)) H
theorem op_knin (T : KTab X.K X.w d tbl) : OpR X (compareOp .NotIn) (rKnin X.K d) := by
  obtain ⟨es, n, D⟩ := T.kd
  exact op_notIn_kd D
variable {p : Pos}
theorem st_knin (T : KTab X.K X.w d tbl) (ha : SE X a ta fa) (hg : Gl X x) (hm : X.mg x = some (.ref d)) (hd : (x == ("__debug__" : Str)) = false := by decide) : ST X (.Compare a [.NotIn] [.Name x p] pos) (tTest (tOp (rKnin X.K d) ta (tC (.ref d)))) (tB (e1 (kNin tbl) fa)) :=
  ⟨pt_cmpR (op_knin T) ha.pe (pe_glob hg hm (show RelV (.ref d) (.ref d) from rfl) hd) (by with_unfolding_all rfl), sem_test (sem_knin (fun x H Q z o e1 e2 q => ⟨z, o, e1, rfl, e2, q⟩) T ha.se)⟩
theorem sem_kix (T : KTab X.K X.w d tbl) (ha : SemE X.K ta fa) : SemE X.K (tOp (rIxD X.K X.w) (tC (.ref d)) ta) (e1 (kIx tbl) fa) := fun F H σ ρ e re dd h Q q => by
  obtain ⟨y, h1, h2⟩ := Option.bind_eq_some_iff.mp h
  refine ha F H σ ρ e re y h1 _ fun v F1 H1 g1 r1 => ?_
  unfold kIx at h2
  split at h2
  · obtain ⟨o, h3, h4⟩ := Option.bind_eq_some_iff.mp h2
    have h4 : o = some dd := h4
    subst h4
    obtain ⟨u, v', e1, e2, e3⟩ := T.at_ _ _ h3
    obtain ⟨es, n, D⟩ := T.kd
    exact ⟨d, _, v', rfl, rep_str.mp r1, ⟨es, n, u, D.at_, D.lit, e1, e2⟩, q _ F1 H1 g1 (e3 F1)⟩
  · cases h2
theorem se_kix (T : KTab X.K X.w d tbl) (ha : SE X a ta fa) (hg : Gl X x) (hm : X.mg x = some (.ref d)) (hs : PlainIx a := by intro _ _; rfl) (hd : (x == ("__debug__" : Str)) = false := by decide) : SE X (.Subscript (.Name x p) a pos) (tOp (rIxD X.K X.w) (tC (.ref d)) ta) (e1 (kIx tbl) fa) :=
  ⟨pe_ix ix_kdict (pe_glob hg hm (show RelV (.ref d) (.ref d) from rfl) hd) ha.pe hs, sem_kix T ha.se⟩
end
end Mi
namespace Mi
open PySem PySem.Spec PyProof.Rows L2
theorem mb_abs : bootBuiltins "abs" = some (.builtin "abs") := by decide +kernel
theorem mb_int : bootBuiltins "int" = some (.type "int") := by decide +kernel
theorem mb_tuple : bootBuiltins "tuple" = some (.type "tuple") := by decide +kernel
theorem mb_list : bootBuiltins "list" = some (.type "list") := by decide +kernel
theorem mb_type : bootBuiltins "type" = some (.type "type") := by decide +kernel
theorem mb_sorted : bootBuiltins "sorted" = some (.builtin "sorted") := by decide +kernel
section
variable {X : Cx} {e : Expr} {te : TE} {fe : FE} {pos p : Pos}
theorem sp_nil : SP X pos [] [] [] pNil := ⟨pps_nil, sem_pNil⟩
theorem sp_cons {k : Str} {j : Nat} {ks : List (Option Expr)} {vs : List Expr} {trs : List (TE × TE)} {f : E → Option (List (Key × D))} (hv : SE X e te fe) (hr : SP X pos ks vs trs f) : SP X pos (some (.Constant (.str k) j p) :: ks) (e :: vs) ((tC (.str k), te) :: trs) (pCons k fe f) := ⟨pps_cons pe_str hv.pe hr.pe, sem_pCons hv.se hr.se⟩
theorem sn_disp {ks : List (Option Expr)} {vs : List Expr} {trs : List (TE × TE)} {f : E → Option (List (Key × D))} (h : SP X pos ks vs trs f) (hall : ks.all (·.isSome) = true := by rfl) (hl : ks.length = vs.length := by rfl) (h0 : ks ≠ [] := by exact fun z => by cases z) (h15 : ks.length ≤ 15 := by decide) :
    SN X (.Dict ks vs pos) (tDisp trs) (fDisp f) := ⟨pe_disp h.pe hall hl h0 h15, sem_disp h.se⟩
end
end Mi
namespace Mi
open PySem PySem.Spec PyProof.Rows L2
section
variable {X : Cx} (K : PySem.W.Frag)
theorem op_add' (hK : X.K = K := by rfl) : OpR X (binaryOp .Add) (rAddA K) := hK ▸ op_addA
theorem op_mul' (hK : X.K = K := by rfl) : OpR X (binaryOp .Mult) (rMulA K) := hK ▸ op_mulA
theorem op_eq' (hu : X.A.units + 64 < cLine) (hK : X.K = K := by rfl) : OpR X (compareOp .Eq) (rEqA K) := hK ▸ op_eqA hu
theorem op_in' (hu : X.A.units + 1 < cLine) (hK : X.K = K := by rfl) : OpR X (compareOp .In) (rInA K) := hK ▸ op_inA hu
theorem op_nin' (hu : X.A.units + 1 < cLine) (hK : X.K = K := by rfl) : OpR X (compareOp .NotIn) (rNinA K) := hK ▸ op_ninA hu
theorem cl_len (hK : X.K = K := by rfl) : CallR X (.builtin "len") (rLenA K) := hK ▸ call_lenA
theorem cl_type (hK : X.K = K := by rfl) : CallR X (.type "type") (rTyp K) := hK ▸ call_type1
theorem cl_tuple (hK : X.K = K := by rfl) : CallR X (.type "tuple") (fun xs H Q => ∃ p ys, xs = [.ref p] ∧ ((SqL K H p ys ∧ ∀ l, H l = none → Q (.ref l) (upd H l (.tup ys))) ∨ (SqT K H p ys ∧ Q (.ref p) H))) := hK ▸ call_tuple_of
theorem cl_list (hK : X.K = K := by rfl) : CallR X (.type "list") (fun xs H Q => ∃ p ys, xs = [.ref p] ∧ (SqL K H p ys ∨ SqT K H p ys) ∧ ∀ l, H l = none → Q (.ref l) (upd H l (.lst ys))) := hK ▸ call_list_of
end
section
variable {X : Cx} (K : PySem.W.Frag) {a b c e : Expr} {es : List Expr} {ta tb tc te : TE} {fa fb fc fe : FE} {pos p apos : Pos} {x : Str}
theorem sx_ix (hu : X.A.units + 1 < cLine) (ha : SE X a ta fa) (hb : SE X b tb fb) (hs : PlainIx b := by intro _ _; rfl) (hK : X.K = K := by rfl) : SE X (.Subscript a b pos) (tOp (rIxA K) ta tb) (e2 dIx fa fb) := by
  subst hK
  exact se_ix hu ha hb hs
theorem sx_rev {k : Nat} {p1 p2 p3 : Pos} (h : SE X e te fe) (hK : X.K = K := by rfl) : SN X (.Subscript e (.Slice none none (some (.UnaryOp .USub (.Constant (.int 1) k p1) p2)) p3) pos) (tRevL K te) (eN1 dRev fe) := by
  subst hK
  exact sn_rev h
theorem sx_seq {tg : Expr} (h : SE X e te fe) (hK : X.K = K := by rfl) : SI X tg e (iSeq K te) (fSeq fe) := by
  subst hK
  exact si_seq h
section
variable {t : TA} {f : E → Option (List D)} {tg : Expr}
theorem sx_enum {k : Nat} {tp : Pos} (hg : Gl X "enumerate") (hm : X.mg "enumerate" = none) (h : SA X [a] t f) (hs : starEach [a] X.env = [(false, eval a X.env)] := by rfl) (hK : X.K = K := by rfl) : SI X (.Tuple es k tp) (.Call (.Name "enumerate" p) [a] [] pos) (iEnumA K t) (fEnum f) := by
  subst hK
  exact si_enum hg hm h hs
theorem sx_call {P : Program} {w : World} {mg : Str → Option Value} {base : Heap} {k n : Nat} {m : List D → Option D} (F : Fx P w K mg base k x n m) (hr : Room k X.A) (hg : Gl X x) (ha : SA X (e :: es) t f) (hP : X.prog = P := by rfl) (hw : X.w = w := by rfl) (hK : X.K = K := by rfl) (hmg : X.mg = mg := by rfl) (hb : X.base = base := by rfl)
    (hdb : (x == ("__debug__" : Str)) = false := by decide) (he : starEach (e :: es) X.env = (false, eval e X.env) :: starEach es X.env := by rfl)
    (hpl : (backTo pos (starEach es X.env)).any (·.1) = false := by rfl) : SE X (.Call (.Name x p) (e :: es) [] pos) (tCall (spD K n m) [] E0 t) (eA m f) := by
  subst hP hw hK hmg hb
  exact se_call F hr hg ha hdb he hpl
end
theorem sx_t {k n : Nat} {u : TGs} {fs : List D → Option (List (Nat × D))} (hc : X.calm = true) (h : SGs X es u fs) (hl : ∀ xs ws, fs xs = some ws → xs.length = n) (hn : (assignEach es X.env).length = n := by rfl) (hst : (assignEach es X.env).findIdx? (·.1) = none := by rfl) (hK : X.K = K := by rfl) : SG X (.Tuple es k pos) (gTup K n u) (gT fs) := by
  subst hK
  exact sg_t hc h hl hn hst
variable {w : World} {d : Addr} {tbl : Tab} {mg : Str → Option Value}
theorem tx_knin (T : KTab K w d tbl) (ha : SE X a ta fa) (hg : Gl X x) (hm : X.mg x = some (.ref d)) (hd : (x == ("__debug__" : Str)) = false := by decide) (hK : X.K = K := by rfl) (hw : X.w = w := by rfl) : ST X (.Compare a [.NotIn] [.Name x p] pos) (tTest (tOp (rKnin K d) ta (tC (.ref d)))) (tB (e1 (kNin tbl) fa)) := by
  subst hK hw
  exact st_knin T ha hg hm hd
theorem sx_kix (T : KTab K w d tbl) (ha : SE X a ta fa) (hg : Gl X x) (hm : X.mg x = some (.ref d)) (hs : PlainIx a := by intro _ _; rfl) (hd : (x == ("__debug__" : Str)) = false := by decide) (hK : X.K = K := by rfl) (hw : X.w = w := by rfl) : SE X (.Subscript (.Name x p) a pos) (tOp (rIxD K w) (tC (.ref d)) ta) (e1 (kIx tbl) fa) := by
  subst hK hw
  exact se_kix T ha hg hm hs hd
end
section
variable {X : Cx} {x : Str} {pos : Pos}
theorem se_gi {i : Int} {t : Tok} (hm : X.mg x = some (.int i t)) (hg : Gl X x := by rfl) (hd : (x == ("__debug__" : Str)) = false := by decide) : SE X (.Name x pos) (tC (.int i)) (eC (.int i)) := se_glob hg hm (show RelV (.int i) (.int i t) from ⟨t, rfl⟩) (fun _ => rep_int.mpr rfl) hd
theorem se_gr {a : Addr} {d : D} (hm : X.mg x = some (.ref a)) (h : ∀ F, Rep X.K F d (.ref a)) (hg : Gl X x := by rfl) (hd : (x == ("__debug__" : Str)) = false := by decide) : SE X (.Name x pos) (tC (.ref a)) (eC d) := se_glob hg hm (show RelV (.ref a) (.ref a) from rfl) h hd
end
end Mi
namespace Mi
open PySem PySem.Spec PyProof.Rows L2
section
variable {ρ : E} {r : SEnv} {fa fb fc : FE} {a b c d : D} {l xs ys : List D} {i j : Nat} {n m : Int} {k w : Str} {g h : FS} {tf uf : E → Option Bool} {fi fl : E → Option (List D)}
@[simp] theorem v_var : eVar i ρ = (ρ[i]?).bind id := rfl
@[simp] theorem v_c : eC d ρ = some d := rfl
@[simp] theorem v_e2 {f : D → D → Option D} : e2 f fa fb ρ = (fa ρ).bind fun a => (fb ρ).bind fun b => f a b := rfl
@[simp] theorem v_e1 {f : D → Option D} : e1 f fa ρ = (fa ρ).bind f := rfl
@[simp] theorem v_eN2 {f : D → D → Option O} : eN2 f fa fb ρ = (fa ρ).bind fun a => (fb ρ).bind fun b => f a b := rfl
@[simp] theorem v_eN1 {f : D → Option O} : eN1 f fa ρ = (fa ρ).bind f := rfl
@[simp] theorem v_eA {f : List D → Option D} : eA f fl ρ = (fl ρ).bind f := rfl
@[simp] theorem v_eNA {f : List D → Option O} : eNA f fl ρ = (fl ρ).bind f := rfl
@[simp] theorem v_eO {f : E → Option O} : eO f ρ = (f ρ).map O.d := rfl
@[simp] theorem v_nil : aNil ρ = some [] := rfl
@[simp] theorem v_cons : aCons fa fl ρ = (fa ρ).bind fun a => (fl ρ).bind fun r => some (a :: r) := rfl
@[simp] theorem v_tB : tB fa ρ = (fa ρ).bind D.b? := rfl
@[simp] theorem v_b {x : Bool} : (D.bl x).b? = some x := rfl
@[simp] theorem v_i : (D.int n).i? = some n := rfl
@[simp] theorem v_and : fAnd tf uf ρ = (tf ρ).bind fun b => if b = true then uf ρ else some false := rfl
@[simp] theorem v_or : fOr tf uf ρ = (tf ρ).bind fun b => if b = true then some true else uf ρ := rfl
@[simp] theorem v_not : fNot tf ρ = (tf ρ).bind fun b => some (!b) := rfl
@[simp] theorem v_andV : fAndV fa fb ρ = (fa ρ).bind fun a => a.b?.bind fun b => if b = true then fb ρ else some (.bl false) := rfl
@[simp] theorem v_orV : fOrV fa fb ρ = (fa ρ).bind fun a => a.b?.bind fun b => if b = true then some (.bl true) else fb ρ := rfl
@[simp] theorem v_notV : fNotV fa ρ = (fa ρ).bind fun a => a.b?.bind fun b => some (.bl (!b)) := rfl
@[simp] theorem v_if : fIf tf fa fb ρ = (tf ρ).bind fun b => if b = true then fa ρ else fb ρ := rfl
@[simp] theorem v_chain {f f' : D → D → Option D} : fChain f f' fa fb fc ρ = (fa ρ).bind fun a => (fb ρ).bind fun b => (f a b).bind fun z => z.b?.bind fun k => if k = true then (fc ρ).bind fun c => f' b c else some (.bl false) := rfl
@[simp] theorem v_tup : fTup fl ρ = (fl ρ).bind fun xs => if xs.length ≤ 100000 then some (.tup xs) else none := rfl
@[simp] theorem v_lst : fLst fl ρ = (fl ρ).bind fun xs => if xs.length ≤ 100000 then some (.l xs) else none := rfl
@[simp] theorem v_yes : fYes ρ = some true := rfl
@[simp] theorem v_Ol : (O.l xs).d = .lst xs := rfl
@[simp] theorem v_Ok {kvs : List (Key × D)} : (O.k kvs).d = .dK kvs := rfl
@[simp] theorem v_Ot {kvs : List (List Key × D)} : (O.t kvs).d = .dT kvs := rfl
@[simp] theorem v_hid : hid r = r.map Slot.hid := rfl
@[simp] theorem v_full : full r = r.map Slot.full := rfl
@[simp] theorem v_hs : (Slot.sh d).hid = some d := rfl
@[simp] theorem v_hn : (Slot.no).hid = none := rfl
@[simp] theorem v_ho {o : O} : (Slot.ow o).hid = none := rfl
@[simp] theorem v_fs : (Slot.sh d).full = some d := rfl
@[simp] theorem v_fn : (Slot.no).full = none := rfl
@[simp] theorem v_fo {o : O} : (Slot.ow o).full = some o.d := rfl
@[simp] theorem v_next : sNext r = some (.nx r) := rfl
@[simp] theorem v_seq : sSeq g h r = (g r).bind fun o => match o with
  | .nx ρ' => h ρ'
  | o => some o := rfl
@[simp] theorem v_asg : sAsg i fa r = (fa (hid r)).bind fun d => some (.nx (r.set i (.sh d))) := rfl
@[simp] theorem v_asgF : sAsgF i fa r = (fa (full r)).bind fun d => d.flat?.bind fun _ => some (.nx (r.set i (.sh d))) := rfl
@[simp] theorem v_asgN {f : E → Option O} : sAsgN i f r = (f (hid r)).bind fun o => some (.nx (r.set i (.ow o))) := rfl
@[simp] theorem v_asgT {tg : FG} : sAsgT tg fa r = (fa (hid r)).bind fun d => (tg d).bind fun ws => some (.nx (putR r ws)) := rfl
@[simp] theorem v_par : sPar i j fl r = (fl (hid r)).bind fun ds => match ds with
  | [a, b] => some (.nx ((r.set i (.sh a)).set j (.sh b)))
  | _ => none := rfl
@[simp] theorem v_ret : sRet fa r = (fa (hid r)).bind fun d => some (.rt d) := rfl
@[simp] theorem v_sif : sIf tf g h r = (tf (full r)).bind fun b => if b = true then g r else h r := rfl
@[simp] theorem v_frz : sFrz i g r = g (frz i r) := rfl
@[simp] theorem v_for {tg : FG} : sFor fi tg g r = (fi (hid r)).bind fun ds => forF tg g ds r := rfl
@[simp] theorem v_app : sApp i fa r = (fa (hid r)).bind fun d => match r[i]? with
  | some (.ow (.l xs)) => if xs.length < 100000 then some (.nx (r.set i (.ow (.l (xs ++ [d]))))) else none
  | _ => none := rfl
@[simp] theorem v_gN : gN i d = some [(i, d)] := rfl
@[simp] theorem v_gsN : gsN [] = some [] := rfl
@[simp] theorem v_gsC {f : FG} {fs : List D → Option (List (Nat × D))} : gsC f fs (d :: xs) = (f d).bind fun w => (fs xs).bind fun ws => some (w ++ ws) := rfl
@[simp] theorem v_gT {fs : List D → Option (List (Nat × D))} : gT fs (.tup xs) = fs xs := rfl
@[simp] theorem v_putE0 : putE ρ [] = ρ := rfl
@[simp] theorem v_putE {ws : List (Nat × D)} : putE ρ ((i, d) :: ws) = putE (ρ.set i (some d)) ws := rfl
@[simp] theorem v_putR0 : putR r [] = r := rfl
@[simp] theorem v_putR {ws : List (Nat × D)} : putR r ((i, d) :: ws) = putR (r.set i (.sh d)) ws := rfl
@[simp] theorem v_wipe0 : wipeE ρ [] = ρ := rfl
@[simp] theorem v_wipe {vs : List Nat} : wipeE ρ (i :: vs) = (wipeE ρ vs).set i none := rfl
@[simp] theorem v_lc {tg : FG} {vs : List Nat} : fLc fi tg tf fa vs ρ = (fi ρ).bind fun ds => if ds.length ≤ 50000 then (lcF tg tf fa (wipeE ρ vs) ds).map .l else none := rfl
@[simp] theorem v_lcF0 {tg : FG} : lcF tg tf fa ρ [] = some [] := rfl
@[simp] theorem v_lcF {tg : FG} : lcF tg tf fa ρ (d :: l) = (tg d).bind fun ws => (tf (putE ρ ws)).bind fun b => if b = true then (fa (putE ρ ws)).bind fun y => (lcF tg tf fa ρ l).bind fun ys => some (y :: ys) else lcF tg tf fa ρ l := rfl
@[simp] theorem v_fSeq : fSeq fa ρ = (fa ρ).bind D.seq? := rfl
@[simp] theorem v_rng1 : fRng1 fl ρ = (fl ρ).bind fun xs => match xs with
  | [.int n] => @ite _ (-(2 ^ 62) ≤ n ∧ n < 2 ^ 62) (Classical.propDecidable _) (some (rngD 0 n.toNat)) none
  | _ => none := rfl
@[simp] theorem v_rng2 : fRng2 fl ρ = (fl ρ).bind fun xs => match xs with
  | [.int m, .int n] => @ite _ (-(2 ^ 62) ≤ m ∧ m < 2 ^ 62 ∧ -(2 ^ 62) ≤ n ∧ n < 2 ^ 62) (Classical.propDecidable _) (some (rngD m (n - m).toNat)) none
  | _ => none := rfl
@[simp] theorem v_enum : fEnum fl ρ = (fl ρ).bind fun xs => match xs with
  | [d] => d.seq?.map (enumD 0)
  | _ => none := rfl
@[simp] theorem v_zip : fZip fl ρ = (fl ρ).bind fun xs => match xs with
  | [c, d] => match c.tq?, d.tq? with
    | some xs, some ys => some (zipD xs ys)
    | _, _ => c.lq?.bind fun xs => d.lq?.bind fun ys => some (zipD xs ys)
  | _ => none := rfl
@[simp] theorem v_sq1 : (D.tup l).seq? = some l := rfl
@[simp] theorem v_sq2 : (D.lst l).seq? = some l := rfl
@[simp] theorem v_sq3 : (D.sl l).seq? = some l := rfl
@[simp] theorem v_sq4 : (D.kt l).seq? = some l := rfl
@[simp] theorem v_tq1 : (D.tup l).tq? = some l := rfl
@[simp] theorem v_tq2 : (D.kt l).tq? = some l := rfl
@[simp] theorem v_zip0 : zipD [] l = [] := rfl
@[simp] theorem v_zip1 : zipD (a :: l) [] = [] := rfl
@[simp] theorem v_zip2 : zipD (a :: l) (b :: xs) = .tup [a, b] :: zipD l xs := rfl
@[simp] theorem v_g1 {f : D → Option D} : g1 f [d] = f d := rfl
@[simp] theorem v_gN1 {f : D → Option O} : gN1 f [d] = f d := rfl
@[simp] theorem v_sl {fo fp : E → Option (Option Int)} : eSl fa fo fp ρ = (fa ρ).bind fun d => (fo ρ).bind fun lo => (fp ρ).bind fun hi => dSl d lo hi := rfl
@[simp] theorem v_part : fPart fa ρ = (fa ρ).bind fun d => d.i?.map some := rfl
@[simp] theorem v_slT {lo hi : Option Int} : dSl (.tup l) lo hi = some (.tup (cutD l lo hi)) := rfl
@[simp] theorem v_slL {lo hi : Option Int} : dSl (.lst l) lo hi = some (.lst (cutD l lo hi)) := rfl
theorem cut_from (k : Nat) : cutD l (some (k : Int)) none = l.drop k := by
  unfold cutD
  rw [HT.sIx_nat, HT.sIx_none]
  by_cases h : k ≤ l.length
  · rw [Nat.min_eq_left h, List.take_of_length_le (by simp)]
  · rw [Nat.min_eq_right (by omega), List.drop_eq_nil_of_le (by omega), List.drop_eq_nil_of_le (by omega)]
    simp
@[simp] theorem v_cut1 : cutD l (some 1) none = l.drop 1 := cut_from 1
theorem cut_last : cutD l none (some (-1)) = l.dropLast := by
  unfold cutD
  rw [HT.sIx_none, List.drop_zero, Nat.sub_zero, List.dropLast_eq_take]
  have e : HT.sIx l.length l.length (some (-1)) = l.length - 1 := by
    show (if (-1 : Int) < 0 then ((-1 : Int) + (l.length : Int)).toNat else min (-1 : Int).toNat l.length) = _
    rw [if_pos (by decide)]
    omega
  rw [e]
@[simp] theorem v_cut2 : cutD l none (some (-1)) = l.dropLast := cut_last
@[simp] theorem v_rev : dRev (.lst l) = some (.l l.reverse) := rfl
@[simp] theorem v_neg : dNeg (.int n) = some (.int (-n)) := rfl
@[simp] theorem v_add : dAdd (.int n) (.int m) = some (.int (n + m)) := rfl
@[simp] theorem v_addT : dAdd (.tup l) (.tup xs) = if l.length + xs.length ≤ 100000 then some (.tup (l ++ xs)) else none := rfl
@[simp] theorem v_gI {f : Int → Int → D} {C : Int → Int → Bool} : gI f C (.int n) (.int m) = if C n m = true then some (f n m) else none := rfl
@[simp] theorem v_mul : dMul (.int n) (.int m) = dMulI (.int n) (.int m) := rfl
@[simp] theorem v_mulT : dMul (.tup l) (.int n) = if l ≠ [] ∧ 2 ≤ n ∧ n ≤ 1000 ∧ l.length ≤ 1000 then some (.tup (List.replicate n.toNat l).flatten) else none := rfl
@[simp] theorem v_cat : dCat (.lst l) (.lst xs) = if l.length + xs.length ≤ 100000 then some (.l (l ++ xs)) else none := rfl
@[simp] theorem v_ix1 : dIx (.tup l) (.int n) = atI l n := rfl
@[simp] theorem v_ix2 : dIx (.lst l) (.int n) = atI l n := rfl
@[simp] theorem v_ix3 : dIx (.sl l) (.int n) = atI l n := rfl
@[simp] theorem v_ix4 : dIx (.kt l) (.int n) = atI l n := rfl
@[simp] theorem v_ixK {kvs : List (Key × D)} : dIx (.dK kvs) (.str k) = valD kvs (.inr k) := rfl
theorem atN {α : Type} {xs : List α} {j : Nat} (hj : j < xs.length) : atI xs (j : Int) = xs[j]? := by
  unfold atI ixN
  rw [if_pos (by omega), if_pos (by omega), Option.bind_some, Int.toNat_natCast]
@[simp] theorem v_at0 : atI (a :: l) 0 = some a := (atN (j := 0) (xs := a :: l) (by simp)).trans rfl
@[simp] theorem v_at1 : atI (a :: b :: l) 1 = some b := (atN (j := 1) (xs := a :: b :: l) (by simp)).trans rfl
@[simp] theorem v_at2 : atI (a :: b :: c :: l) 2 = some c := (atN (j := 2) (xs := a :: b :: c :: l) (by simp)).trans rfl
@[simp] theorem v_at3 : atI (a :: b :: c :: d :: l) 3 = some d := (atN (j := 3) (xs := a :: b :: c :: d :: l) (by simp)).trans rfl
@[simp] theorem v_len1 : dLen (.tup l) = some (.int l.length) := rfl
@[simp] theorem v_len2 : dLen (.lst l) = some (.int l.length) := rfl
@[simp] theorem v_len3 : dLen (.sl l) = some (.int l.length) := rfl
@[simp] theorem v_len4 : dLen (.kt l) = some (.int l.length) := rfl
@[simp] theorem v_len5 {kvs : List (Key × D)} : dLen (.dK kvs) = some (.int kvs.length) := rfl
@[simp] theorem v_ty1 : dType .non = some (.ty "NoneType") := rfl
@[simp] theorem v_ty2 {x : Bool} : dType (.bl x) = some (.ty "bool") := rfl
@[simp] theorem v_ty3 : dType (.int n) = some (.ty "int") := rfl
@[simp] theorem v_ty4 : dType (.str k) = some (.ty "str") := rfl
@[simp] theorem v_ty5 : dType (.tup l) = some (.ty "tuple") := rfl
@[simp] theorem v_ty6 : dType (.lst l) = some (.ty "list") := rfl
@[simp] theorem v_ty7 {kvs : List (Key × D)} : dType (.dK kvs) = some (.ty "dict") := rfl
@[simp] theorem v_ty8 : dType (.kt l) = some (.ty "tuple") := rfl
@[simp] theorem v_is1 {x y : Bool} : dIs (.bl x) (.bl y) = some (.bl (decide (x = y))) := rfl
@[simp] theorem v_is2 {x y : String} : dIs (.ty x) (.ty y) = some (.bl (decide (x = y))) := rfl
@[simp] theorem v_is3 : dIs d .non = some (.bl d.isNon) := by cases d <;> rfl
@[simp] theorem v_isn1 {x y : Bool} : dIsn (.bl x) (.bl y) = some (.bl (!decide (x = y))) := rfl
@[simp] theorem v_isn2 {x y : String} : dIsn (.ty x) (.ty y) = some (.bl (!decide (x = y))) := rfl
@[simp] theorem v_isn3 : dIsn d .non = some (.bl (!d.isNon)) := by cases d <;> rfl
@[simp] theorem v_nn1 : D.non.isNon = true := rfl
@[simp] theorem v_nn2 {x : Bool} : (D.bl x).isNon = false := rfl
@[simp] theorem v_nn3 : (D.int n).isNon = false := rfl
@[simp] theorem v_nn4 : (D.str k).isNon = false := rfl
@[simp] theorem v_nn5 : (D.tup l).isNon = false := rfl
@[simp] theorem v_nn6 : (D.lst l).isNon = false := rfl
@[simp] theorem v_nn7 {kvs : List (Key × D)} : (D.dK kvs).isNon = false := rfl
@[simp] theorem v_eqI : dEq (.int n) (.int m) = some (.bl (decide (n = m))) := by
  show some (D.bl (decide (V.int n = V.int m))) = _
  rw [show (decide (V.int n = V.int m)) = decide (n = m) from decide_eq_decide.mpr (by simp)]
@[simp] theorem v_eqS : dEq (.str k) (.str w) = some (.bl (decide (k = w))) := by
  show some (D.bl (decide (V.str k = V.str w))) = _
  rw [show (decide (V.str k = V.str w)) = decide (k = w) from decide_eq_decide.mpr (by simp)]
@[simp] theorem v_neI : dNeP (.int n) (.int m) = some (.bl (!decide (n = m))) := by
  show some (D.bl (!decide (V.int n = V.int m))) = _
  rw [show (decide (V.int n = V.int m)) = decide (n = m) from decide_eq_decide.mpr (by simp)]
@[simp] theorem v_neS : dNeP (.str k) (.str w) = some (.bl (!decide (k = w))) := by
  show some (D.bl (!decide (V.str k = V.str w))) = _
  rw [show (decide (V.str k = V.str w)) = decide (k = w) from decide_eq_decide.mpr (by simp)]
@[simp] theorem v_fl1 : D.non.flat? = some .non := rfl
@[simp] theorem v_fl2 {x : Bool} : (D.bl x).flat? = some (.bl x) := rfl
@[simp] theorem v_fl3 : (D.int n).flat? = some (.int n) := rfl
@[simp] theorem v_fl4 : (D.str k).flat? = some (.str k) := rfl
theorem flats_ints : ∀ ns : List Int, flats (ns.map D.int) = some (ns.map V.int)
  | [] => rfl
  | n :: ns => by simp [flats, flats_ints ns]
theorem inV_ints (n : Int) : ∀ ns : List Int, inV (.int n) (ns.map V.int) = ns.contains n
  | [] => rfl
  | m :: ns => by
    have := inV_ints n ns
    unfold inV at this ⊢
    rw [List.map_cons, List.any_cons, this, List.contains_cons]
    congr 1
    show (m == n) = (n == m)
    exact Bool.beq_comm
@[simp] theorem v_inI {ns : List Int} : dIn (.int n) (.lst (ns.map D.int)) = some (.bl (ns.contains n)) := by
  unfold dIn bIn
  simp [flats_ints, inV_ints]
@[simp] theorem v_inS {a b : Str} : dIn (.str k) (.tup [.str a, .str b]) = some (.bl (decide (a = k) || decide (b = k))) := by
  unfold dIn bIn
  simp only [v_sq1, v_fl4, Option.bind_some, flats, Option.map_some]
  show some (D.bl ((a == k) || ((b == k) || false))) = _
  rw [Bool.or_false]
  congr 3 <;> exact Bool.beq_eq_decide_eq ..
theorem bools_bl : ∀ bs : List Bool, bools (bs.map D.bl) = some bs
  | [] => rfl
  | b :: bs => by simp [bools, bools_bl bs]
@[simp] theorem v_all {bs : List Bool} : dAll (.lst (bs.map D.bl)) = some (.bl (bs.all id)) := by
  show (bools (bs.map D.bl)).map (fun bs => D.bl (bs.all id)) = _
  rw [bools_bl]
  rfl
@[simp] theorem v_tuple1 : dTuple (.lst l) = some (.tup l) := rfl
@[simp] theorem v_tuple2 : dTuple (.tup l) = some (.tup l) := rfl
@[simp] theorem v_abs : dAbs (.int n) = some (.int (if n < 0 then -n else n)) := rfl
@[simp] theorem v_int : dInt (.int n) = some (.int n) := rfl
@[simp] theorem v_list : dList (.tup l) = some (.l l) := rfl
@[simp] theorem v_pNil : pNil ρ = some [] := rfl
@[simp] theorem v_pCons {fp : E → Option (List (Key × D))} : pCons k fa fp ρ = (fa ρ).bind fun v => (fp ρ).bind fun r => some ((.inr k, v) :: r) := rfl
@[simp] theorem v_disp {fp : E → Option (List (Key × D))} : fDisp fp ρ = (fp ρ).bind fun ps => if ps.length ≤ 15 then some (.k (mergeD [] ps)) else none := rfl
theorem v_def {N n : Nat} {ds : List D} : defM N n g ds = if ds.length = n then (g (ds.map Slot.sh ++ List.replicate (N - n) Slot.no)).bind fun o => match o with
  | .rt d => some d
  | .nx _ => some .non
  | _ => none else none := rfl
end
theorem lcF_eq {tg : FG} {fc : E → Option Bool} {fe : FE} {ρ : E} (p : D → Bool) (h : D → D) : ∀ (ds : List D), (∀ d ∈ ds, ∃ ws, tg d = some ws ∧ fc (putE ρ ws) = some (p d) ∧ (p d = true → fe (putE ρ ws) = some (h d))) → lcF tg fc fe ρ ds = some ((ds.filter p).map h)
  | [], _ => rfl
  | d :: ds, hs => by
    obtain ⟨ws, e1, e2, e3⟩ := hs d (by simp)
    have ih := lcF_eq p h ds fun d hd => hs d (by simp [hd])
    unfold lcF
    rw [e1, Option.bind_some, e2, Option.bind_some, ih]
    cases hp : p d with
    | true =>
      rw [if_pos rfl, e3 hp, List.filter_cons_of_pos hp]
      rfl
    | false =>
      rw [if_neg Bool.false_ne_true, List.filter_cons_of_neg (by rw [hp]; exact Bool.false_ne_true)]
theorem lcF_map {tg : FG} {fe : FE} {ρ : E} (h : D → D) (ds : List D) (hs : ∀ d ∈ ds, ∃ ws, tg d = some ws ∧ fe (putE ρ ws) = some (h d)) : lcF tg fYes fe ρ ds = some (ds.map h) := by
  rw [lcF_eq (fun _ => true) h ds fun d hd => by
    obtain ⟨ws, e1, e2⟩ := hs d hd
    exact ⟨ws, e1, rfl, fun _ => e2⟩]
  have e : List.filter (fun _ : D => true) ds = ds := by simp
  exact congrArg (fun l => some (List.map h l)) e
theorem rngD_len (lo : Int) (n : Nat) : (rngD lo n).length = n := by simp [rngD]
end Mi
namespace Mi
open PySem PySem.Spec PyProof.Rows L2
/-- __init__ of such a class: nothing is left behind -/
def spI (K : PySem.W.Frag) : Sp := fun vs H Q _ => ∃ a C : Addr, vs = [.ref a] ∧ OexC K C ∧ H a = some (exo a C none) ∧ Q .non H
def sNever : FS := fun _ => none
section
variable {X : Cx} {W : XK} {x : Str} {p pos pos' : Pos}
theorem sp_never {st : Stmt} : SS X W st sNever := ⟨_, ps_never, fun _ _ _ _ _ _ _ _ ho => by cases ho⟩
end
theorem init_fn {P : Program} {w : World} {K : PySem.W.Frag} {mg : Str → Option Value} {base : Heap} {qual : Str} {st : Stmt} {f : Addr} {fd : FuncData} {p1 p2 p3 p4 p5 : Pos} (Fn : Fun K "__init__" qual st f fd) (S : FnScope ["self"] ["self"] (defScope st))
    (hbody : defBody st = [.Expr (.Call (.Attribute (.Name "ValueError" p1) "__init__" p2) [.Name "self" p3] [] p4) p5]) (hm : mg "ValueError" = none) (vV : PySem.W.findCls K (.type "ValueError") (.type "type") "__init__" = some (.val (.builtin "ValueError.__init__")))
    (rule : ∀ (cdv : Value) (A : Around) (outer : List Env) (s : Shared) (H : Hp) (W : XK), PE (cxOf CX0 P w K mg base ["self"] qual (defScope st) f cdv A outer s H W).nox (.Call (.Attribute (.Name "ValueError" p1) "__init__" p2) [.Name "self" p3] [] p4) (tVeI K (tCons (tVar 0) tNil)))
    (sw : ∀ (cdv : Value) (A : Around) (outer : List Env) (s : Shared) (H : Hp) (W : XK), swapsWith (.Call (.Attribute (.Name "ValueError" p1) "__init__" p2) [.Name "self" p3] [] p4) none p5.line (cxOf CX0 P w K mg base ["self"] qual (defScope st) f cdv A outer s H W).nox.env = pure false) :
    FnOk P w K mg base CX0 1 f fd ["self"] (spI K) := by
  refine Fn.ok S (fun vs H Q W h => ?_) (fun cdv A outer s H vs Q W hr h => ?_)
  · obtain ⟨a, C, rfl, _⟩ := h
    rfl
  · obtain ⟨a, C, rfl, T, e, q⟩ := h
    rw [hbody]
    exact ⟨_, pss_one (ps_expr (rule cdv A outer s H W) (sw cdv A outer s H W)), ⟨_, rfl, a, C, [], rfl, Nat.zero_le _, T, e, q⟩⟩
structure Caught (K : PySem.W.Frag) (mg : Str → Option Value) (yes : Str → Option Bool) (c y : Addr) : Prop where
  is_ : ∀ x b C, yes x = some b → mg x = some (.ref C) → PySem.W.exmOne K (.ref C) (.ref c) = some true ∧ ExcC K C ∧ PySem.W.kitOne K (.ref C) (.ref y) = some b
end Mi
namespace Mi
open PySem PySem.Spec PyProof.Rows L2
open PySem.SeqAt (EqIn)
section
variable {prog : Program} {w : World}
theorem tuple_same (l b : Addr) (xs ys : Array Value) (n m : Nat) (d1 d2 : Option Addr) (s1 s2 : Array (Option Value)) (hs : xs.size = ys.size) :
    MeetsIn prog w (Builtin.«tuple.__ne__» ⟨[.ref l, .ref b], []⟩)
      (fun A R s => s.heap.get? l = some { cls := .type "tuple", dict := d1, data := .seq xs n, slots := s1 } ∧ s.heap.get? b = some { cls := .type "tuple", dict := d2, data := .seq ys m, slots := s2 } ∧
        (∀ j (h1 : j < xs.size) (h2 : j < ys.size), EqIn prog w A.in1 s xs[j] ys[j] true) ∧ R (.ok (.ret (.bool false))) s) :=
  .of_wp fun A R s hyp => by
    obtain ⟨hp, g, d, tk, os⟩ := s; obtain ⟨hl, hb, he, h⟩ := hyp
    have f2 := AutoSeq1.sub_tuple_tuple
    have zl : (xs.toList.zip ys.toList).length = xs.size := by simp [hs]
    wp_walk using wpAny_loadPart' hl, wpAny_loadPart' hb, wpAny_forIn_list _ (fun rest (b : _ × _) s' => b.1 = none ∧ s' = ⟨hp, g, d, tk, os⟩ ∧ ∃ i, rest = (xs.toList.zip ys.toList).drop i) _
    case turn =>
      rintro ⟨y, x⟩ rest b s' ⟨hb', rfl, i, hz⟩
      have hlt : i < (xs.toList.zip ys.toList).length := by
        by_cases q : i < (xs.toList.zip ys.toList).length
        · exact q
        · rw [List.drop_of_length_le (by omega)] at hz
          cases hz
      have k1 : i < xs.size := zl ▸ hlt
      have k2 : i < ys.size := hs ▸ k1
      rw [List.drop_eq_getElem_cons hlt] at hz
      injection hz with hyx hrest
      have ey : y = xs[i] := by simpa using congrArg Prod.fst hyx
      have ex : x = ys[i] := by simpa using congrArg Prod.snd hyx
      subst ey ex
      refine wpAny_bind (he i k1 k2 _ _ ?_)
      wp_walk
      exact ⟨rfl, rfl, i + 1, hrest⟩
    case fin =>
      rintro ⟨b1, b2⟩ s' ⟨hb', rfl, i, hz⟩
      simp only at hb'
      subst hb'
      wp_walk
      exact ⟨_, rfl, by simpa [Builtin.Tuple.tupleCompareSizes, hs] using h⟩
    case h =>
      exact ⟨rfl, rfl, 0, rfl⟩
theorem tuples_ne {A : Around} {s : Shared} {E Q : Value → Shared → Prop} {l b : Addr} {xs ys : Array Value} (hl : s.heap.IsTuple l xs) (hb : s.heap.IsTuple b ys) (hs : xs.size = ys.size) (hu : A.units < cLine)
    (he : ∀ j (h1 : j < xs.size) (h2 : j < ys.size), EqIn prog w A.in1 s xs[j] ys[j] true) (h : Q (.bool false) s) : wpAny (model prog w) A (compareOp .NotEq (.ref l) (.ref b)) Q E s := by
  obtain ⟨⟨c1, d1, dat1, s1⟩, g1, e1, n, e2⟩ := id hl
  obtain ⟨⟨c2, d2, dat2, s2⟩, g2, e3, m, e4⟩ := id hb
  simp only at e1 e2 e3 e4
  subst e1 e2 e3 e4
  exact wpAny_richCompare_same_room (T := "tuple") (op := .NotEq) ⟨_, g1, rfl⟩ ⟨_, g2, rfl⟩ F.slot_tuple_ne (call_meetsIn F.slot_tuple_ne ⟨_, g1, rfl⟩ F.entry_tuple_ne (F.args_tuple_ne_2 _ _) (tuple_same l b xs ys n m d1 d2 s1 s2 hs)
    ⟨g1, g2, he, show Value.bool false ≠ Value.notImplemented ∧ Q (.bool false) s from ⟨(fun x => nomatch x), h⟩⟩) hu
theorem dicts_ne {κ : Type} [DecidableEq κ] {knd : KeyKind prog w κ} {A : Around} {s : Shared} {E Q : Value → Shared → Prop} {a b : Addr} {ka kb : List (κ × Value)} (ya : (a == sysModules) = false) (yb : (b == sysModules) = false)
    (da : s.heap.DictOf knd a ka) (db : s.heap.DictOf knd b kb) (hu : A.units < cLine) (hl : ka.length = kb.length) (hits : PySem.W.KeqHitsIn prog w A.in1 s kb ka true) (h : Q (.bool false) s) :
    wpAny (model prog w) A (compareOp .NotEq (.ref a) (.ref b)) Q E s := by
  refine wpAny_richCompare_same_room (op := .NotEq) da.typeIs db.typeIs F.slot_dict_ne (wpAny_call_entry F.slot_dict_ne da.typeIs F.entry_dict_ne ?goal (F.args_dict_ne_2 _ _)) hu
  show wpAny _ A.in1 (Builtin.Dict.dictSlotArgs "__ne__" ⟨[.ref a, .ref b], []⟩ >>= _) _ _ _
  unfold Builtin.Dict.dictSlotArgs
  refine wpAny_bind (wpAny_bind (wpAny_notOrdered_dict da.typeIs ?_))
  show wpAny _ A.in1 (pure (Value.ref a, Value.ref b)) _ _ _
  refine wpAny_pure (wpAny_bind (wpAny_isInstance (T := "dict") db.typeIs F.sub_dict_dict ?_))
  simp only [Bool.not_true, Bool.false_eq_true, if_false]
  refine wpAny_bind (wpAny_pure (wpAny_bind (wpAny_pure (wpAny_bind (PySem.W.keq_samePairsIn ya yb da db (fun _ => hits) ?_)))))
  exact wpAny_pure ⟨_, rfl, (fun x => nomatch x), by simpa [hl] using h⟩
end
section
open PySem.W
variable {X : Cx} {pins : List (Addr × Obj)} {σ : L2.St} {H : Hp} {s : Shared}
def notL : D → Bool
  | .lst _ => false
  | _ => true
theorem ne_same (I : Inv X pins σ H s) {A : Around} (hu : A.units + 64 < cLine) {d e : D} {x y : V} {v u : Value} (h : same d e = true) (hn : notL d = true) (hd : dep d ≤ 60) (h0 : 0 < dep d) (r1 : Rep X.K H d x) (r2 : Rep X.K H e y) (q1 : RelV x v) (q2 : RelV y u)
    {E Q : Value → Shared → Prop} (q : Q (.bool false) s) : wpAny (model X.prog X.w) A (compareOp .NotEq v u) Q E s := by
  have e1 : A.in1.units = A.units + 1 := rfl
  cases d with
  | tup ds =>
    cases e <;> simp only [same, Bool.false_eq_true] at h
    rename_i es
    obtain ⟨a, vs, rfl, h1, p1⟩ := rep_tup.mp r1
    obtain ⟨b, us, rfl, h2, p2⟩ := rep_tup.mp r2
    cases q1; cases q2
    simp only [dep] at hd
    obtain ⟨its, rv, t1, z1⟩ := I.tuple (.of h1)
    obtain ⟨iu, ru, t2, z2⟩ := I.tuple (.of h2)
    have hl := trees_same I ds es 59 vs us its iu h (by omega) p1 p2 rv ru
    exact tuples_ne t1 t2 (by simp [hl.1]) (by omega) (fun j h1 h2 => (show EqTree X.prog X.w s 59 its.toArray[j] iu.toArray[j] true by simpa using hl.2 j (by simpa using h1) (by simpa using h2)).at A.in1 (by omega)) q
  | lst ds => cases hn
  | dK ds =>
    cases e <;> simp only [same, Bool.false_eq_true] at h
    rename_i es
    obtain ⟨a, vs, rfl, h1, p1⟩ := rep_dK.mp r1
    obtain ⟨b, us, rfl, h2, p2⟩ := rep_dK.mp r2
    cases q1; cases q2
    simp only [dep] at hd
    obtain ⟨_, ya, va, ra, da⟩ := (show ObjOk X.prog X.w H s.heap a (.dK vs) from I.hok a _ h1)
    obtain ⟨_, yb, vb, rb, db⟩ := (show ObjOk X.prog X.w H s.heap b (.dK us) from I.hok b _ h2)
    have nd : (va.map (·.1)).Nodup := by
      obtain ⟨_, _, _, _, _, _, _, _, nd⟩ := da
      exact nd
    have hl := treesK_same I ds es 59 vs us va vb h (by omega) p1 p2 ra rb
    have e2 : ∀ k v, (k, v) ∈ va → ∃ y, valueAt vb k = some y ∧ EqTree X.prog X.w s 59 v y true := hl.2 nd
    have hits := KeqHitsIn.of (prog := X.prog) (w := X.w) (A := A.in1) (s := s) (kb := vb) (e := fun _ => true) va fun k v y hm hv => by
      obtain ⟨y', h3, h4⟩ := e2 k v hm
      rw [hv] at h3
      cases h3
      exact h4.at A.in1 (by omega)
    have e0 : (va.all fun p => (valueAt vb p.1).isSome && true) = true := by
      simp only [Bool.and_true, List.all_eq_true]
      intro p hp
      obtain ⟨y', h3, h4⟩ := e2 p.1 p.2 hp
      rw [h3]; rfl
    rw [e0] at hits
    exact dicts_ne ya yb da db (by omega) hl.1 hits q
  | _ => simp [dep] at h0
end
def rNeS (K : PySem.W.Frag) : R2 := fun x y H Q => rNeA K x y H Q ∨ ∃ d e, same d e = true ∧ notL d = true ∧ dep d ≤ 60 ∧ 0 < dep d ∧ Rep K H d x ∧ Rep K H e y ∧ Q (.bl false) H
theorem op_neS {X : Cx} (K : PySem.W.Frag) (hu : X.A.units + 64 < cLine) (hK : X.K = K := by rfl) : OpR X (compareOp .NotEq) (rNeS K) := by
  subst hK
  refine OpR.or (op_neA hu) ?_
  intro pins s σ H x y v u Q I rx ry h
  obtain ⟨d, e, h1, h2, h3, h4, h5, h6, q⟩ := h
  exact ne_same I hu h1 h2 h3 h4 h5 h6 rx ry ⟨.bl _, H, I, rfl, q⟩
def dNeS (a b : D) : Option D := match dNeP a b with
  | some d => some d
  | none => if same a b = true ∧ notL a = true ∧ dep a ≤ 60 ∧ 0 < dep a then some (.bl false) else none
theorem lf_neS {K : PySem.W.Frag} : Lf2 K (rNeS K) dNeS := fun F H a b x y e ra rb d hd Q q => by
  unfold dNeS at hd
  split at hd
  · rename_i d' h1
    cases hd
    exact .inl (lf_ne F H a b x y e ra rb d h1 Q q)
  · split at hd
    · rename_i hs
      cases hd
      exact .inr ⟨a, b, hs.1, hs.2.1, hs.2.2.1, hs.2.2.2, ra.m e, rb.m e, q _ F H (.refl e) (rep_bl.mpr rfl)⟩
    · cases hd
end Mi
namespace Mi
open PySem PySem.Spec PyProof.Rows L2
theorem ints_rep {K : PySem.W.Frag} {H : Hp} : ∀ (ds : List D) (ns : List Int) (vs : List V), Reps K H ds vs → intsD ds = some ns → vs = ns.map V.int
  | [], ns, vs, r, h => by
    cases h
    exact reps_nil.mp r
  | d :: ds, ns, vs, r, h => by
    obtain ⟨v, r', rfl, rd, rr⟩ := reps_cons.mp r
    unfold intsD at h
    obtain ⟨n, h1, h⟩ := Option.bind_eq_some_iff.mp h
    obtain ⟨m, h2, h⟩ := Option.bind_eq_some_iff.mp h
    cases h
    have e1 : d = .int n := by
      cases d <;> simp only [D.i?, Option.some.injEq, reduceCtorEq] at h1
      subst h1; rfl
    subst e1
    rw [rep_int.mp rd, ints_rep _ m r' rr h2]
    rfl
end Mi
namespace Mi
open PySem PySem.Spec PyProof.Rows L2
structure ExcZ (P : Program) (w : World) (K : PySem.W.Frag) (mg : Str → Option Value) (base : Heap) (x : Str) (C fI : Addr) (fd : FuncData) : Prop where
  T : OexC K C
  iC : PySem.W.findIn K (.ref C) "__init__" = some (some (.ref fI))
  tI : PySem.W.typeIn K (.ref fI) = some (.type "function")
  F1 : FnOk P w K mg base CX0 1 fI fd ["self"] (spI K)
  hb : Binds K fd ["self"] []
  hm : mg x = some (.ref C)
end Mi
namespace Mi
open PySem PySem.Spec PyProof.Rows L2
/-- a def that is called with n arguments; the defaults dd fill up -/
structure FxD (P : Program) (w : World) (K : PySem.W.Frag) (mg : Str → Option Value) (base : Heap) (k : Nat) (x : Str) (n : Nat) (dvs : List V) (dd : List D) (m : List D → Option D) : Prop where
  ok : ∃ f fd ps ds, FnOk P w K mg base CX0 k f fd ps (spD K (n + dd.length) m) ∧ mg x = some (.ref f) ∧ PySem.W.keepIn K (.ref f) = true ∧ Binds K fd ps ds ∧ Vals dvs ds
  rep : ∀ F, Reps K F dd dvs
  hm : ∀ ds d, m ds = some d → ds.length = n + dd.length
section
variable {P : Program} {w : World} {K : PySem.W.Frag} {mg : Str → Option Value} {base : Heap}
theorem fd_ok {x : Str} {st : Stmt} {f : Addr} {fd : FuncData} {N ps : List Str} {dvs : List V} {k n m : Nat} {g : FS} (Fn : FunD K x x (defArgs st) (defBody st) (defScope st) dvs [] f fd) (S : FnScope N ps (defScope st)) (hpl : ps.length ≤ N.length) (hn : ps.length = n) (hm : N.length = m)
    (body : ∀ (cdv : Value) (A : Around) (outer : List Env) (s : Shared) (H : Hp) (W : XK), Room k (A.deeper (envOfC x (defScope st) s.heap.objs.size f cdv)) →
      SSs (cxOf CX0 P w K mg base N x (defScope st) f cdv A outer s H W).nox E0 (defBody st) g) : FnOk P w K mg base CX0 (k + 1) f fd ps (spD K n (defM m n g)) := by
  subst hn hm
  refine Fn.ok S (fun vs H Q W h => ?_) (fun cdv A outer s H vs Q W hr h => ?_)
  · obtain ⟨F, ds, d, _, _, hl, _⟩ := h
    exact hl
  · obtain ⟨F, ds, d, e, r, hl, hd, q⟩ := h
    obtain ⟨t, hp, hs⟩ := body cdv A outer s H W hr
    refine ⟨t, hp.nox, ?_⟩
    have hdl : ds.length = ps.length := by rw [r.len, hl]
    unfold defM at hd
    rw [if_pos hdl] at hd
    obtain ⟨o, ho, hd⟩ := Option.bind_eq_some_iff.mp hd
    rw [← hdl] at ho
    refine hs F H F H _ _ (rs_start e r (by omega)) o ho _ ?_
    cases o with
    | nx ρ =>
      cases hd
      exact fun F1 H1 σ r1 _ => q _ F1 H1 r1.gr (rep_non.mpr rfl)
    | rt d' =>
      cases hd
      exact fun F1 H1 v g1 r1 => q v F1 H1 g1 r1
    | bk ρ => cases hd
    | ct ρ => cases hd
    | ex c => cases hd
/-- called with every argument; with the last j of dd left out -/
theorem fxd_mkL {x : Str} {st : Stmt} {f : Addr} {fd : FuncData} {N ps : List Str} {dvs : List V} {k n m : Nat} {g : FS} (a j : Nat) (dd : List D) (Fn : FunD K x x (defArgs st) (defBody st) (defScope st) dvs [] f fd) (S : FnScope N ps (defScope st)) (hmg : mg x = some (.ref f))
    (hb : ∃ ds, Vals (dvs.drop j) ds ∧ Binds K fd ps ds) (hr : ∀ F, Reps K F dd (dvs.drop j)) (hpl : ps.length ≤ N.length) (hn : ps.length = n) (ha : a + dd.length = n) (hm : N.length = m)
    (body : ∀ (cdv : Value) (A : Around) (outer : List Env) (s : Shared) (H : Hp) (W : XK), Room k (A.deeper (envOfC x (defScope st) s.heap.objs.size f cdv)) →
      SSs (cxOf CX0 P w K mg base N x (defScope st) f cdv A outer s H W).nox E0 (defBody st) g) : FxD P w K mg base (k + 1) x a (dvs.drop j) dd (defM m n g) := by
  obtain ⟨ds, h1, h2⟩ := hb
  refine ⟨⟨f, fd, ps, ds, ?_, hmg, Fn.kp, h2, h1⟩, hr, fun xs d h => ?_⟩
  · rw [ha]
    exact fd_ok Fn S hpl hn hm body
  · rw [defM_len _ _ h, ha]
end
end Mi
namespace Mi
open PySem PySem.Spec PyProof.Rows L2
theorem FxD.fx {P : Program} {w : World} {K : PySem.W.Frag} {mg : Str → Option Value} {base : Heap} {k n : Nat} {x : Str} {m : List D → Option D} (F : FxD P w K mg base k x n [] [] m) : Fx P w K mg base k x n m := by
  obtain ⟨f, fd, ps, ds, h1, h2, h3, h4, h5⟩ := F.ok
  cases h5
  exact ⟨⟨f, fd, ps, h1, h2, h3, h4⟩, F.hm⟩
theorem kt_of {K : PySem.W.Frag} {F : Hp} {a : Addr} {n : Nat} {sl : Array (Option Value)} {its : List Value} {ds : List D} {vs : List V} (l : K.lookup a = some ⟨.type "tuple", none, .seq its.toArray n, sl⟩) (hz : its.length ≤ sizeLine) (hv : Vals vs its) (hr : Reps K F ds vs) : Rep K F (.kt ds) (.ref a) :=
  rep_kt.mpr ⟨a, vs, rfl, .inr ⟨_, its.toArray, n, l, rfl, rfl, by simpa using hz, by simpa using hv⟩, .inl ⟨_, l, rfl, rfl⟩, hr⟩
theorem lookup_step {tbl : Tab} {z k : Str} {o o' : Option D} (h : List.lookup z ((k, o) :: tbl) = some o') : (z = k ∧ o = o') ∨ List.lookup z tbl = some o' := by
  rw [List.lookup_cons] at h
  split at h
  · rename_i e
    exact .inl ⟨by simpa using e, Option.some.inj h⟩
  · exact .inr h
def clsBody : Stmt → List Stmt
  | .ClassDef (body := b) .. => b
  | _ => []
def yesOf (n : Str) : Str → Option Bool := fun x => if x = n then some true else none
theorem caught_mk {K : PySem.W.Frag} {mg : Str → Option Value} {c y : Addr} {n : Str} (hy : mg n = some (.ref y)) (E : ExcC K y) (h1 : PySem.W.subIn K (.ref c) (.type "BaseException") = some true) (h2 : PySem.W.hasDictIn K c = true) (h3 : PySem.W.typeIn K (.ref c) = some (.type "type")) (h4 : PySem.W.subIn K (.ref y) (.ref c) = some true) : Caught K mg (yesOf n) c y :=
  ⟨fun x b C hb hC => by
    unfold yesOf at hb
    split at hb
    · rename_i e
      subst e
      cases hb
      rw [hy] at hC
      cases hC
      exact ⟨PySem.W.exm_ref h1 h2 h3 h4, E, by unfold PySem.W.kitOne; rw [if_pos (by simp)]⟩
    · cases hb⟩
end Mi
namespace Mi
open PySem PySem.Spec PyProof.Rows L2
open Classical in
/-- a heap without some addresses -/
noncomputable def erP (F : Hp) (p : Addr → Prop) : Hp := fun a => if p a then none else F a
theorem erP_no {F : Hp} {p : Addr → Prop} {a : Addr} (h : ¬ p a) : erP F p a = F a := by unfold erP; rw [if_neg h]
theorem erP_yes {F : Hp} {p : Addr → Prop} {a : Addr} (h : p a) : erP F p a = none := by unfold erP; rw [if_pos h]
theorem erP_some {F : Hp} {p : Addr → Prop} {a : Addr} {o : HO} (h : erP F p a = some o) : ¬ p a ∧ F a = some o := by
  by_cases hp : p a
  · rw [erP_yes hp] at h; cases h
  · rw [erP_no hp] at h; exact ⟨hp, h⟩
theorem erP_ex {F : Hp} {p : Addr → Prop} : Ex (erP F p) F := fun a o h => (erP_some h).2
def McC (K : PySem.W.Frag) (C : Addr) : Prop := ObC K "Machine" C ∧ ¬ NoAttr K C "direct"
structure McD where
  b : Addr
  fs : List (Str × D)
  sn : List D
abbrev Sto := Addr → Option McD
def st0 : Sto := fun _ => none
/-- what holds of one machine -/
structure MAt (K : PySem.W.Frag) (F0 H0 F H : Hp) (a : Addr) (m : McD) : Prop where
  ex : ∃ C dx vs ws, H a = some (.ins C dx vs) ∧ H m.b = some (.lst ws) ∧ vs.lookup ("_seen" : Str) = some (V.ref m.b) ∧ McC K C ∧ RepF K F m.fs vs ∧ Reps K F m.sn ws
  fa : F a = none
  fb : F m.b = none
  ha : H0 a = none
  hb : H0 m.b = none
  few : m.fs.length < 1000
structure MSt (K : PySem.W.Frag) (F0 H0 F H : Hp) (st : Sto) : Prop where
  at_ : ∀ a m, st a = some m → MAt K F0 H0 F H a m
  dj : ∀ a a' m m', st a = some m → st a' = some m' → m.b = m'.b → a = a'
structure RSM (K : PySem.W.Frag) (F0 H0 F H : Hp) (σ : L2.St) (ρ : SEnv) (st : Sto) : Prop where
  rs : RS K F0 H0 F H σ ρ
  ms : MSt K F0 H0 F H st
  dj : ∀ (i : Nat) (o : O) (x : Addr) (a : Addr) (m : McD), ρ[i]? = some (.ow o) → σ[i]? = some (some (.ref x)) → st a = some m → x ≠ m.b
section
variable {K : PySem.W.Frag} {F0 H0 F H F1 H1 : Hp} {σ : L2.St} {ρ : SEnv} {st : Sto}
theorem RepO.kind {o : O} {h : HO} (r : RepO K F o h) : ∀ C dx vs, h ≠ .ins C dx vs := fun C dx vs z => by
  cases o with
  | l xs => obtain ⟨vs, e1, _⟩ := r; rw [z] at e1; cases e1
  | k xs => obtain ⟨vs, e1, _⟩ := r; rw [z] at e1; cases e1
  | t xs => obtain ⟨vs, e1, _⟩ := r; rw [z] at e1; cases e1
/-- the address of an own list or dict -/
def Own (σ : L2.St) (ρ : SEnv) (x : Addr) : Prop := ∃ (i : Nat) (o : O), ρ[i]? = some (.ow o) ∧ σ[i]? = some (some (.ref x))
theorem RSM.own_h0 (r : RSM K F0 H0 F H σ ρ st) {x : Addr} (h : Own σ ρ x) : H0 x = none ∧ F x = none ∧ ∃ u, H x = some u ∧ ∀ C dx vs, u ≠ .ins C dx vs := by
  obtain ⟨i, o, h1, h2⟩ := h
  obtain ⟨a, u, h3, h4, h5, h6, h7⟩ := r.rs.ow i o h1
  rw [h2] at h3
  cases h3
  exact ⟨h6, h5, u, h4, h7.kind⟩
theorem RSM.own_a (r : RSM K F0 H0 F H σ ρ st) {a : Addr} {m : McD} (e : st a = some m) : ¬ Own σ ρ a := fun h => by
  obtain ⟨C, dx, vs, ws, h1, _⟩ := (r.ms.at_ a m e).ex
  obtain ⟨_, _, u, h2, h3⟩ := r.own_h0 h
  rw [h1] at h2
  cases h2
  exact h3 _ _ _ rfl
theorem RSM.own_b (r : RSM K F0 H0 F H σ ρ st) {a : Addr} {m : McD} (e : st a = some m) : ¬ Own σ ρ m.b := fun ⟨i, o, h1, h2⟩ => r.dj i o _ a m h1 h2 e rfl
theorem RSM.keep (r : RSM K F0 H0 F H σ ρ st) (g : Gr F (erP H (Own σ ρ)) F1 H1) : Gr F0 H0 F1 H1 ∧ MSt K F0 H0 F1 H1 st := by
  have hs : ∀ x o, H x = some o → ¬ Own σ ρ x → H1 x = some o ∧ F1 x = F x := fun x o h hn => by
    have e : erP H (Own σ ρ) x = some o := by rw [erP_no hn]; exact h
    exact ⟨g.hh _ _ e, g.fr _ _ e⟩
  refine ⟨⟨r.rs.gr.f0, r.rs.gr.ff.trans g.ff, fun x o h => ?_, g.fh, fun x o h => ?_⟩, ⟨fun a m e => ?_, r.ms.dj⟩⟩
  · exact (hs x o (r.rs.gr.hh _ _ h) fun hx => by rw [(r.own_h0 hx).1] at h; cases h).1
  · exact (hs x o (r.rs.gr.hh _ _ h) fun hx => by rw [(r.own_h0 hx).1] at h; cases h).2.trans (r.rs.gr.fr _ _ h)
  · have q := r.ms.at_ a m e
    obtain ⟨C, dx, vs, ws, h1, h2, h3, h4, h5, h6⟩ := q.ex
    have e1 := hs a _ h1 (r.own_a e)
    have e2 := hs m.b _ h2 (r.own_b e)
    exact ⟨⟨C, dx, vs, ws, e1.1, e2.1, h3, h4, RepF.mono g.ff _ _ h5, Reps.mono g.ff _ _ h6⟩, e1.2.trans q.fa, e2.2.trans q.fb, q.ha, q.hb, q.few⟩
end
end Mi
namespace KP
open PySem PySem.Spec PyProof.Rows L2 Mi
abbrev yes : Str → Option Bool := yesOf "NotValid"
def tab_COUNTED : Tab := [("ask", some (.int 0)), ("mix", some (.int 1)), ("load", some (.int 2)), ("mask", none), ("test", none), ("put", none), ("get", none), ("fence", none), ("jump", none), ("end", none)]
noncomputable def g_is_natural : FS := sRet (fAndV (e2 dIs (eA (g1 dType) (aCons (eVar 0) (aNil))) (eC (.ty "int"))) (e2 dGe (eVar 0) (eC (.int 0))))
noncomputable def m_is_natural : List D → Option D := defM 1 1 g_is_natural
noncomputable def g_item_at : FS := sRet (fIf (tB (fChain dLe dLt (eC (.int 0)) (eVar 1) (eA (g1 dLen) (aCons (eVar 0) (aNil))))) (e2 dIx (eVar 0) (eVar 1)) (eVar 2))
noncomputable def m_item_at : List D → Option D := defM 3 3 g_item_at
noncomputable def g_row_at : FS := sRet (fIf (tB (e2 dIs (eVar 1) (eC .non))) (eC .non) (eA m_item_at (aCons (e2 dIx (eVar 0) (eC (.str "rows"))) (aCons (eVar 1) (aCons (eC .non) (aNil))))))
noncomputable def m_row_at : List D → Option D := defM 2 2 g_row_at
noncomputable def g_next_place : FS := sSeq (sAsg 3 (e2 dIx (eVar 0) (eC (.int 0))))
  (sSeq (sIf (tB (e2 dEq (eVar 3) (eC (.str "end")))) (sRet (eC .non)) (sNext))
  (sSeq (sIf (tB (e2 dEq (eVar 3) (eC (.str "jump")))) (sRet (e2 dIx (eVar 0) (eC (.int 1)))) (sNext))
  (sSeq (sIf (fAnd (tB (e2 dEq (eVar 3) (eC (.str "test")))) (tB (e2 dEq (eVar 2) (eC (.str "out"))))) (sRet (e2 dIx (eVar 0) (eC (.int 3)))) (sNext))
  (sRet (e2 dAdd (eVar 1) (eC (.int 1)))))))
noncomputable def m_next_place : List D → Option D := defM 4 3 g_next_place
noncomputable def g_changed : FS := sRet (eA (g1 dTuple) (aCons (eO (fLc (fEnum (aCons (eVar 0) (aNil))) (gT (gsC (gN 3) (gsC (gN 4) gsN))) (fYes) (fIf (tB (e2 dEq (eVar 3) (eVar 1))) (eVar 2) (eVar 4)) ([("k", 3), ("old", 4)].map (·.2)))) (aNil)))
noncomputable def m_changed : List D → Option D := defM 5 3 g_changed
end KP
namespace Mi
open PySem PySem.Spec PyProof.Rows L2
abbrev NE := NestedKey × Addr × Value
def nDict (P : Program) (w : World) (a : Addr) (xs : List NE) : HO := .ext fun h => (a == sysModules) = false ∧ xs.length ≤ sizeLine ∧
  ∃ o es ep, h.get? a = some o ∧ o.ExactDict ∧ o.data = .dict es ep ∧ es.toList = xs.map (entryOfKey (nestedKind P w)) ∧ (xs.map (·.1)).Nodup
mutual
def nkD : D → Option NestedKey
  | .non => some .none
  | .bl b => some (.num (if b = true then 1 else 0))
  | .int i => some (.num i)
  | .str x => some (.text x)
  | .tup xs => (nksD xs).map .tup
  | .kt xs => (nksD xs).map .tup
  | _ => none
def nksD : List D → Option (List NestedKey)
  | [] => some []
  | d :: ds => (nkD d).bind fun k => (nksD ds).bind fun r => some (k :: r)
end
def RepN (K : PySem.W.Frag) (F : Hp) : List (D × D) → List NE → Prop
  | [], xs => xs = []
  | (k, d) :: ps, xs => ∃ n b u v r, xs = (n, b, u) :: r ∧ nkD k = some n ∧ n.depth ≤ 8 ∧ Rep K F k (.ref b) ∧ Rep K F d v ∧ RelV v u ∧ RepN K F ps r
theorem RepN.mono {K : PySem.W.Frag} {F F' : Hp} (e : Ex F F') : ∀ {ps : List (D × D)} {xs : List NE}, RepN K F ps xs → RepN K F' ps xs
  | [], _, h => h
  | (k, d) :: ps, _, h => by
    obtain ⟨n, b, u, v, r, h1, h2, h3, h4, h5, h6, h7⟩ := h
    exact ⟨n, b, u, v, r, h1, h2, h3, h4.m e, h5.m e, h6, RepN.mono e h7⟩
inductive Cell where
  | l (xs : List D) | k (kvs : List (Key × D)) | t (kvs : List (List Key × D)) | o (n : Str) (fs : List (Str × D))
  | n (P : Program) (w : World) (a : Addr) (kvs : List (D × D))
  | x (f : Heap → Prop) (ps : List (D × V))
def RepC (K : PySem.W.Frag) (F : Hp) : Cell → HO → Prop
  | .l ds, h => ∃ vs, h = .lst vs ∧ Reps K F ds vs
  | .k ds, h => ∃ vs, h = .dK vs ∧ RepK K F ds vs
  | .t ds, h => ∃ vs, h = .dT vs ∧ RepT K F ds vs
  | .o n fs, h => ∃ C dx vs, h = .ins C dx vs ∧ ObC K n C ∧ RepF K F fs vs
  | .n P w a kvs, h => ∃ xs, h = nDict P w a xs ∧ RepN K F kvs xs
  | .x f ps, h => h = .ext f ∧ ∀ q ∈ ps, Rep K F q.1 q.2
def O.c : O → Cell
  | .l xs => .l xs
  | .k xs => .k xs
  | .t xs => .t xs
def isM : HO → Prop
  | .lst _ | .dK _ | .dT _ | .ins _ _ _ | .ext _ => True
  | _ => False
abbrev Sx := Addr → Option Cell
def sx0 : Sx := fun _ => none
def sxU (st : Sx) (a : Addr) (c : Cell) : Sx := fun x => if x = a then some c else st x
@[simp] theorem sxU_same {st : Sx} {a : Addr} {c : Cell} : sxU st a c a = some c := by unfold sxU; rw [if_pos rfl]
theorem sxU_ne {st : Sx} {a x : Addr} {c : Cell} (h : x ≠ a) : sxU st a c x = st x := by unfold sxU; rw [if_neg h]
structure CSt (K : PySem.W.Frag) (H0 F H : Hp) (st : Sx) : Prop where
  at_ : ∀ a c, st a = some c → (∃ u, H a = some u ∧ RepC K F c u) ∧ F a = none ∧ H0 a = none
section
variable {K : PySem.W.Frag} {F F' H0 H H1 F1 : Hp} {st : Sx}
theorem RepC.m {c : Cell} {u : HO} (r : RepC K F c u) (e : Ex F F') : RepC K F' c u := by
  cases c with
  | l xs => obtain ⟨vs, h1, h2⟩ := r; exact ⟨vs, h1, h2.m e⟩
  | k xs => obtain ⟨vs, h1, h2⟩ := r; exact ⟨vs, h1, RepK.mono e _ _ h2⟩
  | t xs => obtain ⟨vs, h1, h2⟩ := r; exact ⟨vs, h1, RepT.mono e _ _ h2⟩
  | o n fs => obtain ⟨C, dx, vs, h1, h2, h3⟩ := r; exact ⟨C, dx, vs, h1, h2, RepF.mono e _ _ h3⟩
  | n P w a kvs => obtain ⟨xs, h1, h2⟩ := r; exact ⟨xs, h1, h2.mono e⟩
  | x f ps => exact ⟨r.1, fun q hq => (r.2 q hq).m e⟩
theorem RepC.isM {c : Cell} {u : HO} (r : RepC K F c u) : isM u := by
  cases c with
  | l xs => obtain ⟨vs, rfl, h2⟩ := r; trivial
  | k xs => obtain ⟨vs, rfl, h2⟩ := r; trivial
  | t xs => obtain ⟨vs, rfl, h2⟩ := r; trivial
  | o n fs => obtain ⟨C, dx, vs, rfl, h2, h3⟩ := r; trivial
  | n P w a kvs => obtain ⟨xs, rfl, h2⟩ := r; unfold nDict; trivial
  | x f ps => rw [r.1]; trivial
theorem RepO.c {o : O} {u : HO} (r : RepO K F o u) : RepC K F o.c u := by
  cases o with
  | l xs => exact r
  | k xs => exact r
  | t xs => exact r
theorem CSt.grow (h : CSt K H0 F H st) (g : Gr F H F1 H1) : CSt K H0 F1 H1 st := ⟨fun a c e => by
  obtain ⟨⟨u, h1, h2⟩, h3, h4⟩ := h.at_ a c e
  exact ⟨⟨u, g.hh _ _ h1, h2.m g.ff⟩, (g.fr _ _ h1).trans h3, h4⟩⟩
end
mutual
def imm : D → Bool
  | .tup xs | .kt xs => imms xs
  | .lst _ | .sl _ | .dK _ | .dT _ | .ob _ _ => false
  | _ => true
def imms : List D → Bool
  | [] => true
  | d :: ds => imm d && imms ds
end
def immK {κ : Type} : List (κ × D) → Bool
  | [] => true
  | (_, d) :: ds => imm d && immK ds
def immO : O → Bool
  | .l xs => imms xs
  | .k xs => immK xs
  | .t xs => immK xs
section
variable {K : PySem.W.Frag} {F : Hp} {p : Addr → Prop}
theorem erP_im (hp : ∀ a, p a → ∃ u, F a = some u ∧ isM u) {a : Addr} {o : HO} (h : F a = some o) (hn : ¬ isM o) : erP F p a = some o := by
  rw [erP_no]
  · exact h
  · intro hpa
    obtain ⟨u, h1, h2⟩ := hp a hpa
    rw [h] at h1
    cases h1
    exact hn h2
mutual
theorem Rep.erL (hp : ∀ a, p a → ∃ u, F a = some u ∧ isM u) : ∀ (d : D) (v : V), imm d = true → Rep K F d v → Rep K (erP F p) d v
  | .non, _, _, h | .bl _, _, _, h | .int _, _, _, h | .str _, _, _, h | .ty _, _, _, h | .adr _, _, _, h | .any, _, _, h => by unfold Rep at h ⊢; exact h
  | .tup ds, _, c, h => by
    unfold imm at c
    unfold Rep at h ⊢
    obtain ⟨a, vs, e1, e2, e3⟩ := h
    exact ⟨a, vs, e1, erP_im hp e2 (fun z => z), Reps.erL hp ds vs c e3⟩
  | .kt ds, _, c, h => by
    unfold imm at c
    unfold Rep at h ⊢
    obtain ⟨a, vs, e1, e2, e4, e3⟩ := h
    refine ⟨a, vs, e1, ?_, ?_, Reps.erL hp ds vs c e3⟩
    · rcases e2 with (e2 | ⟨o, e2⟩) | e2
      · exact .inl (.inl (erP_im hp e2 (fun z => z)))
      · exact .inl (.inr ⟨o, erP_im hp e2 (fun z => z)⟩)
      · exact .inr e2
    · rcases e4 with e4 | ⟨o, xs, e4, e5⟩
      · exact .inl e4
      · exact .inr ⟨o, xs, erP_im hp e4 (fun z => z), e5⟩
  | .lst _, _, c, _ | .sl _, _, c, _ | .dK _, _, c, _ | .dT _, _, c, _ | .ob _ _, _, c, _ => by simp [imm] at c
theorem Reps.erL (hp : ∀ a, p a → ∃ u, F a = some u ∧ isM u) : ∀ (ds : List D) (vs : List V), imms ds = true → Reps K F ds vs → Reps K (erP F p) ds vs
  | [], _, _, h => by unfold Reps at h ⊢; exact h
  | d :: ds, _, c, h => by
    unfold imms at c
    rw [Bool.and_eq_true] at c
    unfold Reps at h ⊢
    obtain ⟨v, r, e1, e2, e3⟩ := h
    exact ⟨v, r, e1, Rep.erL hp d v c.1 e2, Reps.erL hp ds r c.2 e3⟩
end
theorem RepK.erL (hp : ∀ a, p a → ∃ u, F a = some u ∧ isM u) : ∀ (ds : List (Key × D)) (vs : List (Key × V)), immK ds = true → RepK K F ds vs → RepK K (erP F p) ds vs
  | [], _, _, h => by rw [repK_nil] at h; subst h; exact repK_nil.mpr rfl
  | (k, d) :: ds, _, c, h => by
    unfold immK at c
    rw [Bool.and_eq_true] at c
    obtain ⟨v, r, rfl, e2, e3⟩ := repK_cons.mp h
    exact repK_cons.mpr ⟨v, r, rfl, Rep.erL hp d v c.1 e2, RepK.erL hp ds r c.2 e3⟩
theorem RepT.erL (hp : ∀ a, p a → ∃ u, F a = some u ∧ isM u) : ∀ (ds : List (List Key × D)) (vs : List (List Key × V)), immK ds = true → RepT K F ds vs → RepT K (erP F p) ds vs
  | [], _, _, h => by rw [repT_nil] at h; subst h; exact repT_nil.mpr rfl
  | (k, d) :: ds, _, c, h => by
    unfold immK at c
    rw [Bool.and_eq_true] at c
    obtain ⟨v, r, rfl, e2, e3⟩ := repT_cons.mp h
    exact repT_cons.mpr ⟨v, r, rfl, Rep.erL hp d v c.1 e2, RepT.erL hp ds r c.2 e3⟩
theorem RepO.erL (hp : ∀ a, p a → ∃ u, F a = some u ∧ isM u) {o : O} {u : HO} (c : immO o = true) (h : RepO K F o u) : RepO K (erP F p) o u := by
  cases o with
  | l xs => obtain ⟨vs, h1, h2⟩ := h; exact ⟨vs, h1, Reps.erL hp _ _ c h2⟩
  | k xs => obtain ⟨vs, h1, h2⟩ := h; exact ⟨vs, h1, RepK.erL hp _ _ c h2⟩
  | t xs => obtain ⟨vs, h1, h2⟩ := h; exact ⟨vs, h1, RepT.erL hp _ _ c h2⟩
end
def see : Nat → Sx → D → D
  | 0, _, d => d
  | n + 1, st, .adr a => match st a with
    | some (.l xs) => .lst (xs.map (see n st))
    | some (.k kvs) => .dK (kvs.map fun p => (p.1, see n st p.2))
    | some (.t kvs) => .dT (kvs.map fun p => (p.1, see n st p.2))
    | some (.o nm fs) => .ob nm (fs.map fun p => (p.1, see n st p.2))
    | _ => .adr a
  | _ + 1, _, d => d
open Classical in
noncomputable def footW (F H : Hp) (st : Sx) : Hp := fun a => if (st a).isSome = true then H a else F a
section
variable {K : PySem.W.Frag} {F H0 H F1 H1 F' F0 : Hp} {st : Sx}
theorem Reps.map {f : D → D} (hf : ∀ d v, Rep K F d v → Rep K F' (f d) v) : ∀ {ds : List D} {vs : List V}, Reps K F ds vs → Reps K F' (ds.map f) vs
  | [], _, h => by rw [reps_nil] at h; subst h; exact .nil
  | d :: ds, _, h => by
    obtain ⟨v, r, rfl, h1, t⟩ := reps_cons.mp h
    exact .cons (hf d v h1) (t.map hf)
theorem RepK.map {f : D → D} (hf : ∀ d v, Rep K F d v → Rep K F' (f d) v) : ∀ {ds : List (Key × D)} {vs : List (Key × V)}, RepK K F ds vs → RepK K F' (ds.map fun p => (p.1, f p.2)) vs
  | [], _, h => by rw [repK_nil] at h; subst h; exact repK_nil.mpr rfl
  | (k, d) :: ds, _, h => by
    obtain ⟨v, r, rfl, h1, t⟩ := repK_cons.mp h
    exact repK_cons.mpr ⟨v, r, rfl, hf d v h1, t.map hf⟩
theorem RepT.map {f : D → D} (hf : ∀ d v, Rep K F d v → Rep K F' (f d) v) : ∀ {ds : List (List Key × D)} {vs : List (List Key × V)}, RepT K F ds vs → RepT K F' (ds.map fun p => (p.1, f p.2)) vs
  | [], _, h => by rw [repT_nil] at h; subst h; exact repT_nil.mpr rfl
  | (k, d) :: ds, _, h => by
    obtain ⟨v, r, rfl, h1, t⟩ := repT_cons.mp h
    exact repT_cons.mpr ⟨v, r, rfl, hf d v h1, t.map hf⟩
theorem repF_map {f : D → D} (hf : ∀ d v, Rep K F d v → Rep K F' (f d) v) : ∀ {ds : List (Str × D)} {vs : List (Str × V)}, RepF K F ds vs → RepF K F' (ds.map fun p => (p.1, f p.2)) vs
  | [], _, h => by rw [repF_nil] at h; subst h; exact repF_nil.mpr rfl
  | (k, d) :: ds, _, h => by
    obtain ⟨v, r, rfl, h1, t⟩ := repF_cons.mp h
    exact repF_cons.mpr ⟨v, r, rfl, hf d v h1, repF_map hf t⟩
theorem CSt.foot (h : CSt K H0 F H st) (e : Ex F H) : Ex F (footW F H st) ∧ Ex (footW F H st) H := by
  refine ⟨fun a o z => ?_, fun a o z => ?_⟩
  · unfold footW
    split
    · exact e a o z
    · exact z
  · unfold footW at z
    split at z
    · exact z
    · exact e a o z
theorem footW_at (h : CSt K H0 F H st) {a : Addr} {c : Cell} (z : st a = some c) : ∃ u, footW F H st a = some u ∧ RepC K F c u := by
  obtain ⟨⟨u, h1, h2⟩, _⟩ := h.at_ a c z
  exact ⟨u, by unfold footW; rw [if_pos (by rw [z]; rfl)]; exact h1, h2⟩
theorem rep_see (h : CSt K H0 F H st) (e : Ex F H) : ∀ (n : Nat) (d : D) (v : V), Rep K F d v → Rep K (footW F H st) (see n st d) v
  | 0, d, v, r => r.m (h.foot e).1
  | n + 1, d, v, r => by
    cases d with
    | adr a =>
      rw [rep_adr] at r
      subst r
      unfold see
      split
      · rename_i xs z
        obtain ⟨u, h1, vs, rfl, h2⟩ := footW_at h z
        exact rep_lst.mpr ⟨a, vs, rfl, h1, h2.map (rep_see h e n)⟩
      · rename_i xs z
        obtain ⟨u, h1, vs, rfl, h2⟩ := footW_at h z
        exact rep_dK.mpr ⟨a, vs, rfl, h1, h2.map (rep_see h e n)⟩
      · rename_i xs z
        obtain ⟨u, h1, vs, rfl, h2⟩ := footW_at h z
        exact rep_dT.mpr ⟨a, vs, rfl, h1, h2.map (rep_see h e n)⟩
      · rename_i nm fs z
        obtain ⟨u, h1, C, dx, vs, rfl, h2, h3⟩ := footW_at h z
        exact rep_ob.mpr ⟨a, C, dx, vs, rfl, h1, h2, repF_map (rep_see h e n) h3⟩
      · exact rep_adr.mpr rfl
    | _ => exact r.m (h.foot e).1
theorem reps_see (h : CSt K H0 F H st) (e : Ex F H) (n : Nat) {ds : List D} {vs : List V} (r : Reps K F ds vs) : Reps K (footW F H st) (ds.map (see n st)) vs := r.map (rep_see h e n)
/-- slots and store -/
structure RW (K : PySem.W.Frag) (F0 H0 F H : Hp) (σ : L2.St) (ρ : E) (st : Sx) : Prop where
  gr : Gr F0 H0 F H
  re : RE K F σ ρ
  cs : CSt K H0 F H st
def vw (st : Sx) (ρ : E) : E := ρ.map (Option.map (see 7 st))
variable {σ : L2.St} {ρ : E}
theorem RW.fh (r : RW K F0 H0 F H σ ρ st) : Ex F H := r.gr.fh
theorem RW.grow (r : RW K F0 H0 F H σ ρ st) (g : Gr F H F1 H1) : RW K F0 H0 F1 H1 σ ρ st := ⟨r.gr.trans g, r.re.m g.ff, r.cs.grow g⟩
theorem RW.foot (r : RW K F0 H0 F H σ ρ st) : Ex F (footW F H st) ∧ Ex (footW F H st) H := r.cs.foot r.fh
theorem RW.view (r : RW K F0 H0 F H σ ρ st) : RE K (footW F H st) σ (vw st ρ) := ⟨by simp [vw, r.re.len], fun i d h => by
  unfold vw at h
  rw [List.getElem?_map] at h
  obtain ⟨q, h1, h2⟩ := Option.map_eq_some_iff.mp h
  obtain ⟨d0, h3, h4⟩ := Option.map_eq_some_iff.mp h2
  subst h3
  obtain ⟨v, h5, h6⟩ := r.re.at_ i d0 h1
  subst h4
  exact ⟨v, h5, rep_see r.cs r.fh 7 _ _ h6⟩⟩
theorem RW.full (r : RW K F0 H0 F H σ ρ st) : RE K H σ (vw st ρ) := r.view.m r.foot.2
/-- back from the wider foot -/
theorem CSt.back (r : CSt K H0 F H st) (e : Ex F H) (g : Gr (footW F H st) H F1 H1) : Gr F H (erP F1 fun a => (st a).isSome = true) H1 ∧ ∀ a, (st a).isSome = true → ∃ u, F1 a = some u ∧ isM u := by
  have hm : ∀ a, (st a).isSome = true → F a = none ∧ ∃ u, footW F H st a = some u ∧ isM u := fun a ha => by
    obtain ⟨c, e⟩ := Option.isSome_iff_exists.mp ha
    obtain ⟨u, h1, h2⟩ := footW_at r e
    exact ⟨(r.at_ a c e).2.1, u, h1, h2.isM⟩
  refine ⟨⟨e, fun a o h => ?_, g.hh, fun a o h => g.fh a o (erP_some h).2, fun a o h => ?_⟩, fun a ha => ?_⟩
  · rw [erP_no]
    · exact g.ff a o ((r.foot e).1 a o h)
    · intro ha
      rw [(hm a ha).1] at h
      cases h
  · by_cases ha : (st a).isSome = true
    · rw [erP_yes ha, (hm a ha).1]
    · rw [erP_no ha, g.fr a o h]
      unfold footW
      rw [if_neg ha]
  · obtain ⟨h1, u, h2, h3⟩ := hm a ha
    exact ⟨u, g.ff a _ h2, h3⟩
theorem RW.back (r : RW K F0 H0 F H σ ρ st) (g : Gr (footW F H st) H F1 H1) : Gr F H (erP F1 fun a => (st a).isSome = true) H1 ∧ ∀ a, (st a).isSome = true → ∃ u, F1 a = some u ∧ isM u := r.cs.back r.fh g
/-- a cell is written -/
theorem RW.wr (r : RW K F0 H0 F H σ ρ st) {a : Addr} {c c' : Cell} {u : HO} (h : st a = some c) (ru : RepC K F c' u) : RW K F0 H0 F (upd H a u) σ ρ (sxU st a c') := by
  obtain ⟨⟨u0, h1, h2⟩, h3, h4⟩ := r.cs.at_ a c h
  refine ⟨⟨r.gr.f0, r.gr.ff, fun b o q => ?_, fun b o q => ?_, r.gr.fr⟩, r.re, ⟨fun b cb e => ?_⟩⟩
  · rw [upd_ne (ne_of_none q h4)]
    exact r.gr.hh b o q
  · rw [upd_ne (ne_of_none q h3)]
    exact r.fh b o q
  · by_cases hb : b = a
    · subst hb
      rw [sxU_same] at e
      cases e
      exact ⟨⟨u, upd_same, ru⟩, h3, h4⟩
    · rw [sxU_ne hb] at e
      obtain ⟨⟨u1, k1, k2⟩, k3, k4⟩ := r.cs.at_ b cb e
      exact ⟨⟨u1, by rw [upd_ne hb]; exact k1, k2⟩, k3, k4⟩
/-- a new cell -/
theorem RW.new (r : RW K F0 H0 F H σ ρ st) (g : Gr F H F1 H1) {p : Addr} {u : HO} {c : Cell} (n : H p = none) (n1 : F1 p = none) (h1 : H1 p = some u) (ru : RepC K F1 c u) : st p = none ∧ RW K F0 H0 F1 H1 σ ρ (sxU st p c) := by
  have hs : st p = none := by
    cases z : st p with
    | none => rfl
    | some c0 =>
      obtain ⟨⟨u0, k1, _⟩, _⟩ := r.cs.at_ p c0 z
      rw [n] at k1
      cases k1
  have r1 := r.grow g
  refine ⟨hs, r1.gr, r1.re, ⟨fun b cb e => ?_⟩⟩
  by_cases hb : b = p
  · subst hb
    rw [sxU_same] at e
    cases e
    exact ⟨⟨u, h1, ru⟩, n1, r.gr.hh.free n⟩
  · rw [sxU_ne hb] at e
    exact r1.cs.at_ b cb e
end
end Mi
namespace Mi
open PySem PySem.Spec PyProof.Rows L2
abbrev WX := E → Sx → (D → Sx → Prop) → (Str → Sx → Prop) → Prop
abbrev WA := E → Sx → (List D → Sx → Prop) → (Str → Sx → Prop) → Prop
abbrev WT := E → Sx → (Bool → Sx → Prop) → (Str → Sx → Prop) → Prop
/-- what an exception wants -/
def ExW (K : PySem.W.Frag) (mg : Str → Option Value) (X : XK) (F0 H0 : Hp) (Px : Str → Sx → Prop) : Prop := ∀ x st' F' H' C, Px x st' → Gr F0 H0 F' H' → CSt K H0 F' H' st' → mg x = some (.ref C) → X (.ref C) none H'
def SemXW (K : PySem.W.Frag) (mg : Str → Option Value) (X : XK) (t : TE) (f : WX) : Prop := ∀ F0 H0 F H σ ρ st, RW K F0 H0 F H σ ρ st → ∀ Pd Px, f ρ st Pd Px → ExW K mg X F0 H0 Px → ∀ Q : VK, (∀ d st' v F' H', Pd d st' → RW K F0 H0 F' H' σ ρ st' → Ex F F' → Rep K F' d v → Q v H') → t σ H Q
def SemAW (K : PySem.W.Frag) (mg : Str → Option Value) (X : XK) (t : TA) (f : WA) : Prop := ∀ F0 H0 F H σ ρ st, RW K F0 H0 F H σ ρ st → ∀ Pd Px, f ρ st Pd Px → ExW K mg X F0 H0 Px → ∀ Q : List V → Hp → Prop, (∀ d st' v F' H', Pd d st' → RW K F0 H0 F' H' σ ρ st' → Ex F F' → Reps K F' d v → Q v H') → t σ H Q
def SemTW (K : PySem.W.Frag) (mg : Str → Option Value) (X : XK) (t : TT) (f : WT) : Prop := ∀ F0 H0 F H σ ρ st, RW K F0 H0 F H σ ρ st → ∀ Pd Px, f ρ st Pd Px → ExW K mg X F0 H0 Px → ∀ Q : Bool → Hp → Prop, (∀ d st' F' H', Pd d st' → RW K F0 H0 F' H' σ ρ st' → Ex F F' → Q d H') → t σ H Q
def wHid (fe : FE) : WX := fun ρ st Pd _ => ∃ d, fe ρ = some d ∧ Pd d st
def wView (fe : FE) : WX := fun ρ st Pd _ => ∃ d, fe (vw st ρ) = some d ∧ imm d = true ∧ Pd d st
def wNewH (f : E → Option O) : WX := fun ρ st Pd _ => ∃ o, f ρ = some o ∧ ∀ a, st a = none → Pd (.adr a) (sxU st a o.c)
def wNewV (f : E → Option O) : WX := fun ρ st Pd _ => ∃ o, f (vw st ρ) = some o ∧ immO o = true ∧ ∀ a, st a = none → Pd (.adr a) (sxU st a o.c)
/-- a new object of immutable parts, told from now on, never changed -/
def wFrzV (f : E → Option O) : WX := fun ρ st Pd _ => ∃ o, f (vw st ρ) = some o ∧ immO o = true ∧ Pd o.d st
def subW (st : Sx) (a b : D) : Option D := match a with
  | .adr p => match st p with
    | some (.l xs) => (b.i?).bind (atI xs)
    | some (.k kvs) => (D.key? b).bind (valD kvs)
    | some (.t kvs) => (D.keyT? b).bind (valD kvs)
    | _ => none
  | a => dIx a b
def wSub (fa fb : WX) : WX := fun ρ st Pd Px => fa ρ st (fun a st1 => fb ρ st1 (fun b st2 => ∃ d, subW st2 a b = some d ∧ Pd d st2) Px) Px
def wOp (g : D → D → Option D) (fa fb : WX) : WX := fun ρ st Pd Px => fa ρ st (fun a st1 => fb ρ st1 (fun b st2 => ∃ d, g a b = some d ∧ Pd d st2) Px) Px
def wUn (g : D → Option D) (fa : WX) : WX := fun ρ st Pd Px => fa ρ st (fun a st1 => ∃ d, g a = some d ∧ Pd d st1) Px
def waNil : WA := fun _ st Pd _ => Pd [] st
def waCons (fa : WX) (fr : WA) : WA := fun ρ st Pd Px => fa ρ st (fun a st1 => fr ρ st1 (fun r st2 => Pd (a :: r) st2) Px) Px
def wTup (fa : WA) : WX := fun ρ st Pd Px => fa ρ st (fun xs st1 => xs.length ≤ 100000 ∧ Pd (.tup xs) st1) Px
def wLstN (fa : WA) : WX := fun ρ st Pd Px => fa ρ st (fun xs st1 => xs.length ≤ 100000 ∧ ∀ a, st1 a = none → Pd (.adr a) (sxU st1 a (.l xs))) Px
def wApp (g : List D → Option D) (fa : WA) : WX := fun ρ st Pd Px => fa ρ st (fun xs st1 => ∃ d, g xs = some d ∧ Pd d st1) Px
/-- the arguments as they are seen -/
def wAppV (g : List D → Option D) (fa : WA) : WX := fun ρ st Pd Px => fa ρ st (fun xs st1 => ∃ d, g (xs.map (see 7 st1)) = some d ∧ imm d = true ∧ Pd d st1) Px
abbrev WF := List D → Sx → (D → Sx → Prop) → (Str → Sx → Prop) → Prop
def wCall (wf : WF) (fa : WA) : WX := fun ρ st Pd Px => fa ρ st (fun xs st1 => wf xs st1 Pd Px) Px
def wIfE (c : WT) (fa fb : WX) : WX := fun ρ st Pd Px => c ρ st (fun b st1 => if b = true then fa ρ st1 Pd Px else fb ρ st1 Pd Px) Px
def wtV (c : E → Option Bool) : WT := fun ρ st Pd _ => ∃ b, c (vw st ρ) = some b ∧ Pd b st
def wtOf (f : WX) : WT := fun ρ st Pd Px => f ρ st (fun d st1 => ∃ b, d.b? = some b ∧ Pd b st1) Px
section
variable {K : PySem.W.Frag} {mg : Str → Option Value} {X : XK} {ta tb te : TE} {fa fb : WX} {fe : FE}
theorem wx_hid (h : SemE K te fe) : SemXW K mg X te (wHid fe) := fun F0 H0 F H σ ρ st r Pd Px hf hx Q q => by
  obtain ⟨d, h1, h2⟩ := hf
  exact h F H σ ρ r.fh r.re d h1 Q fun v F1 H1 g rv => q d st v F1 H1 h2 (r.grow g) g.ff rv
theorem wx_view (h : SemE K te fe) : SemXW K mg X te (wView fe) := fun F0 H0 F H σ ρ st r Pd Px hf hx Q q => by
  obtain ⟨d, h1, h2, h3⟩ := hf
  refine h (footW F H st) H σ _ r.foot.2 r.view d h1 Q fun v F1 H1 g rv => ?_
  obtain ⟨g2, hp⟩ := r.back g
  exact q d st v _ H1 h3 (r.grow g2) g2.ff (Rep.erL hp d v h2 rv)
theorem wx_newH {f : E → Option O} (h : SemN K te f) : SemXW K mg X te (wNewH f) := fun F0 H0 F H σ ρ st r Pd Px hf hx Q q => by
  obtain ⟨o, h1, h2⟩ := hf
  refine h F H σ ρ r.fh r.re o h1 Q fun p u F1 H1 g n n1 hp ro => ?_
  obtain ⟨hs, r1⟩ := r.new g n n1 hp ro.c
  exact q _ _ _ F1 H1 (h2 p hs) r1 g.ff (rep_adr.mpr rfl)
theorem wx_frzV {f : E → Option O} (h : SemN K te f) : SemXW K mg X te (wFrzV f) := fun F0 H0 F H σ ρ st r Pd Px hf hx Q q => by
  obtain ⟨o, h1, h2, h3⟩ := hf
  refine h (footW F H st) H σ _ r.foot.2 r.view o h1 Q fun p u F1 H1 g n n1 hp ro => ?_
  obtain ⟨g2, hm⟩ := r.back g
  have n2 : erP F1 (fun a => (st a).isSome = true) p = none := by
    cases z : erP F1 (fun a => (st a).isSome = true) p with
    | none => rfl
    | some u2 =>
      rw [(erP_some z).2] at n1
      cases n1
  have g3 := g2.take n n2 hp
  exact q _ _ _ _ H1 h3 (r.grow g3) g3.ff ((RepO.erL hm h2 ro).rep n2)
theorem subW_ok {F0 H0 F H : Hp} {σ : L2.St} {ρ : E} {st : Sx} (r : RW K F0 H0 F H σ ρ st) {a b d : D} {x y : V} (ra : Rep K F a x) (rb : Rep K F b y) (h : subW st a b = some d) (Q : VK) (q : ∀ v F' H', Gr F H F' H' → Rep K F' d v → Q v H') : rIxA K x y H Q := by
  unfold subW at h
  split at h
  · rename_i p
    rw [rep_adr] at ra
    subst ra
    split at h
    · rename_i xs z
      obtain ⟨⟨u, h1, vs, rfl, h2⟩, _⟩ := r.cs.at_ p _ z
      obtain ⟨i, e1, e2⟩ := Option.bind_eq_some_iff.mp h
      obtain ⟨v, e3, e4⟩ := atI_rep h2 e2
      exact .inl ⟨p, vs, i, v, rfl, rep_i rb e1, .inl (.of h1), e3, q v F H (.refl r.fh) e4⟩
    · rename_i kvs z
      obtain ⟨⟨u, h1, vs, rfl, h2⟩, _⟩ := r.cs.at_ p _ z
      obtain ⟨k, e1, e2⟩ := Option.bind_eq_some_iff.mp h
      obtain ⟨v, e3, e4⟩ := (h2.val (k := k)).1 d e2
      have g := DGet.k (a := p) (k := k) h1
      rw [← rep_key rb e1, e3] at g
      exact .inr (.inr ⟨p, v, rfl, g, q v F H (.refl r.fh) e4⟩)
    · rename_i kvs z
      obtain ⟨⟨u, h1, vs, rfl, h2⟩, _⟩ := r.cs.at_ p _ z
      obtain ⟨k, e1, e2⟩ := Option.bind_eq_some_iff.mp h
      obtain ⟨v, e3, e4⟩ := (h2.val (k := k)).1 d e2
      cases b <;> simp only [D.keyT?, reduceCtorEq] at e1
      obtain ⟨b, us, rfl, h4, h5⟩ := rep_tup.mp rb
      rw [reps_keys h5 e1] at h4
      have g := DGet.t h1 (r.fh _ _ h4)
      rw [e3] at g
      exact .inr (.inr ⟨p, v, rfl, g, q v F H (.refl r.fh) e4⟩)
    · cases h
  · exact lf_ix F H a b x y r.fh ra rb d h Q q
theorem wx_sub (ha : SemXW K mg X ta fa) (hb : SemXW K mg X tb fb) : SemXW K mg X (tOp (rIxA K) ta tb) (wSub fa fb) := fun F0 H0 F H σ ρ st r Pd Px hf hx Q q => by
  refine ha F0 H0 F H σ ρ st r _ Px hf hx _ fun a st1 x F1 H1 hf r1 e1 ra => ?_
  refine hb F0 H0 F1 H1 σ ρ st1 r1 _ Px hf hx _ fun b st2 y F2 H2 hf r2 e2 rb => ?_
  obtain ⟨d, h1, h2⟩ := hf
  exact subW_ok r2 (ra.m e2) rb h1 Q fun v F3 H3 g rv => q d st2 v F3 H3 h2 (r2.grow g) ((e1.trans e2).trans g.ff) rv
theorem wx_op {rr : R2} {g : D → D → Option D} (ha : SemXW K mg X ta fa) (hb : SemXW K mg X tb fb) (L : Lf2 K rr g) : SemXW K mg X (tOp rr ta tb) (wOp g fa fb) := fun F0 H0 F H σ ρ st r Pd Px hf hx Q q => by
  refine ha F0 H0 F H σ ρ st r _ Px hf hx _ fun a st1 x F1 H1 hf r1 e1 ra => ?_
  refine hb F0 H0 F1 H1 σ ρ st1 r1 _ Px hf hx _ fun b st2 y F2 H2 hf r2 e2 rb => ?_
  obtain ⟨d, h1, h2⟩ := hf
  exact L F2 H2 a b x y r2.fh (ra.m e2) rb d h1 Q fun v F3 H3 g rv => q d st2 v F3 H3 h2 (r2.grow g) ((e1.trans e2).trans g.ff) rv
theorem wa_nil : SemAW K mg X tNil waNil := fun F0 H0 F H σ ρ st r Pd Px hf hx Q q => q [] st [] F H hf r (.refl F) .nil
theorem wa_cons {tr : TA} {fr : WA} (ha : SemXW K mg X ta fa) (hr : SemAW K mg X tr fr) : SemAW K mg X (tCons ta tr) (waCons fa fr) := fun F0 H0 F H σ ρ st r Pd Px hf hx Q q => by
  refine ha F0 H0 F H σ ρ st r _ Px hf hx _ fun a st1 x F1 H1 hf r1 e1 ra => ?_
  refine hr F0 H0 F1 H1 σ ρ st1 r1 _ Px hf hx _ fun b st2 y F2 H2 hf r2 e2 rb => ?_
  exact q _ st2 _ F2 H2 hf r2 (e1.trans e2) (.cons (ra.m e2) rb)
variable {t : TA} {f : WA}
theorem wx_tup (h : SemAW K mg X t f) : SemXW K mg X (tTup t) (wTup f) := fun F0 H0 F H σ ρ st r Pd Px hf hx Q q => by
  refine h F0 H0 F H σ ρ st r _ Px hf hx _ fun xs st1 vs F1 H1 hf r1 e1 rs => ?_
  obtain ⟨hl, h2⟩ := hf
  refine ⟨by rw [← rs.len]; exact sz_of hl, fun p hp => ?_⟩
  have g : Gr F1 H1 (upd F1 p (.tup vs)) (upd H1 p (.tup vs)) := .new r1.fh hp
  exact q _ st1 _ _ _ h2 (r1.grow g) (e1.trans g.ff) (rep_tup.mpr ⟨p, vs, rfl, upd_same, rs.m g.ff⟩)
theorem wx_callBV {rr : List V → Hp → VK → Prop} {g : List D → Option D} (h : SemAW K mg X t f) (L : LfC K rr g) : SemXW K mg X (tCB rr t) (wAppV g f) := fun F0 H0 F H σ ρ st r Pd Px hf hx Q q => by
  refine h F0 H0 F H σ ρ st r _ Px hf hx _ fun xs st1 vs F1 H1 hf r1 e1 rs => ?_
  obtain ⟨d, h1, h3, h2⟩ := hf
  refine L (footW F1 H1 st1) H1 _ vs r1.foot.2 (reps_see r1.cs r1.fh 7 rs) d h1 Q fun v F3 H3 g rv => ?_
  obtain ⟨g2, hp⟩ := r1.back g
  exact q d st1 v _ H3 h2 (r1.grow g2) (e1.trans g2.ff) (Rep.erL hp d v h3 rv)
theorem wx_call {n : Nat} {m : List D → Option D} (hm : ∀ ds d, m ds = some d → ds.length = n) (h : SemAW K mg X t f) : SemXW K mg X (tCall (spD K n m) [] E0 t) (wApp m f) := fun F0 H0 F H σ ρ st r Pd Px hf hx Q q => by
  refine h F0 H0 F H σ ρ st r _ Px hf hx _ fun xs st1 vs F1 H1 hf r1 e1 rs => ?_
  obtain ⟨d, h1, h2⟩ := hf
  show spD K n m (vs ++ []) H1 Q E0
  rw [List.append_nil]
  exact ⟨F1, xs, d, r1.fh, rs, by rw [← rs.len]; exact hm _ _ h1, h1, fun v F3 H3 g rv => q d st1 v F3 H3 h2 (r1.grow g) (e1.trans g.ff) rv⟩
theorem CSt.own {H0 F H : Hp} {st : Sx} (h : CSt K H0 F H st) : CSt K (erP H fun a => (st a).isSome = true) F H st := ⟨fun a c e => by
  obtain ⟨h1, h2, _⟩ := h.at_ a c e
  exact ⟨h1, h2, erP_yes (by rw [e]; rfl)⟩⟩
/-- back in the caller -/
theorem RW.come {F0 H0 F H F' H' : Hp} {σ : L2.St} {ρ : E} {st st' : Sx} (r : RW K F0 H0 F H σ ρ st) (g : Gr F (erP H fun a => (st a).isSome = true) F' H') (c : CSt K (erP H fun a => (st a).isSome = true) F' H' st') : RW K F0 H0 F' H' σ ρ st' := by
  have h0 : ∀ x o, H0 x = some o → erP H (fun a => (st a).isSome = true) x = some o := fun x o z => by
    rw [erP_no]
    · exact r.gr.hh x o z
    · intro hs
      obtain ⟨c, e⟩ := Option.isSome_iff_exists.mp hs
      rw [(r.cs.at_ x c e).2.2] at z
      cases z
  refine ⟨⟨r.gr.f0, r.gr.ff.trans g.ff, fun x o z => g.hh x o (h0 x o z), g.fh, fun x o z => (g.fr x o (h0 x o z)).trans (r.gr.fr x o z)⟩, r.re.m g.ff, ⟨fun a c' e => ?_⟩⟩
  obtain ⟨h1, h2, h3⟩ := c.at_ a c' e
  refine ⟨h1, h2, ?_⟩
  cases z : H0 a with
  | none => rfl
  | some o =>
    rw [h0 a o z] at h3
    cases h3
/-- one that raises nothing -/
def spW0 (K : PySem.W.Frag) (n : Nat) (wf : WF) : Sp := fun vs H Q _ => ∃ F ds st Pd, Ex F H ∧ Reps K F ds vs ∧ vs.length = n ∧ CSt K (erP H fun a => (st a).isSome = true) F H st ∧ wf ds st Pd (fun _ _ => False) ∧
  ∀ d st' v F' H', Pd d st' → Gr F (erP H fun a => (st a).isSome = true) F' H' → CSt K (erP H fun a => (st a).isSome = true) F' H' st' → Rep K F' d v → Q v H'
def wCall0 (wf : WF) (fa : WA) : WX := fun ρ st Pd Px => fa ρ st (fun xs st1 => wf xs st1 Pd (fun _ _ => False)) Px
/-- the arguments as they are seen; the callee has a store of its own -/
def wCallV (wf : WF) (fa : WA) : WX := fun ρ st Pd Px => fa ρ st (fun xs st1 => wf (xs.map (see 7 st1)) sx0 (fun d _ => imm d = true ∧ Pd d st1) (fun _ _ => False)) Px
theorem wx_callW0 {n : Nat} {wf : WF} (hm : ∀ ds st Pd Px, wf ds st Pd Px → ds.length = n) (h : SemAW K mg X t f) : SemXW K mg X (tCall (spW0 K n wf) [] E0 t) (wCall0 wf f) := fun F0 H0 F H σ ρ st r Pd Px hf hx Q q => by
  refine h F0 H0 F H σ ρ st r _ Px hf hx _ fun xs st1 vs F1 H1 hf r1 e1 rs => ?_
  show spW0 K n wf (vs ++ []) H1 Q E0
  rw [List.append_nil]
  refine ⟨F1, xs, st1, Pd, r1.fh, rs, by rw [← rs.len]; exact hm _ _ _ _ hf, r1.cs.own, hf, fun d st' v F' H' hd g c rv => ?_⟩
  exact q d st' v F' H' hd (r1.come g c) (e1.trans g.ff) rv
theorem erP_sx0 {H : Hp} : (erP H fun a => (sx0 a).isSome = true) = H := by
  funext a
  exact erP_no (by simp [sx0])
theorem CSt.nil {H0 F H : Hp} : CSt K H0 F H sx0 := ⟨fun a c e => by cases e⟩
theorem wt_v {c : TT} {fc : E → Option Bool} (h : SemT K c fc) : SemTW K mg X c (wtV fc) := fun F0 H0 F H σ ρ st r Pd Px hf hx Q q => by
  obtain ⟨b, h1, h2⟩ := hf
  refine h H H σ _ (.refl H) r.full b h1 _ fun F1 H1 g => ?_
  have g1 := g.back r.fh
  exact q b st F H1 h2 (r.grow g1) g1.ff
theorem wt_of (h : SemXW K mg X te fa) : SemTW K mg X (tTest te) (wtOf fa) := fun F0 H0 F H σ ρ st r Pd Px hf hx Q q => by
  refine h F0 H0 F H σ ρ st r _ Px hf hx _ fun d st1 v F1 H1 hf r1 e1 rv => ?_
  obtain ⟨b, h1, h2⟩ := hf
  exact ⟨b, rep_b rv h1, q b st1 F1 H1 h2 r1 e1⟩
theorem RW.own {F0 H0 F H : Hp} {σ : L2.St} {ρ : E} {st : Sx} (r : RW K F0 H0 F H σ ρ st) : RW K F (erP H fun a => (st a).isSome = true) F H σ ρ st := ⟨⟨fun a o z => (by
    rw [erP_no]
    · exact r.fh a o z
    · intro hs
      obtain ⟨c, e⟩ := Option.isSome_iff_exists.mp hs
      rw [(r.cs.at_ a c e).2.1] at z
      cases z), .refl _, erP_ex, r.fh, fun _ _ _ => rfl⟩, r.re, r.cs.own⟩
theorem RW.wrO {F0 H0 F H : Hp} {σ : L2.St} {ρ : E} {st : Sx} (r : RW K F0 H0 F H σ ρ st) {a : Addr} {u : HO} (h1 : F a = none) (h2 : H0 a = none) (h3 : st a = none) : RW K F0 H0 F (upd H a u) σ ρ st := by
  refine ⟨⟨r.gr.f0, r.gr.ff, fun b o q => ?_, fun b o q => ?_, r.gr.fr⟩, r.re, ⟨fun b cb e => ?_⟩⟩
  · rw [upd_ne (ne_of_none q h2)]
    exact r.gr.hh b o q
  · rw [upd_ne (ne_of_none q h1)]
    exact r.fh b o q
  · have hb : b ≠ a := fun z => by rw [z, h3] at e; cases e
    obtain ⟨⟨u1, k1, k2⟩, k3, k4⟩ := r.cs.at_ b cb e
    exact ⟨⟨u1, by rw [upd_ne hb]; exact k1, k2⟩, k3, k4⟩
theorem RW.add {F0 H0 F H : Hp} {σ : L2.St} {ρ : E} {st : Sx} (r : RW K F0 H0 F H σ ρ st) {a : Addr} {u : HO} {c : Cell} (h : H a = some u) (h1 : F a = none) (h2 : H0 a = none) (h3 : RepC K F c u) : RW K F0 H0 F H σ ρ (sxU st a c) := by
  refine ⟨r.gr, r.re, ⟨fun b cb e => ?_⟩⟩
  by_cases hb : b = a
  · subst hb
    rw [sxU_same] at e
    cases e
    exact ⟨⟨u, h, h3⟩, h1, h2⟩
  · rw [sxU_ne hb] at e
    exact r.cs.at_ b cb e
theorem RW.slots {F0 H0 F H : Hp} {σ σ' : L2.St} {ρ ρ' : E} {st : Sx} (r : RW K F0 H0 F H σ ρ st) (h : RE K F σ' ρ') : RW K F0 H0 F H σ' ρ' st := ⟨r.gr, h, r.cs⟩
def lcS (tg : FG) (f : WX) (ρ : E) : List D → List D → Sx → (List D → Sx → Prop) → Prop
  | [], acc, st, Pl => Pl acc st
  | d :: ds, acc, st, Pl => ∃ ws, tg d = some ws ∧ f (putE ρ ws) st (fun y st' => lcS tg f ρ ds (acc ++ [y]) st' Pl) (fun _ _ => False)
def wLcS (fi : E → Option (List D)) (tg : FG) (f : WX) (vs : List Nat) : WX := fun ρ st Pd _ => ∃ ds, fi ρ = some ds ∧ ds.length ≤ 50000 ∧ lcS tg f (wipeE ρ vs) ds [] st (fun ys st' => ∀ a, st' a = none → Pd (.adr a) (sxU st' a (.l ys)))
theorem wx_lcS {X0 : XK} {wi : TI} {g : TG} {vs : List Nat} {fi : E → Option (List D)} {tg : FG} {f : WX} (hi : SemI K wi fi) (hg : SemG K g tg) (he : SemXW K mg X te f) (hw : ∀ d ws, tg d = some ws → ∀ p ∈ ws.map (·.1), p ∈ vs) : SemXW K mg X0 (tLc wi g tYes te vs) (wLcS fi tg f vs) := fun F0 H0 F H σ ρ st r Pd Px hf hx Q q => by
  obtain ⟨ds, h1, hlen, h2⟩ := hf
  refine hi F H σ ρ r.fh r.re ds h1 _ fun J F1 H1 g1 wk D hD => ?_
  have r1 := r.grow g1
  have hD0 : H0 D = none := r1.gr.hh.free hD
  have hDF : F1 D = none := r1.fh.free hD
  have hDs : st D = none := by
    cases z : st D with
    | none => rfl
    | some c0 =>
      obtain ⟨⟨u0, k1, _⟩, _⟩ := r1.cs.at_ D c0 z
      rw [hD] at k1
      cases k1
  refine ⟨fun i m H' => m = ds.length - i ∧ i ≤ ds.length ∧ ∃ F' st' acc va, Ex F1 F' ∧ RW K F0 H0 F' H' σ ρ st' ∧ H' D = some (.lst va) ∧ F' D = none ∧ st' D = none ∧ Reps K F' acc va ∧ acc.length = i ∧ lcS tg f (wipeE ρ vs) (ds.drop i) acc st' (fun ys st' => ∀ a, st' a = none → Pd (.adr a) (sxU st' a (.l ys))),
    ⟨ds.length, by simp, Nat.zero_le _, F1, st, [], [], .refl _, r1.wrO hDF hD0 hDs, upd_same, hDF, hDs, .nil, rfl, by simpa using h2⟩, ?_⟩
  rintro i m H' ⟨rfl, hi', F', st', acc, va, ef, r', hHD, hFD, hsD, ra, hal, hr⟩
  by_cases hlt : i < ds.length
  · refine .inr ⟨wk.go i F' H' ef r'.fh hlt, fun H2 => ∃ F2 st2 acc2 va2, Ex F1 F2 ∧ RW K F0 H0 F2 H2 σ ρ st2 ∧ H2 D = some (.lst va2) ∧ F2 D = none ∧ st2 D = none ∧ Reps K F2 acc2 va2 ∧ acc2.length = i + 1 ∧ lcS tg f (wipeE ρ vs) (ds.drop (i + 1)) acc2 st2 (fun ys st' => ∀ a, st' a = none → Pd (.adr a) (sxU st' a (.l ys))),
      fun H2 hN => ⟨ds.length - (i + 1), by omega, rfl, by omega, hN⟩, fun x H2 hy => ?_⟩
    have hdi : ds[i]? = some ds[i] := List.getElem?_eq_getElem hlt
    obtain ⟨F2, g2, r2⟩ := wk.yld i F' H' x H2 ds[i] ef r'.fh hdi hy
    rw [List.drop_eq_getElem_cons hlt] at hr
    obtain ⟨ws, h3, hr⟩ := hr
    have rs2 := r'.grow g2
    have hHD2 := g2.hh _ _ hHD
    have hFD2 : F2 D = none := (g2.fr _ _ hHD).trans hFD
    refine hg F2 H2 _ ds[i] x ws g2.fh r2 h3 _ fun us ru => ?_
    refine ⟨wipe_put (by rw [ru.ix]; exact hw _ _ h3), ?_⟩
    have rq := (rs2.slots ((rs2.re.wipe vs).put ru)).own
    refine he _ _ _ _ _ _ _ rq _ _ hr (fun x st' F' H' C z => z.elim) _ fun y st3 v F3 H3 hr r3 e3 rv => ?_
    have eHD : erP H2 (fun a => (st' a).isSome = true) D = some (.lst va) := by
      rw [erP_no (by rw [hsD]; simp)]
      exact hHD2
    have hHD3 := r3.gr.hh _ _ eHD
    have hFD3 : F3 D = none := (r3.gr.fr _ _ eHD).trans hFD2
    have hsD3 : st3 D = none := by
      cases z : st3 D with
      | none => rfl
      | some c0 =>
        have k := (r3.cs.at_ D c0 z).2.2
        rw [eHD] at k
        cases k
    have r4 := rs2.come r3.gr r3.cs
    have ra3 : Reps K F3 acc va := ra.m (g2.ff.trans e3)
    refine ⟨va, hHD3, by rw [← ra.len, hal]; exact Nat.lt_of_lt_of_le hlt (Nat.le_trans hlen (by decide)), F3, st3, acc ++ [y], va ++ [v], ef.trans (g2.ff.trans e3), r4.wrO hFD3 hD0 hsD3, upd_same, hFD3, hsD3, ra3.append (.one rv), by simp [hal], hr⟩
  · have ei : i = ds.length := by omega
    subst ei
    rw [List.drop_length] at hr
    exact .inl ⟨wk.stop F' H' ef r'.fh, q _ _ _ F' H' (hr D hsD) (r'.add (c := .l acc) hHD hFD hD0 ⟨va, rfl, ra⟩) (g1.ff.trans ef) (rep_adr.mpr rfl)⟩
end
end Mi
namespace Mi
open PySem PySem.Spec PyProof.Rows L2
inductive WOut where
  | nx (ρ : E) (st : Sx) | bk (ρ : E) (st : Sx) | ct (ρ : E) (st : Sx) | rt (d : D) (st : Sx) | ex (x : Str) (st : Sx)
def EndW (K : PySem.W.Frag) (mg : Str → Option Value) (X : XK) (F0 H0 Fs : Hp) (Dn : Ends) : WOut → Prop
  | .nx ρ st => ∀ F H σ, RW K F0 H0 F H σ ρ st → Ex Fs F → Dn.nx σ H
  | .bk ρ st => ∀ F H σ, RW K F0 H0 F H σ ρ st → Ex Fs F → Dn.bk σ H
  | .ct ρ st => ∀ F H σ, RW K F0 H0 F H σ ρ st → Ex Fs F → Dn.ct σ H
  | .rt d st => ∀ F H v, Gr F0 H0 F H → CSt K H0 F H st → Rep K F d v → Dn.rt v H
  | .ex x st => ∀ F H C, Gr F0 H0 F H → CSt K H0 F H st → mg x = some (.ref C) → X (.ref C) none H
abbrev WS := E → Sx → (WOut → Prop) → Prop
def SemSW (K : PySem.W.Frag) (mg : Str → Option Value) (X : XK) (t : TS) (g : WS) : Prop := ∀ F0 H0 F H σ ρ st, RW K F0 H0 F H σ ρ st → ∀ P, g ρ st P → ∀ Dn, (∀ o, P o → EndW K mg X F0 H0 F Dn o) → t Dn σ H
def exP (P : WOut → Prop) : Str → Sx → Prop := fun x st => P (.ex x st)
/-- what follows -/
def sqP (k : E → Sx → Prop) (P : WOut → Prop) : WOut → Prop
  | .nx ρ st => k ρ st
  | o => P o
/-- a turn's end -/
def tuP (k : E → Sx → Prop) (P : WOut → Prop) : WOut → Prop
  | .nx ρ st => k ρ st
  | .ct ρ st => k ρ st
  | .bk ρ st => P (.nx ρ st)
  | o => P o
def wsNext : WS := fun ρ st P => P (.nx ρ st)
def wsSeq (g h : WS) : WS := fun ρ st P => g ρ st (sqP (fun ρ' st' => h ρ' st' P) P)
def wsIf (c : WT) (g h : WS) : WS := fun ρ st P => c ρ st (fun b st1 => if b = true then g ρ st1 P else h ρ st1 P) (exP P)
def wsAsg (i : Nat) (f : WX) : WS := fun ρ st P => f ρ st (fun d st1 => P (.nx (ρ.set i (some d)) st1)) (exP P)
def wsAsgT (tg : FG) (f : WX) : WS := fun ρ st P => f ρ st (fun d st1 => ∃ ws, tg d = some ws ∧ P (.nx (putE ρ ws) st1)) (exP P)
def wsRet (f : WX) : WS := fun ρ st P => f ρ st (fun d st1 => P (.rt d st1)) (exP P)
def wsCont : WS := fun ρ st P => P (.ct ρ st)
def wsDrop (f : WX) : WS := fun ρ st P => f ρ st (fun _ st1 => P (.nx ρ st1)) (exP P)
def wsRaise (x : Str) : WS := fun _ st P => P (.ex x st)
def forW (tg : FG) (body : WS) : List D → E → Sx → (WOut → Prop) → Prop
  | [], ρ, st, P => P (.nx ρ st)
  | d :: ds, ρ, st, P => ∃ ws, tg d = some ws ∧ body (putE ρ ws) st (tuP (fun ρ' st' => forW tg body ds ρ' st' P) P)
def wsFor (fi : E → Option (List D)) (tg : FG) (body : WS) : WS := fun ρ st P => ∃ ds, fi ρ = some ds ∧ forW tg body ds ρ st P
/-- over a list that may itself be a cell, which stays -/
def forC (tg : FG) (body : WS) (a : Addr) (xs : List D) : List D → E → Sx → (WOut → Prop) → Prop
  | [], ρ, st, P => st a = some (.l xs) ∧ P (.nx ρ st)
  | d :: ds, ρ, st, P => st a = some (.l xs) ∧ ∃ ws, tg d = some ws ∧ body (putE ρ ws) st (tuP (fun ρ' st' => forC tg body a xs ds ρ' st' P) P)
def wsForC (f : WX) (tg : FG) (body : WS) : WS := fun ρ st P => f ρ st (fun d st1 => ∃ a xs, d = .adr a ∧ st1 a = some (.l xs) ∧ forC tg body a xs xs ρ st1 P) (exP P)
def whW (c : WT) (body : WS) : Nat → E → Sx → (WOut → Prop) → Prop
  | 0, _, _, _ => False
  | n + 1, ρ, st, P => c ρ st (fun b st1 => if b = true then body ρ st1 (tuP (fun ρ' st' => whW c body n ρ' st' P) P) else P (.nx ρ st1)) (exP P)
def wsWhile (c : WT) (body : WS) : WS := fun ρ st P => ∃ n, whW c body n ρ st P
def putW (st : Sx) (o i v : D) : Option Sx := match o with
  | .adr p => match st p with
    | some (.l xs) => (i.i?).bind fun k => (ixN xs.length k).map fun j => sxU st p (.l (xs.set j v))
    | some (.k kvs) => (D.key? i).bind fun k => if kvs.length < 100000 then some (sxU st p (.k (putD kvs k v))) else none
    | some (.t kvs) => (D.keyT? i).bind fun k => if kvs.length < 100000 then some (sxU st p (.t (putD kvs k v))) else none
    | _ => none
  | _ => none
def rSetA : TSet := fun o i v H Q => rSetL o i v H Q ∨ rSetD o i v H Q
theorem set_all {X : Cx} (hu : X.A.units + 1 < cLine) : PSet X rSetA := by
  intro pins s σ H o i v ov iv u Q I ro ri rv h
  rcases h with h | h
  · exact set_list pins s σ H o i v ov iv u Q I ro ri rv h
  · exact set_dict hu pins s σ H o i v ov iv u Q I ro ri rv h
/-- e1[e2] = e3 -/
def wsPut (fo fi fv : WX) : WS := fun ρ st P => fv ρ st (fun v st1 => fo ρ st1 (fun o st2 => fi ρ st2 (fun i st3 => ∃ st4, putW st3 o i v = some st4 ∧ P (.nx ρ st4)) (exP P)) (exP P)) (exP P)
def appW (st : Sx) (o v : D) : Option Sx := match o with
  | .adr p => match st p with
    | some (.l xs) => if xs.length < 100000 then some (sxU st p (.l (xs ++ [v]))) else none
    | _ => none
  | _ => none
def isLc (st : Sx) (o : D) : Prop := ∃ p xs, o = .adr p ∧ st p = some (.l xs)
def wsApp (fo fv : WX) : WS := fun ρ st P => fo ρ st (fun o st1 => isLc st1 o ∧ fv ρ st1 (fun v st2 => ∃ st3, appW st2 o v = some st3 ∧ P (.nx ρ st3)) (exP P)) (exP P)
def lstW (st : Sx) (v : D) : Option (List D) := match v with
  | .lst zs => some zs
  | .adr p => match st p with
    | some (.l zs) => some zs
    | _ => none
  | _ => none
/-- o.pop() -/
def wPop (fo : WX) : WX := fun ρ st Pd Px => fo ρ st (fun o st1 => ∃ p xs y, o = .adr p ∧ st1 p = some (.l xs) ∧ xs[xs.length - 1]? = some y ∧ Pd y (sxU st1 p (.l xs.dropLast))) Px
section
variable {K : PySem.W.Frag} {mg : Str → Option Value} {X : XK} {t u : TS} {g h : WS} {te ta tb : TE} {f fa fb fo fi' fv : WX} {i : Nat}
theorem EndW.ex {F0 H0 F : Hp} {Dn : Ends} {P : WOut → Prop} (h : ∀ o, P o → EndW K mg X F0 H0 F Dn o) : ExW K mg X F0 H0 (exP P) := fun x st' F' H' C hp g c hC => h (.ex x st') hp F' H' C g c hC
theorem EndW.m {F0 H0 F F1 : Hp} {Dn : Ends} (e : Ex F F1) {o : WOut} (h : EndW K mg X F0 H0 F Dn o) : EndW K mg X F0 H0 F1 Dn o := by
  cases o with
  | nx ρ st => exact fun F2 H2 σ r e2 => h F2 H2 σ r (e.trans e2)
  | bk ρ st => exact fun F2 H2 σ r e2 => h F2 H2 σ r (e.trans e2)
  | ct ρ st => exact fun F2 H2 σ r e2 => h F2 H2 σ r (e.trans e2)
  | rt d st => exact h
  | ex x st => exact h
theorem ws_next : SemSW K mg X tNext wsNext := fun F0 H0 F H σ ρ st r P hp Dn q => q _ hp F H σ r (.refl F)
theorem ws_seq (h1 : SemSW K mg X t g) (h2 : SemSW K mg X u h) : SemSW K mg X (tSeq t u) (wsSeq g h) := fun F0 H0 F H σ ρ st r P hp Dn q => by
  refine h1 F0 H0 F H σ ρ st r _ hp _ fun o ho => ?_
  cases o with
  | nx ρ' st' => exact fun F1 H1 σ1 r1 e1 => h2 F0 H0 F1 H1 σ1 ρ' st' r1 P ho Dn fun o ho => (q o ho).m e1
  | bk ρ' st' => exact q _ ho
  | ct ρ' st' => exact q _ ho
  | rt d st' => exact q _ ho
  | ex x st' => exact q _ ho
theorem ws_if {c : TT} {fc : WT} (hc : SemTW K mg X c fc) (h1 : SemSW K mg X t g) (h2 : SemSW K mg X u h) : SemSW K mg X (tIfS c t u) (wsIf fc g h) := fun F0 H0 F H σ ρ st r P hp Dn q => by
  refine hc F0 H0 F H σ ρ st r _ _ hp (EndW.ex q) _ fun b st1 F1 H1 hp r1 e1 => ?_
  cases b with
  | true => exact h1 F0 H0 F1 H1 σ ρ st1 r1 P hp Dn fun o ho => (q o ho).m e1
  | false => exact h2 F0 H0 F1 H1 σ ρ st1 r1 P hp Dn fun o ho => (q o ho).m e1
theorem RW.set {F0 H0 F H : Hp} {σ : L2.St} {ρ : E} {st : Sx} {d : D} {v : V} (r : RW K F0 H0 F H σ ρ st) (h : Rep K F d v) : RW K F0 H0 F H (σ.set i (some v)) (ρ.set i (some d)) st := ⟨r.gr, r.re.set h, r.cs⟩
theorem RW.put {F0 H0 F H : Hp} {σ : L2.St} {ρ : E} {st : Sx} {ws : List (Nat × D)} {us : List (Nat × V)} (r : RW K F0 H0 F H σ ρ st) (h : RepW K F ws us) : RW K F0 H0 F H (putS σ us) (putE ρ ws) st := ⟨r.gr, r.re.put h, r.cs⟩
theorem ws_asg (hf : SemXW K mg X te f) : SemSW K mg X (tAsg te (gName i)) (wsAsg i f) := fun F0 H0 F H σ ρ st r P hp Dn q =>
  hf F0 H0 F H σ ρ st r _ _ hp (EndW.ex q) _ fun d st1 v F1 H1 hp r1 e1 rv => q _ hp F1 H1 _ (r1.set rv) e1
theorem ws_asgT {tt : TG} {tg : FG} (hf : SemXW K mg X te f) (hg : SemG K tt tg) : SemSW K mg X (tAsg te tt) (wsAsgT tg f) := fun F0 H0 F H σ ρ st r P hp Dn q => by
  refine hf F0 H0 F H σ ρ st r _ _ hp (EndW.ex q) _ fun d st1 v F1 H1 hp r1 e1 rv => ?_
  obtain ⟨ws, h1, h2⟩ := hp
  exact hg F1 H1 σ d v ws r1.fh rv h1 _ fun us ru => q _ h2 F1 H1 _ (r1.put ru) e1
theorem ws_ret (hf : SemXW K mg X te f) : SemSW K mg X (tRet te) (wsRet f) := fun F0 H0 F H σ ρ st r P hp Dn q =>
  hf F0 H0 F H σ ρ st r _ _ hp (EndW.ex q) _ fun d st1 v F1 H1 hp r1 e1 rv => q _ hp F1 H1 v r1.gr r1.cs rv
theorem ws_cont : SemSW K mg X tCont wsCont := fun F0 H0 F H σ ρ st r P hp Dn q => q _ hp F H σ r (.refl F)
theorem ws_for {wi : TI} {tt : TG} {fi : E → Option (List D)} {tg : FG} (hi : SemI K wi fi) (hg : SemG K tt tg) (hb : SemSW K mg X t g) : SemSW K mg X (tFor wi tt t) (wsFor fi tg g) := fun F0 H0 F H σ ρ st r P hp Dn q => by
  obtain ⟨ds, e1, e2⟩ := hp
  refine hi F H σ _ r.fh r.re ds e1 _ fun J F1 H1 g1 wk => ?_
  have ef1 := g1.ff
  refine ⟨fun i m σ' H' => m = ds.length - i ∧ i ≤ ds.length ∧ ∃ F' ρ' st', Ex F1 F' ∧ RW K F0 H0 F' H' σ' ρ' st' ∧ forW tg g (ds.drop i) ρ' st' P, ⟨ds.length, by simp, Nat.zero_le _, F1, ρ, st, .refl _, r.grow g1, by simpa using e2⟩, ?_⟩
  rintro i m σ' H' ⟨rfl, hi', F', ρ', st', ef, r', hr⟩
  by_cases hlt : i < ds.length
  · refine .inr ⟨wk.go i F' H' ef r'.fh hlt, fun σ2 H2 => ∃ F2 ρ2 st2, Ex F1 F2 ∧ RW K F0 H0 F2 H2 σ2 ρ2 st2 ∧ forW tg g (ds.drop (i + 1)) ρ2 st2 P, fun σ2 H2 hN => ⟨ds.length - (i + 1), by omega, rfl, by omega, hN⟩, fun x H2 hy => ?_⟩
    have hdi : ds[i]? = some ds[i] := List.getElem?_eq_getElem hlt
    obtain ⟨F2, g2, r2⟩ := wk.yld i F' H' x H2 ds[i] ef r'.fh hdi hy
    rw [List.drop_eq_getElem_cons hlt] at hr
    obtain ⟨ws, h1, hr⟩ := hr
    have rs2 := r'.grow g2
    refine hg F2 H2 _ ds[i] x ws g2.fh r2 h1 _ fun us ru => ?_
    refine hb F0 H0 F2 H2 _ _ _ (rs2.put ru) _ hr _ fun o ho => ?_
    have e12 := ef.trans g2.ff
    have eall : Ex F F2 := ef1.trans e12
    cases o with
    | nx ρ2 st2 => exact fun F3 H3 σ3 r3 e3 => ⟨F3, ρ2, st2, e12.trans e3, r3, ho⟩
    | ct ρ2 st2 => exact fun F3 H3 σ3 r3 e3 => ⟨F3, ρ2, st2, e12.trans e3, r3, ho⟩
    | bk ρ2 st2 => exact fun F3 H3 σ3 r3 e3 => q _ ho F3 H3 σ3 r3 (eall.trans e3)
    | rt d st2 => exact q _ ho
    | ex x st2 => exact q _ ho
  · have ei : i = ds.length := by omega
    subst ei
    rw [List.drop_length] at hr
    exact .inl ⟨wk.stop F' H' ef r'.fh, q _ hr F' H' σ' r' (ef1.trans ef)⟩
theorem ws_forC {tl : TE} {tt : TG} {tg : FG} (hf : SemXW K mg X tl f) (hg : SemG K tt tg) (hb : SemSW K mg X t g) : SemSW K mg X (tFor (iSeq K tl) tt t) (wsForC f tg g) := fun F0 H0 F H σ ρ st r P hp Dn q => by
  refine hf F0 H0 F H σ ρ st r _ _ hp (EndW.ex q) _ fun d st1 v F1 H1 hp r1 e1 rv => ?_
  obtain ⟨a, xs, rfl, hs, hp⟩ := hp
  rw [rep_adr] at rv
  subst rv
  have at1 : ∀ {F' H' : Hp} {σ' : L2.St} {ρ' : E} {st' : Sx}, RW K F0 H0 F' H' σ' ρ' st' → st' a = some (.l xs) → ∃ vs, H' a = some (.lst vs) ∧ Reps K F' xs vs := fun r' h => by
    obtain ⟨⟨u, h1, vs, rfl, h2⟩, _⟩ := r'.cs.at_ a _ h
    exact ⟨vs, h1, h2⟩
  have sq1 : ∀ {H' : Hp} {vs ys : List V}, H' a = some (.lst vs) → SqL K H' a ys → True := fun _ _ => trivial
  obtain ⟨vs0, k1, k2⟩ := at1 r1 hs
  refine .inl ⟨a, rfl, ⟨vs0, .of k1⟩, ?_⟩
  have hcst : ∀ {ds : List D} {ρ' : E} {st' : Sx}, forC tg g a xs ds ρ' st' P → st' a = some (.l xs) := fun {ds} _ _ h => by
    cases ds with
    | nil => exact h.1
    | cons d ds => exact h.1
  refine ⟨fun i m σ' H' => m = xs.length - i ∧ i ≤ xs.length ∧ ∃ F' ρ' st', Ex F1 F' ∧ RW K F0 H0 F' H' σ' ρ' st' ∧ forC tg g a xs (xs.drop i) ρ' st' P, ⟨xs.length, by simp, Nat.zero_le _, F1, ρ, st1, .refl _, r1, by simpa using hp⟩, ?_⟩
  rintro i m σ' H' ⟨rfl, hi', F', ρ', st', ef, r', hr⟩
  obtain ⟨vs, h1, h2⟩ := at1 r' (hcst hr)
  by_cases hlt : i < xs.length
  · have hdi : xs[i]? = some xs[i] := List.getElem?_eq_getElem hlt
    obtain ⟨v, hv, rv⟩ := h2.get hdi
    refine .inr ⟨⟨vs, v, .of h1, hv⟩, fun σ2 H2 => ∃ F2 ρ2 st2, Ex F1 F2 ∧ RW K F0 H0 F2 H2 σ2 ρ2 st2 ∧ forC tg g a xs (xs.drop (i + 1)) ρ2 st2 P, fun σ2 H2 hN => ⟨xs.length - (i + 1), by omega, rfl, by omega, hN⟩, fun x H2 hy => ?_⟩
    obtain ⟨rfl, hy⟩ := hy
    have hx := hy vs (.of h1)
    rw [hv] at hx
    cases hx
    rw [List.drop_eq_getElem_cons hlt] at hr
    obtain ⟨_, ws, h3, hr⟩ := hr
    refine hg F' H2 _ xs[i] v ws r'.fh rv h3 _ fun us ru => ?_
    refine hb F0 H0 F' H2 _ _ _ (r'.put ru) _ hr _ fun o ho => ?_
    have eall : Ex F F' := e1.trans ef
    cases o with
    | nx ρ2 st2 => exact fun F3 H3 σ3 r3 e3 => ⟨F3, ρ2, st2, ef.trans e3, r3, ho⟩
    | ct ρ2 st2 => exact fun F3 H3 σ3 r3 e3 => ⟨F3, ρ2, st2, ef.trans e3, r3, ho⟩
    | bk ρ2 st2 => exact fun F3 H3 σ3 r3 e3 => q _ ho F3 H3 σ3 r3 (eall.trans e3)
    | rt d st2 => exact q _ ho
    | ex x st2 => exact q _ ho
  · have ei : i = xs.length := by omega
    subst ei
    rw [List.drop_length] at hr
    exact .inl ⟨⟨vs, .of h1, by rw [h2.len]; exact Nat.le_refl _⟩, q _ hr.2 F' H' σ' r' (e1.trans ef)⟩
theorem ws_while {c : TT} {fc : WT} (hc : SemTW K mg X c fc) (hb : SemSW K mg X t g) : SemSW K mg X (tWhile c t) (wsWhile fc g) := fun F0 H0 F H σ ρ st r P hp Dn q => by
  obtain ⟨n, hn⟩ := hp
  refine ⟨fun m σ' H' => ∃ F' ρ' st', Ex F F' ∧ RW K F0 H0 F' H' σ' ρ' st' ∧ whW fc g m ρ' st' P, ⟨n, F, ρ, st, .refl _, r, hn⟩, ?_⟩
  rintro m σ' H' ⟨F', ρ', st', ef, r', hr⟩
  cases m with
  | zero => exact hr.elim
  | succ m =>
    have q2 : ∀ o, P o → EndW K mg X F0 H0 F' Dn o := fun o ho => (q o ho).m ef
    refine hc F0 H0 F' H' σ' ρ' st' r' _ _ hr (EndW.ex q2) _ fun b st1 F1 H1 hp r1 e1 => ?_
    cases b with
    | true =>
      simp only [if_true] at hp ⊢
      refine ⟨fun σ2 H2 => ∃ F2 ρ2 st2, Ex F F2 ∧ RW K F0 H0 F2 H2 σ2 ρ2 st2 ∧ whW fc g m ρ2 st2 P, fun σ2 H2 hN => ⟨m, Nat.lt_succ_self _, hN⟩, ?_⟩
      refine hb F0 H0 F1 H1 σ' ρ' st1 r1 _ hp _ fun o ho => ?_
      have eall : Ex F F1 := ef.trans e1
      cases o with
      | nx ρ2 st2 => exact fun F3 H3 σ3 r3 e3 => ⟨F3, ρ2, st2, eall.trans e3, r3, ho⟩
      | ct ρ2 st2 => exact fun F3 H3 σ3 r3 e3 => ⟨F3, ρ2, st2, eall.trans e3, r3, ho⟩
      | bk ρ2 st2 => exact fun F3 H3 σ3 r3 e3 => q _ ho F3 H3 σ3 r3 (eall.trans e3)
      | rt d st2 => exact q _ ho
      | ex x st2 => exact q _ ho
    | false => exact q _ hp F1 H1 σ' r1 (ef.trans e1)
theorem putW_ok {F0 H0 F H : Hp} {σ : L2.St} {ρ : E} {st st' : Sx} (r : RW K F0 H0 F H σ ρ st) {o i v : D} {x y z : V} (ro : Rep K F o x) (ri : Rep K F i y) (rv : Rep K F v z) (h : putW st o i v = some st') (Q : Hp → Prop) (q : ∀ H', RW K F0 H0 F H' σ ρ st' → Q H') : rSetA x y z H Q := by
  unfold putW at h
  split at h
  · rename_i p
    rw [rep_adr] at ro
    subst ro
    split at h
    · rename_i xs hz
      obtain ⟨⟨u, h1, vs, rfl, h2⟩, _⟩ := r.cs.at_ p _ hz
      obtain ⟨k, e1, e2⟩ := Option.bind_eq_some_iff.mp h
      obtain ⟨j, e3, rfl⟩ := Option.map_eq_some_iff.mp e2
      exact .inl ⟨p, vs, k, j, rfl, rep_i ri e1, h1, by rw [← h2.len]; exact e3, q _ (r.wr hz ⟨_, rfl, h2.set rv j⟩)⟩
    · rename_i kvs hz
      obtain ⟨⟨u, h1, vs, rfl, h2⟩, _⟩ := r.cs.at_ p _ hz
      obtain ⟨k, e1, e2⟩ := Option.bind_eq_some_iff.mp h
      split at e2
      · rename_i hl
        cases e2
        exact .inr ⟨p, _, rfl, .inl ⟨vs, k, h1, rep_key ri e1, by rw [← h2.len]; exact sz_lt hl, rfl⟩, q _ (r.wr hz ⟨_, rfl, h2.put rv⟩)⟩
      · cases e2
    · rename_i kvs hz
      obtain ⟨⟨u, h1, vs, rfl, h2⟩, _⟩ := r.cs.at_ p _ hz
      obtain ⟨k, e1, e2⟩ := Option.bind_eq_some_iff.mp h
      split at e2
      · rename_i hl
        cases e2
        cases i <;> simp only [D.keyT?, reduceCtorEq] at e1
        obtain ⟨b, us, rfl, h4, h5⟩ := rep_tup.mp ri
        rw [reps_keys h5 e1] at h4
        exact .inr ⟨p, _, rfl, .inr ⟨vs, k, b, h1, rfl, r.fh _ _ h4, by rw [← h2.len]; exact sz_lt hl, rfl⟩, q _ (r.wr hz ⟨_, rfl, h2.put rv⟩)⟩
      · cases e2
    · cases h
  · cases h
theorem ws_put (ho : SemXW K mg X ta fo) (hi : SemXW K mg X tb fi') (hv : SemXW K mg X te fv) : SemSW K mg X (tAsg te (gSub ta tb rSetA)) (wsPut fo fi' fv) := fun F0 H0 F H σ ρ st r P hp Dn q => by
  have qx := EndW.ex q
  refine hv F0 H0 F H σ ρ st r _ _ hp qx _ fun v st1 z F1 H1 hp r1 e1 rv => ?_
  refine ho F0 H0 F1 H1 σ ρ st1 r1 _ _ hp qx _ fun o st2 x F2 H2 hp r2 e2 ro => ?_
  refine hi F0 H0 F2 H2 σ ρ st2 r2 _ _ hp qx _ fun i st3 y F3 H3 hp r3 e3 ri => ?_
  obtain ⟨st4, h1, h2⟩ := hp
  exact putW_ok r3 (ro.m e3) ri (rv.m (e2.trans e3)) h1 _ fun H4 r4 => q _ h2 F3 H4 σ r4 ((e1.trans e2).trans e3)
theorem ws_app (ho : SemXW K mg X ta fo) (hv : SemXW K mg X te fv) : SemSW K mg X (tDrop (tBM K "list" rAppend ta (tCons te tNil))) (wsApp fo fv) := fun F0 H0 F H σ ρ st r P hp Dn q => by
  have qx := EndW.ex q
  refine ho F0 H0 F H σ ρ st r _ _ hp qx _ fun o st1 x F1 H1 hp r1 e1 ro => ?_
  obtain ⟨⟨p, xs, rfl, hz⟩, hp⟩ := hp
  rw [rep_adr] at ro
  subst ro
  obtain ⟨⟨u, h1, vs, rfl, h2⟩, _⟩ := r1.cs.at_ p _ hz
  refine ⟨.inl ⟨rfl, vs, .of h1⟩, ?_⟩
  refine hv F0 H0 F1 H1 σ ρ st1 r1 _ _ hp qx _ fun v st2 y F2 H2 hp r2 e2 rv => ?_
  obtain ⟨st3, h3, h4⟩ := hp
  unfold appW at h3
  simp only at h3
  split at h3
  · rename_i ys hy
    split at h3
    · rename_i hl
      cases h3
      obtain ⟨⟨u, k1, us, rfl, k2⟩, _⟩ := r2.cs.at_ p _ hy
      exact ⟨p, us, y, rfl, rfl, k1, by rw [← k2.len]; exact sz_lt hl, q _ h4 F2 _ σ (r2.wr hy ⟨_, rfl, k2.append (.one rv)⟩) (e1.trans e2)⟩
    · cases h3
  · cases h3
theorem lstW_ok {F0 H0 F H : Hp} {σ : L2.St} {ρ : E} {st : Sx} (r : RW K F0 H0 F H σ ρ st) {v : D} {zs : List D} {y : V} (rv : Rep K F v y) (h : lstW st v = some zs) : ∃ b us, y = .ref b ∧ H b = some (.lst us) ∧ Reps K F zs us := by
  unfold lstW at h
  split at h
  · cases h
    obtain ⟨b, us, rfl, h1, h2⟩ := rep_lst.mp rv
    exact ⟨b, us, rfl, r.fh _ _ h1, h2⟩
  · rename_i p
    split at h
    · rename_i ys hy
      cases h
      rw [rep_adr] at rv
      subst rv
      obtain ⟨⟨u, k1, us, rfl, k2⟩, _⟩ := r.cs.at_ p _ hy
      exact ⟨p, us, rfl, k1, k2⟩
    · cases h
  · cases h
end
end Mi
namespace Mi
open PySem PySem.Spec PyProof.Rows L2
structure SXW (X : Cx) (W : XK) (e : Expr) (t : TE) (f : WX) : Prop where
  pe : PE X e t
  se : SemXW X.K X.mg W t f
structure SAW (X : Cx) (W : XK) (es : List Expr) (t : TA) (f : WA) : Prop where
  pe : PA X es t
  se : SemAW X.K X.mg W t f
structure STW (X : Cx) (W : XK) (e : Expr) (t : TT) (f : WT) : Prop where
  pe : PT X e t
  se : SemTW X.K X.mg W t f
def SSW (X : Cx) (W : XK) (st : Stmt) (g : WS) : Prop := ∃ t, PS X st t ∧ SemSW X.K X.mg W t g
def SSWs (X : Cx) (W : XK) (st : List Stmt) (g : WS) : Prop := ∃ t, PSs X st t ∧ SemSW X.K X.mg W t g
section
variable {P : Program} {w : World} {K : PySem.W.Frag} {mg : Str → Option Value} {base : Heap}
structure FxW (P : Program) (w : World) (K : PySem.W.Frag) (mg : Str → Option Value) (base : Heap) (k : Nat) (x : Str) (n : Nat) (wf : WF) : Prop where
  ok : ∃ f fd ps, FnOk P w K mg base CX0 k f fd ps (spW0 K n wf) ∧ mg x = some (.ref f) ∧ PySem.W.keepIn K (.ref f) = true ∧ Binds K fd ps []
  hm : ∀ ds st Pd Px, wf ds st Pd Px → ds.length = n
/-- the outcomes of a body as those of a call -/
def rtP (Pd : D → Sx → Prop) (Px : Str → Sx → Prop) : WOut → Prop
  | .rt d st => Pd d st
  | .nx _ st => Pd .non st
  | .ex x st => Px x st
  | _ => False
def defW (N n : Nat) (g : WS) : WF := fun ds st Pd Px => ds.length = n ∧ g (ds.map some ++ List.replicate (N - n) none) st (rtP Pd Px)
theorem defW_len {N n : Nat} {g : WS} (ds : List D) (st : Sx) (Pd : D → Sx → Prop) (Px : Str → Sx → Prop) (h : defW N n g ds st Pd Px) : ds.length = n := h.1
theorem rw_start {N : List Str} {ds : List D} {vs : List V} {F H : Hp} {st : Sx} (e : Ex F H) (r : Reps K F ds vs) (c : CSt K (erP H fun a => (st a).isSome = true) F H st) (hl : ds.length ≤ N.length) :
    RW K F (erP H fun a => (st a).isSome = true) F H (L2.start N vs) (ds.map some ++ List.replicate (N.length - ds.length) none) st := by
  have h := (rs_start (N := N) e r hl).hid
  have he : hid (ds.map Slot.sh ++ List.replicate (N.length - ds.length) Slot.no) = ds.map some ++ List.replicate (N.length - ds.length) none := by
    simp [hid, Slot.hid, Function.comp_def]
  rw [he] at h
  refine ⟨⟨fun a o z => ?_, .refl _, erP_ex, e, fun _ _ _ => rfl⟩, h, c⟩
  rw [erP_no]
  · exact e a o z
  · intro hs
    obtain ⟨c0, e0⟩ := Option.isSome_iff_exists.mp hs
    rw [(c.at_ a c0 e0).2.1] at z
    cases z
theorem fnw_mk {x qual : Str} {st : Stmt} {f : Addr} {fd : FuncData} {N ps : List Str} {k n m : Nat} {g : WS} (Fn : Fun K x qual st f fd) (S : FnScope N ps (defScope st)) (hpl : ps.length ≤ N.length) (hn : ps.length = n) (hm : N.length = m)
    (body : ∀ (cdv : Value) (A : Around) (outer : List Env) (s : Shared) (H : Hp) (W : XK), Room k (A.deeper (envOfC qual (defScope st) s.heap.objs.size f cdv)) →
      SSWs (cxOf CX0 P w K mg base N qual (defScope st) f cdv A outer s H W).nox E0 (defBody st) g) : FnOk P w K mg base CX0 (k + 1) f fd ps (spW0 K n (defW m n g)) := by
  subst hn hm
  refine Fn.ok S (fun vs H Q W h => ?_) (fun cdv A outer s H vs Q W hr h => ?_)
  · obtain ⟨F, ds, st, Pd, _, _, hl, _⟩ := h
    exact hl
  · obtain ⟨F, ds, st, Pd, e, r, hl, c, hd, q⟩ := h
    obtain ⟨t, hp, hs⟩ := body cdv A outer s H W hr
    refine ⟨t, hp, ?_⟩
    obtain ⟨hdl, hg⟩ := hd
    rw [← hdl] at hg
    refine hs F _ F H _ _ _ (rw_start e r c (by omega)) _ hg _ fun o ho => ?_
    cases o with
    | nx ρ st => exact fun F1 H1 σ r1 _ => q _ _ _ F1 H1 ho r1.gr r1.cs (rep_non.mpr rfl)
    | rt d' st => exact fun F1 H1 v g1 c1 r1 => q _ _ v F1 H1 ho g1 c1 r1
    | bk ρ st => exact ho.elim
    | ct ρ st => exact ho.elim
    | ex c st => exact ho.elim
theorem fxw_mk {x : Str} {st : Stmt} {f : Addr} {fd : FuncData} {N ps : List Str} {k n m : Nat} {g : WS} (Fn : Fun K x x st f fd) (S : FnScope N ps (defScope st)) (hmg : mg x = some (.ref f)) (hb : Binds K fd ps []) (hpl : ps.length ≤ N.length) (hn : ps.length = n) (hm : N.length = m)
    (body : ∀ (cdv : Value) (A : Around) (outer : List Env) (s : Shared) (H : Hp) (W : XK), Room k (A.deeper (envOfC x (defScope st) s.heap.objs.size f cdv)) →
      SSWs (cxOf CX0 P w K mg base N x (defScope st) f cdv A outer s H W).nox E0 (defBody st) g) : FxW P w K mg base (k + 1) x n (defW m n g) :=
  ⟨⟨f, fd, ps, fnw_mk Fn S hpl hn hm body, hmg, Fn.kp, hb⟩, defW_len⟩
end
section
variable {X : Cx} {W : XK} {a b c e o : Expr} {es : List Expr} {ta tb tc te : TE} {fe : FE} {f fa fb fo fi fv : WX} {pos p apos pos' cpos : Pos} {x : Str} {i : Nat} {st : Stmt} {rest : List Stmt} {g h : WS}
theorem x3_hid (h : SE X e te fe) : SXW X W e te (wHid fe) := ⟨h.pe, wx_hid h.se⟩
theorem x3_view (h : SE X e te fe) : SXW X W e te (wView fe) := ⟨h.pe, wx_view h.se⟩
theorem x3_newH {f : E → Option O} (h : SN X e te f) : SXW X W e te (wNewH f) := ⟨h.pe, wx_newH h.se⟩
theorem x3_frzV {f : E → Option O} (h : SN X e te f) : SXW X W e te (wFrzV f) := ⟨h.pe, wx_frzV h.se⟩
theorem x3_sub (K : PySem.W.Frag) (hu : X.A.units + 1 < cLine) (ha : SXW X W a ta fa) (hb : SXW X W b tb fb) (hs : PlainIx b := by intro _ _; rfl) (hK : X.K = K := by rfl) : SXW X W (.Subscript a b pos) (tOp (rIxA K) ta tb) (wSub fa fb) := by
  subst hK
  exact ⟨pe_ix (ix_all hu) ha.pe hb.pe hs, wx_sub ha.se hb.se⟩
theorem x3_bin {op : Operator} {r : R2} {g : D → D → Option D} (ho : OpR X (binaryOp op) r) (L : Lf2 X.K r g) (ha : SXW X W a ta fa) (hb : SXW X W b tb fb) : SXW X W (.BinOp a op b pos) (tOp r ta tb) (wOp g fa fb) := ⟨pe_op ho ha.pe hb.pe, wx_op ha.se hb.se L⟩
theorem x3_cmp {op : CmpOp} {r : R2} {g : D → D → Option D} (ho : OpR X (compareOp op) r) (L : Lf2 X.K r g) (ha : SXW X W a ta fa) (hb : SXW X W b tb fb) (hm : behindInMarks op b = false := by with_unfolding_all rfl) : SXW X W (.Compare a [op] [b] pos) (tOp r ta tb) (wOp g fa fb) := ⟨pe_cmpR ho ha.pe hb.pe hm, wx_op ha.se hb.se L⟩
theorem a3_nil : SAW X W [] tNil waNil := ⟨pa_nil, wa_nil⟩
theorem a3_cons {t : TA} {fr : WA} (ha : SXW X W e te f) (hr : SAW X W es t fr) (hs : starEach (e :: es) X.env = (false, eval e X.env) :: starEach es X.env := by rfl) : SAW X W (e :: es) (tCons te t) (waCons f fr) := ⟨pa_cons ha.pe hr.pe hs, wa_cons ha.se hr.se⟩
section
variable {t : TA} {fl : WA}
theorem x3_tup {k : Nat} (h : SAW X W es t fl) : SXW X W (.Tuple es k pos) (tTup t) (wTup fl) := ⟨pe_tup h.pe, wx_tup h.se⟩
theorem x3_call {P : Program} {w : World} {mg : Str → Option Value} {base : Heap} {k n : Nat} {m : List D → Option D} (K : PySem.W.Frag) (F : Fx P w K mg base k x n m) (hr : Room k X.A) (hg : Gl X x) (ha : SAW X W (e :: es) t fl) (hP : X.prog = P := by rfl) (hw : X.w = w := by rfl) (hK : X.K = K := by rfl) (hmg : X.mg = mg := by rfl) (hb : X.base = base := by rfl)
    (hdb : (x == ("__debug__" : Str)) = false := by decide) (he : starEach (e :: es) X.env = (false, eval e X.env) :: starEach es X.env := by rfl) (hpl : (backTo pos (starEach es X.env)).any (·.1) = false := by rfl) : SXW X W (.Call (.Name x p) (e :: es) [] pos) (tCall (spD K n m) [] E0 t) (wApp m fl) := by
  subst hP hw hK hmg hb
  obtain ⟨a, fd, ps, h1, h2, h3, h4⟩ := F.ok
  exact ⟨pe_call h1 hr hg h2 h3 h4 .nil pass0 ha.pe hdb he hpl, wx_call F.hm ha.se⟩
theorem x3_callW {P : Program} {w : World} {mg : Str → Option Value} {base : Heap} {k n : Nat} {wf : WF} (K : PySem.W.Frag) (F : FxW P w K mg base k x n wf) (hr : Room k X.A) (hg : Gl X x) (ha : SAW X W (e :: es) t fl) (hP : X.prog = P := by rfl) (hw : X.w = w := by rfl) (hK : X.K = K := by rfl) (hmg : X.mg = mg := by rfl) (hb : X.base = base := by rfl)
    (hdb : (x == ("__debug__" : Str)) = false := by decide) (he : starEach (e :: es) X.env = (false, eval e X.env) :: starEach es X.env := by rfl) (hpl : (backTo pos (starEach es X.env)).any (·.1) = false := by rfl) : SXW X W (.Call (.Name x p) (e :: es) [] pos) (tCall (spW0 K n wf) [] E0 t) (wCall0 wf fl) := by
  subst hP hw hK hmg hb
  obtain ⟨a, fd, ps, h1, h2, h3, h4⟩ := F.ok
  exact ⟨pe_call h1 hr hg h2 h3 h4 .nil pass0 ha.pe hdb he hpl, wx_callW0 F.hm ha.se⟩
theorem x3_callBV {id : String} {r : List V → Hp → VK → Prop} {g : List D → Option D} (hc : CallR X (.builtin id) r) (L : LfC X.K r g) (hg : Gl X x) (hm : X.mg x = none) (hv : bootBuiltins x = some (.builtin id)) (ha : SAW X W (e :: es) t fl) (hn : x ≠ "__name__" := by decide) (hdb : (x == ("__debug__" : Str)) = false := by decide)
    (he : starEach (e :: es) X.env = (false, eval e X.env) :: starEach es X.env := by rfl) (hpl : (backTo pos (starEach es X.env)).any (·.1) = false := by rfl) : SXW X W (.Call (.Name x p) (e :: es) [] pos) (tCB r t) (wAppV g fl) := ⟨pe_callB hc hg hm hv ha.pe hn hdb he hpl, wx_callBV ha.se L⟩
theorem x3_callTyV {T : String} {r : List V → Hp → VK → Prop} {g : List D → Option D} (hc : CallR X (.type T) r) (L : LfC X.K r g) (hg : Gl X x) (hm : X.mg x = none) (hv : bootBuiltins x = some (.type T)) (ha : SAW X W (e :: es) t fl) (hn : x ≠ "__name__" := by decide) (hdb : (x == ("__debug__" : Str)) = false := by decide)
    (he : starEach (e :: es) X.env = (false, eval e X.env) :: starEach es X.env := by rfl) (hpl : (backTo pos (starEach es X.env)).any (·.1) = false := by rfl) : SXW X W (.Call (.Name x p) (e :: es) [] pos) (tCB r t) (wAppV g fl) := ⟨pe_callTy hc hg hm hv ha.pe hn hdb he hpl, wx_callBV ha.se L⟩
end
theorem t3_v {t : TT} {fc : E → Option Bool} (h : ST X c t fc) : STW X W c t (wtV fc) := ⟨h.pe, wt_v h.se⟩
theorem t3_cmp {op : CmpOp} {r : R2} {g : D → D → Option D} (ho : OpR X (compareOp op) r) (L : Lf2 X.K r g) (ha : SXW X W a ta fa) (hb : SXW X W b tb fb) (hm : behindInMarks op b = false := by with_unfolding_all rfl) : STW X W (.Compare a [op] [b] pos) (tTest (tOp r ta tb)) (wtOf (wOp g fa fb)) := ⟨pt_cmpR ho ha.pe hb.pe hm, wt_of (wx_op ha.se hb.se L)⟩
theorem s3_nil : SSWs X W [] wsNext := ⟨_, pss_nil, ws_next⟩
theorem s3_cons (h1 : SSW X W st g) (h2 : SSWs X W rest h) : SSWs X W (st :: rest) (wsSeq g h) := by
  obtain ⟨t, p1, s1⟩ := h1
  obtain ⟨u, p2, s2⟩ := h2
  exact ⟨_, pss_cons p1 p2, ws_seq s1 s2⟩
theorem s3_one (h1 : SSW X W st g) : SSWs X W [st] g := by
  obtain ⟨t, p1, s1⟩ := h1
  exact ⟨_, pss_one p1, s1⟩
theorem s3_set (hN : X.N.Nodup) (hi : X.N[i]? = some x) (hx : Loc X.env.scope x) (he : SXW X W e te f) (hs : swapsWith e (some (.Name x pos')) pos.line X.env = pure false := by rfl) (hf : X.fn x = true ∨ X.env.scope.names.lookup x = some .local := by first | exact .inl rfl | exact .inr rfl | assumption) :
    SSW X W (.Assign [.Name x pos'] e pos) (wsAsg i f) := ⟨_, ps_set hN hi hx he.pe hs hf, ws_asg he.se⟩
theorem s3_asgT {tgt : Expr} {gg : TG} {gf : FG} (he : SXW X W e te f) (hg : SG X tgt gg gf) (hs : swapsWithSole [tgt] e pos.line X.env = pure false := by rfl) (hw : swappedStores [tgt] e X.env = pure none := by rfl) (h1 : (assignEach [tgt] X.env).map (·.2) = [assign tgt X.env] := by rfl) :
    SSW X W (.Assign [tgt] e pos) (wsAsgT gf f) := ⟨_, ps_asg he.pe hg.pe hs hw h1, ws_asgT he.se hg.se⟩
theorem s3_ret (he : SXW X W e te f) : SSW X W (.Return (some e) pos) (wsRet f) := ⟨_, ps_ret he.pe, ws_ret he.se⟩
theorem s3_if {t : TT} {fc : WT} {aa bb : List Stmt} (hc : STW X W c t fc) (ha : SSWs X W aa g) (hb : SSWs X W bb h) : SSW X W (.If c aa bb pos) (wsIf fc g h) := by
  obtain ⟨t1, p1, s1⟩ := ha
  obtain ⟨t2, p2, s2⟩ := hb
  exact ⟨_, ps_if hc.pe p1 p2, ws_if hc.se s1 s2⟩
theorem s3_cont : SSW X W (.Continue pos) wsCont := ⟨_, ps_continue, ws_cont⟩
theorem s3_app (ho : SXW X W a ta fo) (he : SXW X W e te f) (hs : swapsWith (.Call (.Attribute a "append" apos) [e] [] cpos) none pos.line X.env = pure false := by rfl) (hd : starEach [e] X.env = (false, eval e X.env) :: starEach [] X.env := by rfl)
    (hbase : attributeBase a "append" X.env (eval a X.env) = eval a X.env := by rfl) (hfew : (((backTo cpos (starEach [e] X.env)).all fun x => !x.1) && (backToKw cpos (keywordEach [] X.env)).all fun x => x.1.isSome) && decide (([e].length + ([] : List Keyword).length + if ([] : List Keyword).isEmpty = true then 0 else 1) < 30) = true := by rfl)
    (hline : (apos.endLine == cpos.line) = true := by rfl) :
    SSW X W (.Expr (.Call (.Attribute a "append" apos) [e] [] cpos) pos) (wsApp fo f) :=
  ⟨_, ps_expr (pe_bm (hbase := hbase) (hfew := hfew) (hline := hline) (hs := hd) PySem.F.plainAttrs_list PySem.F.slot_list_append PySem.F.type_list_append mt_append ho.pe (pa_cons he.pe pa_nil hd)) hs, ws_app ho.se he.se⟩
theorem ps_item {td ty tv : TE} {t : TSet} {value i : Expr} (hst : PSet X t) (ho : PE X o td) (hi : PE X i ty) (hv : PE X value tv) (hs : swapsWith value (some (.Subscript o i pos')) pos.line X.env = pure false) :
    PS X (.Assign [.Subscript o i pos'] value pos) (tAsg tv (gSub td ty t)) := by
  refine ⟨fun pins s σ H D I h => ?_⟩
  exact wpAny_Assign_Subscript (thn (hv.run pins s σ H _ I h) fun r s1 ⟨v, H1, I1, rv, q1⟩ => thn (ho.run pins s1 σ H1 _ I1 q1) fun u s2 ⟨x, H2, I2, rx, q2⟩ => thn (hi.run pins s2 σ H2 _ I2 q2) fun iv s3 ⟨y, H3, I3, ry, q3⟩ =>
    thn (hst pins s3 σ H3 x y v u iv r _ I3 rx ry rv q3) fun _ s4 ⟨H4, I4, q4⟩ => ⟨σ, H4, I4, q4⟩) hs
theorem s3_put (hu : X.A.units + 1 < cLine) (ho : SXW X W a ta fo) (hi : SXW X W b tb fi) (hv : SXW X W e te fv) (hs : swapsWith e (some (.Subscript a b pos')) pos.line X.env = pure false := by rfl) :
    SSW X W (.Assign [.Subscript a b pos'] e pos) (wsPut fo fi fv) := ⟨_, ps_item (set_all hu) ho.pe hi.pe hv.pe hs, ws_put ho.se hi.se hv.se⟩
theorem s3_for {iter tgt : Expr} {body : List Stmt} {wi : TI} {gg : TG} {fi : E → Option (List D)} {gf : FG} (hp : PassesOwn (model X.prog X.w) X.A X.env X.xe) (hc : X.calm = true) (hi : SI X tgt iter wi fi) (hg : SG X tgt gg gf) (hb : SSWs X W body g)
    (hs : ∀ x, foldedSetIterable iter X.env x = pure x := by intro _; rfl) : SSW X W (.For tgt iter body [] pos) (wsFor fi gf g) := by
  obtain ⟨t1, p1, s1⟩ := hb
  exact ⟨_, ps_for hp hc hi.pe hg.pe p1 hs, ws_for hi.se hg.se s1⟩
theorem s3_forC {tgt : Expr} {body : List Stmt} {gg : TG} {gf : FG} (K : PySem.W.Frag) (hp : PassesOwn (model X.prog X.w) X.A X.env X.xe) (hc : X.calm = true) (hi : SXW X W e te f) (hg : SG X tgt gg gf) (hb : SSWs X W body g)
    (hs : ∀ x, foldedSetIterable e X.env x = pure x := by intro _; rfl) (hK : X.K = K := by rfl) : SSW X W (.For tgt e body [] pos) (wsForC f gf g) := by
  subst hK
  obtain ⟨t1, p1, s1⟩ := hb
  exact ⟨_, ps_for hp hc (pi_seq hi.pe) hg.pe p1 hs, ws_forC hi.se hg.se s1⟩
theorem s3_while {t : TT} {fc : WT} {body : List Stmt} (hp : PassesOwn (model X.prog X.w) X.A X.env X.xe) (hc : STW X W c t fc) (hb : SSWs X W body g) : SSW X W (.While c body [] pos) (wsWhile fc g) := by
  obtain ⟨t1, p1, s1⟩ := hb
  exact ⟨_, ps_while hp hc.pe p1, ws_while hc.se s1⟩
section
variable {elt tg iter : Expr} {scope : Scope} {own : List (Str × Nat)} {wi : TI} {gg : TG} {fi : E → Option (List D)} {gf : FG} {py : Pos} {y : Str} {W' : XK}
theorem s3_setLcS (hc : X.calm = true) (hN : X.N.Nodup) (hy : X.N[i]? = some y) (hyl : X.env.scope.names.lookup y = some .local) (hsw : swapsWith (.ListComp elt [⟨tg, iter, [], 0⟩] scope pos) (some (.Name y py)) apos.line X.env = pure true)
    (hi : SI X tg iter wi fi) (ok : BlkOk X.N X.env.scope scope own)
    (hg : ∀ (s : Shared) (H : Hp) (C : Addr) (cl : List (Str × Addr)) (fp : List Addr), SG (X.blk s H scope (compEnvC scope cl C X.env) fp) tg gg gf)
    (he : ∀ (s : Shared) (H : Hp) (C : Addr) (cl : List (Str × Addr)) (fp : List Addr), SXW (X.blk s H scope (compEnvC scope cl C X.env) fp) W' elt te f) (hw : ∀ d ws, gf d = some ws → ∀ p ∈ ws.map (·.1), p ∈ own.map (·.2)) (hs : ∀ x, foldedSetIterable iter X.env x = pure x := by intro _; rfl) :
    SSW X W (.Assign [.Name y py] (.ListComp elt [⟨tg, iter, [], 0⟩] scope pos) apos) (wsAsg i (wLcS fi gf f (own.map (·.2)))) :=
  ⟨_, ps_setLc hc hN hy hyl hsw hi.pe ok (fun s H C cl fp => (hg s H C cl fp).pe) (fun _ _ _ _ _ => pts_nil) (fun s H C cl fp => (he s H C cl fp).pe) hs,
    ws_asg (wx_lcS hi.se (hg X.s_0 X.H_0 0 [] []).se (he X.s_0 X.H_0 0 [] []).se hw)⟩
end
end
end Mi
namespace PySem.Mx
open PySem PySem.AutoSeq1
theorem list_extend_tupX (l : Addr) (items : Array Value) (n : Nat) (b : Addr) (items2 : Array Value) (n2 : Nat) (dx : Option Addr) (sl : Array (Option Value)) (hs0 : ¬(!items.isEmpty && Builtin.List.listTooLong (items.size + items2.size)) = true) (hs1 : items.size ≤ sizeLine) (hs2 : items.size + items2.size ≤ sizeLine + 1 := by seq_fits) :
    Meets (Builtin.«list.extend» ⟨[.ref l, .ref b], []⟩) (fun _ R s => s.heap.get? l = some { cls := .type "list", dict := none, data := .seq items n, slots := #[] } ∧ s.heap.get? b = some { cls := .type "tuple", dict := dx, data := .seq items2 n2, slots := sl } ∧ R (.ok (.ret Value.none)) { s with heap := s.heap.update l (Obj.mapSeq fun x => x ++ items2), toks := s.toks }) :=
  .of_wp fun prog w A R s h => by
    obtain ⟨hp, g, d, tk, os⟩ := s; obtain ⟨hl, hb, h⟩ := h; have f1 := idx_int; have f2 := sub_tuple_tuple; have f3 := sub_list_list; have f4 := sub_tuple_list; have f5 := sub_list_tuple;
    have hz' : (items ++ items2).size ≤ sizeLine + 1 := by rw [Array.size_append]; exact hs2
    wp_walk using (wpAny_updateSeq hl rfl (hz := hs1) (_hz' := hz')), wpAny_loadPart' hl, wpAny_loadPart' hb; exact ⟨_, rfl, h⟩
end PySem.Mx
namespace Mi
open PySem PySem.Spec PyProof.Rows L2
def rExtT (K : PySem.W.Frag) : V → List V → Hp → VK → Prop := fun x vs H Q => ∃ l b xs zs, x = .ref l ∧ vs = [.ref b] ∧ H l = some (.lst xs) ∧ SqT K H b zs ∧ xs.length + zs.length ≤ sizeLine ∧ Q .non (upd H l (.lst (xs ++ zs)))
theorem mt_extT {X : Cx} : MtM X "list.extend" (rExtT X.K) := by
  intro pins s σ H x vs v us Q I rx rv h
  obtain ⟨l, b, xs, zs, rfl, rfl, hH, hB, hz, q⟩ := h
  cases rx
  obtain ⟨u, rfl, ru⟩ := rv.one
  cases ru
  obtain ⟨z, its, n, r, hl, e⟩ := I.lstM hH
  obtain ⟨its2, r2, ⟨ob, e2, hc2, n2, hd2⟩, z2⟩ := I.tuple hB
  have hl2 := r2.length
  have hsz : its.toArray.size + its2.toArray.size ≤ sizeLine := by rw [List.size_toArray, List.size_toArray]; omega
  have hlong : ¬ (!its.toArray.isEmpty && Builtin.List.listTooLong (its.toArray.size + its2.toArray.size)) = true := by
    rw [notLongL hsz, Bool.and_false]
    exact Bool.false_ne_true
  obtain ⟨cls, dx, dat, sl⟩ := ob
  cases hc2
  cases hd2
  refine call_meets PySem.F.slot_list_extend ⟨_, e, rfl⟩ PySem.F.entry_list_extend (PySem.F.args_list_extend_2 _ _)
    (PySem.Mx.list_extend_tupX l its.toArray n b its2.toArray n2 dx sl hlong (by rw [List.size_toArray]; omega) (by omega)) ⟨e, e2, ?_⟩
  refine ⟨.non, _, I.lset (its' := its ++ its2) hH e (by simp) (r.append r2) ?_, rfl, q⟩
  rw [List.length_append]
  omega
def rExtA (K : PySem.W.Frag) : V → List V → Hp → VK → Prop := fun x vs H Q => rExtend x vs H Q ∨ rExtT K x vs H Q
theorem mt_extA {X : Cx} : MtM X "list.extend" (rExtA X.K) := by
  intro pins s σ H x vs v us Q I rx rv h
  rcases h with h | h
  · exact mt_extend pins s σ H x vs v us Q I rx rv h
  · exact mt_extT pins s σ H x vs v us Q I rx rv h
end Mi
namespace Mi
open PySem PySem.Spec PyProof.Rows L2
def seqW (st : Sx) (v : D) : Option (List D) := match v with
  | .adr p => match st p with
    | some (.l zs) => some zs
    | _ => none
  | v => v.seq?
def waStar (fa : WX) (fr : WA) : WA := fun ρ st Pd Px => fa ρ st (fun a st1 => ∃ xs, seqW st1 a = some xs ∧ fr ρ st1 (fun r st2 => Pd (xs ++ r) st2) Px) Px
/-- without a store -/
def aStar (fe : FE) (fr : E → Option (List D)) : E → Option (List D) := fun ρ => (fe ρ).bind fun d => d.seq?.bind fun xs => (fr ρ).map fun r => xs ++ r
abbrev WPr := E → Sx → (List (Key × D) → Sx → Prop) → (Str → Sx → Prop) → Prop
def wpCons (k : Str) (fv : WX) (fr : WPr) : WPr := fun ρ st Pd Px => fv ρ st (fun v st1 => fr ρ st1 (fun r st2 => Pd ((.inr k, v) :: r) st2) Px) Px
/-- {..}, told from now on, or a cell -/
def wDisp (fp : WPr) : WX := fun ρ st Pd Px => fp ρ st (fun ps st1 => ps.length ≤ 15 ∧ Pd (.dK (mergeD [] ps)) st1) Px
def wDispN (fp : WPr) : WX := fun ρ st Pd Px => fp ρ st (fun ps st1 => ps.length ≤ 15 ∧ ∀ a, st1 a = none → Pd (.adr a) (sxU st1 a (.k (mergeD [] ps)))) Px
def wLstF (fa : WA) : WX := fun ρ st Pd Px => fa ρ st (fun xs st1 => xs.length ≤ 100000 ∧ Pd (.lst xs) st1) Px
def sxD (st : Sx) (a : Addr) : Sx := fun x => if x = a then none else st x
def cellD : Cell → Option D
  | .l xs => some (.lst xs)
  | .k xs => some (.dK xs)
  | .t xs => some (.dT xs)
  | .o _ _ => none
  | .n _ _ _ _ => none
  | .x _ _ => none
def wGive (f : WX) : WX := fun ρ st Pd Px => f ρ st (fun d st1 => ∃ a c e, d = .adr a ∧ st1 a = some c ∧ cellD c = some e ∧ Pd e (sxD st1 a)) Px
def wtAnd (c c' : WT) : WT := fun ρ st Pd Px => c ρ st (fun b st1 => if b = true then c' ρ st1 Pd Px else Pd false st1) Px
def wtOr (c c' : WT) : WT := fun ρ st Pd Px => c ρ st (fun b st1 => if b = true then Pd true st1 else c' ρ st1 Pd Px) Px
def wtNot (c : WT) : WT := fun ρ st Pd Px => c ρ st (fun b st1 => Pd (!b) st1) Px
def lstA (st : Sx) (v : D) : Option (List D) := match v with
  | .tup zs => some zs
  | .kt zs => some zs
  | v => lstW st v
def extA (st : Sx) (o v : D) : Option Sx := match o with
  | .adr p => match st p with
    | some (.l xs) => (lstA st v).bind fun zs => if xs.length + zs.length ≤ 100000 then some (sxU st p (.l (xs ++ zs))) else none
    | _ => none
  | _ => none
def wsExtA (fo fv : WX) : WS := fun ρ st P => fo ρ st (fun o st1 => isLc st1 o ∧ fv ρ st1 (fun v st2 => ∃ st3, extA st2 o v = some st3 ∧ P (.nx ρ st3)) (exP P)) (exP P)
section
variable {K : PySem.W.Frag} {mg : Str → Option Value} {X : XK} {ta tb te : TE} {fa fb fo fv : WX} {fe : FE}
theorem sem_star {tr : TA} {fr : E → Option (List D)} (ha : SemE K ta fe) (hr : SemA K tr fr) : SemA K (StX.tStar K ta tr) (aStar fe fr) := fun F H σ ρ e r d hd Q q => by
  obtain ⟨a, h1, hd⟩ := Option.bind_eq_some_iff.mp hd
  obtain ⟨xs, h2, hd⟩ := Option.bind_eq_some_iff.mp hd
  obtain ⟨ys, h3, hd⟩ := Option.map_eq_some_iff.mp hd
  subst hd
  refine ha F H σ ρ e r a h1 _ fun v F1 H1 g1 r1 => ?_
  obtain ⟨p, vs, rfl, h4, h5⟩ := rep_seq r1 h2
  refine ⟨p, vs, rfl, h4.symm.imp g1.fh.t g1.fh.l, ?_⟩
  refine hr F1 H1 σ ρ g1.fh (r.m g1.ff) ys h3 _ fun us F2 H2 g2 r2 => ?_
  exact q _ F2 H2 (g1.trans g2) ((h5.m g2.ff).append r2)
theorem cellD_rep {F : Hp} {c : Cell} {u : HO} {e : D} {a : Addr} (r : RepC K F c u) (h : cellD c = some e) (hF : F a = none) : Rep K (upd F a u) e (.ref a) := by
  have r := r.m (Ex.new (o := u) hF)
  cases c with
  | l xs => cases h; obtain ⟨vs, rfl, h2⟩ := r; exact rep_lst.mpr ⟨a, vs, rfl, upd_same, h2⟩
  | k xs => cases h; obtain ⟨vs, rfl, h2⟩ := r; exact rep_dK.mpr ⟨a, vs, rfl, upd_same, h2⟩
  | t xs => cases h; obtain ⟨vs, rfl, h2⟩ := r; exact rep_dT.mpr ⟨a, vs, rfl, upd_same, h2⟩
  | o n fs => cases h
  | n P w a kvs => cases h
  | x f ps => cases h
theorem wx_give (h : SemXW K mg X te fa) : SemXW K mg X te (wGive fa) := fun F0 H0 F H σ ρ st r Pd Px hf hx Q q => by
  refine h F0 H0 F H σ ρ st r _ Px hf hx _ fun d st1 v F1 H1 hf r1 e1 rv => ?_
  obtain ⟨a, c, e, rfl, h1, h2, h3⟩ := hf
  rw [rep_adr] at rv
  subst rv
  obtain ⟨⟨u, k1, k2⟩, k3, k4⟩ := r1.cs.at_ a c h1
  have ef : Ex F1 (upd F1 a u) := .new k3
  refine q e _ _ (upd F1 a u) H1 h3 ⟨r1.gr.take k4 k3 k1, r1.re.m ef, ⟨fun b cb eb => ?_⟩⟩ (e1.trans ef) (cellD_rep k2 h2 k3)
  unfold sxD at eb
  split at eb
  · cases eb
  · rename_i hb
    obtain ⟨⟨w, w1, w2⟩, w3, w4⟩ := r1.cs.at_ b cb eb
    exact ⟨⟨w, w1, w2.m ef⟩, by rw [upd_ne hb]; exact w3, w4⟩
section
variable {t u : TT} {f g : WT}
theorem wt_and (h1 : SemTW K mg X t f) (h2 : SemTW K mg X u g) : SemTW K mg X (tAnd t u) (wtAnd f g) := fun F0 H0 F H σ ρ st r Pd Px hf hx Q q => by
  refine h1 F0 H0 F H σ ρ st r _ Px hf hx _ fun b st1 F1 H1 hf r1 e1 => ?_
  cases b with
  | true => exact h2 F0 H0 F1 H1 σ ρ st1 r1 Pd Px hf hx Q fun d st' F' H' a1 a2 a3 => q d st' F' H' a1 a2 (e1.trans a3)
  | false => exact q _ _ F1 H1 hf r1 e1
theorem wt_not (h1 : SemTW K mg X t f) : SemTW K mg X (tNot t) (wtNot f) := fun F0 H0 F H σ ρ st r Pd Px hf hx Q q =>
  h1 F0 H0 F H σ ρ st r _ Px hf hx _ fun b st1 F1 H1 hf r1 e1 => q _ _ F1 H1 hf r1 e1
end
theorem ws_extA (ho : SemXW K mg X ta fo) (hv : SemXW K mg X te fv) : SemSW K mg X (tDrop (tBM K "list" (rExtA K) ta (tCons te tNil))) (wsExtA fo fv) := fun F0 H0 F H σ ρ st r P hp Dn q => by
  have qx := EndW.ex q
  refine ho F0 H0 F H σ ρ st r _ _ hp qx _ fun o st1 x F1 H1 hp r1 e1 ro => ?_
  obtain ⟨⟨p, xs, rfl, hz⟩, hp⟩ := hp
  rw [rep_adr] at ro
  subst ro
  obtain ⟨⟨u, h1, vs, rfl, h2⟩, _⟩ := r1.cs.at_ p _ hz
  refine ⟨.inl ⟨rfl, vs, .of h1⟩, ?_⟩
  refine hv F0 H0 F1 H1 σ ρ st1 r1 _ _ hp qx _ fun v st2 y F2 H2 hp r2 e2 rv => ?_
  obtain ⟨st3, h3, h4⟩ := hp
  unfold extA at h3
  simp only at h3
  split at h3
  · rename_i ys hy
    obtain ⟨zs, h5, h3⟩ := Option.bind_eq_some_iff.mp h3
    split at h3
    · rename_i hl
      cases h3
      obtain ⟨⟨u, k1, us, rfl, k2⟩, _⟩ := r2.cs.at_ p _ hy
      unfold lstA at h5
      split at h5
      · cases h5
        obtain ⟨b, ws, rfl, w1, w2⟩ := rep_tup.mp rv
        exact .inr ⟨p, b, us, ws, rfl, rfl, k1, .of (r2.fh _ _ w1), by rw [← k2.len, ← w2.len]; exact sz_of hl, q _ h4 F2 _ σ (r2.wr hy ⟨_, rfl, k2.append w2⟩) (e1.trans e2)⟩
      · cases h5
        obtain ⟨b, ws, rfl, w1, w2⟩ := rep_ktl rv
        exact .inr ⟨p, b, us, ws, rfl, rfl, k1, r2.fh.t w1, by rw [← k2.len, ← w2.len]; exact sz_of hl, q _ h4 F2 _ σ (r2.wr hy ⟨_, rfl, k2.append w2⟩) (e1.trans e2)⟩
      · obtain ⟨b, ws, rfl, w1, w2⟩ := lstW_ok r2 rv h5
        exact .inl ⟨p, b, us, ws, rfl, rfl, k1, w1, by rw [← k2.len, ← w2.len]; exact sz_of hl, q _ h4 F2 _ σ (r2.wr hy ⟨_, rfl, k2.append w2⟩) (e1.trans e2)⟩
    · cases h3
  · cases h3
end
theorem get_all {X : Cx} (hu : X.A.units + 1 < cLine) : PGet X (fun x y H Q => (∃ p xs i v, x = .ref p ∧ y = .int i ∧ H p = some (.lst xs) ∧ 0 ≤ i ∧ atI xs i = some v ∧ Q v H) ∨ ∃ a v, x = .ref a ∧ DGet H a y (some v) ∧ Q v H) := by
  intro pins s σ H x y v u Q I rx ry h
  rcases h with ⟨p, xs, i, z, rfl, rfl, hq, h0, he, q⟩ | ⟨a, w, rfl, hg, q⟩
  · cases rx
    obtain ⟨t, rfl⟩ := ry
    obtain ⟨its, r, pl, hz⟩ := I.list (.of hq)
    obtain ⟨j, h1, h2, h3, h4, h5⟩ := atI_get he
    obtain ⟨w, ew, rw'⟩ := r.get h2
    have hl := r.length
    have hn := line63
    have fin : EP X pins σ Q w s := ⟨z, H, I, rw', q⟩
    have hj : i.toNat = j := by
      rw [seqIndex_of h0 h5] at h1
      exact Option.some.inj h1
    exact wpAny_getItem_list pl.isList h0 (by omega) (by rw [hj]; simpa using ew) fin
  · cases rx
    exact d_getItem hu I hg ry fun w' s' I' rw' => ⟨w, H, I', rw', q⟩
def ixNN (st : Sx) (o i : D) : Prop := ∀ p xs, o = .adr p → st p = some (.l xs) → ∃ k : Int, i = .int k ∧ 0 ≤ k
def wsAugN (g : D → D → Option D) (fo fi fv : WX) : WS := fun ρ st P => fo ρ st (fun o st1 => (∃ p, o = .adr p) ∧ fi ρ st1 (fun i st2 => ixNN st2 o i ∧ ∃ x, subW st2 o i = some x ∧ fv ρ st2 (fun y st3 => ∃ z st4, g x y = some z ∧ putW st3 o i z = some st4 ∧ P (.nx ρ st4)) (exP P)) (exP P)) (exP P)
section
variable {K : PySem.W.Frag} {mg : Str → Option Value} {X : XK} {ta tb te : TE} {fo fi' fv : WX}
theorem ws_augN {r2 : V → V → Hp → VK → Prop} {g : D → D → Option D} (ho : SemXW K mg X ta fo) (hi : SemXW K mg X tb fi') (hv : SemXW K mg X te fv) (L : Lf2 K r2 g) :
    SemSW K mg X (tAugS ta tb te (fun x y H Q => (∃ p xs i v, x = .ref p ∧ y = .int i ∧ H p = some (.lst xs) ∧ 0 ≤ i ∧ atI xs i = some v ∧ Q v H) ∨ ∃ a v, x = .ref a ∧ DGet H a y (some v) ∧ Q v H) r2 rSetA) (wsAugN g fo fi' fv) := fun F0 H0 F H σ ρ st r P hp Dn q => by
  have qx := EndW.ex q
  refine ho F0 H0 F H σ ρ st r _ _ hp qx _ fun o st1 x F1 H1 hp r1 e1 ro => ?_
  obtain ⟨⟨p, rfl⟩, hp⟩ := hp
  refine hi F0 H0 F1 H1 σ ρ st1 r1 _ _ hp qx _ fun i st2 y F2 H2 hp rr2 e2 ri => ?_
  obtain ⟨hnn, z, h1, hp⟩ := hp
  have go : ∀ zv, Rep K F2 z zv → (te σ H2 fun y H4 => r2 zv y H4 fun z H5 => rSetA x (match i with | _ => y) z H5 fun H6 => Dn.nx σ H6) ∨ True := fun _ _ => .inr trivial
  have fin : ∀ zv, Rep K F2 z zv → te σ H2 fun w H4 => r2 zv w H4 fun n H5 => rSetA x y n H5 fun H6 => Dn.nx σ H6 := fun zv rz => by
    refine hv F0 H0 F2 H2 σ ρ st2 rr2 _ _ hp qx _ fun w st3 wv F4 H4 hp r4 e4 rw' => ?_
    obtain ⟨n, st4, h2, h3, h4⟩ := hp
    refine L F4 H4 z w zv wv r4.fh (rz.m e4) rw' n h2 _ fun nv F5 H5 g5 rn => ?_
    have e25 : Ex F2 F5 := e4.trans g5.ff
    exact putW_ok (r4.grow g5) (ro.m (e2.trans e25)) (ri.m e25) rn h3 _ fun H6 r6 => q _ h4 F5 H6 σ r6 (e1.trans (e2.trans e25))
  have ro2 := ro.m e2
  rw [rep_adr] at ro2
  subst ro2
  unfold subW at h1
  simp only at h1
  split at h1
  · rename_i xs hz
    obtain ⟨⟨u, k1, vs, rfl, k2⟩, _⟩ := rr2.cs.at_ p _ hz
    obtain ⟨k, w1, w2⟩ := Option.bind_eq_some_iff.mp h1
    obtain ⟨v, w3, w4⟩ := atI_rep k2 w2
    obtain ⟨k', rfl, hk'⟩ := hnn p xs rfl hz
    cases w1
    exact .inl ⟨p, vs, k, v, rfl, rep_int.mp ri, k1, hk', w3, fin v w4⟩
  · rename_i kvs hz
    obtain ⟨⟨u, k1, vs, rfl, k2⟩, _⟩ := rr2.cs.at_ p _ hz
    obtain ⟨k, w1, w2⟩ := Option.bind_eq_some_iff.mp h1
    obtain ⟨v, w3, w4⟩ := (k2.val (k := k)).1 z w2
    have g := DGet.k (a := p) (k := k) k1
    rw [← rep_key ri w1, w3] at g
    exact .inr ⟨p, v, rfl, g, fin v w4⟩
  · rename_i kvs hz
    obtain ⟨⟨u, k1, vs, rfl, k2⟩, _⟩ := rr2.cs.at_ p _ hz
    obtain ⟨k, w1, w2⟩ := Option.bind_eq_some_iff.mp h1
    obtain ⟨v, w3, w4⟩ := (k2.val (k := k)).1 z w2
    cases i <;> simp only [D.keyT?, reduceCtorEq] at w1
    obtain ⟨b, us, rfl, h4, h5⟩ := rep_tup.mp ri
    rw [reps_keys h5 w1] at h4
    have g := DGet.t k1 (rr2.fh _ _ h4)
    rw [w3] at g
    exact .inr ⟨p, v, rfl, g, fin v w4⟩
  · cases h1
end
abbrev dAddI : D → D → Option D := gI (fun i j => .int (i + j)) fun _ _ => true
theorem lf_ipadd {K : PySem.W.Frag} : Lf2 K (ipI fun i j => i + j) dAddI := fun F H a b x y e ra rb d hd Q q => by
  obtain ⟨i, j, rfl, rfl, h1, rfl⟩ := gI_some hd
  exact ⟨i, j, rep_int.mp ra, rep_int.mp rb, q _ F H (.refl e) (rep_int.mpr rfl)⟩
def wsTryL (i : Nat) (fl : WA) (wf : WF) (yes : Str → Option Bool) (w : Str) : WS := fun ρ st P => i < ρ.length ∧ fl ρ st (fun ds st1 => wf ds st1 (fun d st2 => P (.rt d st2)) (fun x st2 => ∃ b, yes x = some b ∧ P (.rt (.lst [.str w, .bl b]) st2))) (fun _ _ => False)
section
variable {X : Cx} {W : XK} {a b c e o : Expr} {es : List Expr} {ta tb tc te : TE} {fe : FE} {f fa fb fo fi fv : WX} {pos p apos pos' cpos : Pos} {x : Str} {i : Nat} {st : Stmt} {rest : List Stmt} {g h : WS}
theorem sa_star {t : TA} {fr : E → Option (List D)} (K : PySem.W.Frag) (ha : SE X e te fe) (hr : SA X es t fr) (hs : starEach (.Starred e p :: es) X.env = (true, eval e X.env) :: starEach es X.env := by rfl) (hK : X.K = K := by rfl) : SA X (.Starred e p :: es) (StX.tStar K te t) (aStar fe fr) := by
  subst hK
  exact ⟨StX.pa_star ha.pe hr.pe hs, sem_star ha.se hr.se⟩
theorem x3_give (h : SXW X W e te f) : SXW X W e te (wGive f) := ⟨h.pe, wx_give h.se⟩
structure SWW (X : Cx) (W : XK) (e : Expr) (t : TT) (f : WT) : Prop where
  pe : PW X e t
  se : SemTW X.K X.mg W t f
section
variable {t u : TT} {f g : WT}
theorem t3_w (h : SWW X W e t f) : STW X W e t f := ⟨h.pe.pt, h.se⟩
theorem w3_and (ha : STW X W a t f) (hb : SWW X W (.BoolOp .And (b :: es) pos) u g) : SWW X W (.BoolOp .And (a :: b :: es) pos) (tAnd t u) (wtAnd f g) := ⟨pw_and ha.pe hb.pe, wt_and ha.se hb.se⟩
theorem w3_and1 (ha : STW X W a t f) : SWW X W (.BoolOp .And [a] pos) t f := ⟨pw_and1 ha.pe, ha.se⟩
theorem t3_not (ha : STW X W a t f) : STW X W (.UnaryOp .Not a pos) (tNot t) (wtNot f) := ⟨pt_not ha.pe, wt_not ha.se⟩
end
theorem t3_val (ha : SXW X W a ta fa) (he : ∀ whole, isTrue a X.env whole = (do let v ← whole; standAt a.pos; holding [v] (truthy v)) := by intro _; rfl) : STW X W a (L2.tB ta) (wtOf fa) := ⟨pt_val ha.pe he, fun F0 H0 F H σ ρ st r Pd Px hf hx Q q => by
  refine ha.se F0 H0 F H σ ρ st r _ Px hf hx _ fun d st1 v F1 H1 hf r1 e1 rv => ?_
  obtain ⟨b, h1, h2⟩ := hf
  exact ⟨b, rep_b rv h1, q b st1 F1 H1 h2 r1 e1⟩⟩
theorem s3_extA (K : PySem.W.Frag) (ho : SXW X W a ta fo) (he : SXW X W e te f) (hs : swapsWith (.Call (.Attribute a "extend" apos) [e] [] cpos) none pos.line X.env = pure false := by rfl) (hd : starEach [e] X.env = (false, eval e X.env) :: starEach [] X.env := by rfl)
    (hbase : attributeBase a "extend" X.env (eval a X.env) = eval a X.env := by rfl) (hfew : (((backTo cpos (starEach [e] X.env)).all fun x => !x.1) && (backToKw cpos (keywordEach [] X.env)).all fun x => x.1.isSome) && decide (([e].length + ([] : List Keyword).length + if ([] : List Keyword).isEmpty = true then 0 else 1) < 30) = true := by rfl)
    (hline : (apos.endLine == cpos.line) = true := by rfl) (hK : X.K = K := by rfl) :
    SSW X W (.Expr (.Call (.Attribute a "extend" apos) [e] [] cpos) pos) (wsExtA fo f) := by
  subst hK
  exact ⟨_, ps_expr (pe_bm (hbase := hbase) (hfew := hfew) (hline := hline) (hs := hd) PySem.F.plainAttrs_list PySem.F.slot_list_extend PySem.F.type_list_extend mt_extA ho.pe (pa_cons he.pe pa_nil hd)) hs, ws_extA ho.se he.se⟩
theorem s3_augAdd (hu : X.A.units + 1 < cLine) (ho : SXW X W a ta fo) (hi : SXW X W b tb fi) (hv : SXW X W e te fv)
    (ha : ∀ ov iv new, augStore b ov iv new = (do holding [new, ov, iv] (setItem ov iv new); release [new, ov, iv] []; pure .next) := by intros; rfl) :
    SSW X W (.AugAssign (.Subscript a b pos') .Add e pos) (wsAugN dAddI fo fi fv) := ⟨_, ps_augS ho.pe hi.pe (get_all hu) hv.pe ip_add (set_all hu) ha, ws_augN ho.se hi.se hv.se lf_ipadd⟩
end
end Mi
namespace Mi
open PySem PySem.Spec PyProof.Rows L2
section
variable {ρ : E} {st : Sx} {Pd : D → Sx → Prop} {Px : Str → Sx → Prop} {Pb : Bool → Sx → Prop} {Pl : List D → Sx → Prop} {Pk : List (Key × D) → Sx → Prop} {P : WOut → Prop} {f fa fb fv fo : WX} {fl fr : WA} {fe : FE} {fn : E → Option O} {g h : WS} {c c' : WT} {tg : FG} {i : Nat} {d : D} {ds : List D} {w : Str}
@[simp] theorem w_hid : wHid fe ρ st Pd Px ↔ ∃ d, fe ρ = some d ∧ Pd d st := Iff.rfl
@[simp] theorem w_view : wView fe ρ st Pd Px ↔ ∃ d, fe (vw st ρ) = some d ∧ imm d = true ∧ Pd d st := Iff.rfl
@[simp] theorem w_newH : wNewH fn ρ st Pd Px ↔ ∃ o, fn ρ = some o ∧ ∀ a, st a = none → Pd (.adr a) (sxU st a o.c) := Iff.rfl
@[simp] theorem w_newV : wNewV fn ρ st Pd Px ↔ ∃ o, fn (vw st ρ) = some o ∧ immO o = true ∧ ∀ a, st a = none → Pd (.adr a) (sxU st a o.c) := Iff.rfl
@[simp] theorem w_frzV : wFrzV fn ρ st Pd Px ↔ ∃ o, fn (vw st ρ) = some o ∧ immO o = true ∧ Pd o.d st := Iff.rfl
@[simp] theorem w_sub : wSub fa fb ρ st Pd Px ↔ fa ρ st (fun a st1 => fb ρ st1 (fun b st2 => ∃ d, subW st2 a b = some d ∧ Pd d st2) Px) Px := Iff.rfl
@[simp] theorem w_op {k : D → D → Option D} : wOp k fa fb ρ st Pd Px ↔ fa ρ st (fun a st1 => fb ρ st1 (fun b st2 => ∃ d, k a b = some d ∧ Pd d st2) Px) Px := Iff.rfl
@[simp] theorem w_un {k : D → Option D} : wUn k fa ρ st Pd Px ↔ fa ρ st (fun a st1 => ∃ d, k a = some d ∧ Pd d st1) Px := Iff.rfl
@[simp] theorem w_anil : waNil ρ st Pl Px ↔ Pl [] st := Iff.rfl
@[simp] theorem w_acons : waCons fa fl ρ st Pl Px ↔ fa ρ st (fun a st1 => fl ρ st1 (fun r st2 => Pl (a :: r) st2) Px) Px := Iff.rfl
@[simp] theorem w_astar : waStar fa fl ρ st Pl Px ↔ fa ρ st (fun a st1 => ∃ xs, seqW st1 a = some xs ∧ fl ρ st1 (fun r st2 => Pl (xs ++ r) st2) Px) Px := Iff.rfl
@[simp] theorem w_tup : wTup fl ρ st Pd Px ↔ fl ρ st (fun xs st1 => xs.length ≤ 100000 ∧ Pd (.tup xs) st1) Px := Iff.rfl
@[simp] theorem w_lstN : wLstN fl ρ st Pd Px ↔ fl ρ st (fun xs st1 => xs.length ≤ 100000 ∧ ∀ a, st1 a = none → Pd (.adr a) (sxU st1 a (.l xs))) Px := Iff.rfl
@[simp] theorem w_lstF : wLstF fl ρ st Pd Px ↔ fl ρ st (fun xs st1 => xs.length ≤ 100000 ∧ Pd (.lst xs) st1) Px := Iff.rfl
@[simp] theorem w_app {m : List D → Option D} : wApp m fl ρ st Pd Px ↔ fl ρ st (fun xs st1 => ∃ d, m xs = some d ∧ Pd d st1) Px := Iff.rfl
@[simp] theorem w_appV {m : List D → Option D} : wAppV m fl ρ st Pd Px ↔ fl ρ st (fun xs st1 => ∃ d, m (xs.map (see 7 st1)) = some d ∧ imm d = true ∧ Pd d st1) Px := Iff.rfl
@[simp] theorem w_call {wf : WF} : wCall wf fl ρ st Pd Px ↔ fl ρ st (fun xs st1 => wf xs st1 Pd Px) Px := Iff.rfl
@[simp] theorem w_call0 {wf : WF} : wCall0 wf fl ρ st Pd Px ↔ fl ρ st (fun xs st1 => wf xs st1 Pd (fun _ _ => False)) Px := Iff.rfl
@[simp] theorem w_callV {wf : WF} : wCallV wf fl ρ st Pd Px ↔ fl ρ st (fun xs st1 => wf (xs.map (see 7 st1)) sx0 (fun d _ => imm d = true ∧ Pd d st1) (fun _ _ => False)) Px := Iff.rfl
@[simp] theorem w_pop : wPop fo ρ st Pd Px ↔ fo ρ st (fun o st1 => ∃ p xs y, o = .adr p ∧ st1 p = some (.l xs) ∧ xs[xs.length - 1]? = some y ∧ Pd y (sxU st1 p (.l xs.dropLast))) Px := Iff.rfl
@[simp] theorem w_give : wGive f ρ st Pd Px ↔ f ρ st (fun d st1 => ∃ a c e, d = .adr a ∧ st1 a = some c ∧ cellD c = some e ∧ Pd e (sxD st1 a)) Px := Iff.rfl
@[simp] theorem w_ife : wIfE c fa fb ρ st Pd Px ↔ c ρ st (fun b st1 => if b = true then fa ρ st1 Pd Px else fb ρ st1 Pd Px) Px := Iff.rfl
@[simp] theorem w_pcons {fp : WPr} : wpCons w fv fp ρ st Pk Px ↔ fv ρ st (fun v st1 => fp ρ st1 (fun r st2 => Pk ((.inr w, v) :: r) st2) Px) Px := Iff.rfl
@[simp] theorem w_disp {fp : WPr} : wDisp fp ρ st Pd Px ↔ fp ρ st (fun ps st1 => ps.length ≤ 15 ∧ Pd (.dK (mergeD [] ps)) st1) Px := Iff.rfl
@[simp] theorem w_dispN {fp : WPr} : wDispN fp ρ st Pd Px ↔ fp ρ st (fun ps st1 => ps.length ≤ 15 ∧ ∀ a, st1 a = none → Pd (.adr a) (sxU st1 a (.k (mergeD [] ps)))) Px := Iff.rfl
@[simp] theorem w_tV {fc : E → Option Bool} : wtV fc ρ st Pb Px ↔ ∃ b, fc (vw st ρ) = some b ∧ Pb b st := Iff.rfl
@[simp] theorem w_tOf : wtOf f ρ st Pb Px ↔ f ρ st (fun d st1 => ∃ b, d.b? = some b ∧ Pb b st1) Px := Iff.rfl
@[simp] theorem w_tAnd : wtAnd c c' ρ st Pb Px ↔ c ρ st (fun b st1 => if b = true then c' ρ st1 Pb Px else Pb false st1) Px := Iff.rfl
@[simp] theorem w_tOr : wtOr c c' ρ st Pb Px ↔ c ρ st (fun b st1 => if b = true then Pb true st1 else c' ρ st1 Pb Px) Px := Iff.rfl
@[simp] theorem w_tNot : wtNot c ρ st Pb Px ↔ c ρ st (fun b st1 => Pb (!b) st1) Px := Iff.rfl
@[simp] theorem w_next : wsNext ρ st P ↔ P (.nx ρ st) := Iff.rfl
@[simp] theorem w_seq : wsSeq g h ρ st P ↔ g ρ st (sqP (fun ρ' st' => h ρ' st' P) P) := Iff.rfl
@[simp] theorem w_if : wsIf c g h ρ st P ↔ c ρ st (fun b st1 => if b = true then g ρ st1 P else h ρ st1 P) (exP P) := Iff.rfl
@[simp] theorem w_asg : wsAsg i f ρ st P ↔ f ρ st (fun d st1 => P (.nx (ρ.set i (some d)) st1)) (exP P) := Iff.rfl
@[simp] theorem w_asgT : wsAsgT tg f ρ st P ↔ f ρ st (fun d st1 => ∃ ws, tg d = some ws ∧ P (.nx (putE ρ ws) st1)) (exP P) := Iff.rfl
@[simp] theorem w_ret : wsRet f ρ st P ↔ f ρ st (fun d st1 => P (.rt d st1)) (exP P) := Iff.rfl
@[simp] theorem w_cont : wsCont ρ st P ↔ P (.ct ρ st) := Iff.rfl
@[simp] theorem w_drop : wsDrop f ρ st P ↔ f ρ st (fun _ st1 => P (.nx ρ st1)) (exP P) := Iff.rfl
@[simp] theorem w_raise : wsRaise w ρ st P ↔ P (.ex w st) := Iff.rfl
@[simp] theorem w_put {fi : WX} : wsPut fo fi fv ρ st P ↔ fv ρ st (fun v st1 => fo ρ st1 (fun o st2 => fi ρ st2 (fun i st3 => ∃ st4, putW st3 o i v = some st4 ∧ P (.nx ρ st4)) (exP P)) (exP P)) (exP P) := Iff.rfl
@[simp] theorem w_sapp : wsApp fo fv ρ st P ↔ fo ρ st (fun o st1 => isLc st1 o ∧ fv ρ st1 (fun v st2 => ∃ st3, appW st2 o v = some st3 ∧ P (.nx ρ st3)) (exP P)) (exP P) := Iff.rfl
@[simp] theorem w_sextA : wsExtA fo fv ρ st P ↔ fo ρ st (fun o st1 => isLc st1 o ∧ fv ρ st1 (fun v st2 => ∃ st3, extA st2 o v = some st3 ∧ P (.nx ρ st3)) (exP P)) (exP P) := Iff.rfl
@[simp] theorem w_augN {k : D → D → Option D} {fi : WX} : wsAugN k fo fi fv ρ st P ↔ fo ρ st (fun o st1 => (∃ p, o = .adr p) ∧ fi ρ st1 (fun i st2 => ixNN st2 o i ∧ ∃ x, subW st2 o i = some x ∧ fv ρ st2 (fun y st3 => ∃ z st4, k x y = some z ∧ putW st3 o i z = some st4 ∧ P (.nx ρ st4)) (exP P)) (exP P)) (exP P) := Iff.rfl
@[simp] theorem w_for {fi : E → Option (List D)} : wsFor fi tg g ρ st P ↔ ∃ ds, fi ρ = some ds ∧ forW tg g ds ρ st P := Iff.rfl
@[simp] theorem w_tryL {wf : WF} {yes : Str → Option Bool} : wsTryL i fl wf yes w ρ st P ↔ i < ρ.length ∧ fl ρ st (fun ds st1 => wf ds st1 (fun d st2 => P (.rt d st2)) (fun x st2 => ∃ b, yes x = some b ∧ P (.rt (.lst [.str w, .bl b]) st2))) (fun _ _ => False) := Iff.rfl
@[simp] theorem w_exP {x : Str} : exP P x st ↔ P (.ex x st) := Iff.rfl
@[simp] theorem w_sq1 {k : E → Sx → Prop} : sqP k P (.nx ρ st) ↔ k ρ st := Iff.rfl
@[simp] theorem w_sq2 {k : E → Sx → Prop} : sqP k P (.bk ρ st) ↔ P (.bk ρ st) := Iff.rfl
@[simp] theorem w_sq3 {k : E → Sx → Prop} : sqP k P (.ct ρ st) ↔ P (.ct ρ st) := Iff.rfl
@[simp] theorem w_sq4 {k : E → Sx → Prop} : sqP k P (.rt d st) ↔ P (.rt d st) := Iff.rfl
@[simp] theorem w_sq5 {k : E → Sx → Prop} {x : Str} : sqP k P (.ex x st) ↔ P (.ex x st) := Iff.rfl
@[simp] theorem w_tu1 {k : E → Sx → Prop} : tuP k P (.nx ρ st) ↔ k ρ st := Iff.rfl
@[simp] theorem w_tu2 {k : E → Sx → Prop} : tuP k P (.bk ρ st) ↔ P (.nx ρ st) := Iff.rfl
@[simp] theorem w_tu3 {k : E → Sx → Prop} : tuP k P (.ct ρ st) ↔ k ρ st := Iff.rfl
@[simp] theorem w_tu4 {k : E → Sx → Prop} : tuP k P (.rt d st) ↔ P (.rt d st) := Iff.rfl
@[simp] theorem w_tu5 {k : E → Sx → Prop} {x : Str} : tuP k P (.ex x st) ↔ P (.ex x st) := Iff.rfl
@[simp] theorem w_rt1 : rtP Pd Px (.rt d st) ↔ Pd d st := Iff.rfl
@[simp] theorem w_rt2 : rtP Pd Px (.nx ρ st) ↔ Pd .non st := Iff.rfl
@[simp] theorem w_rt3 {x : Str} : rtP Pd Px (.ex x st) ↔ Px x st := Iff.rfl
@[simp] theorem w_rt4 : rtP Pd Px (.bk ρ st) ↔ False := Iff.rfl
@[simp] theorem w_rt5 : rtP Pd Px (.ct ρ st) ↔ False := Iff.rfl
@[simp] theorem w_f0 : forW tg g [] ρ st P ↔ P (.nx ρ st) := Iff.rfl
@[simp] theorem vw_nil : vw st [] = [] := rfl
@[simp] theorem vw_cons {o : Option D} {r : E} : vw st (o :: r) = o.map (see 7 st) :: vw st r := rfl
@[simp] theorem see_n {n : Nat} : see n st .non = .non := by cases n <;> rfl
@[simp] theorem see_b {n : Nat} {b : Bool} : see n st (.bl b) = .bl b := by cases n <;> rfl
@[simp] theorem see_i {n : Nat} {b : Int} : see n st (.int b) = .int b := by cases n <;> rfl
@[simp] theorem see_s {n : Nat} {b : Str} : see n st (.str b) = .str b := by cases n <;> rfl
@[simp] theorem see_t {n : Nat} {b : List D} : see n st (.tup b) = .tup b := by cases n <;> rfl
@[simp] theorem see_l {n : Nat} {b : List D} : see n st (.lst b) = .lst b := by cases n <;> rfl
@[simp] theorem see_k {n : Nat} {b : List (Key × D)} : see n st (.dK b) = .dK b := by cases n <;> rfl
@[simp] theorem see_tt {n : Nat} {b : List (List Key × D)} : see n st (.dT b) = .dT b := by cases n <;> rfl
@[simp] theorem see_sl {n : Nat} {b : List D} : see n st (.sl b) = .sl b := by cases n <;> rfl
@[simp] theorem see_kt {n : Nat} {b : List D} : see n st (.kt b) = .kt b := by cases n <;> rfl
@[simp] theorem imm_n : imm .non = true := rfl
@[simp] theorem imm_b {b : Bool} : imm (.bl b) = true := rfl
@[simp] theorem imm_i {b : Int} : imm (.int b) = true := rfl
@[simp] theorem imm_s {b : Str} : imm (.str b) = true := rfl
@[simp] theorem imm_t {b : List D} : imm (.tup b) = imms b := rfl
@[simp] theorem imms_n : imms [] = true := rfl
@[simp] theorem imms_c : imms (d :: ds) = (imm d && imms ds) := rfl
end
theorem seeL {n : Nat} {st : Sx} {a : Addr} {xs : List D} (h : st a = some (.l xs)) : see (n + 1) st (.adr a) = .lst (xs.map (see n st)) := by
  unfold see
  rw [h]
/-- data without addresses are seen as they are -/
theorem see_adr {n : Nat} {st : Sx} {d : D} (h : ∀ a, d ≠ .adr a) : see n st d = d := by
  cases n with
  | zero => rfl
  | succ n => cases d <;> first | rfl | exact absurd rfl (h _)
end Mi
namespace Mi
open PySem PySem.Spec PyProof.Rows L2
section
variable {P : Program} {w : World} {K : PySem.W.Frag} {mg : Str → Option Value} {base : Heap} {k n : Nat} {x : Str} {wf : WF} {m : List D → Option D}
theorem fx_of_w (F : FxW P w K mg base k x n wf) (hm : ∀ ds d, m ds = some d → wf ds sx0 (fun d' _ => d' = d) (fun _ _ => False)) : Fx P w K mg base k x n m := by
  obtain ⟨f, fd, ps, h1, h2, h3, h4⟩ := F.ok
  refine ⟨⟨f, fd, ps, h1.imp fun vs H Q E q => ?_, h2, h3, h4⟩, fun ds d h => F.hm ds _ _ _ (hm ds d h)⟩
  obtain ⟨Ft, ds, d, e, r, hl, hd, q⟩ := q
  refine ⟨Ft, ds, sx0, _, e, r, hl, .nil, hm ds d hd, fun d' st' v F' H' hq g _ rv => ?_⟩
  subst hq
  rw [erP_sx0] at g
  exact q v F' H' g rv
end
theorem gs_three {f g l : FG} {d : D} {ws : List (Nat × D)} (h : gT (gsC f (gsC g (gsC l gsN))) d = some ws) : ∃ a b c w1 w2 w3, f a = some w1 ∧ g b = some w2 ∧ l c = some w3 ∧ ws = w1 ++ (w2 ++ w3) := by
  unfold gT at h
  split at h
  · rename_i xs
    match xs, h with
    | [], h => simp [gsC] at h
    | [a], h => simp [gsC] at h
    | [a, b], h => simp [gsC] at h
    | a :: b :: c :: e :: r, h => simp [gsC, gsN] at h
    | [a, b, c], h =>
      obtain ⟨w1, h1, h⟩ := Option.bind_eq_some_iff.mp h
      obtain ⟨v1, h2, h⟩ := Option.bind_eq_some_iff.mp h
      obtain ⟨w2, h3, h2⟩ := Option.bind_eq_some_iff.mp h2
      obtain ⟨v2, h4, h2⟩ := Option.bind_eq_some_iff.mp h2
      obtain ⟨w3, h5, h4⟩ := Option.bind_eq_some_iff.mp h4
      obtain ⟨v3, h6, h4⟩ := Option.bind_eq_some_iff.mp h4
      cases h6
      cases h4
      cases h2
      cases h
      exact ⟨a, b, c, w1, w2, w3, h1, h3, h5, by simp⟩
  · cases h
theorem own3 {i j l : Nat} {x y z : Str} : ∀ d ws, gT (gsC (gN i) (gsC (gN j) (gsC (gN l) gsN))) d = some ws → ∀ p ∈ ws.map (·.1), p ∈ [(x, i), (y, j), (z, l)].map (·.2) := fun d ws h p hp => by
  obtain ⟨a, b, c, w1, w2, w3, h1, h2, h3, rfl⟩ := gs_three h
  cases h1
  cases h2
  cases h3
  simpa using hp
end Mi
namespace Mi
open PySem PySem.Spec PyProof.Rows L2
def rRepr (K : PySem.W.Frag) : List V → Hp → VK → Prop := fun vs H Q => ∃ a p, vs = [V.ref a] ∧ Dp K H (.ref a) p ∧ p.showable = true ∧ p.hasDict = false ∧ p.depth ≤ 50 ∧ p.shown.length ≤ sizeLine ∧ Q (.str p.shown) H
theorem call_repr {X : Cx} (hg : X.A.guards = some []) (hu : X.A.units + 64 < cLine) : CallR X (.builtin "repr") (rRepr X.K) := by
  intro pins s σ H vs us Q I r h
  obtain ⟨a, p, rfl, hd, h1, h2, h3, h4, q⟩ := h
  obtain ⟨u, rfl, ru⟩ := vals1 r
  obtain ⟨as, hr⟩ := Dp.reads I p _ u hd ru
  obtain rfl : u = Value.ref a := ru
  exact repr_of_reads' hr h1 (fun z => by rw [h2] at z; cases z) hg (by omega) (fun _ _ e => e) (fun h' u tk hk => ⟨.str p.shown, H, I.kept hk, ⟨u, rfl⟩, q⟩) h4
def dRepr (d : D) : Option D := match d with
  | .tup xs => (D.py? (.tup xs)).bind fun p => if p.showable = true ∧ p.hasDict = false ∧ p.depth ≤ 50 ∧ p.shown.length ≤ 100000 then some (.str p.shown) else none
  | _ => none
theorem lf_repr {K : PySem.W.Frag} : LfC K (rRepr K) (g1 dRepr) := lf_g1 fun F H a x e ra d hd Q q => by
  unfold dRepr at hd
  split at hd
  · rename_i xs
    obtain ⟨p, h1, hd⟩ := Option.bind_eq_some_iff.mp hd
    split at hd
    · rename_i hc
      cases hd
      have hp := rep_py _ p x (ra.m e) h1
      obtain ⟨b, vs, rfl, _⟩ := rep_tup.mp ra
      exact ⟨b, p, rfl, hp, hc.1, hc.2.1, hc.2.2.1, sz_of hc.2.2.2, q _ F H (.refl e) (rep_str.mpr rfl)⟩
    · cases hd
  · cases hd
end Mi
namespace Mi
open PySem PySem.Spec PyProof.Rows L2
/-- FnOk at one place -/
structure FnG (P : Program) (w : World) (K : PySem.W.Frag) (mg : Str → Option Value) (base : Heap) (CX : CXT) (k : Nat) (f : Addr) (fd : FuncData) (ps : List Str) (sp : Sp) : Prop where
  len : ∀ vs H Q E, sp vs H Q E → vs.length = ps.length
  run : ∀ (A : Around), A.guards = some [] → ∀ (outer : List Env) (s : Shared) (H : Hp) (args : Args) (us : List Value) (vs : List V) (Q : VK) (E : XK),
    Room k A → Env0 P w K mg base A outer s H → BindsTo s fd args (ps.zip us) → Vals vs us → sp vs H Q E → codeAny (model P w) A (.call (.ref f) args) (CR CX outer P w H s Q E) s
section
variable {P : Program} {w : World} {K : PySem.W.Frag} {mg : Str → Option Value} {base : Heap} {CX : CXT}
theorem fnG_of {k : Nat} {f : Addr} {name qual : Str} {params : Arguments} {body : List Stmt} {scope : Scope} {dV kV doc pm cdv ct oc : Value} {an od : Option Addr} {osl : Array (Option Value)} {N ps : List Str} {sp : Sp}
    (lk : K.lookup f = some ⟨oc, od, .func (PySem.W.fnOf name qual params body scope dV kV doc pm an cdv ct), osl⟩) (hcd : PySem.W.codeIn K cdv qual = true) (S : FnScope N ps scope) (len : ∀ vs H Q E, sp vs H Q E → vs.length = ps.length)
    (hbody : ∀ (A : Around), A.guards = some [] → ∀ (outer : List Env) (s : Shared) (H : Hp) (vs : List V) (Q : VK) (E : XK), Room k (A.deeper (envOfC qual scope s.heap.objs.size f cdv)) → sp vs H Q E →
      ∃ t, PSs (cxOf CX P w K mg base N qual scope f cdv A outer s H E) body t ∧ t { nx := fun _ H' => Q .non H', rt := Q } (start N vs) H) :
    FnG P w K mg base CX (k + 1) f (PySem.W.fnOf name qual params body scope dV kV doc pm an cdv ct) ps sp := by
  constructor
  case len => exact len
  case run =>
    intro A hg outer s H args us vs Q E hr e0 hb r hsp
    have kept : ∀ b o, base.get? b = some o → s.heap.get? b = some o := fun b o e => (e0.bs b o e).1
    have par : ∀ y ∈ ps.zip us, scope.names.lookup y.1 = some .local ∨ (scope.names.lookup y.1 = some .cell ∧ ((cellsFrom (s.heap.objs.size + 1) scope.names []).lookup y.1).isSome = true) := by
      rintro ⟨n, v⟩ hy
      exact (S.par n (List.of_mem_zip hy).1).imp id fun q => ⟨q, PySem.W.cellsFrom_some _ _ _ (.inl q)⟩
    have KX : K.In s.heap := e0.mod.kin.keeps kept
    refine codeAny_call_function hr.depth (KX _ _ lk) rfl S.co S.gen rfl
      (PySem.W.codeRec_of KX hcd) (hb _ _ _ _ ?_)
    refine wpAny_newFunctionEnv_cells S.kind par ?_
    intro env he s1 x
    subst he
    refine ⟨(e0.mod.nolimit.keeps kept).keeps x.toInCall.keep, codeAny_func ?_⟩
    obtain ⟨t, ht, hq⟩ := hbody A hg outer s H vs Q E (hr.deeper _) hsp
    have I := inv_start S hr.hd e0 (len _ _ _ _ hsp) r x (CX := CX) (P := P) (w := w) (K := K) (mg := mg) (base := base) (E := E)
    refine wpAny_mono (ht.run [] s1 (start N vs) H _ I hq) ?_ fun e s' hs => hs
    intro fl s' hs
    cases fl with
    | ret u =>
      obtain ⟨v, σ', H', J, rv, q⟩ := hs
      exact ⟨v, H', J.os, J.bare, J.base, J.hok, rv, q⟩
    | next =>
      obtain ⟨σ', H', J, q⟩ := hs
      exact ⟨.non, H', J.os, J.bare, J.base, J.hok, rfl, q⟩
    | brk =>
      obtain ⟨_, _, _, q⟩ := hs
      exact q.elim
    | cont =>
      obtain ⟨_, _, _, q⟩ := hs
      exact q.elim
end
end Mi
namespace Mi
open PySem PySem.Spec PyProof.Rows L2
theorem callerA_guards : callerA.guards = some [] := rfl
section
variable {P : Program} {w : World} {K : PySem.W.Frag} {mg mb : Str → Option Value} {CX : CXT} {k : Nat} {fa a : Addr} {fd : FuncData} {x : Str} {sp : Sp} {s₁ : Shared} {vs : List Value} {ns : List Int}
/-- the abstract heap where the script alone may be tracked -/
theorem law_coreG (KX : K.In s₁.heap) (hns : s₁.heap.Ns mainGlobals mg) (hb : s₁.heap.Ns builtinsNs mb) (hbb : ∀ x : Str, x ≠ "__name__" → mb x = bootBuiltins x) (hlim : s₁.heap.NoLimit) (hg : s₁.gens = #[])
    (ha : s₁.heap.get? a = some { cls := .type "list", data := .seq vs.toArray }) (hr : Room k callerA)
    (F : ∀ base : Heap, K.In base → base.Ns mainGlobals mg → FnG P w K mg base CX k fa fd [x] sp) (hbind : ∀ (s : Shared) (u : Value), BindsTo s fd ⟨[u], []⟩ [(x, u)])
    (hCX : ∀ H e s', CX [] H s₁ (fun _ _ _ => False) e s' → False) (H : Hp) (hO : Only H) (hq : sp [.ref a] H (fun v _ => v = .bl true) fun _ _ _ => False) (hok : HOk P w H s₁.heap) (hA : ∀ b, H b ≠ none → b = a) (hK : H a ≠ none → K.lookup a = none) :
    codeAny (model P w) callerA (.call (.ref fa) ⟨[.ref a], []⟩) (fun r s' => r = .ok (.ret (.bool true)) ∧ OldK s₁.heap s'.heap ∧ s'.os = s₁.os ∧ AllBare s'.gens) s₁ := by
  have only : ∀ {b : Addr}, H b ≠ none → b = a ∧ K.lookup b = none ∧ s₁.heap.get? b = some { cls := .type "list", data := .seq vs.toArray } := fun {b} h => by
    have e := hA b h
    subst e
    exact ⟨rfl, hK h, ha⟩
  have up : ∀ {b : Addr} {m : Str → Option Value}, s₁.heap.Ns b m → (hidT s₁.heap H).Ns b m := fun {b m} h => by
    obtain ⟨o, es, ep, e, d, r⟩ := h
    refine ⟨o, es, ep, hidT_get e ?_, d, r⟩
    cases q : H b with
    | none => rfl
    | some u =>
      have e' := (only (b := b) (by rw [q]; simp)).2.2
      rw [e'] at e
      cases e
      have d' : Data.seq vs.toArray _ = Data.dict es ep := d
      cases d'
  have hKb : K.In (hidT s₁.heap H) := fun b o e => hidT_get (KX b o e) <| by
    cases q : H b with
    | none => rfl
    | some u =>
      have e' := (only (b := b) (by rw [q]; simp)).2.1
      rw [e'] at e
      cases e
  obtain ⟨mc, lim1, lim2⟩ := hlim
  have hM : Mod K mg (hidT s₁.heap H) := ⟨hKb, up hns, ⟨mb, up hb, hbb⟩, mc, up lim1, lim2⟩
  have e0 : Env0 P w K mg (hidT s₁.heap H) callerA [] s₁ H := by
    refine ⟨rfl, hM, fun b o e => of_hidT e, Nat.le_of_eq (hidT_size _ _), trivial, fun b hb => ?_, hok, .of_eq hg⟩
    cases hb
  have run := (F _ hKb (up hns)).run callerA callerA_guards [] s₁ H ⟨[.ref a], []⟩ [.ref a] [.ref a] _ _ hr e0 (hbind s₁ (.ref a)) (.cons rfl .nil) hq
  refine codeAny_mono run ?_
  intro r s' h
  cases r with
  | error e => exact (hCX H e s' h).elim
  | ok fl =>
    cases fl with
    | ret u =>
      obtain ⟨v, H', os, bare, un, hok', r', q⟩ := h
      have q' : v = .bl true := q
      subst q'
      have hu : u = Value.bool true := r'
      subst hu
      refine ⟨rfl, OldK.of_keep fun b o e => ?_, os, bare⟩
      cases q : H b with
      | none => exact un.keep b o e q (fun z => by cases z) (by simp)
      | some u =>
        rcases hO b with z | ⟨ob, xs, z⟩
        · rw [q] at z
          cases z
        · have e1 := (hok b _ z).1
          have e2 := (hok' b _ (un.frzs b ob _ z)).1
          rw [e] at e1
          cases e1
          exact e2
    | next => exact h.elim
    | brk => exact h.elim
    | cont => exact h.elim
theorem law_callG (KX : K.In s₁.heap) (hns : s₁.heap.Ns mainGlobals mg) (hb : s₁.heap.Ns builtinsNs mb) (hbb : ∀ x : Str, x ≠ "__name__" → mb x = bootBuiltins x) (hlim : s₁.heap.NoLimit) (hg : s₁.gens = #[])
    (ha : s₁.heap.get? a = some { cls := .type "list", data := .seq vs.toArray }) (hi : IntsAre vs ns) (hl : ns.length ≤ sizeLine) (hr : Room k callerA)
    (F : ∀ base : Heap, K.In base → base.Ns mainGlobals mg → FnG P w K mg base CX k fa fd [x] sp) (hbind : ∀ (s : Shared) (u : Value), BindsTo s fd ⟨[u], []⟩ [(x, u)])
    (hsp : ∀ H : Hp, Only H → SqL K H a (ns.map V.int) → sp [.ref a] H (fun v _ => v = .bl true) fun _ _ _ => False) (hCX : ∀ H e s', CX [] H s₁ (fun _ _ _ => False) e s' → False) :
    codeAny (model P w) callerA (.call (.ref fa) ⟨[.ref a], []⟩) (fun r s' => r = .ok (.ret (.bool true)) ∧ OldK s₁.heap s'.heap ∧ s'.os = s₁.os ∧ AllBare s'.gens) s₁ := by
  have rv := vals_ints hi
  have hz : (ns.map V.int).length ≤ sizeLine := by rw [List.length_map]; exact hl
  have hva : vs.toArray.size ≤ sizeLine := by rw [List.size_toArray, hi.length]; exact hl
  by_cases hk : K.lookup a = none
  · have e0 : ∀ b, b ≠ a → upd (fun _ => none) a (.frz { cls := .type "list", data := .seq vs.toArray } (.lst (ns.map V.int))) b = (none : Option HO) := fun b q => upd_ne q
    refine law_coreG KX hns hb hbb hlim hg ha hr F hbind hCX (upd (fun _ => none) a (.frz { cls := .type "list", data := .seq vs.toArray } (.lst (ns.map V.int)))) ?_ ?_ ?_ ?_ fun _ => hk
    · intro b
      by_cases q : b = a
      · subst q
        exact .inr ⟨_, _, upd_same⟩
      · exact .inl (e0 b q)
    · refine hsp _ ?_ (.inl (.inr ⟨_, upd_same⟩))
      intro b
      by_cases q : b = a
      · subst q
        exact .inr ⟨_, _, upd_same⟩
      · exact .inl (e0 b q)
    · intro b u q
      by_cases h : b = a
      · subst h
        rw [upd_same] at q
        cases q
        exact ⟨ha, hz, vs, _, rv, ha⟩
      · rw [e0 b h] at q
        cases q
    · intro b h
      by_cases q : b = a
      · exact q
      · exact absurd (e0 b q) h
  · obtain ⟨o, hk⟩ := Option.ne_none_iff_exists'.mp hk
    have e := KX a o hk
    rw [ha] at e
    cases e
    refine law_coreG KX hns hb hbb hlim hg ha hr F hbind hCX (fun _ => none) (fun _ => .inl rfl) (hsp _ (fun _ => .inl rfl) ?_) (fun b u q => by cases q) (fun b h => absurd rfl h) fun h => absurd rfl h
    exact .inr ⟨_, vs.toArray, _, hk, rfl, rfl, rfl, hva, by simpa using rv⟩
end
theorem walk_ofG {l : PySem.W.OpenLaw} {n k : Nat} {q : Program} {loose : List Str} {XP : (Str → Option Value) → Heap → Prop} {YP : World → Heap → Prop} {d : DefRec} {K : Params → PySem.W.Frag} {CX : World → CXT} {sp : World → Sp} {x : Str}
    (hn : l.most = some n) (hz : n ≤ sizeLine) (hd0 : d.params.defaults = []) (hr : Room k callerA) (hY : ∀ (w : World) (h : Heap), YP w h → (K w.params).In h)
    (F : ∀ (w : World) (mg : Str → Option Value) (fa : Addr) (h : Heap), (K w.params).In h → h.Ns mainGlobals mg → mg d.name = some (.ref fa) → ∃ fd : FuncData, (∀ (s : Shared) (u : Value), BindsTo s fd ⟨[u], []⟩ [(x, u)]) ∧
      ∀ base : Heap, (K w.params).In base → base.Ns mainGlobals mg → FnG l.prog w (K w.params) mg base (CX w) k fa fd [x] (sp w))
    (hsp : ∀ (w : World) (H : Hp) (a : Addr) (ns : List Int), ns.length ≤ n → Only H → SqL (K w.params) H a (ns.map V.int) → sp w [.ref a] H (fun v _ => v = .bl true) fun _ _ _ => False)
    (hCX : ∀ (w : World) (H : Hp) (s : Shared) (e : Value) (s' : Shared), CX w [] H s (fun _ _ _ => False) e s' → False) : PySem.W.WalkO q loose XP YP l.row.toRowW d [] (fun f vs => PySem.call f vs) :=
  Att.attach_call hn hd0 fun w s₀ s₁ mg mb fa o pm cd doc a vs ns G Y ho hd hcd hmg hobj hints hlen hg => by
    obtain ⟨fd, hb, hF⟩ := F w mg fa _ (hY w _ Y) G.T.g hmg
    exact law_callG (hY w _ Y) G.T.g G.T.b G.T.builtins G.T.nolimit hg hobj hints (Nat.le_trans hlen hz) hr hF hb (fun H h1 h2 => hsp w H a ns hlen h1 h2) fun H e s' => hCX w H s₁ e s'
section
variable {P : Program} {w : World} {K : PySem.W.Frag} {mg : Str → Option Value} {base : Heap}
theorem fnwG_mk {x qual : Str} {st : Stmt} {f : Addr} {fd : FuncData} {N ps : List Str} {k n m : Nat} {g : WS} (Fn : Fun K x qual st f fd) (S : FnScope N ps (defScope st)) (hpl : ps.length ≤ N.length) (hn : ps.length = n) (hm : N.length = m)
    (body : ∀ (cdv : Value) (A : Around), A.guards = some [] → ∀ (outer : List Env) (s : Shared) (H : Hp) (W : XK), Room k (A.deeper (envOfC qual (defScope st) s.heap.objs.size f cdv)) →
      SSWs (cxOf CX0 P w K mg base N qual (defScope st) f cdv A outer s H W).nox E0 (defBody st) g) : FnG P w K mg base CX0 (k + 1) f fd ps (spW0 K n (defW m n g)) := by
  subst hn hm
  obtain ⟨oc, od, kV, doc, pm, an, cdv, ct, osl, rfl, lk, hcd⟩ := Fn.ex
  refine fnG_of lk hcd S (fun vs H Q W h => ?_) fun A hg outer s H vs Q W hr h => ?_
  · obtain ⟨F, ds, st, Pd, _, _, hl, _⟩ := h
    exact hl
  · obtain ⟨F, ds, st, Pd, e, r, hl, c, hd, q⟩ := h
    obtain ⟨t, hp, hs⟩ := body cdv A hg outer s H W hr
    refine ⟨t, hp.nox, ?_⟩
    obtain ⟨hdl, hg⟩ := hd
    rw [← hdl] at hg
    refine hs F _ F H _ _ _ (rw_start e r c (by omega)) _ hg _ fun o ho => ?_
    cases o with
    | nx ρ st => exact fun F1 H1 σ r1 _ => q _ _ _ F1 H1 ho r1.gr r1.cs (rep_non.mpr rfl)
    | rt d' st => exact fun F1 H1 v g1 c1 r1 => q _ _ v F1 H1 ho g1 c1 r1
    | bk ρ st => exact ho.elim
    | ct ρ st => exact ho.elim
    | ex x st => exact ho.elim
end
end Mi
namespace Mi
open PySem PySem.Spec PyProof.Rows L2
def insI (a : Int) : List Int → List Int
  | [] => [a]
  | b :: l => if a ≤ b then a :: b :: l else b :: insI a l
def sortIL : List Int → List Int
  | [] => []
  | a :: l => insI a (sortIL l)
theorem insI_perm (a : Int) : ∀ l, (insI a l).Perm (a :: l)
  | [] => .refl _
  | b :: l => by
    unfold insI
    split
    · exact .refl _
    · exact ((insI_perm a l).cons b).trans (.swap a b l)
theorem sortIL_perm : ∀ l, (sortIL l).Perm l
  | [] => .refl _
  | a :: l => (insI_perm a _).trans ((sortIL_perm l).cons a)
theorem insI_le {a : Int} : ∀ {l : List Int}, l.Pairwise (· ≤ ·) → (insI a l).Pairwise (· ≤ ·)
  | [], _ => by simp [insI]
  | b :: l, h => by
    have h' := List.pairwise_cons.mp h
    unfold insI
    split
    · rename_i hab
      exact List.pairwise_cons.mpr ⟨fun x hx => by
        rcases List.mem_cons.mp hx with rfl | hx
        · exact hab
        · exact Int.le_trans hab (h'.1 x hx), h⟩
    · rename_i hab
      exact List.pairwise_cons.mpr ⟨fun x hx => by
        rcases List.mem_cons.mp ((insI_perm a l).mem_iff.mp hx) with rfl | hx
        · omega
        · exact h'.1 x hx, insI_le h'.2⟩
theorem sortIL_le : ∀ l, (sortIL l).Pairwise (· ≤ ·)
  | [] => .nil
  | a :: l => insI_le (sortIL_le l)
theorem sorted_eq : ∀ {l m : List Int}, l.Perm m → l.Pairwise (· ≤ ·) → m.Pairwise (· ≤ ·) → l = m
  | [], m, p, _, _ => (List.Perm.nil_eq p)
  | a :: l, [], p, _, _ => by have := p.length_eq; simp at this
  | a :: l, b :: m, p, h1, h2 => by
    have q1 := List.pairwise_cons.mp h1
    have q2 := List.pairwise_cons.mp h2
    have ha : a ∈ b :: m := p.mem_iff.mp (by simp)
    have hb : b ∈ a :: l := p.mem_iff.mpr (by simp)
    have hab : a = b := by
      rcases List.mem_cons.mp ha with e | ha
      · exact e
      · rcases List.mem_cons.mp hb with e | hb
        · exact e.symm
        · have := q1.1 b hb
          have := q2.1 a ha
          omega
    subst hab
    rw [sorted_eq (List.Perm.cons_inv p) q1.2 q2.2]
theorem intsD_map : ∀ ns : List Int, intsD (ns.map .int) = some ns
  | [] => rfl
  | n :: ns => by
    simp only [List.map_cons, intsD, intsD_map ns]
    rfl
def dSortedI : D → Option O
  | .lst ds => (intsD ds).map fun ns => .l ((sortIL ns).map .int)
  | _ => none
theorem lf_sortedI {K : PySem.W.Frag} : LfCN K (rSortedI K) (gN1 dSortedI) := lf_gN1 fun F H a x e ra d hd Q q => by
  unfold dSortedI at hd
  split at hd
  · obtain ⟨ns, h1, rfl⟩ := Option.map_eq_some_iff.mp hd
    rw [intsD_eq h1] at ra
    obtain ⟨p, vs, rfl, hs, rs⟩ := rep_lst.mp ra
    rw [reps_ints.mp rs] at hs
    refine ⟨p, ns, rfl, .of (e _ _ hs), fun ns' l hp hw hl => ?_⟩
    have en : ns' = sortIL ns := sorted_eq (hp.trans (sortIL_perm ns).symm) hw (sortIL_le ns)
    exact q l _ F _ (.off e hl) hl (e.free hl) upd_same ⟨_, rfl, by rw [en]; exact reps_ints.mpr rfl⟩
  · cases hd
end Mi
namespace Mi
open PySem PySem.Spec PyProof.Rows L2
/-- wherever H holds, v is the key n -/
def NIs (K : PySem.W.Frag) (H : Hp) (n : NestedKey) (v : V) : Prop := ∀ (P : Program) (w : World) (h : Heap), HOk P w H h → K.In h → ∀ u, RelV v u → NestedIs h n u
def NIsAll (K : PySem.W.Frag) (H : Hp) (ns : List NestedKey) (vs : List V) : Prop := ∀ (P : Program) (w : World) (h : Heap), HOk P w H h → K.In h → ∀ us, Vals vs us → NestedAll h ns us
section
variable {K : PySem.W.Frag} {H : Hp}
theorem nis_tup {a : Addr} {ns : List NestedKey} {vs : List V} (h : SqT K H a vs) (hr : NIsAll K H ns vs) : NIs K H (.tup ns) (.ref a) := fun P w hp ok ki u ru => by
  obtain rfl : u = Value.ref a := ru
  rcases h with h | ⟨o, its, n, hk, hc, hd, _, r⟩
  · obtain ⟨_, its, r, o, e1, e2, n, e3⟩ := h.ok ok
    exact .tup e1 e2 e3 (by simpa using hr P w hp ok ki its r)
  · exact .tup (ki a o hk) hc hd (hr P w hp ok ki _ r)
mutual
theorem rep_nis : ∀ (d : D) (n : NestedKey) (v : V), Rep K H d v → nkD d = some n → NIs K H n v
  | .non, _, _, h, e => fun P w hp ok ki u ru => by
    cases e
    rw [rep_non.mp h] at ru
    obtain rfl : u = Value.none := ru
    exact .none
  | .bl b, _, _, h, e => fun P w hp ok ki u ru => by
    cases e
    rw [rep_bl.mp h] at ru
    obtain rfl : u = Value.bool b := ru
    exact .bool rfl
  | .int i, _, _, h, e => fun P w hp ok ki u ru => by
    cases e
    rw [rep_int.mp h] at ru
    obtain ⟨t, rfl⟩ : ∃ t, u = Value.int i t := ru
    exact .int _ _
  | .str x, _, _, h, e => fun P w hp ok ki u ru => by
    cases e
    rw [rep_str.mp h] at ru
    obtain ⟨t, rfl⟩ : ∃ t, u = Value.str x t := ru
    exact .text _ _
  | .tup xs, _, _, h, e => by
    simp only [nkD] at e
    obtain ⟨ns, h1, rfl⟩ := Option.map_eq_some_iff.mp e
    obtain ⟨a, vs, rfl, h2, h3⟩ := rep_tup.mp h
    exact nis_tup (.of h2) (reps_nis xs ns vs h3 h1)
  | .kt xs, _, _, h, e => by
    simp only [nkD] at e
    obtain ⟨ns, h1, rfl⟩ := Option.map_eq_some_iff.mp e
    obtain ⟨a, vs, rfl, h2, h3⟩ := rep_ktl h
    exact nis_tup h2 (reps_nis xs ns vs h3 h1)
  | .lst _, _, _, _, e | .sl _, _, _, _, e | .dK _, _, _, _, e | .dT _, _, _, _, e | .ob _ _, _, _, _, e | .adr _, _, _, _, e | .any, _, _, _, e | .ty _, _, _, _, e => by simp only [nkD, reduceCtorEq] at e
theorem reps_nis : ∀ (ds : List D) (ns : List NestedKey) (vs : List V), Reps K H ds vs → nksD ds = some ns → NIsAll K H ns vs
  | [], _, _, h, e => fun P w hp ok ki us ru => by
    cases e
    rw [reps_nil.mp h] at ru
    cases ru
    exact .nil
  | d :: ds, _, _, h, e => fun P w hp ok ki us ru => by
    simp only [nksD] at e
    obtain ⟨n, h1, e⟩ := Option.bind_eq_some_iff.mp e
    obtain ⟨ns, h2, e⟩ := Option.bind_eq_some_iff.mp e
    cases e
    obtain ⟨v, r, rfl, a, b⟩ := reps_cons.mp h
    cases ru with
    | cons r1 r2 => exact .cons (rep_nis d n v a h1 P w hp ok ki _ r1) (reps_nis ds ns r b h2 P w hp ok ki _ r2)
end
end
/-- the keys' tuples stand -/
def NKs (K : PySem.W.Frag) (H : Hp) (xs : List NE) : Prop := ∀ x ∈ xs, x.1.depth ≤ 8 ∧ NIs K H x.1 (.ref x.2.1)
theorem RepN.keys {K : PySem.W.Frag} {F H : Hp} (e : Ex F H) : ∀ {ps : List (D × D)} {xs : List NE}, RepN K F ps xs → NKs K H xs
  | [], _, h => fun x hx => by
    obtain rfl : _ = [] := h
    cases hx
  | (k, d) :: ps, _, h => fun x hx => by
    obtain ⟨n, b, u, v, r, rfl, h2, h3, h4, h5, h6, h7⟩ := h
    rcases List.mem_cons.mp hx with rfl | hx
    · exact ⟨h3, rep_nis k n _ (h4.m e) h2⟩
    · exact RepN.keys e h7 x hx
theorem RepN.len {K : PySem.W.Frag} {F : Hp} : ∀ {ps : List (D × D)} {xs : List NE}, RepN K F ps xs → ps.length = xs.length
  | [], _, h => by
    obtain rfl : _ = [] := h
    rfl
  | (k, d) :: ps, _, h => by
    obtain ⟨n, b, u, v, r, rfl, h2, h3, h4, h5, h6, h7⟩ := h
    simp [h7.len]
def getN : List (D × D) → NestedKey → Option D
  | [], _ => none
  | (k, d) :: ps, n => if nkD k = some n then some d else getN ps n
def putN (ps : List (D × D)) (k v : D) (n : NestedKey) : List (D × D) := if (getN ps n).isSome = true then ps.map (fun p => if nkD p.1 = some n then (p.1, v) else p) else ps ++ [(k, v)]
section
variable {K : PySem.W.Frag} {F : Hp}
theorem atKey_cons {x : NE} {xs : List NE} {n : NestedKey} : atKey (x :: xs) n = if x.1 = n then some x.2 else atKey xs n := by
  by_cases h : x.1 = n <;> simp [atKey, h]
theorem RepN.get : ∀ {ps : List (D × D)} {xs : List NE} {n : NestedKey}, RepN K F ps xs → (∀ d, getN ps n = some d → ∃ p v, atKey xs n = some p ∧ RelV v p.2 ∧ Rep K F d v) ∧ (getN ps n = none → atKey xs n = none)
  | [], _, n, h => by
    obtain rfl : _ = [] := h
    exact ⟨fun d e => (by cases e), fun _ => rfl⟩
  | (k, d) :: ps, _, n, h => by
    obtain ⟨n1, b, u, v, r, rfl, h2, h3, h4, h5, h6, h7⟩ := h
    have ih := RepN.get (n := n) h7
    rw [atKey_cons]
    unfold getN
    rw [h2]
    by_cases hn : n1 = n
    · subst hn
      simp only [if_true]
      exact ⟨fun d' e => (by cases e; exact ⟨_, v, rfl, h6, h5⟩), fun e => (by cases e)⟩
    · rw [if_neg hn, if_neg (fun z => hn (Option.some.inj z))]
      exact ih
theorem RepN.map_put {v : D} {z : V} {y : Value} {n : NestedKey} (rv : Rep K F v z) (ry : RelV z y) : ∀ {ps : List (D × D)} {xs : List NE}, RepN K F ps xs → RepN K F (ps.map fun p => if nkD p.1 = some n then (p.1, v) else p) (xs.map (putAt n y))
  | [], _, h => by
    obtain rfl : _ = [] := h
    exact rfl
  | (k, d) :: ps, _, h => by
    obtain ⟨n1, b, u, v1, r, rfl, h2, h3, h4, h5, h6, h7⟩ := h
    have ih := RepN.map_put (n := n) rv ry h7
    rw [List.map_cons, List.map_cons]
    by_cases hn : n1 = n
    · subst hn
      rw [if_pos (show nkD (k, d).1 = some n1 from h2)]
      exact ⟨n1, b, y, z, r.map (putAt n1 y), by simp [putAt], h2, h3, h4, rv, ry, ih⟩
    · rw [if_neg (show ¬ nkD (k, d).1 = some n from fun e => hn (by rw [h2] at e; exact Option.some.inj e))]
      exact ⟨n1, b, u, v1, r.map (putAt n y), by simp [putAt, hn], h2, h3, h4, h5, h6, ih⟩
theorem RepN.app : ∀ {ps qs : List (D × D)} {xs ys : List NE}, RepN K F ps xs → RepN K F qs ys → RepN K F (ps ++ qs) (xs ++ ys)
  | [], _, _, _, h, q => by
    obtain rfl : _ = [] := h
    exact q
  | (k, d) :: ps, _, _, _, h, q => by
    obtain ⟨n1, b, u, v1, r, rfl, h2, h3, h4, h5, h6, h7⟩ := h
    exact ⟨n1, b, u, v1, _, rfl, h2, h3, h4, h5, h6, h7.app q⟩
theorem RepN.put {ps : List (D × D)} {xs : List NE} {k v : D} {n : NestedKey} {b : Addr} {z : V} {y : Value} (h : RepN K F ps xs) (hk : nkD k = some n) (hd : n.depth ≤ 8) (rk : Rep K F k (.ref b)) (rv : Rep K F v z) (ry : RelV z y) :
    RepN K F (putN ps k v n) (storedH xs n b y) := by
  have g := h.get (n := n)
  unfold putN storedH
  cases e : getN ps n with
  | some d =>
    obtain ⟨p, v1, h1, _⟩ := g.1 d e
    simp only [h1, Option.isSome_some, if_true]
    exact h.map_put rv ry
  | none =>
    simp only [g.2 e, Option.isSome_none, Bool.false_eq_true, if_false]
    exact h.app ⟨n, b, y, z, [], rfl, hk, hd, rk, rv, ry, rfl⟩
end
section
variable {X : Cx} {pins : List (Addr × Obj)} {σ : L2.St} {H : Hp} {s : Shared} {a : Addr} {xs : List NE}
theorem nd_of (I : Inv X pins σ H s) (e : H a = some (nDict X.prog X.w a xs)) (hx : NKs X.K H xs) : (a == sysModules) = false ∧ xs.length ≤ sizeLine ∧ s.heap.DictOfH (nestedKind X.prog X.w) a xs := by
  obtain ⟨⟨h1, h2, o, es, ep, h3, h4, h5, h6, h7⟩, _⟩ := I.hok a _ e
  exact ⟨h1, h2, o, es, ep, h3, h4, h5, h6, fun x hm => ⟨(hx x hm).2 _ _ _ I.hok I.kIn _ rfl, (hx x hm).1⟩, h7⟩
theorem nd_new {P : Program} {w : World} {H' : Hp} {h' : Heap} (h1 : (a == sysModules) = false) (h2 : xs.length ≤ sizeLine) (dd : h'.DictOfH (nestedKind P w) a xs) : ObjOk P w H' h' a (nDict P w a xs) := by
  obtain ⟨o, es, ep, h3, h4, h5, h6, _, h7⟩ := dd
  refine ⟨⟨h1, h2, o, es, ep, h3, h4, h5, h6, h7⟩, ⟨o, h3⟩, ?_⟩
  rintro g1 g2 ⟨k1, k2, o', es', ep', k3, k4⟩ hk
  exact ⟨k1, k2, o', es', ep', hk o' k3, k4⟩
end
def rIxN (P : Program) (w : World) (K : PySem.W.Frag) : R2 := fun x y H Q => ∃ a xs n b p v, x = .ref a ∧ y = .ref b ∧ H a = some (nDict P w a xs) ∧ NKs K H xs ∧ n.depth ≤ 8 ∧ NIs K H n (.ref b) ∧ atKey xs n = some p ∧ RelV v p.2 ∧ Q v H
theorem roomN {A : Around} (hu : A.units + 64 < cLine) {P : Program} {w : World} : (nestedKind P w).room A.in1 := by
  show A.units + 1 + 8 < cLine
  omega
theorem ix_nest {X : Cx} (hu : X.A.units + 64 < cLine) : IxR X (rIxN X.prog X.w X.K) := by
  intro value slice pins s σ H x y v u Q I rx ry h hs
  obtain ⟨a, xs, n, b, p, z, rfl, rfl, hg, hx, hn, hb, hp, rz, q⟩ := h
  cases rx
  cases ry
  obtain ⟨_, _, dd⟩ := nd_of I hg hx
  exact tail_any dd.typeIs slot_dict_getitem.lookup (wpAny_getItem_heap (roomN hu) ⟨hb _ _ _ I.hok I.kIn _ rfl, hn⟩ dd hp ⟨z, H, I.tok _, rz, q⟩) hs
def rInN (P : Program) (w : World) (K : PySem.W.Frag) (neg : Bool) : R2 := fun x y H Q => ∃ a xs n b, y = .ref a ∧ x = .ref b ∧ H a = some (nDict P w a xs) ∧ NKs K H xs ∧ n.depth ≤ 8 ∧ NIs K H n (.ref b) ∧ Q (.bl (xor neg (atKey xs n).isSome)) H
theorem op_inN {X : Cx} (hu : X.A.units + 64 < cLine) : OpR X (compareOp .In) (rInN X.prog X.w X.K false) := by
  intro pins s σ H x y v u Q I rx ry h
  obtain ⟨a, xs, n, b, rfl, rfl, hg, hx, hn, hb, q⟩ := h
  cases rx
  cases ry
  obtain ⟨hd, _, dd⟩ := nd_of I hg hx
  refine wpAny_in_heap (roomN hu) ⟨hb _ _ _ I.hok I.kIn _ rfl, hn⟩ hd dd ⟨.bl (atKey xs n).isSome, H, I.tok _, rfl, ?_⟩
  simpa using q
theorem op_ninN {X : Cx} (hu : X.A.units + 64 < cLine) : OpR X (compareOp .NotIn) (rInN X.prog X.w X.K true) := by
  intro pins s σ H x y v u Q I rx ry h
  obtain ⟨a, xs, n, b, rfl, rfl, hg, hx, hn, hb, q⟩ := h
  cases rx
  cases ry
  obtain ⟨hd, _, dd⟩ := nd_of I hg hx
  refine notIn_keyed (roomN hu) ⟨hb _ _ _ I.hok I.kIn _ rfl, hn⟩ hd ⟨xs, dd, rfl⟩ ?_
  rw [valueAt_pairsH, Option.isSome_map]
  exact ⟨.bl (!(atKey xs n).isSome), H, I.tok _, rfl, by simpa using q⟩
def rSetN (P : Program) (w : World) (K : PySem.W.Frag) : TSet := fun o i v H Q => ∃ a xs n b, o = .ref a ∧ i = .ref b ∧ H a = some (nDict P w a xs) ∧ NKs K H xs ∧ n.depth ≤ 8 ∧ NIs K H n (.ref b) ∧ xs.length < sizeLine ∧ ∀ u, RelV v u → Q (upd H a (nDict P w a (storedH xs n b u)))
theorem storedH_len {xs : List NE} {n : NestedKey} {b : Addr} {u : Value} : (storedH xs n b u).length ≤ xs.length + 1 := by
  unfold storedH
  split <;> simp
theorem set_nest {X : Cx} (hu : X.A.units + 64 < cLine) : PSet X (rSetN X.prog X.w X.K) := by
  intro pins s σ H o i v ov iv u Q I ro ri rv h
  obtain ⟨a, xs, n, b, rfl, rfl, hg, hx, hn, hb, hl, q⟩ := h
  cases ro
  cases ri
  obtain ⟨hd, hz, dd⟩ := nd_of I hg hx
  refine wpAny_setItem_heap (hsz := hz) (roomN hu) ⟨hb _ _ _ I.hok I.kIn _ rfl, hn⟩ dd fun h' dd' hs => ⟨_, ?_, q u rv⟩
  have he : ∃ z, h'.get? a = some z := by
    obtain ⟨z, _, _, hz, _⟩ := id dd'
    exact ⟨z, hz⟩
  refine d_write I ?_ hs he (nd_new hd ?_ dd')
  · rw [hg]; exact True.intro
  · have := storedH_len (xs := xs) (n := n) (b := b) (u := u)
    omega
end Mi
namespace Mi
open PySem PySem.Spec PyProof.Rows L2
def tupD : D → Bool
  | .tup _ | .kt _ => true
  | _ => false
theorem rep_tupD {K : PySem.W.Frag} {F : Hp} {d : D} {v : V} (h : tupD d = true) (r : Rep K F d v) : ∃ b, v = .ref b := by
  cases d with
  | tup xs => obtain ⟨a, _, rfl, _⟩ := rep_tup.mp r; exact ⟨a, rfl⟩
  | kt xs => obtain ⟨a, _, rfl, _⟩ := rep_kt.mp r; exact ⟨a, rfl⟩
  | _ => simp [tupD] at h
/-- the key i is n -/
def isN (i : D) (n : NestedKey) : Prop := nkD i = some n ∧ n.depth ≤ 8 ∧ tupD i = true
section
variable (P : Program) (w : World)
def wsPutN (fo fi fv : WX) : WS := fun ρ st Pt => fv ρ st (fun v st1 => fo ρ st1 (fun o st2 => fi ρ st2 (fun i st3 => ∃ p kvs n, o = .adr p ∧ st3 p = some (.n P w p kvs) ∧ isN i n ∧ kvs.length < 100000 ∧
  Pt (.nx ρ (sxU st3 p (.n P w p (putN kvs i v n))))) (exP Pt)) (exP Pt)) (exP Pt)
def wSubN (fo fk : WX) : WX := fun ρ st Pd Px => fo ρ st (fun o st1 => fk ρ st1 (fun k st2 => ∃ p kvs n d, o = .adr p ∧ st2 p = some (.n P w p kvs) ∧ isN k n ∧ getN kvs n = some d ∧ Pd d st2) Px) Px
def wInN (neg : Bool) (fk fo : WX) : WX := fun ρ st Pd Px => fk ρ st (fun k st1 => fo ρ st1 (fun o st2 => ∃ p kvs n, o = .adr p ∧ st2 p = some (.n P w p kvs) ∧ isN k n ∧ Pd (.bl (xor neg (getN kvs n).isSome)) st2) Px) Px
end
section
variable {K : PySem.W.Frag} {mg : Str → Option Value} {X : XK} {ta tb te : TE} {fo fi' fv fx : WX} {P : Program} {w : World} {F0 H0 F H : Hp} {σ : L2.St} {ρ : E} {st : Sx}
theorem RW.nAt (r : RW K F0 H0 F H σ ρ st) {p : Addr} {kvs : List (D × D)} (h : st p = some (.n P w p kvs)) : ∃ xs, H p = some (nDict P w p xs) ∧ RepN K F kvs xs ∧ NKs K H xs := by
  obtain ⟨⟨u, h1, xs, rfl, h2⟩, _⟩ := r.cs.at_ p _ h
  exact ⟨xs, h1, h2, h2.keys r.fh⟩
theorem isN.key {i : D} {n : NestedKey} (h : isN i n) {y : V} (e : Ex F H) (r : Rep K F i y) : ∃ b, y = .ref b ∧ n.depth ≤ 8 ∧ NIs K H n (.ref b) := by
  obtain ⟨b, rfl⟩ := rep_tupD h.2.2 r
  exact ⟨b, rfl, h.2.1, rep_nis i n _ (r.m e) h.1⟩
theorem ws_putN (ho : SemXW K mg X ta fo) (hi : SemXW K mg X tb fi') (hv : SemXW K mg X te fv) : SemSW K mg X (tAsg te (gSub ta tb (rSetN P w K))) (wsPutN P w fo fi' fv) := fun F0 H0 F H σ ρ st r Pt hp Dn q => by
  have qx := EndW.ex q
  refine hv F0 H0 F H σ ρ st r _ _ hp qx _ fun v st1 z F1 H1 hp r1 e1 rv => ?_
  refine ho F0 H0 F1 H1 σ ρ st1 r1 _ _ hp qx _ fun o st2 x F2 H2 hp r2 e2 ro => ?_
  refine hi F0 H0 F2 H2 σ ρ st2 r2 _ _ hp qx _ fun i st3 y F3 H3 hp r3 e3 ri => ?_
  obtain ⟨p, kvs, n, rfl, h1, h2, h3, h4⟩ := hp
  rw [rep_adr] at ro
  subst ro
  obtain ⟨xs, k1, k2, k3⟩ := r3.nAt h1
  obtain ⟨b, rfl, k4, k5⟩ := h2.key r3.fh ri
  refine ⟨p, xs, n, b, rfl, rfl, k1, k3, k4, k5, by rw [← k2.len]; exact sz_lt h3, fun u ru => ?_⟩
  refine q _ h4 F3 _ σ (r3.wr h1 ⟨_, rfl, k2.put h2.1 k4 ri (rv.m (e2.trans e3)) ru⟩) ((e1.trans e2).trans e3)
theorem wx_subN (ho : SemXW K mg X ta fo) (hk : SemXW K mg X tb fi') : SemXW K mg X (tOp (rIxN P w K) ta tb) (wSubN P w fo fi') := fun F0 H0 F H σ ρ st r Pd Px hf hx Q q => by
  refine ho F0 H0 F H σ ρ st r _ Px hf hx _ fun o st1 x F1 H1 hf r1 e1 ro => ?_
  refine hk F0 H0 F1 H1 σ ρ st1 r1 _ Px hf hx _ fun k st2 y F2 H2 hf r2 e2 rk => ?_
  obtain ⟨p, kvs, n, d, rfl, h1, h2, h3, h4⟩ := hf
  rw [rep_adr] at ro
  subst ro
  obtain ⟨xs, k1, k2, k3⟩ := r2.nAt h1
  obtain ⟨b, rfl, k4, k5⟩ := h2.key r2.fh rk
  obtain ⟨pp, v, g1, g2, g3⟩ := (k2.get (n := n)).1 d h3
  exact ⟨p, xs, n, b, pp, v, rfl, rfl, k1, k3, k4, k5, g1, g2, q _ st2 v F2 H2 h4 r2 (e1.trans e2) g3⟩
theorem wx_inN {neg : Bool} (hk : SemXW K mg X tb fi') (ho : SemXW K mg X ta fo) : SemXW K mg X (tOp (rInN P w K neg) tb ta) (wInN P w neg fi' fo) := fun F0 H0 F H σ ρ st r Pd Px hf hx Q q => by
  refine hk F0 H0 F H σ ρ st r _ Px hf hx _ fun k st1 y F1 H1 hf r1 e1 rk => ?_
  refine ho F0 H0 F1 H1 σ ρ st1 r1 _ Px hf hx _ fun o st2 x F2 H2 hf r2 e2 ro => ?_
  obtain ⟨p, kvs, n, rfl, h1, h2, h4⟩ := hf
  rw [rep_adr] at ro
  subst ro
  obtain ⟨xs, k1, k2, k3⟩ := r2.nAt h1
  obtain ⟨b, rfl, k4, k5⟩ := h2.key r2.fh (rk.m e2)
  refine ⟨p, xs, n, b, rfl, rfl, k1, k3, k4, k5, ?_⟩
  have e : (getN kvs n).isSome = (atKey xs n).isSome := by
    have g := k2.get (n := n)
    cases e : getN kvs n with
    | some d =>
      obtain ⟨pp, v, g1, _⟩ := g.1 d e
      rw [g1]
      rfl
    | none => rw [g.2 e]; rfl
  rw [← e]
  exact q _ st2 _ F2 H2 h4 r2 (e1.trans e2) (rep_bl.mpr rfl)
end
section
variable {X : Cx} {W : XK} {a b e : Expr} {ta tb te : TE} {fo fi' fv fx : WX} {pos pos' apos cpos : Pos}
theorem s3_putN {P : Program} {w : World} (hu : X.A.units + 64 < cLine) (ho : SXW X W a ta fo) (hi : SXW X W b tb fi') (hv : SXW X W e te fv) (hs : swapsWith e (some (.Subscript a b pos')) pos.line X.env = pure false := by rfl) (hP : X.prog = P := by rfl) (hw : X.w = w := by rfl) :
    SSW X W (.Assign [.Subscript a b pos'] e pos) (wsPutN P w fo fi' fv) := by
  subst hP hw
  exact ⟨_, ps_item (set_nest hu) ho.pe hi.pe hv.pe hs, ws_putN ho.se hi.se hv.se⟩
theorem x3_subN {P : Program} {w : World} (K : PySem.W.Frag) (hu : X.A.units + 64 < cLine) (ho : SXW X W a ta fo) (hi : SXW X W b tb fi') (hs : PlainIx b := by intro _ _; rfl) (hP : X.prog = P := by rfl) (hw : X.w = w := by rfl) (hK : X.K = K := by rfl) : SXW X W (.Subscript a b pos) (tOp (rIxN P w K) ta tb) (wSubN P w fo fi') := by
  subst hP hw hK
  exact ⟨pe_ix (ix_nest hu) ho.pe hi.pe hs, wx_subN ho.se hi.se⟩
end
end Mi
namespace Mi
open PySem PySem.Spec PyProof.Rows L2
def dIdxL : D → D → Option D
  | .lst xs, .int n => (intsD xs).bind fun ns => if n ∈ ns then some (.int (ns.idxOf n : Nat)) else none
  | _, _ => none
theorem idx_first {n : Int} : ∀ {ns : List Int} {m : Nat} {z : Int}, m < ns.idxOf n → ns[m]? = some z → z ≠ n
  | [], m, z, h, e => by simp at e
  | a :: ns, m, z, h, e => by
    rw [List.idxOf_cons] at h
    by_cases ha : (a == n) = true
    · rw [ha] at h
      simp at h
    · have ha' : (a == n) = false := by simpa using ha
      rw [ha'] at h
      simp only [cond_false] at h
      cases m with
      | zero =>
        simp at e
        subst e
        simpa using ha
      | succ m => exact idx_first (ns := ns) (m := m) (by omega) (by simpa using e)
section
variable {X : Cx} {o e : Expr} {to te : TE} {fo fe : FE} {apos cpos : Pos}
theorem sx_idxL (K : PySem.W.Frag) (ho : SE X o to fo) (he : SE X e te fe)
    (hbase : attributeBase o "index" X.env (eval o X.env) = eval o X.env := by rfl)
    (hfew : ((backTo cpos (starEach [e] X.env)).all (fun x => !x.1) && (backToKw cpos (keywordEach [] X.env)).all (fun x => x.1.isSome) && decide ([e].length + ([] : List Keyword).length + (if ([] : List Keyword).isEmpty then 0 else 1) < 30)) = true := by rfl)
    (hline : (apos.endLine == cpos.line) = true := by rfl) (hs : starEach [e] X.env = (false, eval e X.env) :: starEach [] X.env := by rfl) (hplain : (backTo cpos (starEach [] X.env)).any (·.1) = false := by rfl) (hK : X.K = K := by rfl) :
    SE X (.Call (.Attribute o "index" apos) [e] [] cpos) (tBM K "list" (rIndex K) to (tCons te tNil)) (e2 dIdxL fo fe) := by
  subst hK
  refine ⟨pe_bm (hbase := hbase) (hfew := hfew) (hline := hline) (hs := hs) (hplain := hplain) PySem.F.plainAttrs_list PySem.F.slot_list_index PySem.F.type_list_index mt_index ho.pe (pa_cons he.pe pa_nil hs), fun F H σ ρ ee r d hd Q q => ?_⟩
  obtain ⟨x, h1, hd⟩ := Option.bind_eq_some_iff.mp hd
  obtain ⟨y, h2, hd⟩ := Option.bind_eq_some_iff.mp hd
  refine ho.se F H σ ρ ee r x h1 _ fun v F1 H1 g1 r1 => ?_
  unfold dIdxL at hd
  split at hd
  · rename_i xs n _
    obtain ⟨ns, h3, hd⟩ := Option.bind_eq_some_iff.mp hd
    split at hd
    · rename_i hn
      cases hd
      obtain ⟨p, vs, rfl, hp, rs⟩ := rep_lst.mp r1
      refine ⟨.inl ⟨rfl, vs, .of (g1.fh _ _ hp)⟩, he.se F1 H1 σ ρ g1.fh (r.m g1.ff) _ h2 _ fun v2 F2 H2 g2 r2 => ?_⟩
      rw [rep_int.mp r2]
      have e3 := ints_rep _ _ _ rs h3
      subst e3
      have hl := List.idxOf_lt_length_of_mem hn
      refine ⟨p, ns.map V.int, .int n, ns.idxOf n, .int n, rfl, rfl, .of (g2.hh _ _ (g1.fh _ _ hp)), rfl, ?_, ?_, ?_, ?_, q _ F2 H2 (g1.trans g2) (rep_int.mpr rfl)⟩
      · simp [flatV]
      · rw [List.getElem?_map, List.getElem?_eq_getElem hl, List.getElem_idxOf hl]
        rfl
      · simp [eqV]
      · intro m z' hm hz
        rw [List.getElem?_map] at hz
        obtain ⟨k, hk, rfl⟩ := Option.map_eq_some_iff.mp hz
        have := idx_first hm hk
        simpa [eqV] using this
    · cases hd
  · cases hd
end
end Mi
namespace Mi
open PySem PySem.Spec PyProof.Rows L2
structure FxG (P : Program) (w : World) (K : PySem.W.Frag) (mg : Str → Option Value) (base : Heap) (k : Nat) (x : Str) (n : Nat) (m : List D → Option D) : Prop where
  ok : ∃ f fd ps, FnG P w K mg base CX0 k f fd ps (spD K n m) ∧ mg x = some (.ref f) ∧ PySem.W.keepIn K (.ref f) = true ∧ Binds K fd ps []
  hm : ∀ ds d, m ds = some d → ds.length = n
structure FxWG (P : Program) (w : World) (K : PySem.W.Frag) (mg : Str → Option Value) (base : Heap) (k : Nat) (x : Str) (n : Nat) (wf : WF) : Prop where
  ok : ∃ f fd ps, FnG P w K mg base CX0 k f fd ps (spW0 K n wf) ∧ mg x = some (.ref f) ∧ PySem.W.keepIn K (.ref f) = true ∧ Binds K fd ps []
  hm : ∀ ds st Pd Px, wf ds st Pd Px → ds.length = n
section
variable {X : Cx} {CX : CXT} {k : Nat} {f : Addr} {fd : FuncData} {ps : List Str} {sp : Sp} {dvs : List V} {ds : List Value} {E : XK} {x : Str} {p pos : Pos} {e : Expr} {es : List Expr} {t : TA}
theorem run_fnG {pins : List (Addr × Obj)} {σ : L2.St} {H : Hp} {s : Shared} {Q : VK} {us : List Value} {vs : List V} (F : FnG X.prog X.w X.K X.mg X.base CX k f fd ps sp) (hgd : X.A.guards = some []) (hr : Room k X.A) (hb : Binds X.K fd ps ds) (hd : Vals dvs ds) (hx : Passes CX X E)
    (I : Inv X pins σ H s) (r : Vals vs us) (h : sp (vs ++ dvs) H Q E) : wpAny (model X.prog X.w) X.A (call (.ref f) us) (EP X pins σ Q) X.xe s := by
  have r2 : Vals (vs ++ dvs) (us ++ ds) := r.append hd
  have hl : (us ++ ds).length = ps.length := by rw [← r2.length]; exact F.len _ _ _ _ h
  refine wpAny_call (codeAny_mono (F.run X.A hgd X.stack s H ⟨us, []⟩ (us ++ ds) (vs ++ dvs) Q E hr I.env0 (hb s us I.kIn hl) r2 h) fun r s' hq => ?_)
  cases r with
  | error e => exact hx pins σ H s e s' I hq
  | ok fl =>
    cases fl with
    | ret u => exact I.after hq
    | next => exact False.elim hq
    | brk => exact False.elim hq
    | cont => exact False.elim hq
theorem pe_callGd (F : FnG X.prog X.w X.K X.mg X.base CX k f fd ps sp) (hgd : X.A.guards = some []) (hr : Room k X.A) (hg : Gl X x) (hm : X.mg x = some (.ref f)) (hk : PySem.W.keepIn X.K (.ref f) = true) (hb : Binds X.K fd ps ds) (hd : Vals dvs ds) (hx : Passes CX X E)
    (ha : PA X (e :: es) t) (hdb : (x == ("__debug__" : Str)) = false := by decide) (he : starEach (e :: es) X.env = (false, eval e X.env) :: starEach es X.env := by rfl) (hpl : (backTo pos (starEach es X.env)).any (·.1) = false := by rfl) :
    PE X (.Call (.Name x p) (e :: es) [] pos) (tCall sp dvs E t) := by
  refine ⟨fun pins s σ H Q I h => ?_⟩
  refine wpAny_Call_Name_kw (ld_glob I hg hm ?_ hdb)
  refine PySem.W.callWith_K (h₀ := X.base) I.ok.mod.kin hk (thn (ha.run pos pins s σ H _ I h) fun us s1 ⟨vs, H1, I1, r, q⟩ => ⟨I1.kIn, ?_⟩) he hpl
  exact run_fnG F hgd hr hb hd hx I1 r q
end
section
variable {X : Cx} {W : XK} {x : Str} {p pos : Pos} {e : Expr} {es : List Expr} {t : TA} {f : E → Option (List D)} {fl : WA}
theorem x3_callWG {P : Program} {w : World} {mg : Str → Option Value} {base : Heap} {k n : Nat} {wf : WF} (K : PySem.W.Frag) (F : FxWG P w K mg base k x n wf) (hgd : X.A.guards = some []) (hr : Room k X.A) (hg : Gl X x) (ha : SAW X W (e :: es) t fl) (hP : X.prog = P := by rfl) (hw : X.w = w := by rfl) (hK : X.K = K := by rfl) (hmg : X.mg = mg := by rfl) (hb : X.base = base := by rfl)
    (hdb : (x == ("__debug__" : Str)) = false := by decide) (he : starEach (e :: es) X.env = (false, eval e X.env) :: starEach es X.env := by rfl) (hpl : (backTo pos (starEach es X.env)).any (·.1) = false := by rfl) : SXW X W (.Call (.Name x p) (e :: es) [] pos) (tCall (spW0 K n wf) [] E0 t) (wCall0 wf fl) := by
  subst hP hw hK hmg hb
  obtain ⟨a, fd, ps, h1, h2, h3, h4⟩ := F.ok
  exact ⟨pe_callGd h1 hgd hr hg h2 h3 h4 .nil pass0 ha.pe hdb he hpl, wx_callW0 F.hm ha.se⟩
end
section
variable {P : Program} {w : World} {K : PySem.W.Frag} {mg : Str → Option Value} {base : Heap}
theorem fxwG_mk {x : Str} {st : Stmt} {f : Addr} {fd : FuncData} {N ps : List Str} {k n m : Nat} {g : WS} (Fn : Fun K x x st f fd) (S : FnScope N ps (defScope st)) (hmg : mg x = some (.ref f)) (hb : Binds K fd ps []) (hpl : ps.length ≤ N.length) (hn : ps.length = n) (hm : N.length = m)
    (body : ∀ (cdv : Value) (A : Around), A.guards = some [] → ∀ (outer : List Env) (s : Shared) (H : Hp) (W : XK), Room k (A.deeper (envOfC x (defScope st) s.heap.objs.size f cdv)) →
      SSWs (cxOf CX0 P w K mg base N x (defScope st) f cdv A outer s H W).nox E0 (defBody st) g) : FxWG P w K mg base (k + 1) x n (defW m n g) :=
  ⟨⟨f, fd, ps, fnwG_mk Fn S hpl hn hm body, hmg, Fn.kp, hb⟩, defW_len⟩
theorem fxG_mkL {x : Str} {st : Stmt} {f : Addr} {fd : FuncData} {N ps : List Str} {k n m : Nat} {g : FS} (Fn : Fun K x x st f fd) (S : FnScope N ps (defScope st)) (hmg : mg x = some (.ref f)) (hb : Binds K fd ps []) (hpl : ps.length ≤ N.length) (hn : ps.length = n) (hm : N.length = m)
    (body : ∀ (cdv : Value) (A : Around), A.guards = some [] → ∀ (outer : List Env) (s : Shared) (H : Hp) (W : XK), Room k (A.deeper (envOfC x (defScope st) s.heap.objs.size f cdv)) →
      SSs (cxOf CX0 P w K mg base N x (defScope st) f cdv A outer s H W).nox E0 (defBody st) g) : FxG P w K mg base (k + 1) x n (defM m n g) := by
  subst hn hm
  refine ⟨⟨f, fd, ps, ?_, hmg, Fn.kp, hb⟩, fun ds d h => defM_len ds d h⟩
  obtain ⟨oc, od, kV, doc, pm, an, cdv, ct, osl, rfl, lk, hcd⟩ := Fn.ex
  refine fnG_of lk hcd S (fun vs H Q W h => ?_) fun A hg outer s H vs Q W hr h => ?_
  · obtain ⟨F, ds, d, _, _, hl, _⟩ := h
    exact hl
  · obtain ⟨F, ds, d, e, r, hl, hd, q⟩ := h
    obtain ⟨t, hp, hs⟩ := body cdv A hg outer s H W hr
    refine ⟨t, hp.nox, ?_⟩
    have hdl : ds.length = ps.length := by rw [r.len, hl]
    unfold defM at hd
    rw [if_pos hdl] at hd
    obtain ⟨o, ho, hd⟩ := Option.bind_eq_some_iff.mp hd
    rw [← hdl] at ho
    refine hs F H F H _ _ (rs_start e r (by omega)) o ho _ ?_
    cases o with
    | nx ρ =>
      cases hd
      exact fun F1 H1 σ r1 _ => q _ F1 H1 r1.gr (rep_non.mpr rfl)
    | rt d' =>
      cases hd
      exact fun F1 H1 v g1 r1 => q v F1 H1 g1 r1
    | bk ρ => cases hd
    | ct ρ => cases hd
    | ex c => cases hd
end
end Mi
namespace Mi
open PySem PySem.Spec PyProof.Rows L2
section
variable {P : Program} {w : World} {K : PySem.W.Frag} {mg : Str → Option Value} {base : Heap}
theorem text_pure {nm y : Str} {st : Stmt} {f : Addr} {fd : FuncData} {A : Around} {outer : List Env} {s : Shared} {H : Hp} {a : Addr} {d : PyData} {as : List Addr} {p1 p2 p3 p4 : Pos}
    (Fn : Fun K nm nm st f fd) (S : FnScope [y] [y] (defScope st)) (hb : Binds K fd [y] []) (hbody : defBody st = [.Return (some (.Call (.Name "repr" p1) [.Name y p2] [] p3)) p4]) (hmr : mg "repr" = none)
    (hgl : ∀ (cdv : Value) (A : Around) (outer : List Env) (s : Shared) (H : Hp) (W : XK), Gl (cxOf CX0 P w K mg base [y] nm (defScope st) f cdv A outer s H W) "repr" ∧ Vis (cxOf CX0 P w K mg base [y] nm (defScope st) f cdv A outer s H W).env.scope y)
    (hyd : (y == ("__debug__" : Str)) = false) (hyc : (y == ("__classdict__" : Str)) = false)
    (hgd : A.guards = some []) (hr : Room 8 A) (e0 : Env0 P w K mg base A outer s H) (hd : Reads s.heap (.ref a) d as) (h1 : d.showable = true) (h2 : d.hasDict = false) (h3 : d.depth ≤ 50) (h4 : d.shown.length ≤ sizeLine) :
    wpAny (model P w) A (call (.ref f) [.ref a]) (PySem.W.KeyPure (.str d.shown) s) (fun _ _ => False) s := by
  obtain ⟨oc, od, kV, doc, pm, an, cdv, ct, osl, rfl, lk, hcd⟩ := Fn.ex
  have kept : ∀ b o, base.get? b = some o → s.heap.get? b = some o := fun b o e => (e0.bs b o e).1
  have KX : K.In s.heap := e0.mod.kin.keeps kept
  refine wpAny_call (codeAny_mono (R := fun r s' => ∃ u, r = .ok (.ret u) ∧ PySem.W.KeyPure (.str d.shown) s u s') ?_ fun r s' hq => ?_)
  case refine_2 =>
    obtain ⟨u, rfl, hq⟩ := hq
    exact hq
  have bd := hb s [.ref a] KX rfl
  have par : ∀ z ∈ [y].zip [Value.ref a], (defScope st).names.lookup z.1 = some .local ∨ ((defScope st).names.lookup z.1 = some .cell ∧ ((cellsFrom (s.heap.objs.size + 1) (defScope st).names []).lookup z.1).isSome = true) := by
    rintro ⟨n, v⟩ hy
    exact (S.par n (List.of_mem_zip hy).1).imp id fun q => ⟨q, PySem.W.cellsFrom_some _ _ _ (.inl q)⟩
  refine codeAny_call_function hr.depth (KX _ _ lk) rfl S.co S.gen rfl (PySem.W.codeRec_of KX hcd) (bd _ _ _ _ ?_)
  refine wpAny_newFunctionEnv_cells S.kind par ?_
  intro env he s1 x
  subst he
  refine ⟨(e0.mod.nolimit.keeps kept).keeps x.toInCall.keep, codeAny_func ?_⟩
  have I := inv_start S hr.hd e0 (show ([V.ref a] : List V).length = 1 from rfl) (.cons rfl .nil) x (CX := CX0) (P := P) (w := w) (K := K) (mg := mg) (base := base) (E := fun _ _ _ => False)
  obtain ⟨hg, hv⟩ := hgl cdv A outer s H (fun _ _ _ => False)
  show wpAny _ _ (execs (defBody st) _) _ _ s1
  rw [hbody]
  refine wpAny_execs_cons (wpAny_Return_some (wpAny_Call_Name_kw (ld_blt I hg hmr rfl ?_ (by decide) (by decide))))
  obtain ⟨m, hn, hl⟩ := I.loc
  obtain ⟨u, r, l⟩ := hl 0 y (.ref a) rfl rfl hv
  obtain rfl : u = Value.ref a := r
  refine PyProof.Rows.callWith_builtin1 ?_ rfl rfl
  refine Calls.spliced_cons ?_
  have hk0 : ∀ b o, s.heap.get? b = some o → s1.heap.get? b = some o := x.toInCall.keep
  obtain ⟨hh1, tk1, rfl, _⟩ := x.done
  have fin : ∀ (Q : Value → Shared → Prop) (E : Value → Shared → Prop), (∀ u s', PySem.W.KeyPure (.str d.shown) s u s' → Q u s') → wpAny (model P w) (A.deeper (envOfC nm (defScope st) s.heap.objs.size f cdv)) (call (.builtin "repr") [.ref a]) Q E { s with heap := hh1, toks := tk1 } := fun Q E hQ =>
    repr_of_reads' hd h1 (fun z => by rw [h2] at z; cases z) hgd (by have := hr.un; show A.units + 3 + (d.depth + 1) < _; omega) hk0 (fun h' u tk hk => hQ _ _ ⟨h', tk, rfl, fun b o e => hk b o (hk0 b o e), .str _ _⟩) h4
  rcases l with ⟨hk, hm⟩ | ⟨hk, c, hc, hcell⟩
  · exact wpAny_Name (wpAny_loadName_local I.ok.kind hk hn hm (Calls.spliced_nil (fin _ _ fun u s' h => ⟨u, rfl, h⟩))) hyd
  · rcases hk with hk | hk
    · exact wpAny_Name (wpAny_loadName_cell I.ok.kind hk hc hcell (Calls.spliced_nil (fin _ _ fun u s' h => ⟨u, rfl, h⟩))) hyd
    · exact wpAny_Name (wpAny_loadName_free I.ok.kind hk hc hcell (Calls.spliced_nil (fin _ _ fun u s' h => ⟨u, rfl, h⟩)) hyc) hyd
end
end Mi
namespace Mi
open PySem PySem.Spec PyProof.Rows L2
section
variable {X : Cx}
def rListN (P : Program) (w : World) (K : PySem.W.Frag) : List V → Hp → VK → Prop := fun vs H Q => ∃ p xs, vs = [V.ref p] ∧ H p = some (nDict P w p xs) ∧ NKs K H xs ∧ ∀ l, H l = none → Q (.ref l) (upd H l (.lst (xs.map fun x => V.ref x.2.1)))
theorem vals_keys : ∀ xs : List NE, Vals (xs.map fun x => V.ref x.2.1) (xs.map fun x => Value.ref x.2.1)
  | [] => .nil
  | x :: xs => .cons rfl (vals_keys xs)
theorem cr_listN (hc : X.calm = true) : CallR X (.type "list") (rListN X.prog X.w X.K) := by
  intro pins s σ H vs us Q I r h
  obtain ⟨p, xs, rfl, hp, hx, q⟩ := h
  obtain ⟨u, rfl, ru⟩ := vals1 r
  obtain rfl : u = Value.ref p := ru
  obtain ⟨lo, hz, dd⟩ := nd_of I hp hx
  obtain ⟨o, es, ep, h3, h4, h5, h6, _, _⟩ := id dd
  have hes : es.size = xs.length := by
    have := congrArg List.length h6
    simpa using this
  refine PySem.W.kdl_call (PySem.KdlSrc.rawDict (es := es) (ep := ep) lo) (I.ok.hd hc) ⟨o, h3, h4, h5⟩ (by omega) fun h' tk acc' c' hk hD hacc => ?_
  have hl : acc'.toList = xs.map fun x => Value.ref x.2.1 := by
    apply List.ext_getElem?
    intro j
    by_cases hj : j < xs.length
    · have hj2 : j < acc'.size := by rw [hacc.1, hes]; exact hj
      have e1 : acc'[j]? = some acc'[j] := Array.getElem?_eq_getElem hj2
      obtain ⟨hi, hv⟩ := hacc.2 j _ e1
      rw [Array.getElem?_toList, e1, hv, List.getElem?_map, List.getElem?_eq_getElem hj]
      have e2 : es.toList[j]? = (xs.map (entryOfKey (nestedKind X.prog X.w)))[j]? := by rw [h6]
      rw [Array.getElem?_toList, Array.getElem?_eq_getElem hi, List.getElem?_map, List.getElem?_eq_getElem hj] at e2
      simp only [Option.map_some, Option.some.injEq] at e2
      rw [e2]
      rfl
    · rw [List.getElem?_eq_none (by rw [Array.length_toList, hacc.1, hes]; omega), List.getElem?_eq_none (by simp; omega)]
  have hrel : Vals (xs.map fun x => V.ref x.2.1) acc'.toList := by rw [hl]; exact vals_keys xs
  exact ⟨.ref _, upd H s.heap.objs.size (.lst (xs.map fun x => V.ref x.2.1)), I.laid (t' := tk) hk (Nat.le_refl _) ⟨by rw [List.length_map]; exact hz, acc'.toList, c', hrel, by rw [Array.toArray_toList]; exact hD⟩, rfl, q _ (I.hok.fresh (Nat.le_refl _))⟩
def rLenN (P : Program) (w : World) (K : PySem.W.Frag) : List V → Hp → VK → Prop := fun vs H Q => ∃ p xs, vs = [V.ref p] ∧ H p = some (nDict P w p xs) ∧ NKs K H xs ∧ Q (.int xs.length) H
theorem cr_lenN : CallR X (.builtin "len") (rLenN X.prog X.w X.K) := by
  intro pins s σ H vs us Q I r h
  obtain ⟨p, xs, rfl, hp, hx, q⟩ := h
  obtain ⟨u, rfl, ru⟩ := vals1 r
  obtain rfl : u = Value.ref p := ru
  obtain ⟨lo, hz, dd⟩ := nd_of I hp hx
  have hk : s.heap.DictKeyed (nestedKind X.prog X.w) p (pairsH xs) := ⟨xs, dd, rfl⟩
  have hl : (pairsH xs).length = xs.length := by simp [pairsH]
  refine PyProof.Rows.call_len_slot (n := ((pairsH xs).length : Int)) hk.typeIs PySem.F.slot_dict_len (fun Q' hq => len_keyed lo hk hq) (by omega) (by rw [hl]; rw [sizeLine_eq] at hz; omega) ?_
  rw [hl]
  exact ⟨.int xs.length, H, (I.tok _), ⟨_, rfl⟩, q⟩
end
end Mi
namespace Mi
open PySem PySem.Spec PyProof.Rows L2
section
variable (P : Program) (w : World)
def wListN (fo : WX) : WX := fun ρ st Pd Px => fo ρ st (fun o st1 => ∃ p kvs, o = .adr p ∧ st1 p = some (.n P w p kvs) ∧ ∀ a, st1 a = none → Pd (.adr a) (sxU st1 a (.l (kvs.map (·.1))))) Px
def wLenN (fo : WX) : WX := fun ρ st Pd Px => fo ρ st (fun o st1 => ∃ p kvs, o = .adr p ∧ st1 p = some (.n P w p kvs) ∧ Pd (.int kvs.length) st1) Px
def wDisN (fk fv : WX) : WX := fun ρ st Pd Px => ∀ p, st p = none → fk ρ (sxU st p (.n P w p [])) (fun k st2 => fv ρ st2 (fun v st3 => ∃ n, isN k n ∧ st3 p = some (.n P w p []) ∧ Pd (.adr p) (sxU st3 p (.n P w p [(k, v)]))) Px) Px
end
section
variable {K : PySem.W.Frag} {mg : Str → Option Value} {X : XK} {ta tb te : TE} {fo fk fv : WX} {P : Program} {w : World} {F : Hp}
theorem RepN.keysR : ∀ {ps : List (D × D)} {xs : List NE}, RepN K F ps xs → Reps K F (ps.map (·.1)) (xs.map fun x => V.ref x.2.1)
  | [], _, h => by
    obtain rfl : _ = [] := h
    exact reps_nil.mpr rfl
  | (k, d) :: ps, _, h => by
    obtain ⟨n, b, u, v, r, rfl, h2, h3, h4, h5, h6, h7⟩ := h
    exact reps_cons.mpr ⟨_, _, rfl, h4, h7.keysR⟩
theorem wx_listN (ho : SemXW K mg X ta fo) : SemXW K mg X (tCB (rListN P w K) (tCons ta tNil)) (wListN P w fo) := fun F0 H0 F H σ ρ st r Pd Px hf hx Q q => by
  refine ho F0 H0 F H σ ρ st r _ Px hf hx _ fun o st1 x F1 H1 hf r1 e1 ro => ?_
  obtain ⟨p, kvs, rfl, h1, h2⟩ := hf
  rw [rep_adr] at ro
  subst ro
  obtain ⟨xs, k1, k2, k3⟩ := r1.nAt h1
  refine ⟨p, xs, rfl, k1, k3, fun l hl => ?_⟩
  obtain ⟨hs, r2⟩ := r1.new (u := .lst (xs.map fun x => V.ref x.2.1)) (c := .l (kvs.map (·.1))) (.off r1.fh hl) hl (r1.fh.free hl) upd_same ⟨_, rfl, k2.keysR⟩
  exact q _ _ _ _ _ (h2 l hs) r2 e1 (rep_adr.mpr rfl)
theorem wx_lenN (ho : SemXW K mg X ta fo) : SemXW K mg X (tCB (rLenN P w K) (tCons ta tNil)) (wLenN P w fo) := fun F0 H0 F H σ ρ st r Pd Px hf hx Q q => by
  refine ho F0 H0 F H σ ρ st r _ Px hf hx _ fun o st1 x F1 H1 hf r1 e1 ro => ?_
  obtain ⟨p, kvs, rfl, h1, h2⟩ := hf
  rw [rep_adr] at ro
  subst ro
  obtain ⟨xs, k1, k2, k3⟩ := r1.nAt h1
  refine ⟨p, xs, rfl, k1, k3, ?_⟩
  rw [← k2.len]
  exact q _ _ _ _ _ h2 r1 e1 (rep_int.mpr rfl)
end
def tDisN (P : Program) (w : World) (K : PySem.W.Frag) (tk tv : TE) : TE := fun σ H Q => ∀ p, H p = none → tPairs [(tk, tv)] σ (upd H p (nDict P w p [])) fun ps H2 => ∃ x y n b, ps = [(x, y)] ∧ H2 p = some (nDict P w p []) ∧ x = V.ref b ∧ n.depth ≤ 8 ∧ NIs K H2 n (.ref b) ∧ ∀ u, RelV y u → Q (.ref p) (upd H2 p (nDict P w p [(n, b, u)]))
section
variable {X : Cx} {k v : Expr} {pos : Pos} {tk tv : TE}
theorem pe_disN (hu : X.A.units + 64 < cLine) (hk : PE X k tk) (hv : PE X v tv) : PE X (.Dict [some k] [v] pos) (tDisN X.prog X.w X.K tk tv) := by
  refine ⟨fun pins s σ H Q I q => ?_⟩
  have hn := I.hok.fresh (Nat.le_refl s.heap.objs.size)
  have I1 := I.laid (a := s.heap.objs.size) (o := nDict X.prog X.w s.heap.objs.size []) (h' := s.heap.push { cls := .type "dict", data := .dict #[] }) (t' := s.toks) (fun _ _ q => Heap.get?_push_of_some _ q) (Nat.le_refl _) (nd_new (beq_eq_false_iff_ne.mpr (Ne.symm (Nat.ne_of_lt I.big))) (Nat.zero_le _) (Heap.DictOfH.new s.heap))
  have hall : ([some k] : List (Option Expr)).all (·.isSome) = true := rfl
  rw [arm_eval_Dict, zip_pairTrees [some k] [v] X.env pos hall rfl, dictDisplay_pairs (pairTrees [some k] [v] X.env pos) (by intro z; cases z) (by show 1 < 17; decide)]
  refine wpAny_bind (wpAny_standAt (wpAny_bind (wpAny_subDictH (knd := nestedKind X.prog X.w) (Q := fun d s' => wpAny (model X.prog X.w) X.A (pure (Value.ref d)) _ X.xe s') (show X.A.units + 8 < cLine by omega) (Nat.le_of_ble_eq_true rfl) ?_)))
  refine thn ((pps_cons hk hv pps_nil).run pins _ σ _ _ I1 (q _ hn)) fun ws s2 ⟨ps, H2, I2, rel, x, y, n, b, ep, e, ex, h8, hni, q2⟩ => ?_
  subst ep ex
  cases rel with
  | @cons _ wv _ _ h t =>
    cases t
    obtain ⟨b1, b2⟩ := wv
    obtain ⟨hx, hy⟩ := h
    obtain rfl : b1 = Value.ref b := hx
    obtain ⟨lo, _, dd⟩ := nd_of I2 e (fun x hx => by cases hx)
    refine ⟨[(n, b, b2)], ⟨rfl, rfl, ⟨hni _ _ _ I2.hok I2.kIn _ rfl, h8⟩, trivial⟩, dd, fun h' tk dd' hs => wpAny_pure ⟨.ref s.heap.objs.size, _, ?_, rfl, q2 b2 hy⟩⟩
    have he : ∃ z, h'.get? s.heap.objs.size = some z := by
      obtain ⟨z, _, _, hz, _⟩ := id dd'
      exact ⟨z, hz⟩
    exact d_write I2 (by rw [e]; exact True.intro) hs he (nd_new lo (by rw [sizeLine_eq]; simp) dd')
end
end Mi
namespace Mi
open PySem PySem.Spec PyProof.Rows L2
section
variable {K : PySem.W.Frag} {mg : Str → Option Value} {X : XK} {ta tb te : TE} {fo fk fv : WX} {P : Program} {w : World} {F : Hp}
theorem wx_disN (hk : SemXW K mg X ta fk) (hv : SemXW K mg X tb fv) : SemXW K mg X (tDisN P w K ta tb) (wDisN P w fk fv) := fun F0 H0 F H σ ρ st r Pd Px hf hx Q q => by
  intro p hp
  obtain ⟨hs, r0⟩ := r.new (u := nDict P w p []) (c := .n P w p []) (.off r.fh hp) hp (r.fh.free hp) upd_same ⟨[], rfl, rfl⟩
  refine hk F0 H0 F _ σ ρ _ r0 _ Px (hf p hs) hx _ fun k st2 x F1 H1 hf r1 e1 rk => ?_
  refine hv F0 H0 F1 H1 σ ρ st2 r1 _ Px hf hx _ fun v st3 y F2 H2 hf r2 e2 rv => ?_
  obtain ⟨n, hn, h3, h4⟩ := hf
  obtain ⟨xs, k1, k2, k3⟩ := r2.nAt h3
  obtain rfl : xs = [] := k2
  obtain ⟨b, rfl, k4, k5⟩ := hn.key r2.fh (rk.m e2)
  refine ⟨_, y, n, b, rfl, k1, rfl, k4, k5, fun u ru => ?_⟩
  exact q _ _ _ F2 _ h4 (r2.wr h3 ⟨_, rfl, ⟨n, b, u, y, [], rfl, hn.1, k4, rk.m e2, rv, ru, rfl⟩⟩) (e1.trans e2) (rep_adr.mpr rfl)
end
section
variable {X : Cx} {W : XK} {a b e : Expr} {ta tb te : TE} {fo fk fv : WX} {p pos : Pos} {x : Str}
theorem x3_disN {P : Program} {w : World} (K : PySem.W.Frag) (hu : X.A.units + 64 < cLine) (hk : SXW X W a ta fk) (hv : SXW X W b tb fv) (hP : X.prog = P := by rfl) (hw : X.w = w := by rfl) (hK : X.K = K := by rfl) : SXW X W (.Dict [some a] [b] pos) (tDisN P w K ta tb) (wDisN P w fk fv) := by
  subst hP hw hK
  exact ⟨pe_disN hu hk.pe hv.pe, wx_disN hk.se hv.se⟩
theorem x3_listN {P : Program} {w : World} (K : PySem.W.Frag) (hc : X.calm = true) (hg : Gl X "list") (hm : X.mg "list" = none) (ho : SXW X W a ta fo) (hP : X.prog = P := by rfl) (hw : X.w = w := by rfl) (hK : X.K = K := by rfl)
    (he : starEach [a] X.env = (false, eval a X.env) :: starEach [] X.env := by rfl) (hpl : (backTo pos (starEach [] X.env)).any (·.1) = false := by rfl) : SXW X W (.Call (.Name "list" p) [a] [] pos) (tCB (rListN P w K) (tCons ta tNil)) (wListN P w fo) := by
  subst hP hw hK
  exact ⟨pe_callTy (cr_listN hc) hg hm mb_list (pa_cons ho.pe pa_nil he) (by decide) (by decide) he hpl, wx_listN ho.se⟩
theorem x3_lenN {P : Program} {w : World} (K : PySem.W.Frag) (hg : Gl X "len") (hm : X.mg "len" = none) (ho : SXW X W a ta fo) (hP : X.prog = P := by rfl) (hw : X.w = w := by rfl) (hK : X.K = K := by rfl)
    (he : starEach [a] X.env = (false, eval a X.env) :: starEach [] X.env := by rfl) (hpl : (backTo pos (starEach [] X.env)).any (·.1) = false := by rfl) : SXW X W (.Call (.Name "len" p) [a] [] pos) (tCB (rLenN P w K) (tCons ta tNil)) (wLenN P w fo) := by
  subst hP hw hK
  exact ⟨pe_callB cr_lenN hg hm PySem.boot_len (pa_cons ho.pe pa_nil he) (by decide) (by decide) he hpl, wx_lenN ho.se⟩
end
end Mi
namespace Mi
open PySem PySem.Spec PyProof.Rows L2
def TxP (p : PyData) : Prop := p.showable = true ∧ p.hasDict = false ∧ p.depth ≤ 50 ∧ p.shown.length ≤ sizeLine
/-- f tells the repr of its argument and keeps the heap -/
def TxF (P : Program) (w : World) (K : PySem.W.Frag) (mg : Str → Option Value) (base : Heap) (f : Addr) : Prop :=
  ∀ (A : Around) (outer : List Env) (s : Shared) (H : Hp) (a : Addr) (d : PyData) (as : List Addr), A.guards = some [] → Room 8 A → Env0 P w K mg base A outer s H → Reads s.heap (.ref a) d as → TxP d →
    wpAny (model P w) A (call (.ref f) [.ref a]) (PySem.W.KeyPure (.str d.shown) s) (fun _ _ => False) s
def txLe (x y : V × PyData) : Bool := decide (x.2.shown.cps.toList ≤ y.2.shown.cps.toList)
def rSortTx (K : PySem.W.Frag) (f : Addr) : List V → List V → Hp → VK → Prop := fun vs zs H Q => ∃ (a : Addr) (ys : List V) (ps : List PyData), vs = [V.ref a] ∧ zs = [V.ref f] ∧ H a = some (.lst ys) ∧ (∀ y ∈ ys, ∃ b, y = V.ref b) ∧ DpAll K H ys ps ∧ (∀ p ∈ ps, TxP p) ∧
  ∀ l, H l = none → Q (.ref l) (upd H l (.lst (((ys.zip ps).mergeSort txLe).map (·.1))))
theorem dpAll_len {K : PySem.W.Frag} {H : Hp} : ∀ {ys : List V} {ps : List PyData}, DpAll K H ys ps → ys.length = ps.length
  | [], [], _ => rfl
  | _, _, .cons _ h => by rw [List.length_cons, List.length_cons, dpAll_len h]
theorem vals_of_each {h : Heap} : ∀ {out : List Value} {bs : List (V × PyData)}, PySem.W.EachIs (fun v x => RelV x.1 v ∧ ∃ as, Reads h v x.2 as) out bs → Vals (bs.map (·.1)) out
  | _, _, .nil => .nil
  | _, _, .cons h t => .cons h.1 (vals_of_each t)
section
variable {X : Cx}
theorem each_dp {pins : List (Addr × Obj)} {σ : L2.St} {H : Hp} {s : Shared} (I : Inv X pins σ H s) : ∀ {ys : List V} {ps : List PyData} {vs : List Value}, DpAll X.K H ys ps → Vals ys vs → PySem.W.EachIs (fun v x => RelV x.1 v ∧ ∃ as, Reads s.heap v x.2 as) vs (ys.zip ps)
  | _, _, _, .nil, .nil => .nil
  | _, _, _, .cons h t, .cons r rs => .cons ⟨r, Dp.reads I _ _ _ h r⟩ (each_dp I t rs)
theorem cr_sortTx {f : Addr} (hf : TxF X.prog X.w X.K X.mg X.base f) (hgd : X.A.guards = some []) (hr : Room 10 X.A) : CallRK X (.builtin "sorted") [Str.ofString "key"] (rSortTx X.K f) := by
  intro pins s σ H vs zs us ws Q I r rz h
  obtain ⟨a, ys, ps, rfl, rfl, ha, hrf, hp, ht, q⟩ := h
  obtain ⟨u, rfl, ru⟩ := vals1 r
  obtain rfl : u = Value.ref a := ru
  obtain ⟨w1, rfl, rw1⟩ := vals1 rz
  obtain rfl : w1 = Value.ref f := rw1
  obtain ⟨its, rv, hl, hz⟩ := I.list (.of ha)
  have hlen := dpAll_len hp
  refine PySem.W.sorted_key_data (b := false) (β := V × PyData) (R := fun v x => RelV x.1 v ∧ ∃ as, Reads s.heap v x.2 as) (bs := ys.zip ps) (fun x => .str x.2.shown) hl.isList (each_dp I hp rv) (PySem.W.AllAlike.of fun _ _ => by simp [PySem.W.alike]) (PySem.W.Sortable.others fun _ => ⟨by simp, by simp⟩) (by rw [List.length_zip, ← hlen, Nat.min_self]; exact hz)
    (fun x _ => by have := hr.un; show X.A.units + 2 + 0 < _; omega) (PyProof.Rows.ksk_s1 _ _) (fun _ => PyProof.Rows.ksk_l1 _ _) (fun _ => PyProof.Rows.ksk_t1 _ _) (fun v x hR hx h tk kp => ?_) fun out c h' tk kp _ hD ho eo => ?_
  · obtain ⟨rvx, as, rd⟩ := hR
    have hx2 := List.of_mem_zip (show (x.1, x.2) ∈ ys.zip ps from hx)
    obtain ⟨b, hb⟩ := hrf _ hx2.1
    rw [hb] at rvx
    obtain rfl : v = Value.ref b := rvx
    have e0 := (I.kept (t' := tk) kp).env0
    exact hf X.A.in1.in1 X.stack _ H b x.2 as hgd (hr.in1.in1) ⟨e0.frames, e0.mod, e0.bs, e0.bsz, e0.funs, e0.frf, e0.hok, e0.bare⟩ (PyProof.Rows.Reads.keeps kp rd) (ht _ hx2.2)
  · have le : PySem.W.dataLe false (fun x : V × PyData => .str x.2.shown) = txLe := by
      rw [PySem.W.dataLe_str (β := V × PyData) (fun x => x.2.shown)]
      rfl
    rw [le] at eo
    have hv := vals_of_each eo
    refine ⟨.ref _, upd H (s.heap.objs.size + 1) (.lst (((ys.zip ps).mergeSort txLe).map (·.1))), I.laid (t' := tk) kp (Nat.le_succ _) ⟨?_, out, c, hv, hD⟩, rfl, q _ (I.hok.fresh (Nat.le_succ _))⟩
    rw [List.length_map, List.length_mergeSort, List.length_zip, ← hlen, Nat.min_self]
    exact hz
end
end Mi
namespace Mi
open PySem PySem.Spec PyProof.Rows L2
def txt (d : D) : List Nat := match d.py? with
  | some p => p.shown.cps.toList
  | none => []
def sortTx (ds : List D) : List D := ds.mergeSort fun x y => decide (txt x ≤ txt y)
def TxOk (d : D) : Prop := tupD d = true ∧ ∃ p, d.py? = some p ∧ TxP p
def wSortTx (fa : WX) : WX := fun ρ st Pd Px => fa ρ st (fun d st1 => ∃ a ds, d = .adr a ∧ st1 a = some (.l ds) ∧ (∀ d ∈ ds, TxOk d) ∧ ∀ l, st1 l = none → Pd (.adr l) (sxU st1 l (.l (sortTx ds)))) Px
structure Trip where
  d : D
  v : V
  p : PyData
section
variable {K : PySem.W.Frag} {F : Hp}
theorem trips : ∀ (ds : List D) (vs : List V), Reps K F ds vs → (∀ d ∈ ds, TxOk d) → ∃ L : List Trip, L.map (·.d) = ds ∧ L.map (·.v) = vs ∧ pys? ds = some (L.map (·.p)) ∧ ∀ t ∈ L, Rep K F t.d t.v ∧ t.d.py? = some t.p ∧ TxP t.p ∧ tupD t.d = true
  | [], vs, h, _ => ⟨[], rfl, by rw [reps_nil.mp h]; rfl, rfl, by simp⟩
  | d :: ds, vs, h, hd => by
    obtain ⟨v, r, rfl, a, b⟩ := reps_cons.mp h
    obtain ⟨L, h1, h2, h3, h4⟩ := trips ds r b fun x hx => hd x (by simp [hx])
    obtain ⟨ht, p, hp, hx⟩ := hd d (by simp)
    refine ⟨⟨d, v, p⟩ :: L, by simp [h1], by simp [h2], ?_, fun t ht' => ?_⟩
    · simp only [pys?, hp, h3, Option.bind_some, List.map_cons]
    · rcases List.mem_cons.mp ht' with rfl | ht'
      · exact ⟨a, hp, hx, ht⟩
      · exact h4 t ht'
theorem reps_of_trips : ∀ L : List Trip, (∀ t ∈ L, Rep K F t.d t.v) → Reps K F (L.map (·.d)) (L.map (·.v))
  | [], _ => reps_nil.mpr rfl
  | t :: L, h => reps_cons.mpr ⟨_, _, rfl, h t (by simp), reps_of_trips L fun x hx => h x (by simp [hx])⟩
theorem zip_trips (L : List Trip) : (L.map (·.v)).zip (L.map (·.p)) = L.map fun t => (t.v, t.p) := by
  rw [List.zip_map', ]
theorem sorted_trips (L : List Trip) (h : ∀ t ∈ L, Rep K F t.d t.v ∧ t.d.py? = some t.p ∧ TxP t.p ∧ tupD t.d = true) : Reps K F (sortTx (L.map (·.d))) ((((L.map (·.v)).zip (L.map (·.p))).mergeSort txLe).map (·.1)) := by
  have e1 : ((L.map (·.v)).zip (L.map (·.p))).mergeSort txLe = (L.mergeSort fun t u => decide (t.p.shown.cps.toList ≤ u.p.shown.cps.toList)).map fun t => (t.v, t.p) := by
    rw [zip_trips]
    exact (List.map_mergeSort (f := fun t : Trip => (t.v, t.p)) (s := txLe) (r := fun t u : Trip => decide (t.p.shown.cps.toList ≤ u.p.shown.cps.toList)) fun a _ b _ => rfl).symm
  have e2 : sortTx (L.map (·.d)) = (L.mergeSort fun t u => decide (t.p.shown.cps.toList ≤ u.p.shown.cps.toList)).map (·.d) := by
    unfold sortTx
    refine (List.map_mergeSort fun a ha b hb => ?_).symm
    unfold txt
    rw [(h a ha).2.1, (h b hb).2.1]
  rw [e1, e2, List.map_map]
  exact reps_of_trips _ fun t ht => (h t (List.mem_mergeSort.mp ht)).1
end
section
variable {K : PySem.W.Frag} {mg : Str → Option Value} {X : XK} {ta : TE} {fa : WX} {f : Addr}
theorem wx_sortTx (ha : SemXW K mg X ta fa) : SemXW K mg X (tCKw (rSortTx K f) (tCons ta tNil) (tCons (tC (.ref f)) tNil)) (wSortTx fa) := fun F0 H0 F H σ ρ st r Pd Px hf hx Q q => by
  refine ha F0 H0 F H σ ρ st r _ Px hf hx _ fun d st1 x F1 H1 hf r1 e1 ro => ?_
  obtain ⟨a, ds, rfl, h1, h2, h3⟩ := hf
  rw [rep_adr] at ro
  subst ro
  obtain ⟨⟨u, k1, vs, rfl, k2⟩, _⟩ := r1.cs.at_ a _ h1
  obtain ⟨L, l1, l2, l3, l4⟩ := trips ds vs k2 h2
  refine ⟨a, vs, L.map (·.p), rfl, rfl, k1, fun y hy => ?_, reps_py ds _ vs (k2.m r1.fh) l3, fun p hp => ?_, fun l hl => ?_⟩
  · rw [← l2] at hy
    obtain ⟨t, ht, rfl⟩ := List.mem_map.mp hy
    exact rep_tupD (l4 t ht).2.2.2 (l4 t ht).1
  · obtain ⟨t, ht, rfl⟩ := List.mem_map.mp hp
    exact (l4 t ht).2.2.1
  · have hs := sorted_trips L l4
    rw [l1, l2] at hs
    obtain ⟨hs0, r2⟩ := r1.new (u := .lst (((vs.zip (L.map (·.p))).mergeSort txLe).map (·.1))) (c := .l (sortTx ds)) (.off r1.fh hl) hl (r1.fh.free hl) upd_same ⟨_, rfl, hs⟩
    exact q _ _ _ _ _ (h3 l hs0) r2 e1 (rep_adr.mpr rfl)
end
section
variable {X : Cx} {W : XK} {a : Expr} {ta : TE} {fa : WX} {p p2 pos kp : Pos} {x : Str} {f : Addr}
theorem x3_sortTx {P : Program} {w : World} {mg : Str → Option Value} {base : Heap} (K : PySem.W.Frag) (hf : TxF P w K mg base f) (hgd : X.A.guards = some []) (hr : Room 10 X.A) (hg : Gl X "sorted") (hm : X.mg "sorted" = none) (hgx : Gl X x) (hmx : X.mg x = some (.ref f)) (ha : SXW X W a ta fa)
    (hP : X.prog = P := by rfl) (hw : X.w = w := by rfl) (hK : X.K = K := by rfl) (hmg : X.mg = mg := by rfl) (hb : X.base = base := by rfl) (hxd : (x == ("__debug__" : Str)) = false := by decide)
    (he0 : starEach [a] X.env = (false, eval a X.env) :: starEach [] X.env := by rfl)
    (he : backTo pos (starEach [a] X.env) = (false, eval a X.env) :: backTo pos (starEach [] X.env) := by rfl) (hpl : (backTo pos (starEach [a] X.env)).any (·.1) = false := by rfl)
    (hall : (backToKw pos (keywordEach [⟨some "key", .Name x p2, kp⟩] X.env)).all (·.1.isSome) = true := by rfl) (hnone : (backToKw pos (keywordEach [⟨some "key", .Name x p2, kp⟩] X.env)).any (·.1.isNone) = false := by rfl) (hks : (backToKw pos (keywordEach [⟨some "key", .Name x p2, kp⟩] X.env)).filterMap (·.1) = [Str.ofString "key"] := by rfl) :
    SXW X W (.Call (.Name "sorted" p) [a] [⟨some "key", .Name x p2, kp⟩] pos) (tCKw (rSortTx K f) (tCons ta tNil) (tCons (tC (.ref f)) tNil)) (wSortTx fa) := by
  subst hP hw hK hmg hb
  refine ⟨pe_callBK (cr_sortTx hf hgd hr) hg hm mb_sorted (pa_cons ha.pe pa_nil he0) (pk_cons (pe_glob hgx hmx rfl hxd) pk_nil) (by decide) (by decide) he hpl hall hnone hks, wx_sortTx ha.se⟩
end
section
variable {X : Cx} {W : XK} {a b : Expr} {ta tb : TE} {fo fi' : WX} {pos : Pos}
theorem t3_inN {P : Program} {w : World} (K : PySem.W.Frag) (hu : X.A.units + 64 < cLine) (ho : SXW X W a ta fo) (hi : SXW X W b tb fi') (hm : behindInMarks .In b = false := by with_unfolding_all rfl) (hP : X.prog = P := by rfl) (hw : X.w = w := by rfl) (hK : X.K = K := by rfl) : STW X W (.Compare a [.In] [b] pos) (tTest (tOp (rInN P w K false) ta tb)) (wtOf (wInN P w false fo fi')) := by
  subst hP hw hK
  exact ⟨pt_cmpR (op_inN hu) ho.pe hi.pe hm, wt_of (wx_inN ho.se hi.se)⟩
theorem t3_ninN {P : Program} {w : World} (K : PySem.W.Frag) (hu : X.A.units + 64 < cLine) (ho : SXW X W a ta fo) (hi : SXW X W b tb fi') (hm : behindInMarks .NotIn b = false := by with_unfolding_all rfl) (hP : X.prog = P := by rfl) (hw : X.w = w := by rfl) (hK : X.K = K := by rfl) : STW X W (.Compare a [.NotIn] [b] pos) (tTest (tOp (rInN P w K true) ta tb)) (wtOf (wInN P w true fo fi')) := by
  subst hP hw hK
  exact ⟨pt_cmpR (op_ninN hu) ho.pe hi.pe hm, wt_of (wx_inN ho.se hi.se)⟩
end
end Mi
namespace KS
open PySem PySem.Spec PyProof.Rows L2 Mi
theorem _root_.Mi.mb_repr : bootBuiltins "repr" = some (.builtin "repr") := by decide +kernel
inductive Kd where
  | zero | sec (known : List Int) | pub (n : Int)
deriving DecidableEq
def seqT? : D → Option (List D)
  | .tup xs => some xs
  | .kt xs => some xs
  | _ => none
def ints? : List D → Option (List Int)
  | [] => some []
  | .int i :: ds => (ints? ds).map (i :: ·)
  | _ :: _ => none
def kd? (d : D) : Option Kd := (seqT? d).bind fun xs => match xs with
  | [.str s] => if s = "zero" then some .zero else none
  | [.str s, .int n] => if s = "public" then some (.pub n) else none
  | [.str s, x] => if s = "secret" then (seqT? x).bind fun ys => (ints? ys).map .sec else none
  | _ => none
def slot? (d : D) : Option (Kd × Kd × D) := match d with
  | .tup [p, o, a] => (kd? p).bind fun p => (kd? o).map fun o => (p, o, a)
  | _ => none
def numsA (acc : List Int) : List Kd → List Int
  | [] => acc
  | .pub n :: ks => numsA (if n ∈ acc then acc else acc ++ [n]) ks
  | _ :: ks => numsA acc ks
def numsK (ks : List Kd) : List Int := numsA [] ks
def m_public_numbers (ds : List D) : Option D := match ds with
  | [r, s] => r.seq?.bind fun rs => s.seq?.bind fun ss => (rs.mapM kd?).bind fun ks => (ss.mapM slot?).bind fun qs =>
    if rs.length + 2 * ss.length < 50000 then some (.lst ((numsK (ks ++ qs.flatMap fun q => [q.1, q.2.1])).map .int)) else none
  | _ => none
end KS
namespace KQ
open PySem PySem.Spec PyProof.Rows L2 Mi KP KS
def tab_ASKING : Tab := [("load", some (.int 3)), ("mask", some (.int 3)), ("test", some (.int 1)), ("ask", none), ("mix", none), ("put", none), ("get", none), ("fence", none), ("jump", none), ("end", none)]
noncomputable def g_is_window : FS := sRet (fOrV (e2 dIs (eVar 0) (eC .non)) (eA m_is_natural (aCons (eVar 0) (aNil))))
noncomputable def m_is_window : List D → Option D := defM 1 1 g_is_window
noncomputable def gw_public_numbers : WS := wsSeq (wsAsg 2 (wNewH (eNA (gN1 dList) (aCons (eVar 0) (aNil)))))
  (wsSeq (wsFor (fSeq (eVar 1)) (gT (gsC (gN 5) (gsC (gN 6) (gsC (gN 7) (gsN))))) (wsExtA (wHid (eVar 2)) (wHid (eO (fLst (aCons (eVar 5) (aCons (eVar 6) (aNil))))))))
  (wsSeq (wsAsg 3 (wNewH (fLst (aNil))))
  (wsSeq (wsForC (wHid (eVar 2)) (gN 4) (wsIf (wtV (fAnd (tB (e2 dEq (e2 dIx (eVar 4) (eC (.int 0))) (eC (.str "public")))) (tB (e2 dNin (e2 dIx (eVar 4) (eC (.int 1))) (eVar 3))))) (wsApp (wHid (eVar 3)) (wHid (e2 dIx (eVar 4) (eC (.int 1))))) (wsNext)))
  (wsRet (wGive (wHid (eVar 3)))))))
noncomputable def wf_public_numbers : WF := defW 8 2 (gw_public_numbers)
noncomputable def g_renamed : FS := sRet (fIf (tB (e2 dEq (e2 dIx (eVar 0) (eC (.int 0))) (eC (.str "public")))) (fTup (aCons (eC (.str "public")) (aCons (e2 dIdxL (eVar 1) (e2 dIx (eVar 0) (eC (.int 1)))) (aNil)))) (eVar 0))
noncomputable def m_renamed : List D → Option D := defM 2 2 g_renamed
noncomputable def g_numbered : FS := sSeq (sAsg 5 (eA m_public_numbers (aCons (eVar 1) (aCons (eVar 2) (aNil)))))
  (sRet (fTup (aCons (eVar 0) (aCons (eA (g1 dTuple) (aCons (eO (fLc (fSeq (eVar 1)) (gN 6) (fYes) (eA m_renamed (aCons (eVar 6) (aCons (eVar 5) (aNil)))) ([("kind", 6)].map (·.2)))) (aNil))) (aCons (eA (g1 dTuple) (aCons (eO (fLc (fSeq (eVar 2)) (gT (gsC (gN 8) (gsC (gN 9) (gsC (gN 10) gsN)))) (fYes) (fTup (aCons (eA m_renamed (aCons (eVar 8) (aCons (eVar 5) (aNil)))) (aCons (eA m_renamed (aCons (eVar 9) (aCons (eVar 5) (aNil)))) (aCons (eVar 10) (aNil))))) ([("present", 8), ("old", 9), ("age", 10)].map (·.2)))) (aNil))) (aCons (eA (g1 dTuple) (aCons (eO (fLc (fSeq (eVar 5)) (gN 7) (fYes) (e2 dIx (eVar 3) (eVar 7)) ([("number", 7)].map (·.2)))) (aNil))) (aCons (eVar 4) (aNil))))))))
noncomputable def m_numbered : List D → Option D := defM 11 5 g_numbered
noncomputable def g_first_state_states : FS := sSeq (sAsg 1 (e2 dIx (eVar 0) (eC (.str "secret"))))
  (sSeq (sAsg 2 (eA (g1 dTuple) (aCons (eO (fLc (fRng1 (aCons (eC (.int 4)) (aNil))) (gN 3) (fYes) (fIf (tB (e2 dIn (eVar 3) (eVar 1))) (eC (.kt [.str "secret", .kt []])) (eC (.kt [.str "zero"]))) ([("r", 3)].map (·.2)))) (aNil))))
  (sRet (fTup (aCons (eC (.int 0)) (aCons (eVar 2) (aCons (e2 dMul (fTup (aCons (fTup (aCons (eC (.kt [.str "zero"])) (aCons (eC (.kt [.str "zero"])) (aCons (eC .non) (aNil))))) (aNil))) (eC (.int 2))) (aCons (fTup (aNil)) (aCons (eC .non) (aNil)))))))))
noncomputable def m_first_state_states : List D → Option D := defM 4 1 g_first_state_states
noncomputable def g_kind_of : FS := sRet (eA m_item_at (aCons (e2 dIx (eVar 0) (eC (.int 1))) (aCons (eVar 1) (aCons (eC (.kt [.str "zero"])) (aNil)))))
noncomputable def m_kind_of : List D → Option D := defM 2 2 g_kind_of
noncomputable def g_made_row : FS := sSeq (sAsg 3 (eA m_row_at (aCons (eVar 0) (aCons (e2 dIx (eVar 1) (eC (.int 0))) (aNil)))))
  (sSeq (sAsg 4 (e2 dIx (eVar 1) (eC (.int 4))))
  (sSeq (sIf (fOr (tB (e2 dIs (eVar 3) (eC .non))) (tB (e2 dEq (e2 dIx (eVar 3) (eC (.int 0))) (eC (.str "end"))))) (sRet (eC .non)) (sNext))
  (sSeq (sIf (tB (e2 dIs (eVar 4) (eC .non))) (sRet (eVar 3)) (sNext))
  (sSeq (sIf (fOr (tB (e2 dEq (e2 dIx (eVar 3) (eC (.int 0))) (eC (.str "fence")))) (fAnd (tB (e2 dIsn (eVar 2) (eC .non))) (tB (e2 dGe (eVar 4) (eVar 2))))) (sRet (eC .non)) (sNext))
  (sRet (eVar 3))))))
noncomputable def m_made_row : List D → Option D := defM 5 3 g_made_row
noncomputable def g_shows_secret : FS := sSeq (sIf (tB (e2 dEq (e2 dIx (eVar 0) (eC (.int 0))) (eC (.str "load")))) (sRet (e2 dEq (e2 dIx (eA m_kind_of (aCons (eVar 1) (aCons (e2 dIx (eVar 0) (eC (.int 3))) (aNil)))) (eC (.int 0))) (eC (.str "secret")))) (sNext))
  (sSeq (sIf (tB (e2 dNeS (e2 dIx (eVar 0) (eC (.int 0))) (eC (.str "test")))) (sRet (eC (.bl false))) (sNext))
  (sSeq (sAsg 2 (eA m_kind_of (aCons (eVar 1) (aCons (e2 dIx (eVar 0) (eC (.int 1))) (aNil)))))
  (sRet (fAndV (e2 dEq (e2 dIx (eVar 2) (eC (.int 0))) (eC (.str "secret"))) (e2 dNin (e2 dIx (eVar 0) (eC (.int 2))) (e2 dIx (eVar 2) (eC (.int 1))))))))
noncomputable def m_shows_secret : List D → Option D := defM 3 2 g_shows_secret
noncomputable def g_is_leak : FS := sSeq (sIf (fNot (tB (eA m_is_window (aCons (eVar 2) (aNil))))) (sNever) (sNext))
  (sSeq (sAsg 3 (eA m_made_row (aCons (eVar 0) (aCons (eVar 1) (aCons (eVar 2) (aNil))))))
  (sRet (fAndV (e2 dIsn (eVar 3) (eC .non)) (eA m_shows_secret (aCons (eVar 3) (aCons (eVar 1) (aNil)))))))
noncomputable def m_is_leak : List D → Option D := defM 4 3 g_is_leak
noncomputable def g_with_fact : FS := sRet (eA m_changed (aCons (eVar 0) (aCons (eVar 1) (aCons (eA m_changed (aCons (e2 dIx (eVar 0) (eVar 1)) (aCons (eVar 2) (aCons (eVar 3) (aNil))))) (aNil)))))
noncomputable def m_with_fact : List D → Option D := defM 4 4 g_with_fact
noncomputable def g_cases : FS := sSeq (sAsg 2 (e2 dIx (eVar 1) (eC (.int 3))))
  (sSeq (sIf (tB (e1 (kNin tab_ASKING) (e2 dIx (eVar 0) (eC (.int 0))))) (sRet (eO (fLst (aCons (fTup (aCons (eC (.bl true)) (aCons (eC .non) (aCons (eVar 2) (aNil))))) (aNil))))) (sNext))
  (sSeq (sAsg 3 (e2 dIx (eVar 0) (eC (.int 2))))
  (sSeq (sAsg 4 (eA m_kind_of (aCons (eVar 1) (aCons (e2 dIx (eVar 0) (e1 (kIx tab_ASKING) (e2 dIx (eVar 0) (eC (.int 0))))) (aNil)))))
  (sSeq (sIf (tB (e2 dNeS (e2 dIx (eVar 4) (eC (.int 0))) (eC (.str "public")))) (sRet (eO (fLst (aCons (fTup (aCons (fOrV (e2 dEq (eVar 4) (eC (.kt [.str "zero"]))) (e2 dIn (eVar 3) (e2 dIx (eVar 4) (eC (.int 1))))) (aCons (eC .non) (aCons (eVar 2) (aNil))))) (aNil))))) (sNext))
  (sSeq (sAsg 5 (e2 dIx (eVar 4) (eC (.int 1))))
  (sSeq (sAsg 6 (eA m_item_at (aCons (e2 dIx (eVar 2) (eVar 5)) (aCons (eVar 3) (aCons (eC .non) (aNil))))))
  (sSeq (sIf (tB (e2 dIsn (eVar 6) (eC .non))) (sRet (eO (fLst (aCons (fTup (aCons (eVar 6) (aCons (eC .non) (aCons (eVar 2) (aNil))))) (aNil))))) (sNext))
  (sRet (eO (fLc (fSeq (fTup (aCons (eC (.bl true)) (aCons (eC (.bl false)) (aNil))))) (gN 7) (fYes) (fTup (aCons (eVar 7) (aCons (fTup (aCons (eVar 3) (aCons (eVar 7) (aNil)))) (aCons (eA m_with_fact (aCons (eVar 2) (aCons (eVar 5) (aCons (eVar 3) (aCons (eVar 7) (aNil)))))) (aNil))))) ([("truth", 7)].map (·.2))))))))))))
noncomputable def m_cases : List D → Option D := defM 8 2 g_cases
noncomputable def g_masked : FS := sSeq (sIf (tB (e2 dEq (e2 dIx (eVar 0) (eC (.int 0))) (eC (.str "public")))) (sRet (fIf (tB (eVar 2)) (eVar 0) (eC (.kt [.str "zero"])))) (sNext))
  (sSeq (sIf (fOr (tB (e2 dEq (e2 dIx (eVar 0) (eC (.int 0))) (eC (.str "zero")))) (tB (e2 dIn (eVar 1) (e2 dIx (eVar 0) (eC (.int 1)))))) (sRet (eVar 0)) (sNext))
  (sRet (fTup (aCons (eC (.str "secret")) (aCons (eA (g1 dTuple) (aCons (eO (eNA (gN1 dSortedI) (aCons (eO (fLst (aStar (e2 dIx (eVar 0) (eC (.int 1))) (aCons (eVar 1) (aNil))))) (aNil)))) (aNil))) (aNil))))))
noncomputable def m_masked : List D → Option D := defM 3 3 g_masked
noncomputable def g_slot_of : FS := sRet (eA m_item_at (aCons (e2 dIx (eVar 0) (eC (.int 2))) (aCons (eVar 1) (aCons (fTup (aCons (eC (.kt [.str "zero"])) (aCons (eC (.kt [.str "zero"])) (aCons (eC .non) (aNil))))) (aNil)))))
noncomputable def m_slot_of : List D → Option D := defM 2 2 g_slot_of
noncomputable def g_given_states : FS := sSeq (sAsg 3 (fTup (aCons (eC (.str "public")) (aCons (eA (g1 dLen) (aCons (e2 dIx (eVar 1) (eC (.int 3))) (aNil))) (aNil)))))
  (sSeq (sAsg 4 (e2 dIx (eVar 0) (eC (.int 0))))
  (sSeq (sIf (tB (e2 dEq (eVar 4) (eC (.str "mix")))) (sRet (fIf (tB (e2 dIn (eC (.str "secret")) (fTup (aCons (e2 dIx (eA m_kind_of (aCons (eVar 1) (aCons (e2 dIx (eVar 0) (eC (.int 2))) (aNil)))) (eC (.int 0))) (aCons (e2 dIx (eA m_kind_of (aCons (eVar 1) (aCons (e2 dIx (eVar 0) (eC (.int 3))) (aNil)))) (eC (.int 0))) (aNil)))))) (eC (.kt [.str "secret", .kt []])) (eVar 3))) (sNext))
  (sSeq (sIf (tB (e2 dEq (eVar 4) (eC (.str "load")))) (sRet (fIf (tB (eVar 2)) (eVar 3) (eC (.kt [.str "secret", .kt []])))) (sNext))
  (sSeq (sIf (tB (e2 dEq (eVar 4) (eC (.str "mask")))) (sRet (eA m_masked (aCons (eA m_kind_of (aCons (eVar 1) (aCons (e2 dIx (eVar 0) (eC (.int 3))) (aNil)))) (aCons (e2 dIx (eVar 0) (eC (.int 2))) (aCons (eVar 2) (aNil)))))) (sNext))
  (sSeq (sIf (tB (e2 dEq (eVar 4) (eC (.str "get")))) (sRet (e2 dIx (eA m_slot_of (aCons (eVar 1) (aCons (e2 dIx (eVar 0) (eC (.int 2))) (aNil)))) (eC (.int 0)))) (sNext))
  (sRet (eVar 3)))))))
noncomputable def m_given_states : List D → Option D := defM 5 3 g_given_states
noncomputable def g_bounded : FS := sSeq (sIf (fOr (tB (e2 dIs (eVar 2) (eC .non))) (fAnd (tB (e2 dIsn (eVar 3) (eC .non))) (tB (e2 dGe (eVar 2) (eVar 3))))) (sRet (fTup (aCons (eVar 0) (aCons (eC (.kt [.str "zero"])) (aCons (eC .non) (aNil)))))) (sNext))
  (sRet (fTup (aCons (eVar 0) (aCons (eVar 1) (aCons (fIf (tB (e2 dIs (eVar 3) (eC .non))) (eC (.int 0)) (eVar 2)) (aNil))))))
noncomputable def m_bounded : List D → Option D := defM 4 4 g_bounded
noncomputable def g_next_slot : FS := sSeq (sAsgT (gT (gsC (gN 4) (gsC (gN 5) (gsC (gN 6) (gsN))))) (e2 dIx (e2 dIx (eVar 1) (eC (.int 2))) (eVar 3)))
  (sSeq (sIf (tB (e2 dEq (e2 dIx (eVar 0) (eC (.int 0))) (eC (.str "fence")))) (sRet (fTup (aCons (eVar 4) (aCons (eC (.kt [.str "zero"])) (aCons (eC .non) (aNil)))))) (sNext))
  (sSeq (sIf (fAnd (tB (e2 dEq (e2 dIx (eVar 0) (eC (.int 0))) (eC (.str "put")))) (tB (e2 dEq (e2 dIx (eVar 0) (eC (.int 1))) (eVar 3)))) (sRet (eA m_bounded (aCons (eA m_kind_of (aCons (eVar 1) (aCons (e2 dIx (eVar 0) (eC (.int 2))) (aNil)))) (aCons (eVar 4) (aCons (eC (.int 0)) (aCons (eVar 2) (aNil))))))) (sNext))
  (sRet (eA m_bounded (aCons (eVar 4) (aCons (eVar 5) (aCons (fIf (tB (e2 dIs (eVar 6) (eC .non))) (eC .non) (e2 dAdd (eVar 6) (eC (.int 1)))) (aCons (eVar 2) (aNil)))))))))
noncomputable def m_next_slot : List D → Option D := defM 7 4 g_next_slot
noncomputable def g_deeper : FS := sSeq (sIf (tB (e2 dIs (eVar 0) (eC .non))) (sRet (eC .non)) (sNext))
  (sRet (fIf (tB (e2 dIs (eVar 1) (eC .non))) (eC (.int 0)) (e2 dAdd (eVar 0) (eC (.int 1)))))
noncomputable def m_deeper : List D → Option D := defM 2 2 g_deeper
noncomputable def g_opened : FS := sRet (fIf (tB (e2 dIs (eVar 0) (eC .non))) (eC (.int 0)) (eA m_deeper (aCons (eVar 0) (aCons (eVar 1) (aNil)))))
noncomputable def m_opened : List D → Option D := defM 2 2 g_opened
noncomputable def g_real_step : FS := sSeq (sAsg 3 (eA m_next_place (aCons (eVar 0) (aCons (e2 dIx (eVar 1) (eC (.int 0))) (aCons (fIf (tB (eVar 2)) (eC (.str "in")) (eC (.str "out"))) (aNil))))))
  (sSeq (sIf (tB (e2 dNin (e2 dIx (eVar 0) (eC (.int 0))) (eC (.kt [.str "ask", .str "mix", .str "load", .str "mask", .str "get"])))) (sRet (fTup (aCons (eVar 3) (aCons (e2 dIx (eVar 1) (eC (.int 1))) (aNil))))) (sNext))
  (sRet (fTup (aCons (eVar 3) (aCons (eA m_changed (aCons (e2 dIx (eVar 1) (eC (.int 1))) (aCons (e2 dIx (eVar 0) (eC (.int 1))) (aCons (eA m_given_states (aCons (eVar 0) (aCons (eVar 1) (aCons (eVar 2) (aNil))))) (aNil))))) (aNil))))))
noncomputable def m_real_step : List D → Option D := defM 4 3 g_real_step
noncomputable def g_wrong_guess : FS := sSeq (sPar 4 5 (aCons (e2 dIx (eVar 1) (eC (.int 0))) (aCons (e2 dIx (eVar 1) (eC (.int 1))) (aNil))))
  (sSeq (sIf (fAnd (tB (e2 dEq (e2 dIx (eVar 0) (eC (.int 0))) (eC (.str "test")))) (tB (e2 dNeS (eVar 2) (eC (.int 0))))) (sSeq (sAsg 6 (fIf (tB (eVar 3)) (eC (.str "out")) (eC (.str "in"))))
  (sRet (fTup (aCons (fTup (aCons (eC (.str "guess")) (aCons (eVar 6) (aNil)))) (aCons (eA m_next_place (aCons (eVar 0) (aCons (eVar 4) (aCons (eVar 6) (aNil))))) (aCons (eVar 5) (aNil))))))) (sNext))
  (sSeq (sIf (tB (e2 dNeS (e2 dIx (eVar 0) (eC (.int 0))) (eC (.str "get")))) (sRet (eC .non)) (sNext))
  (sSeq (sAsgT (gT (gsC (gN 7) (gsC (gN 8) (gsC (gN 9) (gsN))))) (eA m_slot_of (aCons (eVar 1) (aCons (e2 dIx (eVar 0) (eC (.int 2))) (aNil)))))
  (sSeq (sIf (fOr (tB (e2 dIs (eVar 9) (eC .non))) (fAnd (tB (e2 dIsn (eVar 2) (eC .non))) (tB (e2 dGe (eVar 9) (eVar 2))))) (sRet (eC .non)) (sNext))
  (sRet (fTup (aCons (fTup (aCons (eC (.str "stale")) (aNil))) (aCons (eA m_next_place (aCons (eVar 0) (aCons (eVar 4) (aCons (eC .non) (aNil))))) (aCons (eA m_changed (aCons (eVar 5) (aCons (e2 dIx (eVar 0) (eC (.int 1))) (aCons (eVar 8) (aNil))))) (aNil))))))))))
noncomputable def m_wrong_guess : List D → Option D := defM 10 4 g_wrong_guess
noncomputable def g_steps : FS := sSeq (sIf (fNot (tB (eA m_is_window (aCons (eVar 2) (aNil))))) (sNever) (sNext))
  (sSeq (sAsg 3 (eA m_made_row (aCons (eVar 0) (aCons (eVar 1) (aCons (eVar 2) (aNil))))))
  (sSeq (sIf (fOr (tB (e2 dIs (eVar 3) (eC .non))) (tB (eA m_shows_secret (aCons (eVar 3) (aCons (eVar 1) (aNil)))))) (sRet (eO (fLst (aNil)))) (sNext))
  (sSeq (sAsg 4 (eO (fLc (fRng1 (aCons (eC (.int 2)) (aNil))) (gN 12) (fYes) (eA m_next_slot (aCons (eVar 3) (aCons (eVar 1) (aCons (eVar 2) (aCons (eVar 12) (aNil)))))) ([("s", 12)].map (·.2)))))
  (sSeq (sAsg 5 (e2 dIx (eVar 1) (eC (.int 4))))
  (sSeq (sAsgN 6 (fLst (aNil)))
  (sSeq (sFor (fSeq (eA m_cases (aCons (eVar 3) (aCons (eVar 1) (aNil))))) (gT (gsC (gN 7) (gsC (gN 8) (gsC (gN 9) (gsN))))) (sSeq (sAsg 10 (e2 dAdd (eVar 9) (fTup (aCons (e2 dMul (fTup (aCons (eC .non) (aNil))) (eC (.int 2))) (aNil)))))
  (sSeq (sAsgT (gT (gsC (gN 13) (gsC (gN 14) (gsN)))) (eA m_real_step (aCons (eVar 3) (aCons (eVar 1) (aCons (eVar 7) (aNil))))))
  (sSeq (sApp 6 (fTup (aCons (fTup (aCons (fTup (aCons (eC (.str "step")) (aNil))) (aCons (eVar 8) (aNil)))) (aCons (eA m_numbered (aCons (eVar 13) (aCons (eVar 14) (aCons (eVar 4) (aCons (eVar 10) (aCons (eA m_deeper (aCons (eVar 5) (aCons (eVar 2) (aNil)))) (aNil))))))) (aNil)))))
  (sSeq (sAsg 11 (eA m_wrong_guess (aCons (eVar 3) (aCons (eVar 1) (aCons (eVar 2) (aCons (eVar 7) (aNil)))))))
  (sIf (tB (e2 dIsn (eVar 11) (eC .non))) (sSeq (sAsgT (gT (gsC (gN 15) (gsC (gN 13) (gsC (gN 14) (gsN))))) (eVar 11))
  (sApp 6 (fTup (aCons (fTup (aCons (eVar 15) (aCons (eVar 8) (aNil)))) (aCons (eA m_numbered (aCons (eVar 13) (aCons (eVar 14) (aCons (eVar 4) (aCons (eVar 10) (aCons (eA m_opened (aCons (eVar 5) (aCons (eVar 2) (aNil)))) (aNil))))))) (aNil)))))) (sNext)))))))
  (sFrz 6 (sRet (eVar 6)))))))))
noncomputable def m_steps : List D → Option D := defM 16 3 g_steps
noncomputable def g_text_of : FS := sRet (eA (g1 dRepr) (aCons (eVar 0) (aNil)))
noncomputable def m_text_of : List D → Option D := defM 1 1 g_text_of
noncomputable def gw_path_to (P : Program) (w : World) : WS := wsSeq (wsAsg 2 (wNewH (fLst (aNil))))
  (wsSeq (wsAsg 3 (wSubN P w (wHid (eVar 0)) (wHid (eVar 1))))
  (wsSeq (wsWhile (wtV (tB (e2 dIsn (eVar 3) (eC .non)))) (wsSeq (wsAsgT (gT (gsC (gN 1) (gsC (gN 4) (gsN)))) (wHid (eVar 3)))
  (wsSeq (wsApp (wHid (eVar 2)) (wHid (eVar 4)))
  (wsAsg 3 (wSubN P w (wHid (eVar 0)) (wHid (eVar 1)))))))
  (wsRet (wFrzV (eN1 dRev (eVar 2))))))
noncomputable def wf_path_to (P : Program) (w : World) : WF := defW 5 2 (gw_path_to P w)
noncomputable def gw_search (P : Program) (w : World) : WS := wsSeq (wsAsg 2 (wHid (eA m_first_state_states (aCons (eVar 0) (aNil)))))
  (wsSeq (wsIf (wtV (tB (eA m_is_leak (aCons (eVar 0) (aCons (eVar 2) (aCons (eVar 1) (aNil))))))) (wsRet (wHid (fTup (aCons (eC (.str "leak")) (aCons (eO (fLst (aNil))) (aNil)))))) (wsNext))
  (wsSeq (wsAsg 3 (wDisN P w (wHid (eVar 2)) (wHid (eC .non))))
  (wsSeq (wsAsg 4 (wNewH (fLst (aCons (eVar 2) (aNil)))))
  (wsSeq (wsWhile (wtV (tB (e2 dGt (eA (g1 dLen) (aCons (eVar 4) (aNil))) (eC (.int 0))))) (wsSeq (wsAsg 5 (wNewH (fLst (aNil))))
  (wsSeq (wsForC (wHid (eVar 4)) (gN 6) (wsFor (fSeq (eA m_steps (aCons (eVar 0) (aCons (eVar 6) (aCons (eVar 1) (aNil)))))) (gT (gsC (gN 7) (gsC (gN 8) (gsN)))) (wsSeq (wsIf (wtOf (wInN P w false (wHid (eVar 8)) (wHid (eVar 3)))) (wsCont) (wsNext))
  (wsSeq (wsPutN P w (wHid (eVar 3)) (wHid (eVar 8)) (wHid (fTup (aCons (eVar 6) (aCons (eVar 7) (aNil))))))
  (wsSeq (wsIf (wtOf (wOp dGt (wLenN P w (wHid (eVar 3))) (wHid (eC (.int 600))))) (wsRet (wHid (fTup (aCons (eC (.str "many")) (aCons (fTup (aNil)) (aNil)))))) (wsNext))
  (wsSeq (wsIf (wtV (tB (eA m_is_leak (aCons (eVar 0) (aCons (eVar 8) (aCons (eVar 1) (aNil))))))) (wsRet (wTup (waCons (wHid (eC (.str "leak"))) (waCons (wCall0 (wf_path_to P w) (waCons (wHid (eVar 3)) (waCons (wHid (eVar 8)) (waNil)))) (waNil))))) (wsNext))
  (wsApp (wHid (eVar 5)) (wHid (eVar 8)))))))))
  (wsAsg 4 (wHid (eVar 5))))))
  (wsRet (wTup (waCons (wHid (eC (.str "table"))) (waCons (wGive (wSortTx (wListN P w (wHid (eVar 3))))) (waNil)))))))))
noncomputable def wf_search (P : Program) (w : World) : WF := defW 9 2 (gw_search P w)
noncomputable def gw_is_accepted (P : Program) (w : World) : WS := wsSeq (wsAsg 2 (wSub (wCall0 (wf_search P w) (waCons (wHid (eVar 0)) (waCons (wHid (eVar 1)) (waNil)))) (wHid (eC (.int 0)))))
  (wsRet (wHid (fIf (tB (e2 dEq (eVar 2) (eC (.str "many")))) (eC .non) (e2 dEq (eVar 2) (eC (.str "table"))))))
noncomputable def wf_is_accepted (P : Program) (w : World) : WF := defW 3 2 (gw_is_accepted P w)
noncomputable def gw_law_next : WS := wsSeq (wsAsg 2 (wSub (wHid (eVar 0)) (wHid (eC (.int 2)))))
  (wsSeq (wsIf (wtV (tB (e2 dGt (eVar 2) (eC (.int 0))))) (wsSeq (wsPut (wHid (eVar 0)) (wHid (eC (.int 2))) (wHid (e2 dDiv (eVar 2) (eVar 1))))
  (wsRet (wHid (e2 dMod (eA (g1 dInt) (aCons (eVar 2) (aNil))) (eVar 1))))) (wsNext))
  (wsSeq (wsAsg 3 (wHid (eC (.int 0))))
  (wsSeq (wsIf (wtV (tB (e2 dLt (e2 dIx (eVar 0) (eC (.int 1))) (eA (g1 dLen) (aCons (e2 dIx (eVar 0) (eC (.int 0))) (aNil)))))) (wsSeq (wsAsg 3 (wView (eA (g1 dAbs) (aCons (e2 dIx (e2 dIx (eVar 0) (eC (.int 0))) (e2 dIx (eVar 0) (eC (.int 1)))) (aNil)))))
  (wsAugN dAddI (wHid (eVar 0)) (wHid (eC (.int 1))) (wHid (eC (.int 1))))) (wsNext))
  (wsSeq (wsIf (wtV (tB (e2 dGe (eVar 3) (e2 dPow (eC (.int 10)) (eC (.int 18)))))) (wsSeq (wsPut (wHid (eVar 0)) (wHid (eC (.int 2))) (wHid (e2 dDiv (eVar 3) (eVar 1))))
  (wsRet (wHid (e2 dMod (eA (g1 dInt) (aCons (eVar 3) (aNil))) (eVar 1))))) (wsNext))
  (wsSeq (wsPut (wHid (eVar 0)) (wHid (eC (.int 3))) (wView (e2 dMod (eA (g1 dInt) (aCons (e2 dAdd (e2 dAdd (e2 dMul (e2 dIx (eVar 0) (eC (.int 3))) (eC (.int 48271))) (e2 dMul (eVar 3) (eC (.int 69621)))) (eC (.int 11))) (aNil))) (eC (.int 2147483647)))))
  (wsRet (wView (e2 dMod (eA (g1 dInt) (aCons (e2 dDiv (e2 dMod (e2 dMul (e2 dIx (eVar 0) (eC (.int 3))) (eC (.int 16807))) (eC (.int 2147483647))) (eC (.int 7))) (aNil))) (eVar 1)))))))))
noncomputable def wf_law_next : WF := defW 4 2 (gw_law_next)
noncomputable def gw_law_row : WS := wsSeq (wsAsg 3 (wCall0 wf_law_next (waCons (wHid (eVar 0)) (waCons (wHid (e2 dIx (fTup (aCons (eC (.int 11)) (aCons (eC (.int 14)) (aNil)))) (eA (g1 dInt) (aCons (eVar 2) (aNil))))) (waNil)))))
  (wsSeq (wsAsg 4 (wCall0 wf_law_next (waCons (wHid (eVar 0)) (waCons (wSub (wHid (fTup (aCons (eC (.int 3)) (aCons (eC (.int 4)) (aNil))))) (wCall0 wf_law_next (waCons (wHid (eVar 0)) (waCons (wHid (eC (.int 2))) (waNil))))) (waNil)))))
  (wsSeq (wsAsg 5 (wCall0 wf_law_next (waCons (wHid (eVar 0)) (waCons (wHid (eC (.int 4))) (waNil)))))
  (wsSeq (wsAsg 6 (wCall0 wf_law_next (waCons (wHid (eVar 0)) (waCons (wSub (wHid (fTup (aCons (eC (.int 3)) (aCons (eC (.int 4)) (aNil))))) (wCall0 wf_law_next (waCons (wHid (eVar 0)) (waCons (wHid (eC (.int 2))) (waNil))))) (waNil)))))
  (wsSeq (wsAsg 7 (wOp dMul (wCall0 wf_law_next (waCons (wHid (eVar 0)) (waCons (wHid (eC (.int 2))) (waNil)))) (wCall0 wf_law_next (waCons (wHid (eVar 0)) (waCons (wHid (eC (.int 2))) (waNil))))))
  (wsSeq (wsAsg 8 (wCall0 wf_law_next (waCons (wHid (eVar 0)) (waCons (wHid (eVar 1)) (waNil)))))
  (wsSeq (wsIf (wtV (tB (e2 dEq (eVar 3) (eC (.int 0))))) (wsRet (wHid (fTup (aCons (eC (.str "ask")) (aCons (eVar 6) (aNil)))))) (wsNext))
  (wsSeq (wsIf (wtV (tB (e2 dEq (eVar 3) (eC (.int 1))))) (wsRet (wHid (fTup (aCons (eC (.str "test")) (aCons (eVar 4) (aCons (eVar 7) (aCons (eVar 8) (aNil)))))))) (wsNext))
  (wsSeq (wsIf (wtV (tB (e2 dEq (eVar 3) (eC (.int 2))))) (wsRet (wHid (fTup (aCons (eC (.str "mix")) (aCons (eVar 6) (aCons (eVar 4) (aCons (eVar 5) (aNil)))))))) (wsNext))
  (wsSeq (wsIf (wtV (tB (e2 dLt (eVar 3) (eC (.int 5))))) (wsRet (wHid (fTup (aCons (eC (.str "load")) (aCons (eVar 6) (aCons (eVar 7) (aCons (eVar 4) (aNil)))))))) (wsNext))
  (wsSeq (wsIf (wtV (tB (e2 dEq (eVar 3) (eC (.int 5))))) (wsRet (wHid (fTup (aCons (eC (.str "mask")) (aCons (eVar 6) (aCons (eVar 7) (aCons (eVar 4) (aNil)))))))) (wsNext))
  (wsSeq (wsIf (wtV (tB (e2 dLt (eVar 3) (eC (.int 8))))) (wsRet (wHid (fTup (aCons (eC (.str "test")) (aCons (eVar 4) (aCons (eVar 7) (aCons (eVar 8) (aNil)))))))) (wsNext))
  (wsSeq (wsIf (wtV (tB (e2 dEq (eVar 3) (eC (.int 8))))) (wsRet (wTup (waCons (wHid (eC (.str "put"))) (waCons (wOp dMul (wCall0 wf_law_next (waCons (wHid (eVar 0)) (waCons (wHid (eC (.int 2))) (waNil)))) (wCall0 wf_law_next (waCons (wHid (eVar 0)) (waCons (wHid (eC (.int 2))) (waNil))))) (waCons (wHid (eVar 4)) (waNil)))))) (wsNext))
  (wsSeq (wsIf (wtV (tB (e2 dEq (eVar 3) (eC (.int 9))))) (wsRet (wTup (waCons (wHid (eC (.str "get"))) (waCons (wHid (eVar 6)) (waCons (wOp dMul (wCall0 wf_law_next (waCons (wHid (eVar 0)) (waCons (wHid (eC (.int 2))) (waNil)))) (wCall0 wf_law_next (waCons (wHid (eVar 0)) (waCons (wHid (eC (.int 2))) (waNil))))) (waNil)))))) (wsNext))
  (wsSeq (wsIf (wtV (tB (e2 dEq (eVar 3) (eC (.int 10))))) (wsRet (wHid (fTup (aCons (eC (.str "fence")) (aNil))))) (wsNext))
  (wsRet (wHid (e2 dIx (fTup (aCons (fTup (aCons (eC (.str "ask")) (aCons (eC (.int 0)) (aNil)))) (aCons (fTup (aCons (eC (.str "test")) (aCons (eC (.int 0)) (aCons (eC (.int 0)) (aCons (eVar 8) (aNil)))))) (aCons (fTup (aCons (eC (.str "load")) (aCons (eVar 6) (aCons (eC (.int 0)) (aCons (eC (.int 0)) (aNil)))))) (aNil))))) (e2 dSub (eVar 3) (eC (.int 11))))))))))))))))))))
noncomputable def wf_law_row : WF := defW 9 3 (gw_law_row)
end KQ
namespace Mi
open PySem PySem.Spec PyProof.Rows L2
abbrev WI := E → Sx → (List D → Sx → Prop) → (Str → Sx → Prop) → Prop
def SemIW (K : PySem.W.Frag) (mg : Str → Option Value) (X : XK) (wi : TI) (fi : WI) : Prop := ∀ F0 H0 F H σ ρ st, RW K F0 H0 F H σ ρ st → ∀ Pd Px, fi ρ st Pd Px → ExW K mg X F0 H0 Px → ∀ R : It → Hp → Prop, (∀ ds st' J F' H', Pd ds st' → RW K F0 H0 F' H' σ ρ st' → Ex F F' → WalkD K J ds F' → R J H') → wi σ H R
def wsForI (fi : WI) (tg : FG) (body : WS) : WS := fun ρ st P => fi ρ st (fun ds st1 => forW tg body ds ρ st1 P) (exP P)
section
variable {K : PySem.W.Frag} {mg : Str → Option Value} {X : XK} {t : TS} {ta : TA} {te : TE} {g : WS} {fa : WX} {fl : WA}
theorem ws_forI {wi : TI} {tt : TG} {fi : WI} {tg : FG} (hi : SemIW K mg X wi fi) (hg : SemG K tt tg) (hb : SemSW K mg X t g) : SemSW K mg X (tFor wi tt t) (wsForI fi tg g) := fun F0 H0 F H σ ρ st r P hp Dn q => by
  refine hi F0 H0 F H σ ρ st r _ _ hp (EndW.ex q) _ fun ds st J F1 H1 e2 r1 ef1 wk => ?_
  refine ⟨fun i m σ' H' => m = ds.length - i ∧ i ≤ ds.length ∧ ∃ F' ρ' st', Ex F1 F' ∧ RW K F0 H0 F' H' σ' ρ' st' ∧ forW tg g (ds.drop i) ρ' st' P, ⟨ds.length, by simp, Nat.zero_le _, F1, ρ, st, .refl _, r1, by simpa using e2⟩, ?_⟩
  rintro i m σ' H' ⟨rfl, hi', F', ρ', st', ef, r', hr⟩
  by_cases hlt : i < ds.length
  · refine .inr ⟨wk.go i F' H' ef r'.fh hlt, fun σ2 H2 => ∃ F2 ρ2 st2, Ex F1 F2 ∧ RW K F0 H0 F2 H2 σ2 ρ2 st2 ∧ forW tg g (ds.drop (i + 1)) ρ2 st2 P, fun σ2 H2 hN => ⟨ds.length - (i + 1), by omega, rfl, by omega, hN⟩, fun x H2 hy => ?_⟩
    have hdi : ds[i]? = some ds[i] := List.getElem?_eq_getElem hlt
    obtain ⟨F2, g2, r2⟩ := wk.yld i F' H' x H2 ds[i] ef r'.fh hdi hy
    rw [List.drop_eq_getElem_cons hlt] at hr
    obtain ⟨ws, h1, hr⟩ := hr
    have rs2 := r'.grow g2
    refine hg F2 H2 _ ds[i] x ws g2.fh r2 h1 _ fun us ru => ?_
    refine hb F0 H0 F2 H2 _ _ _ (rs2.put ru) _ hr _ fun o ho => ?_
    have e12 := ef.trans g2.ff
    have eall : Ex F F2 := ef1.trans e12
    cases o with
    | nx ρ2 st2 => exact fun F3 H3 σ3 r3 e3 => ⟨F3, ρ2, st2, e12.trans e3, r3, ho⟩
    | ct ρ2 st2 => exact fun F3 H3 σ3 r3 e3 => ⟨F3, ρ2, st2, e12.trans e3, r3, ho⟩
    | bk ρ2 st2 => exact fun F3 H3 σ3 r3 e3 => q _ ho F3 H3 σ3 r3 (eall.trans e3)
    | rt d st2 => exact q _ ho
    | ex x st2 => exact q _ ho
  · have ei : i = ds.length := by omega
    subst ei
    rw [List.drop_length] at hr
    exact .inl ⟨wk.stop F' H' ef r'.fh, q _ hr F' H' σ' r' (ef1.trans ef)⟩
end
def tTupF (t : TA) : TE := fun σ H Q => t σ H fun xs H1 => xs.length ≤ sizeLine ∧ ∀ (p : Addr) (o : Obj), H1 p = none → o.cls = .type "tuple" → o.dict = none → Q (.ref p) (upd H1 p (.frz o (.tup xs)))
def fTupF (fa : E → Option (List D)) : FE := fun ρ => (fa ρ).bind fun xs => if xs.length ≤ 100000 then some (.kt xs) else none
section
variable {X : Cx} {W : XK} {es : List Expr} {t : TA} {f : E → Option (List D)} {pos p cpos apos : Pos} {e elt tg : Expr} {te : TE}
theorem pe_tupF {x1} (h : PA X es t) : PE X (.Tuple es x1 pos) (tTupF t) := by
  refine ⟨fun pins s σ H Q I hq => ?_⟩
  refine wpAny_Tuple_spliced (thn (h.run pos pins s σ H _ I hq) fun us s1 ⟨xs, H1, I1, r, z, q⟩ => ⟨by rw [← r.length]; exact z, ?_⟩)
  have hf : H1 s1.heap.objs.size = none := I1.hok.fresh (Nat.le_refl _)
  refine ⟨.ref s1.heap.objs.size, _, I1.laid (t' := s1.toks) (o := .frz { cls := .type "tuple", data := .seq us.toArray } (.tup xs)) (fun b u e => Heap.get?_push_of_some _ e) (Nat.le_refl _) ?_, rfl, q _ _ hf rfl rfl⟩
  exact ⟨Heap.get?_push_size _ rfl, z, us, r, IsTup.new _ _⟩
theorem sem_tupF {K : PySem.W.Frag} (h : SemA K t f) : SemE K (tTupF t) (fTupF f) := fun F H σ ρ e re d hd Q q => by
  obtain ⟨xs, h1, h2⟩ := Option.bind_eq_some_iff.mp hd
  split at h2
  · rename_i hl
    cases h2
    refine h F H σ ρ e re xs h1 _ fun vs F1 H1 g1 r1 => ⟨by rw [← r1.len]; exact sz_of hl, fun p o hp c1 c2 => ?_⟩
    exact q _ _ _ (g1.trans (.new g1.fh hp)) (rep_kt.mpr ⟨p, vs, rfl, .inl (.inr ⟨o, upd_same⟩), .inr ⟨o, vs, upd_same, c1, c2⟩, r1.m (.new (g1.fh.free hp))⟩)
  · cases h2
theorem se_tupF {k : Nat} (h : SA X es t f) : SE X (.Tuple es k pos) (tTupF t) (fTupF f) := ⟨pe_tupF h.pe, sem_tupF h.se⟩
@[simp] theorem v_tupF {fl : E → Option (List D)} {ρ : E} : fTupF fl ρ = (fl ρ).bind fun xs => if xs.length ≤ 100000 then some (.kt xs) else none := rfl
structure SIW (X : Cx) (W : XK) (tg e : Expr) (t : TI) (f : WI) : Prop where
  pe : PI X tg e t
  se : SemIW X.K X.mg W t f
variable {fa : WX} {fl : WA}
theorem s3_forI {iter tgt : Expr} {body : List Stmt} {wi : TI} {gg : TG} {fi : WI} {gf : FG} {g : WS} (hp : PassesOwn (model X.prog X.w) X.A X.env X.xe) (hc : X.calm = true) (hi : SIW X W tgt iter wi fi) (hg : SG X tgt gg gf) (hb : SSWs X W body g)
    (hs : ∀ x, foldedSetIterable iter X.env x = pure x := by intro _; rfl) : SSW X W (.For tgt iter body [] pos) (wsForI fi gf g) := by
  obtain ⟨t1, p1, s1⟩ := hb
  exact ⟨_, ps_for hp hc hi.pe hg.pe p1 hs, ws_forI hi.se hg.se s1⟩
end
end Mi
namespace KR
open PySem PySem.Spec PyProof.Rows L2 Mi KP KS KQ
noncomputable def gw_law_programK : WS := wsSeq (wsAsg 2 (wOp dAdd (wHid (eC (.int 2))) (wCall0 wf_law_next (waCons (wHid (eVar 0)) (waCons (wHid (e2 dSub (eVar 1) (eC (.int 1)))) (waNil))))))
  (wsSeq (wsAsg 3 (wLcS (fRng1 (aCons (e2 dSub (eVar 2) (eC (.int 1))) (aNil))) (gN 5) (wCall0 wf_law_row (waCons (wHid (eVar 0)) (waCons (wHid (eVar 2)) (waCons (wHid (eC (.bl true))) (waNil))))) ([("k", 5)].map (·.2))))
  (wsSeq (wsApp (wHid (eVar 3)) (wSub (wTup (waCons (wHid (fTup (aCons (eC (.str "end")) (aNil)))) (waCons (wTup (waCons (wHid (eC (.str "jump"))) (waCons (wCall0 wf_law_next (waCons (wHid (eVar 0)) (waCons (wHid (eVar 2)) (waNil)))) (waNil)))) (waNil)))) (wAppV (g1 dInt) (waCons (wOp dEq (wCall0 wf_law_next (waCons (wHid (eVar 0)) (waCons (wHid (eC (.int 6))) (waNil)))) (wHid (eC (.int 0)))) (waNil)))))
  (wsSeq (wsAsg 4 (wSub (wHid (fTup (aCons (fTupF (aNil)) (aCons (fTupF (aCons (eC (.int 1)) (aNil))) (aCons (fTupF (aCons (eC (.int 1)) (aNil))) (aCons (fTupF (aCons (eC (.int 1)) (aCons (eC (.int 2)) (aNil)))) (aCons (fTupF (aCons (eC (.int 2)) (aNil))) (aCons (fTupF (aCons (eC (.int 0)) (aCons (eC (.int 3)) (aNil)))) (aNil))))))))) (wCall0 wf_law_next (waCons (wHid (eVar 0)) (waCons (wHid (eC (.int 6))) (waNil))))))
  (wsRet (wFrzV (fDisp (pCons "secret" (eVar 4) (pCons "rows" (eA (g1 dTuple) (aCons (eVar 3) (aNil))) (pNil)))))))))
noncomputable def wf_law_programK : WF := defW 6 2 (gw_law_programK)
end KR
namespace Mi
open PySem PySem.Spec PyProof.Rows L2
def wiSeq (fa : WX) : WI := fun ρ st Pd Px => fa ρ st (fun d st1 => ∃ ds, d.seq? = some ds ∧ Pd ds st1) Px
section
variable {K : PySem.W.Frag} {mg : Str → Option Value} {X : XK} {te : TE} {fa : WX}
theorem wi_seq (h : SemXW K mg X te fa) : SemIW K mg X (iSeq K te) (wiSeq fa) := fun F0 H0 F H σ ρ st r Pd Px hf hx R q => by
  refine h F0 H0 F H σ ρ st r _ Px hf hx _ fun d st1 v F1 H1 hf r1 e1 rv => ?_
  obtain ⟨ds, h1, hP⟩ := hf
  obtain ⟨a, vs, rfl, hs, rs⟩ := rep_seq rv h1
  rcases hs with hs | hs
  · exact .inl ⟨a, rfl, ⟨vs, r1.fh.l hs⟩, q _ _ _ F1 H1 hP r1 e1 (walk_l hs rs)⟩
  · exact .inr ⟨a, rfl, ⟨vs, r1.fh.t hs⟩, q _ _ _ F1 H1 hP r1 e1 (walk_t hs rs)⟩
end
theorem i3_seq {X : Cx} {W : XK} {tg e : Expr} {te : TE} {fa : WX} (K : PySem.W.Frag) (h : SXW X W e te fa) (hK : X.K = K := by rfl) : SIW X W tg e (iSeq K te) (wiSeq fa) := by
  subst hK
  exact ⟨pi_seq h.pe, wi_seq h.se⟩
def wAndV (fa fb : WX) : WX := fun ρ st Pd Px => fa ρ st (fun d st1 => ∃ b : Bool, d = .bl b ∧ if b = true then fb ρ st1 Pd Px else Pd (.bl false) st1) Px
theorem wx_andV {K : PySem.W.Frag} {mg : Str → Option Value} {X : XK} {ta tb : TE} {fa fb : WX} (ha : SemXW K mg X ta fa) (hb : SemXW K mg X tb fb) : SemXW K mg X (tAndV ta tb) (wAndV fa fb) := fun F0 H0 F H σ ρ st r Pd Px hf hx Q q => by
  refine ha F0 H0 F H σ ρ st r _ Px hf hx _ fun d st1 v F1 H1 hf r1 e1 rv => ?_
  obtain ⟨b, rfl, h⟩ := hf
  refine ⟨b, rep_bl.mp rv, ?_⟩
  cases b with
  | true => exact hb F0 H0 F1 H1 σ ρ st1 r1 Pd Px h hx Q fun d st' v F' H' a1 a2 a3 a4 => q d st' v F' H' a1 a2 (e1.trans a3) a4
  | false => exact q _ _ _ F1 H1 h r1 e1 (rep_bl.mpr rfl)
theorem x3_and {X : Cx} {W : XK} {a b : Expr} {es : List Expr} {pos : Pos} {ta tb : TE} {fa fb : WX} (ha : SXW X W a ta fa) (hb : SXW X W (.BoolOp .And (b :: es) pos) tb fb) : SXW X W (.BoolOp .And (a :: b :: es) pos) (tAndV ta tb) (wAndV fa fb) := ⟨pe_and ha.pe hb.pe, wx_andV ha.se hb.se⟩
theorem x3_one {X : Cx} {W : XK} {a : Expr} {pos : Pos} {op : BoolOp} {ta : TE} {fa : WX} (ha : SXW X W a ta fa) : SXW X W (.BoolOp op [a] pos) ta fa := ⟨pe_one ha.pe, ha.se⟩
end Mi
namespace Mi
open PySem PySem.Spec PyProof.Rows L2
def wsAugV (g : D → D → Option D) (i : Nat) (fv : WX) : WS := fun ρ st P => ∃ z, ρ[i]? = some (some z) ∧ fv ρ st (fun v st1 => ∃ d, g z v = some d ∧ P (.nx (ρ.set i (some d)) st1)) (exP P)
section
variable {K : PySem.W.Frag} {mg : Str → Option Value} {X : XK} {te : TE} {fv : WX} {i : Nat}
theorem ws_augV {r2 : R2} {g : D → D → Option D} (hv : SemXW K mg X te fv) (L : Lf2 K r2 g) : SemSW K mg X (tAug i te r2) (wsAugV g i fv) := fun F0 H0 F H σ ρ st r P hp Dn q => by
  have qx := EndW.ex q
  obtain ⟨z, h1, hp⟩ := hp
  obtain ⟨x, h2, rx⟩ := r.re.at_ i z h1
  refine ⟨x, h2, ?_⟩
  refine hv F0 H0 F H σ ρ st r _ _ hp qx _ fun v st1 y F1 H1 hp r1 e1 rv => ?_
  obtain ⟨d, hg, hp⟩ := hp
  refine L F1 H1 z v x y r1.fh (rx.m e1) rv d hg _ fun n F2 H2 g2 rn => ?_
  exact q _ hp F2 H2 _ ((r1.grow g2).set rn) (e1.trans g2.ff)
end
section
variable {X : Cx} {W : XK} {e : Expr} {te : TE} {fv : WX} {i : Nat} {x : Str} {pos pos' : Pos}
theorem s3_augVadd (hN : X.N.Nodup) (hi : X.N[i]? = some x) (hx : Loc X.env.scope x) (he : SXW X W e te fv) (hf : X.fn x = true ∨ X.env.scope.names.lookup x = some .local := by first | exact .inl rfl | exact .inr rfl | assumption) : SSW X W (.AugAssign (.Name x pos') .Add e pos) (wsAugV dAddI i fv) :=
  ⟨_, ps_aug hN hi hx he.pe ip_add hf, ws_augV he.se lf_ipadd⟩
end
end Mi
namespace Mi
open PySem PySem.Spec PyProof.Rows L2
def lcSF (tg : FG) (c : WT) (f : WX) (ρ : E) : List D → List D → Sx → (List D → Sx → Prop) → Prop
  | [], acc, st, Pl => Pl acc st
  | d :: ds, acc, st, Pl => ∃ ws, tg d = some ws ∧ c (putE ρ ws) st (fun b st1 => if b = true then f (putE ρ ws) st1 (fun y st' => lcSF tg c f ρ ds (acc ++ [y]) st' Pl) (fun _ _ => False) else lcSF tg c f ρ ds acc st1 Pl) (fun _ _ => False)
def wLcSF (fi : E → Option (List D)) (tg : FG) (c : WT) (f : WX) (vs : List Nat) : WX := fun ρ st Pd _ => ∃ ds, fi ρ = some ds ∧ ds.length ≤ 50000 ∧ lcSF tg c f (wipeE ρ vs) ds [] st (fun ys st' => ∀ a, st' a = none → Pd (.adr a) (sxU st' a (.l ys)))
section
variable {K : PySem.W.Frag} {mg : Str → Option Value} {X : XK} {te : TE}
theorem wx_lcSF {X0 : XK} {wi : TI} {g : TG} {tt : TT} {vs : List Nat} {fi : E → Option (List D)} {tg : FG} {c : WT} {f : WX} (hi : SemI K wi fi) (hg : SemG K g tg) (hc : SemTW K mg X tt c) (he : SemXW K mg X te f) (hw : ∀ d ws, tg d = some ws → ∀ p ∈ ws.map (·.1), p ∈ vs) : SemXW K mg X0 (tLc wi g tt te vs) (wLcSF fi tg c f vs) := fun F0 H0 F H σ ρ st r Pd Px hf hx Q q => by
  obtain ⟨ds, h1, hlen, h2⟩ := hf
  refine hi F H σ ρ r.fh r.re ds h1 _ fun J F1 H1 g1 wk D hD => ?_
  have r1 := r.grow g1
  have hD0 : H0 D = none := r1.gr.hh.free hD
  have hDF : F1 D = none := r1.fh.free hD
  have hDs : st D = none := by
    cases z : st D with
    | none => rfl
    | some c0 =>
      obtain ⟨⟨u0, k1, _⟩, _⟩ := r1.cs.at_ D c0 z
      rw [hD] at k1
      cases k1
  refine ⟨fun i m H' => m = ds.length - i ∧ i ≤ ds.length ∧ ∃ F' st' acc va, Ex F1 F' ∧ RW K F0 H0 F' H' σ ρ st' ∧ H' D = some (.lst va) ∧ F' D = none ∧ st' D = none ∧ Reps K F' acc va ∧ acc.length ≤ i ∧ lcSF tg c f (wipeE ρ vs) (ds.drop i) acc st' (fun ys st' => ∀ a, st' a = none → Pd (.adr a) (sxU st' a (.l ys))),
    ⟨ds.length, by simp, Nat.zero_le _, F1, st, [], [], .refl _, r1.wrO hDF hD0 hDs, upd_same, hDF, hDs, .nil, Nat.le_refl _, by simpa using h2⟩, ?_⟩
  rintro i m H' ⟨rfl, hi', F', st', acc, va, ef, r', hHD, hFD, hsD, ra, hal, hr⟩
  by_cases hlt : i < ds.length
  · refine .inr ⟨wk.go i F' H' ef r'.fh hlt, fun H2 => ∃ F2 st2 acc2 va2, Ex F1 F2 ∧ RW K F0 H0 F2 H2 σ ρ st2 ∧ H2 D = some (.lst va2) ∧ F2 D = none ∧ st2 D = none ∧ Reps K F2 acc2 va2 ∧ acc2.length ≤ i + 1 ∧ lcSF tg c f (wipeE ρ vs) (ds.drop (i + 1)) acc2 st2 (fun ys st' => ∀ a, st' a = none → Pd (.adr a) (sxU st' a (.l ys))),
      fun H2 hN => ⟨ds.length - (i + 1), by omega, rfl, by omega, hN⟩, fun x H2 hy => ?_⟩
    have hdi : ds[i]? = some ds[i] := List.getElem?_eq_getElem hlt
    obtain ⟨F2, g2, r2⟩ := wk.yld i F' H' x H2 ds[i] ef r'.fh hdi hy
    rw [List.drop_eq_getElem_cons hlt] at hr
    obtain ⟨ws, h3, hr⟩ := hr
    have rs2 := r'.grow g2
    have hHD2 := g2.hh _ _ hHD
    have hFD2 : F2 D = none := (g2.fr _ _ hHD).trans hFD
    refine hg F2 H2 _ ds[i] x ws g2.fh r2 h3 _ fun us ru => ?_
    refine ⟨wipe_put (by rw [ru.ix]; exact hw _ _ h3), ?_⟩
    have rq := (rs2.slots ((rs2.re.wipe vs).put ru)).own
    have eHD : erP H2 (fun a => (st' a).isSome = true) D = some (.lst va) := by
      rw [erP_no (by rw [hsD]; simp)]
      exact hHD2
    have fin : ∀ {st3 : Sx} {F3 H3 : Hp} {σ' : L2.St} {ρ' : E} (r3 : RW K F2 (erP H2 fun a => (st' a).isSome = true) F3 H3 σ' ρ' st3), H3 D = some (.lst va) ∧ F3 D = none ∧ st3 D = none := fun {st3 F3 H3 σ' ρ'} r3 => by
      refine ⟨r3.gr.hh _ _ eHD, (r3.gr.fr _ _ eHD).trans hFD2, ?_⟩
      cases z : st3 D with
      | none => rfl
      | some c0 =>
        have k := (r3.cs.at_ D c0 z).2.2
        rw [eHD] at k
        cases k
    refine hc _ _ _ _ _ _ _ rq _ _ hr (fun x st' F' H' C z => z.elim) _ fun b st3 F3 H3 hr r3 e3 => ?_
    cases b with
    | true =>
      refine he _ _ _ _ _ _ _ r3 _ _ hr (fun x st' F' H' C z => z.elim) _ fun y st4 v F4 H4 hr r4 e4 rv => ?_
      obtain ⟨k1, k2, k3⟩ := fin r4
      have r5 := rs2.come r4.gr r4.cs
      have ra3 : Reps K F4 acc va := ra.m (g2.ff.trans (e3.trans e4))
      refine ⟨va, k1, by rw [← ra.len]; exact Nat.lt_of_lt_of_le (Nat.lt_of_le_of_lt hal hlt) (Nat.le_trans hlen (by decide)), F4, st4, acc ++ [y], va ++ [v], ef.trans (g2.ff.trans (e3.trans e4)), r5.wrO k2 hD0 k3, upd_same, k2, k3, ra3.append (.one rv), by simp; omega, hr⟩
    | false =>
      obtain ⟨k1, k2, k3⟩ := fin r3
      have r5 := rs2.come r3.gr r3.cs
      exact ⟨F3, st3, acc, va, ef.trans (g2.ff.trans e3), r5, k1, k2, k3, ra.m (g2.ff.trans e3), by omega, hr⟩
  · have ei : i = ds.length := by omega
    subst ei
    rw [List.drop_length] at hr
    exact .inl ⟨wk.stop F' H' ef r'.fh, q _ _ _ F' H' (hr D hsD) (r'.add (c := .l acc) hHD hFD hD0 ⟨va, rfl, ra⟩) (g1.ff.trans ef) (rep_adr.mpr rfl)⟩
end
section
variable {X : Cx} {W W' : XK} {elt tg iter cond : Expr} {scope : Scope} {own : List (Str × Nat)} {wi : TI} {gg : TG} {tt : TT} {te : TE} {fi : E → Option (List D)} {gf : FG} {c : WT} {f : WX} {pos : Pos}
theorem x3_lcSF (hc : X.calm = true) (hN : X.N.Nodup) (hi : SI X tg iter wi fi) (ok : BlkOk X.N X.env.scope scope own)
    (hg : ∀ (s : Shared) (H : Hp) (C : Addr) (cl : List (Str × Addr)) (fp : List Addr), SG (X.blk s H scope (compEnvC scope cl C X.env) fp) tg gg gf)
    (ht : ∀ (s : Shared) (H : Hp) (C : Addr) (cl : List (Str × Addr)) (fp : List Addr), STW (X.blk s H scope (compEnvC scope cl C X.env) fp) W' cond tt c)
    (he : ∀ (s : Shared) (H : Hp) (C : Addr) (cl : List (Str × Addr)) (fp : List Addr), SXW (X.blk s H scope (compEnvC scope cl C X.env) fp) W' elt te f) (hw : ∀ d ws, gf d = some ws → ∀ p ∈ ws.map (·.1), p ∈ own.map (·.2)) (hs : ∀ x, foldedSetIterable iter X.env x = pure x := by intro _; rfl) :
    SXW X W (.ListComp elt [⟨tg, iter, [cond], 0⟩] scope pos) (tLc wi gg tt te (own.map (·.2))) (wLcSF fi gf c f (own.map (·.2))) :=
  ⟨pe_lc hc hN hi.pe ok (fun s H C cl fp => (hg s H C cl fp).pe) (fun s H C cl fp => pts_one (ht s H C cl fp).pe) (fun s H C cl fp => (he s H C cl fp).pe) hs,
    wx_lcSF hi.se (hg X.s_0 X.H_0 0 [] []).se (ht X.s_0 X.H_0 0 [] []).se (he X.s_0 X.H_0 0 [] []).se hw⟩
end
end Mi
namespace K16
open PySem PySem.Spec PyProof.Rows L2 Mi KP KS KQ KR
def topS (i : Nat) : Stmt := PySem.Challenge.pw_guesshush_k16_whole_windows.main.body.getD i (.Pass ⟨0, 0, 0, 0⟩)
structure Bn (mg : Str → Option Value) : Prop where
  abs : mg "abs" = none
  enumerate : mg "enumerate" = none
  int : mg "int" = none
  len : mg "len" = none
  list : mg "list" = none
  range : mg "range" = none
  repr : mg "repr" = none
  sorted : mg "sorted" = none
  tuple : mg "tuple" = none
  «type» : mg "type" = none
abbrev s_law_next : Stmt := topS 46
abbrev N_law_next : List Str := ["tape", "many", "rest", "cell"]
theorem sc_law_next : FnScope N_law_next ["tape", "many"] (defScope s_law_next) := ⟨rfl, rfl, rfl, by decide +kernel, rfl, by decide +kernel, by decide +kernel⟩
abbrev s_law_row : Stmt := topS 47
abbrev N_law_row : List Str := ["tape", "many", "plain", "kind", "a", "b", "r", "array", "target"]
theorem sc_law_row : FnScope N_law_row ["tape", "many", "plain"] (defScope s_law_row) := ⟨rfl, rfl, rfl, by decide +kernel, rfl, by decide +kernel, by decide +kernel⟩
abbrev s_law_programK : Stmt := topS 48
abbrev N_law_programK : List Str := ["tape", "most", "many", "rows", "secret", "k"]
theorem sc_law_programK : FnScope N_law_programK ["tape", "most"] (defScope s_law_programK) := ⟨rfl, rfl, rfl, by decide +kernel, rfl, by decide +kernel, by decide +kernel⟩
abbrev s_text_of : Stmt := topS 40
abbrev N_text_of : List Str := ["state"]
theorem sc_text_of : FnScope N_text_of ["state"] (defScope s_text_of) := ⟨rfl, rfl, rfl, by decide +kernel, rfl, by decide +kernel, by decide +kernel⟩
abbrev s_first_state_states : Stmt := topS 21
abbrev N_first_state_states : List Str := ["program", "secret", "registers", "r"]
theorem sc_first_state_states : FnScope N_first_state_states ["program"] (defScope s_first_state_states) := ⟨rfl, rfl, rfl, by decide +kernel, rfl, by decide +kernel, by decide +kernel⟩
abbrev s_item_at : Stmt := topS 8
abbrev N_item_at : List Str := ["values", "k", "otherwise"]
theorem sc_item_at : FnScope N_item_at ["values", "k", "otherwise"] (defScope s_item_at) := ⟨rfl, rfl, rfl, by decide +kernel, rfl, by decide +kernel, by decide +kernel⟩
abbrev s_row_at : Stmt := topS 10
abbrev N_row_at : List Str := ["program", "place"]
theorem sc_row_at : FnScope N_row_at ["program", "place"] (defScope s_row_at) := ⟨rfl, rfl, rfl, by decide +kernel, rfl, by decide +kernel, by decide +kernel⟩
abbrev s_made_row : Stmt := topS 23
abbrev N_made_row : List Str := ["program", "state", "window", "row", "depth"]
theorem sc_made_row : FnScope N_made_row ["program", "state", "window"] (defScope s_made_row) := ⟨rfl, rfl, rfl, by decide +kernel, rfl, by decide +kernel, by decide +kernel⟩
abbrev s_is_natural : Stmt := topS 7
abbrev N_is_natural : List Str := ["value"]
theorem sc_is_natural : FnScope N_is_natural ["value"] (defScope s_is_natural) := ⟨rfl, rfl, rfl, by decide +kernel, rfl, by decide +kernel, by decide +kernel⟩
abbrev s_is_window : Stmt := topS 17
abbrev N_is_window : List Str := ["value"]
theorem sc_is_window : FnScope N_is_window ["value"] (defScope s_is_window) := ⟨rfl, rfl, rfl, by decide +kernel, rfl, by decide +kernel, by decide +kernel⟩
abbrev s_kind_of : Stmt := topS 22
abbrev N_kind_of : List Str := ["state", "r"]
theorem sc_kind_of : FnScope N_kind_of ["state", "r"] (defScope s_kind_of) := ⟨rfl, rfl, rfl, by decide +kernel, rfl, by decide +kernel, by decide +kernel⟩
abbrev s_shows_secret : Stmt := topS 24
abbrev N_shows_secret : List Str := ["row", "state", "kind"]
theorem sc_shows_secret : FnScope N_shows_secret ["row", "state"] (defScope s_shows_secret) := ⟨rfl, rfl, rfl, by decide +kernel, rfl, by decide +kernel, by decide +kernel⟩
abbrev s_is_leak : Stmt := topS 25
abbrev N_is_leak : List Str := ["program", "state", "window", "row"]
theorem sc_is_leak : FnScope N_is_leak ["program", "state", "window"] (defScope s_is_leak) := ⟨rfl, rfl, rfl, by decide +kernel, rfl, by decide +kernel, by decide +kernel⟩
abbrev s_changed : Stmt := topS 9
abbrev N_changed : List Str := ["values", "at", "value", "k", "old"]
theorem sc_changed : FnScope N_changed ["values", "at", "value"] (defScope s_changed) := ⟨rfl, rfl, rfl, by decide +kernel, rfl, by decide +kernel, by decide +kernel⟩
abbrev s_with_fact : Stmt := topS 26
abbrev N_with_fact : List Str := ["facts", "number", "array", "truth"]
theorem sc_with_fact : FnScope N_with_fact ["facts", "number", "array", "truth"] (defScope s_with_fact) := ⟨rfl, rfl, rfl, by decide +kernel, rfl, by decide +kernel, by decide +kernel⟩
abbrev s_cases : Stmt := topS 27
abbrev N_cases : List Str := ["row", "state", "facts", "array", "kind", "number", "known", "truth"]
theorem sc_cases : FnScope N_cases ["row", "state"] (defScope s_cases) := ⟨rfl, rfl, rfl, by decide +kernel, rfl, by decide +kernel, by decide +kernel⟩
abbrev s_bounded : Stmt := topS 31
abbrev N_bounded : List Str := ["present", "old", "age", "window"]
theorem sc_bounded : FnScope N_bounded ["present", "old", "age", "window"] (defScope s_bounded) := ⟨rfl, rfl, rfl, by decide +kernel, rfl, by decide +kernel, by decide +kernel⟩
abbrev s_next_slot : Stmt := topS 32
abbrev N_next_slot : List Str := ["row", "state", "window", "s", "present", "old", "age"]
theorem sc_next_slot : FnScope N_next_slot ["row", "state", "window", "s"] (defScope s_next_slot) := ⟨rfl, rfl, rfl, by decide +kernel, rfl, by decide +kernel, by decide +kernel⟩
abbrev s_next_place : Stmt := topS 11
abbrev N_next_place : List Str := ["row", "place", "way", "word"]
theorem sc_next_place : FnScope N_next_place ["row", "place", "way"] (defScope s_next_place) := ⟨rfl, rfl, rfl, by decide +kernel, rfl, by decide +kernel, by decide +kernel⟩
abbrev s_masked : Stmt := topS 28
abbrev N_masked : List Str := ["kind", "array", "truth"]
theorem sc_masked : FnScope N_masked ["kind", "array", "truth"] (defScope s_masked) := ⟨rfl, rfl, rfl, by decide +kernel, rfl, by decide +kernel, by decide +kernel⟩
abbrev s_slot_of : Stmt := topS 30
abbrev N_slot_of : List Str := ["state", "s"]
theorem sc_slot_of : FnScope N_slot_of ["state", "s"] (defScope s_slot_of) := ⟨rfl, rfl, rfl, by decide +kernel, rfl, by decide +kernel, by decide +kernel⟩
abbrev s_given_states : Stmt := topS 29
abbrev N_given_states : List Str := ["row", "state", "truth", "new", "word"]
theorem sc_given_states : FnScope N_given_states ["row", "state", "truth"] (defScope s_given_states) := ⟨rfl, rfl, rfl, by decide +kernel, rfl, by decide +kernel, by decide +kernel⟩
abbrev s_real_step : Stmt := topS 35
abbrev N_real_step : List Str := ["row", "state", "truth", "place"]
theorem sc_real_step : FnScope N_real_step ["row", "state", "truth"] (defScope s_real_step) := ⟨rfl, rfl, rfl, by decide +kernel, rfl, by decide +kernel, by decide +kernel⟩
abbrev s_wrong_guess : Stmt := topS 36
abbrev N_wrong_guess : List Str := ["row", "state", "window", "truth", "place", "registers", "way", "_", "old", "age"]
theorem sc_wrong_guess : FnScope N_wrong_guess ["row", "state", "window", "truth"] (defScope s_wrong_guess) := ⟨rfl, rfl, rfl, by decide +kernel, rfl, by decide +kernel, by decide +kernel⟩
abbrev s_public_numbers : Stmt := topS 18
abbrev N_public_numbers : List Str := ["registers", "slots", "kinds", "numbers", "kind", "present", "old", "_"]
theorem sc_public_numbers : FnScope N_public_numbers ["registers", "slots"] (defScope s_public_numbers) := ⟨rfl, rfl, rfl, by decide +kernel, rfl, by decide +kernel, by decide +kernel⟩
abbrev s_renamed : Stmt := topS 19
abbrev N_renamed : List Str := ["kind", "numbers"]
theorem sc_renamed : FnScope N_renamed ["kind", "numbers"] (defScope s_renamed) := ⟨rfl, rfl, rfl, by decide +kernel, rfl, by decide +kernel, by decide +kernel⟩
abbrev s_numbered : Stmt := topS 20
abbrev N_numbered : List Str := ["place", "registers", "slots", "facts", "depth", "numbers", "kind", "number", "present", "old", "age"]
theorem sc_numbered : FnScope N_numbered ["place", "registers", "slots", "facts", "depth"] (defScope s_numbered) := ⟨rfl, rfl, rfl, by decide +kernel, rfl, by decide +kernel, by decide +kernel⟩
abbrev s_deeper : Stmt := topS 33
abbrev N_deeper : List Str := ["depth", "window"]
theorem sc_deeper : FnScope N_deeper ["depth", "window"] (defScope s_deeper) := ⟨rfl, rfl, rfl, by decide +kernel, rfl, by decide +kernel, by decide +kernel⟩
abbrev s_opened : Stmt := topS 34
abbrev N_opened : List Str := ["depth", "window"]
theorem sc_opened : FnScope N_opened ["depth", "window"] (defScope s_opened) := ⟨rfl, rfl, rfl, by decide +kernel, rfl, by decide +kernel, by decide +kernel⟩
abbrev s_steps : Stmt := topS 37
abbrev N_steps : List Str := ["program", "state", "window", "row", "slots", "depth", "found", "truth", "fact", "facts", "told", "guess", "s", "place", "registers", "directive"]
theorem sc_steps : FnScope N_steps ["program", "state", "window"] (defScope s_steps) := ⟨rfl, rfl, rfl, by decide +kernel, rfl, by decide +kernel, by decide +kernel⟩
abbrev s_path_to : Stmt := topS 41
abbrev N_path_to : List Str := ["met", "state", "path", "before", "label"]
theorem sc_path_to : FnScope N_path_to ["met", "state"] (defScope s_path_to) := ⟨rfl, rfl, rfl, by decide +kernel, rfl, by decide +kernel, by decide +kernel⟩
abbrev s_search : Stmt := topS 42
abbrev N_search : List Str := ["program", "window", "first", "met", "level", "further", "state", "label", "behind"]
theorem sc_search : FnScope N_search ["program", "window"] (defScope s_search) := ⟨rfl, rfl, rfl, by decide +kernel, rfl, by decide +kernel, by decide +kernel⟩
abbrev s_least_window : Stmt := topS 44
abbrev N_least_window : List Str := ["program", "word", "window"]
theorem sc_least_window : FnScope N_least_window ["program"] (defScope s_least_window) := ⟨rfl, rfl, rfl, by decide +kernel, rfl, by decide +kernel, by decide +kernel⟩
noncomputable def gw_least_window (P : Program) (w : World) : WS := wsSeq (wsAsg 1 (wSub (wCall0 (wf_search P w) (waCons (wHid (eVar 0)) (waCons (wHid (eC .non)) (waNil)))) (wHid (eC (.int 0)))))
  (wsSeq (wsIf (wtV (tB (e2 dEq (eVar 1) (eC (.str "table"))))) (wsRet (wHid (eC .non))) (wsNext))
  (wsSeq (wsAsg 2 (wHid (eC (.int 0))))
  (wsSeq (wsWhile (wtV (tB (e2 dNeS (eVar 1) (eC (.str "many"))))) (wsSeq (wsAsg 1 (wSub (wCall0 (wf_search P w) (waCons (wHid (eVar 0)) (waCons (wHid (eVar 2)) (waNil)))) (wHid (eC (.int 0)))))
  (wsSeq (wsIf (wtV (tB (e2 dEq (eVar 1) (eC (.str "leak"))))) (wsRet (wHid (eVar 2))) (wsNext))
  (wsAugV dAddI 2 (wHid (eC (.int 1)))))))
  (wsRet (wHid (e1 dNeg (eC (.int 1))))))))
noncomputable def wf_least_window (P : Program) (w : World) : WF := defW 3 1 (gw_least_window P w)
abbrev s_is_accepted : Stmt := topS 43
abbrev N_is_accepted : List Str := ["program", "window", "word"]
theorem sc_is_accepted : FnScope N_is_accepted ["program", "window"] (defScope s_is_accepted) := ⟨rfl, rfl, rfl, by decide +kernel, rfl, by decide +kernel, by decide +kernel⟩
abbrev s_law_many : Stmt := topS 49
abbrev N_law_many : List Str := ["program", "window", "met", "known", "at", "label", "other"]
theorem sc_law_many : FnScope N_law_many ["program", "window"] (defScope s_law_many) := ⟨rfl, rfl, rfl, by decide +kernel, rfl, by decide +kernel, by decide +kernel⟩
noncomputable def gw_law_many (P : Program) (w : World) : WS := wsSeq (wsAsg 2 (wNewH (fLst (aCons (eA m_first_state_states (aCons (eVar 0) (aNil))) (aNil)))))
  (wsSeq (wsAsg 3 (wDisN P w (wSub (wHid (eVar 2)) (wHid (eC (.int 0)))) (wHid (eC (.bl true)))))
  (wsSeq (wsFor (fRng1 (aCons (eC (.int 601)) (aNil))) (gN 4) (wsSeq (wsIf (wtV (fOr (tB (e2 dGe (eVar 4) (eA (g1 dLen) (aCons (eVar 2) (aNil))))) (tB (e2 dGt (eA (g1 dLen) (aCons (eVar 2) (aNil))) (eC (.int 600)))))) (wsRet (wView (e2 dGt (eA (g1 dLen) (aCons (eVar 2) (aNil))) (eC (.int 600))))) (wsNext))
  (wsForI (wiSeq (wApp m_steps (waCons (wHid (eVar 0)) (waCons (wSub (wHid (eVar 2)) (wHid (eVar 4))) (waCons (wHid (eVar 1)) (waNil)))))) (gT (gsC (gN 5) (gsC (gN 6) (gsN)))) (wsIf (wtOf (wInN P w true (wHid (eVar 6)) (wHid (eVar 3)))) (wsSeq (wsPutN P w (wHid (eVar 3)) (wHid (eVar 6)) (wHid (eC (.bl true))))
  (wsApp (wHid (eVar 2)) (wHid (eVar 6)))) (wsNext)))))
  (wsRet (wView (e2 dGt (eA (g1 dLen) (aCons (eVar 2) (aNil))) (eC (.int 600)))))))
noncomputable def wf_law_many (P : Program) (w : World) : WF := defW 7 2 (gw_law_many P w)
abbrev s_law : Stmt := topS 50
abbrev N_law : List Str := ["script", "tape", "program", "least", "free", "window", "told"]
theorem sc_law : FnScope N_law ["script"] (defScope s_law) := ⟨rfl, rfl, rfl, by decide +kernel, rfl, by decide +kernel, by decide +kernel⟩
noncomputable def gw_law (P : Program) (w : World) : WS := wsSeq (wsAsg 1 (wNewH (fLst (aCons (eO (eNA (gN1 dList) (aCons (eVar 0) (aNil)))) (aCons (eC (.int 0)) (aCons (eC (.int 0)) (aCons (eC (.int 5)) (aNil))))))))
  (wsSeq (wsAsg 2 (wCall0 wf_law_programK (waCons (wHid (eVar 1)) (waCons (wSub (wHid (fTup (aCons (eC (.int 2)) (aCons (eC (.int 3)) (aCons (eC (.int 4)) (aNil)))))) (wCall0 wf_law_next (waCons (wHid (eVar 1)) (waCons (wHid (eC (.int 3))) (waNil))))) (waNil)))))
  (wsSeq (wsAsg 3 (wCall0 (wf_least_window P w) (waCons (wHid (eVar 2)) (waNil))))
  (wsSeq (wsAsg 4 (wCall0 (wf_is_accepted P w) (waCons (wHid (eVar 2)) (waCons (wHid (eC .non)) (waNil)))))
  (wsSeq (wsIf (wtV (tB (e2 dIs (eVar 4) (eC .non)))) (wsRet (wAndV (wHid (e2 dEq (eVar 3) (e1 dNeg (eC (.int 1))))) (wCall0 (wf_law_many P w) (waCons (wHid (eVar 2)) (waCons (wHid (eC .non)) (waNil)))))) (wsNext))
  (wsSeq (wsIf (wtV (tB (e2 dEq (eVar 3) (e1 dNeg (eC (.int 1)))))) (wsRet (wAndV (wHid (fNotV (eVar 4))) (wOp dGt (wAppV (g1 dLen) (waCons (wLcSF (fRng1 (aCons (eC (.int 40)) (aNil))) (gN 5) (wtOf (wCall0 (wf_law_many P w) (waCons (wHid (eVar 2)) (waCons (wHid (eVar 5)) (waNil))))) (wHid (eVar 5)) ([("window", 5)].map (·.2))) (waNil))) (wHid (eC (.int 0)))))) (wsNext))
  (wsSeq (wsIf (wtV (tB (e2 dNeS (eVar 4) (e2 dIs (eVar 3) (eC .non))))) (wsRet (wHid (eC (.bl false)))) (wsNext))
  (wsSeq (wsFor (fRng1 (aCons (eC (.int 8)) (aNil))) (gN 5) (wsSeq (wsAsg 6 (wCall0 (wf_is_accepted P w) (waCons (wHid (eVar 2)) (waCons (wHid (eVar 5)) (waNil)))))
  (wsSeq (wsIf (wtAnd (wtV (tB (e2 dIs (eVar 6) (eC .non)))) (wtNot (wtOf (wCall0 (wf_law_many P w) (waCons (wHid (eVar 2)) (waCons (wHid (eVar 5)) (waNil))))))) (wsRet (wHid (eC (.bl false)))) (wsNext))
  (wsIf (wtV (fAnd (tB (e2 dIsn (eVar 6) (eC .non))) (tB (e2 dNeS (eVar 6) (fOrV (e2 dIs (eVar 3) (eC .non)) (e2 dLt (eVar 5) (eVar 3))))))) (wsRet (wHid (eC (.bl false)))) (wsNext)))))
  (wsRet (wHid (eC (.bl true)))))))))))
noncomputable def wf_law (P : Program) (w : World) : WF := defW 7 1 (gw_law P w)
section
variable {P : Program} {w : World} {K : PySem.W.Frag} {mg : Str → Option Value} {base : Heap} {f : Addr} {fd : FuncData}
theorem fx_law_next (Fn : Fun K "_law_next" "_law_next" s_law_next f fd) (hmg : mg "_law_next" = some (.ref f)) (hb : Binds K fd ["tape", "many"] []) (B : Bn mg) : FxW P w K mg base (1) "_law_next" 2 wf_law_next :=
  fxw_mk (g := gw_law_next) Fn sc_law_next hmg hb (by decide) rfl rfl fun cdv A outer s H W hr => (s3_cons (s3_set sc_law_next.nd rfl (by first | exact .inl rfl | exact .inr rfl) (x3_sub K (hu_of hr) (x3_hid (se_v 0)) (x3_hid se_int)))
    (s3_cons (s3_if (t3_v (st_cmp op_gt lf_gt (se_v 2) se_int)) (s3_cons (s3_put (hu_of hr) (x3_hid (se_v 0)) (x3_hid se_int) (x3_hid (se_bin op_fdiv lf_div (se_v 2) (se_v 1))))
    (s3_one (s3_ret (x3_hid (se_bin op_mod lf_mod (se_callTy call_int1 lf_int (by rfl) B.int mb_int (sa_cons (se_v 2) sa_nil)) (se_v 1)))))) s3_nil)
    (s3_cons (s3_set sc_law_next.nd rfl (by first | exact .inl rfl | exact .inr rfl) (x3_hid se_int))
    (s3_cons (s3_if (t3_v (st_cmp op_lt lf_lt (sx_ix K (hu_of hr) (se_v 0) se_int) (se_callB (cl_len K) lf_len (by rfl) B.len PySem.boot_len (sa_cons (sx_ix K (hu_of hr) (se_v 0) se_int) sa_nil)))) (s3_cons (s3_set sc_law_next.nd rfl (by first | exact .inl rfl | exact .inr rfl) (x3_view (se_callB call_abs lf_abs (by rfl) B.abs mb_abs (sa_cons (sx_ix K (hu_of hr) (sx_ix K (hu_of hr) (se_v 0) se_int) (sx_ix K (hu_of hr) (se_v 0) se_int)) sa_nil))))
    (s3_one (s3_augAdd (hu_of hr) (x3_hid (se_v 0)) (x3_hid se_int) (x3_hid se_int)))) s3_nil)
    (s3_cons (s3_if (t3_v (st_cmp op_ge lf_ge (se_v 3) (se_bin op_pow lf_pow se_int se_int))) (s3_cons (s3_put (hu_of hr) (x3_hid (se_v 0)) (x3_hid se_int) (x3_hid (se_bin op_fdiv lf_div (se_v 3) (se_v 1))))
    (s3_one (s3_ret (x3_hid (se_bin op_mod lf_mod (se_callTy call_int1 lf_int (by rfl) B.int mb_int (sa_cons (se_v 3) sa_nil)) (se_v 1)))))) s3_nil)
    (s3_cons (s3_put (hu_of hr) (x3_hid (se_v 0)) (x3_hid se_int) (x3_view (se_bin op_mod lf_mod (se_callTy call_int1 lf_int (by rfl) B.int mb_int (sa_cons (se_bin (op_add' K) lf_add (se_bin (op_add' K) lf_add (se_bin (op_mul' K) lf_mul (sx_ix K (hu_of hr) (se_v 0) se_int) se_int) (se_bin (op_mul' K) lf_mul (se_v 3) se_int)) se_int) sa_nil)) se_int)))
    (s3_one (s3_ret (x3_view (se_bin op_mod lf_mod (se_callTy call_int1 lf_int (by rfl) B.int mb_int (sa_cons (se_bin op_fdiv lf_div (se_bin op_mod lf_mod (se_bin (op_mul' K) lf_mul (sx_ix K (hu_of hr) (se_v 0) se_int) se_int) se_int) se_int) sa_nil)) (se_v 1)))))))))))
theorem fx_law_row (Fn : Fun K "_law_row" "_law_row" s_law_row f fd) (hmg : mg "_law_row" = some (.ref f)) (hb : Binds K fd ["tape", "many", "plain"] []) (B : Bn mg) (F_law_next : FxW P w K mg base (1) "_law_next" 2 wf_law_next) : FxW P w K mg base (2) "_law_row" 3 wf_law_row :=
  fxw_mk (g := gw_law_row) Fn sc_law_row hmg hb (by decide) rfl rfl fun cdv A outer s H W hr => (s3_cons (s3_set sc_law_row.nd rfl (by first | exact .inl rfl | exact .inr rfl) (x3_callW K F_law_next (hr.mono (by first | decide | omega)) (by rfl) (a3_cons (x3_hid (se_v 0)) (a3_cons (x3_hid (sx_ix K (hu_of hr) (se_tup (sa_cons se_int (sa_cons se_int sa_nil))) (se_callTy call_int1 lf_int (by rfl) B.int mb_int (sa_cons (se_v 2) sa_nil)))) a3_nil))))
    (s3_cons (s3_set sc_law_row.nd rfl (by first | exact .inl rfl | exact .inr rfl) (x3_callW K F_law_next (hr.mono (by first | decide | omega)) (by rfl) (a3_cons (x3_hid (se_v 0)) (a3_cons (x3_sub K (hu_of hr) (x3_hid (se_tup (sa_cons se_int (sa_cons se_int sa_nil)))) (x3_callW K F_law_next (hr.mono (by first | decide | omega)) (by rfl) (a3_cons (x3_hid (se_v 0)) (a3_cons (x3_hid se_int) a3_nil)))) a3_nil))))
    (s3_cons (s3_set sc_law_row.nd rfl (by first | exact .inl rfl | exact .inr rfl) (x3_callW K F_law_next (hr.mono (by first | decide | omega)) (by rfl) (a3_cons (x3_hid (se_v 0)) (a3_cons (x3_hid se_int) a3_nil))))
    (s3_cons (s3_set sc_law_row.nd rfl (by first | exact .inl rfl | exact .inr rfl) (x3_callW K F_law_next (hr.mono (by first | decide | omega)) (by rfl) (a3_cons (x3_hid (se_v 0)) (a3_cons (x3_sub K (hu_of hr) (x3_hid (se_tup (sa_cons se_int (sa_cons se_int sa_nil)))) (x3_callW K F_law_next (hr.mono (by first | decide | omega)) (by rfl) (a3_cons (x3_hid (se_v 0)) (a3_cons (x3_hid se_int) a3_nil)))) a3_nil))))
    (s3_cons (s3_set sc_law_row.nd rfl (by first | exact .inl rfl | exact .inr rfl) (x3_bin (op_mul' K) lf_mul (x3_callW K F_law_next (hr.mono (by first | decide | omega)) (by rfl) (a3_cons (x3_hid (se_v 0)) (a3_cons (x3_hid se_int) a3_nil))) (x3_callW K F_law_next (hr.mono (by first | decide | omega)) (by rfl) (a3_cons (x3_hid (se_v 0)) (a3_cons (x3_hid se_int) a3_nil)))))
    (s3_cons (s3_set sc_law_row.nd rfl (by first | exact .inl rfl | exact .inr rfl) (x3_callW K F_law_next (hr.mono (by first | decide | omega)) (by rfl) (a3_cons (x3_hid (se_v 0)) (a3_cons (x3_hid (se_v 1)) a3_nil))))
    (s3_cons (s3_if (t3_v (st_cmp (op_eq' K hr.units) lf_eq (se_v 3) se_int)) (s3_one (s3_ret (x3_hid (se_tup (sa_cons se_str (sa_cons (se_v 6) sa_nil)))))) s3_nil)
    (s3_cons (s3_if (t3_v (st_cmp (op_eq' K hr.units) lf_eq (se_v 3) se_int)) (s3_one (s3_ret (x3_hid (se_tup (sa_cons se_str (sa_cons (se_v 4) (sa_cons (se_v 7) (sa_cons (se_v 8) sa_nil)))))))) s3_nil)
    (s3_cons (s3_if (t3_v (st_cmp (op_eq' K hr.units) lf_eq (se_v 3) se_int)) (s3_one (s3_ret (x3_hid (se_tup (sa_cons se_str (sa_cons (se_v 6) (sa_cons (se_v 4) (sa_cons (se_v 5) sa_nil)))))))) s3_nil)
    (s3_cons (s3_if (t3_v (st_cmp op_lt lf_lt (se_v 3) se_int)) (s3_one (s3_ret (x3_hid (se_tup (sa_cons se_str (sa_cons (se_v 6) (sa_cons (se_v 7) (sa_cons (se_v 4) sa_nil)))))))) s3_nil)
    (s3_cons (s3_if (t3_v (st_cmp (op_eq' K hr.units) lf_eq (se_v 3) se_int)) (s3_one (s3_ret (x3_hid (se_tup (sa_cons se_str (sa_cons (se_v 6) (sa_cons (se_v 7) (sa_cons (se_v 4) sa_nil)))))))) s3_nil)
    (s3_cons (s3_if (t3_v (st_cmp op_lt lf_lt (se_v 3) se_int)) (s3_one (s3_ret (x3_hid (se_tup (sa_cons se_str (sa_cons (se_v 4) (sa_cons (se_v 7) (sa_cons (se_v 8) sa_nil)))))))) s3_nil)
    (s3_cons (s3_if (t3_v (st_cmp (op_eq' K hr.units) lf_eq (se_v 3) se_int)) (s3_one (s3_ret (x3_tup (a3_cons (x3_hid se_str) (a3_cons (x3_bin (op_mul' K) lf_mul (x3_callW K F_law_next (hr.mono (by first | decide | omega)) (by rfl) (a3_cons (x3_hid (se_v 0)) (a3_cons (x3_hid se_int) a3_nil))) (x3_callW K F_law_next (hr.mono (by first | decide | omega)) (by rfl) (a3_cons (x3_hid (se_v 0)) (a3_cons (x3_hid se_int) a3_nil)))) (a3_cons (x3_hid (se_v 4)) a3_nil)))))) s3_nil)
    (s3_cons (s3_if (t3_v (st_cmp (op_eq' K hr.units) lf_eq (se_v 3) se_int)) (s3_one (s3_ret (x3_tup (a3_cons (x3_hid se_str) (a3_cons (x3_hid (se_v 6)) (a3_cons (x3_bin (op_mul' K) lf_mul (x3_callW K F_law_next (hr.mono (by first | decide | omega)) (by rfl) (a3_cons (x3_hid (se_v 0)) (a3_cons (x3_hid se_int) a3_nil))) (x3_callW K F_law_next (hr.mono (by first | decide | omega)) (by rfl) (a3_cons (x3_hid (se_v 0)) (a3_cons (x3_hid se_int) a3_nil)))) a3_nil)))))) s3_nil)
    (s3_cons (s3_if (t3_v (st_cmp (op_eq' K hr.units) lf_eq (se_v 3) se_int)) (s3_one (s3_ret (x3_hid (se_tup (sa_cons se_str sa_nil))))) s3_nil)
    (s3_one (s3_ret (x3_hid (sx_ix K (hu_of hr) (se_tup (sa_cons (se_tup (sa_cons se_str (sa_cons se_int sa_nil))) (sa_cons (se_tup (sa_cons se_str (sa_cons se_int (sa_cons se_int (sa_cons (se_v 8) sa_nil))))) (sa_cons (se_tup (sa_cons se_str (sa_cons (se_v 6) (sa_cons se_int (sa_cons se_int sa_nil))))) sa_nil)))) (se_bin op_sub lf_sub (se_v 3) se_int))))))))))))))))))))
theorem fx_law_programK (Fn : Fun K "_law_program" "_law_program" s_law_programK f fd) (hmg : mg "_law_program" = some (.ref f)) (hb : Binds K fd ["tape", "most"] []) (B : Bn mg) (F_law_next : FxW P w K mg base (1) "_law_next" 2 wf_law_next) (F_law_row : FxW P w K mg base (2) "_law_row" 3 wf_law_row) : FxW P w K mg base (3) "_law_program" 2 wf_law_programK :=
  fxw_mk (g := gw_law_programK) Fn sc_law_programK hmg hb (by decide) rfl rfl fun cdv A outer s H W hr => (s3_cons (s3_set sc_law_programK.nd rfl (by first | exact .inl rfl | exact .inr rfl) (x3_bin (op_add' K) lf_add (x3_hid se_int) (x3_callW K F_law_next (hr.mono (by first | decide | omega)) (by rfl) (a3_cons (x3_hid (se_v 0)) (a3_cons (x3_hid (se_bin op_sub lf_sub (se_v 1) se_int)) a3_nil)))))
    (s3_cons (s3_setLcS (W' := E0) (own := [("k", 5)]) rfl sc_law_programK.nd rfl rfl (sw_true rfl rfl rfl (by decide +kernel)) (si_r1 (by rfl) B.range (sa_cons (se_bin op_sub lf_sub (se_v 2) se_int) sa_nil)) (blkOk_by (N := N_law_programK) (sc := defScope s_law_programK) (by decide +kernel)) (fun _ _ _ _ _ => (sg_n sc_law_programK.nd rfl (by first | exact .inl rfl | exact .inr rfl))) (fun _ _ _ _ _ => (x3_callW K F_law_row (hr.mono (by first | decide | omega)) (by rfl) (a3_cons (x3_hid (se_v 0)) (a3_cons (x3_hid (se_v 2)) (a3_cons (x3_hid se_bl) a3_nil))))) own1)
    (s3_cons (s3_app (x3_hid (se_v 3)) (x3_sub K (hu_of hr) (x3_tup (a3_cons (x3_hid (se_tup (sa_cons se_str sa_nil))) (a3_cons (x3_tup (a3_cons (x3_hid se_str) (a3_cons (x3_callW K F_law_next (hr.mono (by first | decide | omega)) (by rfl) (a3_cons (x3_hid (se_v 0)) (a3_cons (x3_hid (se_v 2)) a3_nil))) a3_nil))) a3_nil))) (x3_callTyV call_int1 lf_int (by rfl) B.int mb_int (a3_cons (x3_cmp (op_eq' K hr.units) lf_eq (x3_callW K F_law_next (hr.mono (by first | decide | omega)) (by rfl) (a3_cons (x3_hid (se_v 0)) (a3_cons (x3_hid se_int) a3_nil))) (x3_hid se_int)) a3_nil))))
    (s3_cons (s3_set sc_law_programK.nd rfl (by first | exact .inl rfl | exact .inr rfl) (x3_sub K (hu_of hr) (x3_hid (se_tup (sa_cons (se_tupF sa_nil) (sa_cons (se_tupF (sa_cons se_int sa_nil)) (sa_cons (se_tupF (sa_cons se_int sa_nil)) (sa_cons (se_tupF (sa_cons se_int (sa_cons se_int sa_nil))) (sa_cons (se_tupF (sa_cons se_int sa_nil)) (sa_cons (se_tupF (sa_cons se_int (sa_cons se_int sa_nil))) sa_nil)))))))) (x3_callW K F_law_next (hr.mono (by first | decide | omega)) (by rfl) (a3_cons (x3_hid (se_v 0)) (a3_cons (x3_hid se_int) a3_nil)))))
    (s3_one (s3_ret (x3_frzV (sn_disp (sp_cons (se_v 4) (sp_cons (se_callTy (cl_tuple K) lf_tuple (by rfl) B.tuple mb_tuple (sa_cons (se_v 3) sa_nil)) sp_nil))))))))))
theorem fx_text_of (Fn : Fun K "text_of" "text_of" s_text_of f fd) (hmg : mg "text_of" = some (.ref f)) (hb : Binds K fd ["state"] []) (B : Bn mg) : FxG P w K mg base (1) "text_of" 1 m_text_of :=
  fxG_mkL (g := g_text_of) Fn sc_text_of hmg hb (by decide) rfl rfl fun cdv A hgd outer s H W hr => (sss_one (sp_ret (se_callB (call_repr hgd hr.units) lf_repr (by rfl) B.repr mb_repr (sa_cons (se_v 0) sa_nil))))
theorem fx_first_state_states (Fn : Fun K "first_state" "first_state" s_first_state_states f fd) (hmg : mg "first_state" = some (.ref f)) (hb : Binds K fd ["program"] []) (B : Bn mg) {t_SLOTS : Tok} (G_SLOTS : mg "SLOTS" = some (.int 2 t_SLOTS)) {d_SECRET : Addr} (G_SECRET : mg "SECRET" = some (.ref d_SECRET) ∧ ∀ F, Rep K F (.kt [.str "secret", .kt []]) (.ref d_SECRET)) {d_ZERO : Addr} (G_ZERO : mg "ZERO" = some (.ref d_ZERO) ∧ ∀ F, Rep K F (.kt [.str "zero"]) (.ref d_ZERO)) {t_REGISTERS : Tok} (G_REGISTERS : mg "REGISTERS" = some (.int 4 t_REGISTERS)) : Fx P w K mg base (1) "first_state" 1 m_first_state_states :=
  fx_mkL (g := g_first_state_states) Fn sc_first_state_states hmg hb (by decide) rfl rfl fun cdv A outer s H W hr => (sss_cons (sp_set sc_first_state_states.nd rfl (by first | exact .inl rfl | exact .inr rfl) (sx_ix K (hu_of hr) (se_v 0) se_str))
    (sss_cons (sp_set sc_first_state_states.nd rfl (by first | exact .inl rfl | exact .inr rfl) (se_callTy (cl_tuple K) lf_tuple (by rfl) B.tuple mb_tuple (sa_cons (sn_e (sn_lc (own := [("r", 3)]) rfl sc_first_state_states.nd (si_r1 (by rfl) B.range (sa_cons (se_gi G_REGISTERS) sa_nil)) (blkOk_by (N := N_first_state_states) (sc := defScope s_first_state_states) (by decide +kernel)) (fun _ _ _ _ _ => (sg_n sc_first_state_states.nd rfl (by first | exact .inl rfl | exact .inr rfl))) (fun _ _ _ _ _ => sts_nil) (fun _ _ _ _ _ => (se_ifx (st_cmp (op_in' K (hu_of hr)) lf_in (se_v 3) (se_v 1)) (se_gr G_SECRET.1 G_SECRET.2) (se_gr G_ZERO.1 G_ZERO.2))) own1)) sa_nil)))
    (sss_one (sp_ret (se_tup (sa_cons se_int (sa_cons (se_v 2) (sa_cons (se_bin (op_mul' K) lf_mul (se_tup (sa_cons (se_tup (sa_cons (se_gr G_ZERO.1 G_ZERO.2) (sa_cons (se_gr G_ZERO.1 G_ZERO.2) (sa_cons se_non sa_nil)))) sa_nil)) (se_gi G_SLOTS)) (sa_cons (se_tup sa_nil) (sa_cons se_non sa_nil))))))))))
theorem fx_item_at (Fn : FunD K "item_at" "item_at" (defArgs s_item_at) (defBody s_item_at) (defScope s_item_at) [.int 0] [] f fd) (hmg : mg "item_at" = some (.ref f)) (hb : ∃ ds, Vals [] ds ∧ Binds K fd ["values", "k", "otherwise"] ds) (B : Bn mg) : Fx P w K mg base (1) "item_at" 3 m_item_at :=
  (fxd_mkL (g := g_item_at) 3 1 [] Fn sc_item_at hmg hb (fun _ => .nil) (by decide) rfl rfl rfl fun cdv A outer s H W hr => (sss_one (sp_ret (se_ifx (st_chain op_le op_lt lf_le lf_lt se_int (se_v 1) (se_callB (cl_len K) lf_len (by rfl) B.len PySem.boot_len (sa_cons (se_v 0) sa_nil))) (sx_ix K (hu_of hr) (se_v 0) (se_v 1)) (se_v 2)))) : FxD P w K mg base 1 "item_at" 3 [] [] m_item_at).fx
theorem fxd_item_at (Fn : FunD K "item_at" "item_at" (defArgs s_item_at) (defBody s_item_at) (defScope s_item_at) [.int 0] [] f fd) (hmg : mg "item_at" = some (.ref f)) (hb : ∃ ds, Vals [.int 0] ds ∧ Binds K fd ["values", "k", "otherwise"] ds) (B : Bn mg) : FxD P w K mg base 1 "item_at" 2 [.int 0] [.int 0] m_item_at :=
  fxd_mkL (g := g_item_at) 2 0 [.int 0] Fn sc_item_at hmg hb (fun _ => (.cons (rep_int.mpr rfl) .nil)) (by decide) rfl rfl rfl fun cdv A outer s H W hr => (sss_one (sp_ret (se_ifx (st_chain op_le op_lt lf_le lf_lt se_int (se_v 1) (se_callB (cl_len K) lf_len (by rfl) B.len PySem.boot_len (sa_cons (se_v 0) sa_nil))) (sx_ix K (hu_of hr) (se_v 0) (se_v 1)) (se_v 2))))
theorem fx_row_at (Fn : Fun K "row_at" "row_at" s_row_at f fd) (hmg : mg "row_at" = some (.ref f)) (hb : Binds K fd ["program", "place"] []) (B : Bn mg) (F_item_at : Fx P w K mg base (1) "item_at" 3 m_item_at) : Fx P w K mg base (2) "row_at" 2 m_row_at :=
  fx_mkL (g := g_row_at) Fn sc_row_at hmg hb (by decide) rfl rfl fun cdv A outer s H W hr => (sss_one (sp_ret (se_ifx (st_cmp op_isA lf_is (se_v 1) se_non) se_non (sx_call K F_item_at (hr.mono (by first | decide | omega)) (by rfl) (sa_cons (sx_ix K (hu_of hr) (se_v 0) se_str) (sa_cons (se_v 1) (sa_cons se_non sa_nil)))))))
theorem fx_made_row (Fn : Fun K "made_row" "made_row" s_made_row f fd) (hmg : mg "made_row" = some (.ref f)) (hb : Binds K fd ["program", "state", "window"] []) (B : Bn mg) (F_row_at : Fx P w K mg base (2) "row_at" 2 m_row_at) : Fx P w K mg base (3) "made_row" 3 m_made_row :=
  fx_mkL (g := g_made_row) Fn sc_made_row hmg hb (by decide) rfl rfl fun cdv A outer s H W hr => (sss_cons (sp_set sc_made_row.nd rfl (by first | exact .inl rfl | exact .inr rfl) (sx_call K F_row_at (hr.mono (by first | decide | omega)) (by rfl) (sa_cons (se_v 0) (sa_cons (sx_ix K (hu_of hr) (se_v 1) se_int) sa_nil))))
    (sss_cons (sp_set sc_made_row.nd rfl (by first | exact .inl rfl | exact .inr rfl) (sx_ix K (hu_of hr) (se_v 1) se_int))
    (sss_cons (sp_if (sw_t (sw_or (st_cmp op_isA lf_is (se_v 3) se_non) (sw_or1 (st_cmp (op_eq' K hr.units) lf_eq (sx_ix K (hu_of hr) (se_v 3) se_int) se_str)))) (sss_one (sp_ret se_non)) sss_nil)
    (sss_cons (sp_if (st_cmp op_isA lf_is (se_v 4) se_non) (sss_one (sp_ret (se_v 3))) sss_nil)
    (sss_cons (sp_if (sw_t (sw_or (st_cmp (op_eq' K hr.units) lf_eq (sx_ix K (hu_of hr) (se_v 3) se_int) se_str) (sw_or1 (sw_t (sw_and (st_cmp op_isnA lf_isn (se_v 2) se_non) (sw_and1 (st_cmp op_ge lf_ge (se_v 4) (se_v 2)))))))) (sss_one (sp_ret se_non)) sss_nil)
    (sss_one (sp_ret (se_v 3))))))))
theorem fx_is_natural (Fn : Fun K "is_natural" "is_natural" s_is_natural f fd) (hmg : mg "is_natural" = some (.ref f)) (hb : Binds K fd ["value"] []) (B : Bn mg) : Fx P w K mg base (1) "is_natural" 1 m_is_natural :=
  fx_mkL (g := g_is_natural) Fn sc_is_natural hmg hb (by decide) rfl rfl fun cdv A outer s H W hr => (sss_one (sp_ret (se_and (se_cmp op_isA lf_is (se_callTy (cl_type K) lf_type (by rfl) B.type mb_type (sa_cons (se_v 0) sa_nil)) (se_ty (by rfl) B.int mb_int)) (se_one (se_cmp op_ge lf_ge (se_v 0) se_int)))))
theorem fx_is_window (Fn : Fun K "is_window" "is_window" s_is_window f fd) (hmg : mg "is_window" = some (.ref f)) (hb : Binds K fd ["value"] []) (B : Bn mg) (F_is_natural : Fx P w K mg base (1) "is_natural" 1 m_is_natural) : Fx P w K mg base (2) "is_window" 1 m_is_window :=
  fx_mkL (g := g_is_window) Fn sc_is_window hmg hb (by decide) rfl rfl fun cdv A outer s H W hr => (sss_one (sp_ret (se_or (se_cmp op_isA lf_is (se_v 0) se_non) (se_one (sx_call K F_is_natural (hr.mono (by first | decide | omega)) (by rfl) (sa_cons (se_v 0) sa_nil))))))
theorem fx_kind_of (Fn : Fun K "kind_of" "kind_of" s_kind_of f fd) (hmg : mg "kind_of" = some (.ref f)) (hb : Binds K fd ["state", "r"] []) (B : Bn mg) {d_ZERO : Addr} (G_ZERO : mg "ZERO" = some (.ref d_ZERO) ∧ ∀ F, Rep K F (.kt [.str "zero"]) (.ref d_ZERO)) (F_item_at : Fx P w K mg base (1) "item_at" 3 m_item_at) : Fx P w K mg base (2) "kind_of" 2 m_kind_of :=
  fx_mkL (g := g_kind_of) Fn sc_kind_of hmg hb (by decide) rfl rfl fun cdv A outer s H W hr => (sss_one (sp_ret (sx_call K F_item_at (hr.mono (by first | decide | omega)) (by rfl) (sa_cons (sx_ix K (hu_of hr) (se_v 0) se_int) (sa_cons (se_v 1) (sa_cons (se_gr G_ZERO.1 G_ZERO.2) sa_nil))))))
theorem fx_shows_secret (Fn : Fun K "shows_secret" "shows_secret" s_shows_secret f fd) (hmg : mg "shows_secret" = some (.ref f)) (hb : Binds K fd ["row", "state"] []) (B : Bn mg) (F_kind_of : Fx P w K mg base (2) "kind_of" 2 m_kind_of) : Fx P w K mg base (3) "shows_secret" 2 m_shows_secret :=
  fx_mkL (g := g_shows_secret) Fn sc_shows_secret hmg hb (by decide) rfl rfl fun cdv A outer s H W hr => (sss_cons (sp_if (st_cmp (op_eq' K hr.units) lf_eq (sx_ix K (hu_of hr) (se_v 0) se_int) se_str) (sss_one (sp_ret (se_cmp (op_eq' K hr.units) lf_eq (sx_ix K (hu_of hr) (sx_call K F_kind_of (hr.mono (by first | decide | omega)) (by rfl) (sa_cons (se_v 1) (sa_cons (sx_ix K (hu_of hr) (se_v 0) se_int) sa_nil))) se_int) se_str))) sss_nil)
    (sss_cons (sp_if (st_cmp (op_neS K hr.units) lf_neS (sx_ix K (hu_of hr) (se_v 0) se_int) se_str) (sss_one (sp_ret se_bl)) sss_nil)
    (sss_cons (sp_set sc_shows_secret.nd rfl (by first | exact .inl rfl | exact .inr rfl) (sx_call K F_kind_of (hr.mono (by first | decide | omega)) (by rfl) (sa_cons (se_v 1) (sa_cons (sx_ix K (hu_of hr) (se_v 0) se_int) sa_nil))))
    (sss_one (sp_ret (se_and (se_cmp (op_eq' K hr.units) lf_eq (sx_ix K (hu_of hr) (se_v 2) se_int) se_str) (se_one (se_cmp (op_nin' K (hu_of hr)) lf_nin (sx_ix K (hu_of hr) (se_v 0) se_int) (sx_ix K (hu_of hr) (se_v 2) se_int)))))))))
theorem fx_is_leak (Fn : Fun K "is_leak" "is_leak" s_is_leak f fd) (hmg : mg "is_leak" = some (.ref f)) (hb : Binds K fd ["program", "state", "window"] []) (B : Bn mg) (F_is_window : Fx P w K mg base (2) "is_window" 1 m_is_window) (F_made_row : Fx P w K mg base (3) "made_row" 3 m_made_row) (F_shows_secret : Fx P w K mg base (3) "shows_secret" 2 m_shows_secret) : Fx P w K mg base (4) "is_leak" 3 m_is_leak :=
  fx_mkL (g := g_is_leak) Fn sc_is_leak hmg hb (by decide) rfl rfl fun cdv A outer s H W hr => (sss_cons (sp_if (st_not (st_val (sx_call K F_is_window (hr.mono (by first | decide | omega)) (by rfl) (sa_cons (se_v 2) sa_nil)))) (sss_one sp_never) sss_nil)
    (sss_cons (sp_set sc_is_leak.nd rfl (by first | exact .inl rfl | exact .inr rfl) (sx_call K F_made_row (hr.mono (by first | decide | omega)) (by rfl) (sa_cons (se_v 0) (sa_cons (se_v 1) (sa_cons (se_v 2) sa_nil)))))
    (sss_one (sp_ret (se_and (se_cmp op_isnA lf_isn (se_v 3) se_non) (se_one (sx_call K F_shows_secret (hr.mono (by first | decide | omega)) (by rfl) (sa_cons (se_v 3) (sa_cons (se_v 1) sa_nil)))))))))
theorem fx_changed (Fn : Fun K "changed" "changed" s_changed f fd) (hmg : mg "changed" = some (.ref f)) (hb : Binds K fd ["values", "at", "value"] []) (B : Bn mg) : Fx P w K mg base (1) "changed" 3 m_changed :=
  fx_mkL (g := g_changed) Fn sc_changed hmg hb (by decide) rfl rfl fun cdv A outer s H W hr => (sss_one (sp_ret (se_callTy (cl_tuple K) lf_tuple (by rfl) B.tuple mb_tuple (sa_cons (sn_e (sn_lc (own := [("k", 3), ("old", 4)]) rfl sc_changed.nd (sx_enum K (by rfl) B.enumerate (sa_cons (se_v 0) sa_nil)) (blkOk_by (N := N_changed) (sc := defScope s_changed) (by decide +kernel)) (fun _ _ _ _ _ => (sx_t K rfl (sgs_cons (sg_n sc_changed.nd rfl (by first | exact .inl rfl | exact .inr rfl)) (sgs_cons (sg_n sc_changed.nd rfl (by first | exact .inl rfl | exact .inr rfl)) sgs_nil)) gs_len2)) (fun _ _ _ _ _ => sts_nil) (fun _ _ _ _ _ => (se_ifx (st_cmp (op_eq' K hr.units) lf_eq (se_v 3) (se_v 1)) (se_v 2) (se_v 4))) own2)) sa_nil))))
theorem fx_with_fact (Fn : Fun K "with_fact" "with_fact" s_with_fact f fd) (hmg : mg "with_fact" = some (.ref f)) (hb : Binds K fd ["facts", "number", "array", "truth"] []) (B : Bn mg) (F_changed : Fx P w K mg base (1) "changed" 3 m_changed) : Fx P w K mg base (2) "with_fact" 4 m_with_fact :=
  fx_mkL (g := g_with_fact) Fn sc_with_fact hmg hb (by decide) rfl rfl fun cdv A outer s H W hr => (sss_one (sp_ret (sx_call K F_changed (hr.mono (by first | decide | omega)) (by rfl) (sa_cons (se_v 0) (sa_cons (se_v 1) (sa_cons (sx_call K F_changed (hr.mono (by first | decide | omega)) (by rfl) (sa_cons (sx_ix K (hu_of hr) (se_v 0) (se_v 1)) (sa_cons (se_v 2) (sa_cons (se_v 3) sa_nil)))) sa_nil))))))
theorem fx_cases (Fn : Fun K "cases" "cases" s_cases f fd) (hmg : mg "cases" = some (.ref f)) (hb : Binds K fd ["row", "state"] []) (B : Bn mg) {d_ASKING : Addr} (G_ASKING : mg "ASKING" = some (.ref d_ASKING)) (T_ASKING : KTab K w d_ASKING tab_ASKING) {d_ZERO : Addr} (G_ZERO : mg "ZERO" = some (.ref d_ZERO) ∧ ∀ F, Rep K F (.kt [.str "zero"]) (.ref d_ZERO)) (F_item_at : Fx P w K mg base (1) "item_at" 3 m_item_at) (F_kind_of : Fx P w K mg base (2) "kind_of" 2 m_kind_of) (F_with_fact : Fx P w K mg base (2) "with_fact" 4 m_with_fact) : Fx P w K mg base (3) "cases" 2 m_cases :=
  fx_mkL (g := g_cases) Fn sc_cases hmg hb (by decide) rfl rfl fun cdv A outer s H W hr => (sss_cons (sp_set sc_cases.nd rfl (by first | exact .inl rfl | exact .inr rfl) (sx_ix K (hu_of hr) (se_v 1) se_int))
    (sss_cons (sp_if (tx_knin K T_ASKING (sx_ix K (hu_of hr) (se_v 0) se_int) (by rfl) G_ASKING) (sss_one (sp_ret (sn_e (sn_lst (sa_cons (se_tup (sa_cons se_bl (sa_cons se_non (sa_cons (se_v 2) sa_nil)))) sa_nil))))) sss_nil)
    (sss_cons (sp_set sc_cases.nd rfl (by first | exact .inl rfl | exact .inr rfl) (sx_ix K (hu_of hr) (se_v 0) se_int))
    (sss_cons (sp_set sc_cases.nd rfl (by first | exact .inl rfl | exact .inr rfl) (sx_call K F_kind_of (hr.mono (by first | decide | omega)) (by rfl) (sa_cons (se_v 1) (sa_cons (sx_ix K (hu_of hr) (se_v 0) (sx_kix K T_ASKING (sx_ix K (hu_of hr) (se_v 0) se_int) (by rfl) G_ASKING)) sa_nil))))
    (sss_cons (sp_if (st_cmp (op_neS K hr.units) lf_neS (sx_ix K (hu_of hr) (se_v 4) se_int) se_str) (sss_one (sp_ret (sn_e (sn_lst (sa_cons (se_tup (sa_cons (se_or (se_cmp (op_eq' K hr.units) lf_eq (se_v 4) (se_gr G_ZERO.1 G_ZERO.2)) (se_one (se_cmp (op_in' K (hu_of hr)) lf_in (se_v 3) (sx_ix K (hu_of hr) (se_v 4) se_int)))) (sa_cons se_non (sa_cons (se_v 2) sa_nil)))) sa_nil))))) sss_nil)
    (sss_cons (sp_set sc_cases.nd rfl (by first | exact .inl rfl | exact .inr rfl) (sx_ix K (hu_of hr) (se_v 4) se_int))
    (sss_cons (sp_set sc_cases.nd rfl (by first | exact .inl rfl | exact .inr rfl) (sx_call K F_item_at (hr.mono (by first | decide | omega)) (by rfl) (sa_cons (sx_ix K (hu_of hr) (se_v 2) (se_v 5)) (sa_cons (se_v 3) (sa_cons se_non sa_nil)))))
    (sss_cons (sp_if (st_cmp op_isnA lf_isn (se_v 6) se_non) (sss_one (sp_ret (sn_e (sn_lst (sa_cons (se_tup (sa_cons (se_v 6) (sa_cons se_non (sa_cons (se_v 2) sa_nil)))) sa_nil))))) sss_nil)
    (sss_one (sp_ret (sn_e (sn_lc (own := [("truth", 7)]) rfl sc_cases.nd (sx_seq K (se_tup (sa_cons se_bl (sa_cons se_bl sa_nil)))) (blkOk_by (N := N_cases) (sc := defScope s_cases) (by decide +kernel)) (fun _ _ _ _ _ => (sg_n sc_cases.nd rfl (by first | exact .inl rfl | exact .inr rfl))) (fun _ _ _ _ _ => sts_nil) (fun _ _ _ _ _ => (se_tup (sa_cons (se_v 7) (sa_cons (se_tup (sa_cons (se_v 3) (sa_cons (se_v 7) sa_nil))) (sa_cons (sx_call K F_with_fact (hr.mono (by first | decide | omega)) (by rfl) (sa_cons (se_v 2) (sa_cons (se_v 5) (sa_cons (se_v 3) (sa_cons (se_v 7) sa_nil))))) sa_nil))))) own1))))))))))))
theorem fx_bounded (Fn : Fun K "bounded" "bounded" s_bounded f fd) (hmg : mg "bounded" = some (.ref f)) (hb : Binds K fd ["present", "old", "age", "window"] []) (B : Bn mg) {d_ZERO : Addr} (G_ZERO : mg "ZERO" = some (.ref d_ZERO) ∧ ∀ F, Rep K F (.kt [.str "zero"]) (.ref d_ZERO)) : Fx P w K mg base (1) "bounded" 4 m_bounded :=
  fx_mkL (g := g_bounded) Fn sc_bounded hmg hb (by decide) rfl rfl fun cdv A outer s H W hr => (sss_cons (sp_if (sw_t (sw_or (st_cmp op_isA lf_is (se_v 2) se_non) (sw_or1 (sw_t (sw_and (st_cmp op_isnA lf_isn (se_v 3) se_non) (sw_and1 (st_cmp op_ge lf_ge (se_v 2) (se_v 3)))))))) (sss_one (sp_ret (se_tup (sa_cons (se_v 0) (sa_cons (se_gr G_ZERO.1 G_ZERO.2) (sa_cons se_non sa_nil)))))) sss_nil)
    (sss_one (sp_ret (se_tup (sa_cons (se_v 0) (sa_cons (se_v 1) (sa_cons (se_ifx (st_cmp op_isA lf_is (se_v 3) se_non) se_int (se_v 2)) sa_nil)))))))
theorem fx_next_slot (Fn : Fun K "next_slot" "next_slot" s_next_slot f fd) (hmg : mg "next_slot" = some (.ref f)) (hb : Binds K fd ["row", "state", "window", "s"] []) (B : Bn mg) {d_ZERO : Addr} (G_ZERO : mg "ZERO" = some (.ref d_ZERO) ∧ ∀ F, Rep K F (.kt [.str "zero"]) (.ref d_ZERO)) (F_bounded : Fx P w K mg base (1) "bounded" 4 m_bounded) (F_kind_of : Fx P w K mg base (2) "kind_of" 2 m_kind_of) : Fx P w K mg base (3) "next_slot" 4 m_next_slot :=
  fx_mkL (g := g_next_slot) Fn sc_next_slot hmg hb (by decide) rfl rfl fun cdv A outer s H W hr => (sss_cons (sp_asgT (sx_ix K (hu_of hr) (sx_ix K (hu_of hr) (se_v 1) se_int) (se_v 3)) (sx_t K rfl (sgs_cons (sg_n sc_next_slot.nd rfl (by first | exact .inl rfl | exact .inr rfl)) (sgs_cons (sg_n sc_next_slot.nd rfl (by first | exact .inl rfl | exact .inr rfl)) (sgs_cons (sg_n sc_next_slot.nd rfl (by first | exact .inl rfl | exact .inr rfl)) sgs_nil))) gs_len3))
    (sss_cons (sp_if (st_cmp (op_eq' K hr.units) lf_eq (sx_ix K (hu_of hr) (se_v 0) se_int) se_str) (sss_one (sp_ret (se_tup (sa_cons (se_v 4) (sa_cons (se_gr G_ZERO.1 G_ZERO.2) (sa_cons se_non sa_nil)))))) sss_nil)
    (sss_cons (sp_if (sw_t (sw_and (st_cmp (op_eq' K hr.units) lf_eq (sx_ix K (hu_of hr) (se_v 0) se_int) se_str) (sw_and1 (st_cmp (op_eq' K hr.units) lf_eq (sx_ix K (hu_of hr) (se_v 0) se_int) (se_v 3))))) (sss_one (sp_ret (sx_call K F_bounded (hr.mono (by first | decide | omega)) (by rfl) (sa_cons (sx_call K F_kind_of (hr.mono (by first | decide | omega)) (by rfl) (sa_cons (se_v 1) (sa_cons (sx_ix K (hu_of hr) (se_v 0) se_int) sa_nil))) (sa_cons (se_v 4) (sa_cons se_int (sa_cons (se_v 2) sa_nil))))))) sss_nil)
    (sss_one (sp_ret (sx_call K F_bounded (hr.mono (by first | decide | omega)) (by rfl) (sa_cons (se_v 4) (sa_cons (se_v 5) (sa_cons (se_ifx (st_cmp op_isA lf_is (se_v 6) se_non) se_non (se_bin (op_add' K) lf_add (se_v 6) se_int)) (sa_cons (se_v 2) sa_nil))))))))))
theorem fx_next_place (Fn : Fun K "next_place" "next_place" s_next_place f fd) (hmg : mg "next_place" = some (.ref f)) (hb : Binds K fd ["row", "place", "way"] []) (B : Bn mg) : Fx P w K mg base (1) "next_place" 3 m_next_place :=
  fx_mkL (g := g_next_place) Fn sc_next_place hmg hb (by decide) rfl rfl fun cdv A outer s H W hr => (sss_cons (sp_set sc_next_place.nd rfl (by first | exact .inl rfl | exact .inr rfl) (sx_ix K (hu_of hr) (se_v 0) se_int))
    (sss_cons (sp_if (st_cmp (op_eq' K hr.units) lf_eq (se_v 3) se_str) (sss_one (sp_ret se_non)) sss_nil)
    (sss_cons (sp_if (st_cmp (op_eq' K hr.units) lf_eq (se_v 3) se_str) (sss_one (sp_ret (sx_ix K (hu_of hr) (se_v 0) se_int))) sss_nil)
    (sss_cons (sp_if (sw_t (sw_and (st_cmp (op_eq' K hr.units) lf_eq (se_v 3) se_str) (sw_and1 (st_cmp (op_eq' K hr.units) lf_eq (se_v 2) se_str)))) (sss_one (sp_ret (sx_ix K (hu_of hr) (se_v 0) se_int))) sss_nil)
    (sss_one (sp_ret (se_bin (op_add' K) lf_add (se_v 1) se_int)))))))
theorem fx_masked (Fn : Fun K "masked" "masked" s_masked f fd) (hmg : mg "masked" = some (.ref f)) (hb : Binds K fd ["kind", "array", "truth"] []) (B : Bn mg) {d_ZERO : Addr} (G_ZERO : mg "ZERO" = some (.ref d_ZERO) ∧ ∀ F, Rep K F (.kt [.str "zero"]) (.ref d_ZERO)) : Fx P w K mg base (1) "masked" 3 m_masked :=
  fx_mkL (g := g_masked) Fn sc_masked hmg hb (by decide) rfl rfl fun cdv A outer s H W hr => (sss_cons (sp_if (st_cmp (op_eq' K hr.units) lf_eq (sx_ix K (hu_of hr) (se_v 0) se_int) se_str) (sss_one (sp_ret (se_ifx (st_val (se_v 2)) (se_v 0) (se_gr G_ZERO.1 G_ZERO.2)))) sss_nil)
    (sss_cons (sp_if (sw_t (sw_or (st_cmp (op_eq' K hr.units) lf_eq (sx_ix K (hu_of hr) (se_v 0) se_int) se_str) (sw_or1 (st_cmp (op_in' K (hu_of hr)) lf_in (se_v 1) (sx_ix K (hu_of hr) (se_v 0) se_int))))) (sss_one (sp_ret (se_v 0))) sss_nil)
    (sss_one (sp_ret (se_tup (sa_cons se_str (sa_cons (se_callTy (cl_tuple K) lf_tuple (by rfl) B.tuple mb_tuple (sa_cons (sn_e (sn_callB L2.cr_sortedI lf_sortedI (by rfl) B.sorted mb_sorted (sa_cons (sn_e (sn_lst (sa_star K (sx_ix K (hu_of hr) (se_v 0) se_int) (sa_cons (se_v 1) sa_nil)))) sa_nil))) sa_nil)) sa_nil)))))))
theorem fx_slot_of (Fn : Fun K "slot_of" "slot_of" s_slot_of f fd) (hmg : mg "slot_of" = some (.ref f)) (hb : Binds K fd ["state", "s"] []) (B : Bn mg) {d_ZERO : Addr} (G_ZERO : mg "ZERO" = some (.ref d_ZERO) ∧ ∀ F, Rep K F (.kt [.str "zero"]) (.ref d_ZERO)) (F_item_at : Fx P w K mg base (1) "item_at" 3 m_item_at) : Fx P w K mg base (2) "slot_of" 2 m_slot_of :=
  fx_mkL (g := g_slot_of) Fn sc_slot_of hmg hb (by decide) rfl rfl fun cdv A outer s H W hr => (sss_one (sp_ret (sx_call K F_item_at (hr.mono (by first | decide | omega)) (by rfl) (sa_cons (sx_ix K (hu_of hr) (se_v 0) se_int) (sa_cons (se_v 1) (sa_cons (se_tup (sa_cons (se_gr G_ZERO.1 G_ZERO.2) (sa_cons (se_gr G_ZERO.1 G_ZERO.2) (sa_cons se_non sa_nil)))) sa_nil))))))
theorem fx_given_states (Fn : Fun K "given" "given" s_given_states f fd) (hmg : mg "given" = some (.ref f)) (hb : Binds K fd ["row", "state", "truth"] []) (B : Bn mg) {d_SECRET : Addr} (G_SECRET : mg "SECRET" = some (.ref d_SECRET) ∧ ∀ F, Rep K F (.kt [.str "secret", .kt []]) (.ref d_SECRET)) (F_kind_of : Fx P w K mg base (2) "kind_of" 2 m_kind_of) (F_masked : Fx P w K mg base (1) "masked" 3 m_masked) (F_slot_of : Fx P w K mg base (2) "slot_of" 2 m_slot_of) : Fx P w K mg base (3) "given" 3 m_given_states :=
  fx_mkL (g := g_given_states) Fn sc_given_states hmg hb (by decide) rfl rfl fun cdv A outer s H W hr => (sss_cons (sp_set sc_given_states.nd rfl (by first | exact .inl rfl | exact .inr rfl) (se_tup (sa_cons se_str (sa_cons (se_callB (cl_len K) lf_len (by rfl) B.len PySem.boot_len (sa_cons (sx_ix K (hu_of hr) (se_v 1) se_int) sa_nil)) sa_nil))))
    (sss_cons (sp_set sc_given_states.nd rfl (by first | exact .inl rfl | exact .inr rfl) (sx_ix K (hu_of hr) (se_v 0) se_int))
    (sss_cons (sp_if (st_cmp (op_eq' K hr.units) lf_eq (se_v 4) se_str) (sss_one (sp_ret (se_ifx (st_cmp (op_in' K (hu_of hr)) lf_in se_str (se_tup (sa_cons (sx_ix K (hu_of hr) (sx_call K F_kind_of (hr.mono (by first | decide | omega)) (by rfl) (sa_cons (se_v 1) (sa_cons (sx_ix K (hu_of hr) (se_v 0) se_int) sa_nil))) se_int) (sa_cons (sx_ix K (hu_of hr) (sx_call K F_kind_of (hr.mono (by first | decide | omega)) (by rfl) (sa_cons (se_v 1) (sa_cons (sx_ix K (hu_of hr) (se_v 0) se_int) sa_nil))) se_int) sa_nil)))) (se_gr G_SECRET.1 G_SECRET.2) (se_v 3)))) sss_nil)
    (sss_cons (sp_if (st_cmp (op_eq' K hr.units) lf_eq (se_v 4) se_str) (sss_one (sp_ret (se_ifx (st_val (se_v 2)) (se_v 3) (se_gr G_SECRET.1 G_SECRET.2)))) sss_nil)
    (sss_cons (sp_if (st_cmp (op_eq' K hr.units) lf_eq (se_v 4) se_str) (sss_one (sp_ret (sx_call K F_masked (hr.mono (by first | decide | omega)) (by rfl) (sa_cons (sx_call K F_kind_of (hr.mono (by first | decide | omega)) (by rfl) (sa_cons (se_v 1) (sa_cons (sx_ix K (hu_of hr) (se_v 0) se_int) sa_nil))) (sa_cons (sx_ix K (hu_of hr) (se_v 0) se_int) (sa_cons (se_v 2) sa_nil)))))) sss_nil)
    (sss_cons (sp_if (st_cmp (op_eq' K hr.units) lf_eq (se_v 4) se_str) (sss_one (sp_ret (sx_ix K (hu_of hr) (sx_call K F_slot_of (hr.mono (by first | decide | omega)) (by rfl) (sa_cons (se_v 1) (sa_cons (sx_ix K (hu_of hr) (se_v 0) se_int) sa_nil))) se_int))) sss_nil)
    (sss_one (sp_ret (se_v 3)))))))))
theorem fx_real_step (Fn : Fun K "real_step" "real_step" s_real_step f fd) (hmg : mg "real_step" = some (.ref f)) (hb : Binds K fd ["row", "state", "truth"] []) (B : Bn mg) {d_GIVING : Addr} (G_GIVING : mg "GIVING" = some (.ref d_GIVING) ∧ ∀ F, Rep K F (.kt [.str "ask", .str "mix", .str "load", .str "mask", .str "get"]) (.ref d_GIVING)) (F_changed : Fx P w K mg base (1) "changed" 3 m_changed) (F_given_states : Fx P w K mg base (3) "given" 3 m_given_states) (F_next_place : Fx P w K mg base (1) "next_place" 3 m_next_place) : Fx P w K mg base (4) "real_step" 3 m_real_step :=
  fx_mkL (g := g_real_step) Fn sc_real_step hmg hb (by decide) rfl rfl fun cdv A outer s H W hr => (sss_cons (sp_set sc_real_step.nd rfl (by first | exact .inl rfl | exact .inr rfl) (sx_call K F_next_place (hr.mono (by first | decide | omega)) (by rfl) (sa_cons (se_v 0) (sa_cons (sx_ix K (hu_of hr) (se_v 1) se_int) (sa_cons (se_ifx (st_val (se_v 2)) se_str se_str) sa_nil)))))
    (sss_cons (sp_if (st_cmp (op_nin' K (hu_of hr)) lf_nin (sx_ix K (hu_of hr) (se_v 0) se_int) (se_gr G_GIVING.1 G_GIVING.2)) (sss_one (sp_ret (se_tup (sa_cons (se_v 3) (sa_cons (sx_ix K (hu_of hr) (se_v 1) se_int) sa_nil))))) sss_nil)
    (sss_one (sp_ret (se_tup (sa_cons (se_v 3) (sa_cons (sx_call K F_changed (hr.mono (by first | decide | omega)) (by rfl) (sa_cons (sx_ix K (hu_of hr) (se_v 1) se_int) (sa_cons (sx_ix K (hu_of hr) (se_v 0) se_int) (sa_cons (sx_call K F_given_states (hr.mono (by first | decide | omega)) (by rfl) (sa_cons (se_v 0) (sa_cons (se_v 1) (sa_cons (se_v 2) sa_nil)))) sa_nil)))) sa_nil)))))))
theorem fx_wrong_guess (Fn : Fun K "wrong_guess" "wrong_guess" s_wrong_guess f fd) (hmg : mg "wrong_guess" = some (.ref f)) (hb : Binds K fd ["row", "state", "window", "truth"] []) (B : Bn mg) (F_changed : Fx P w K mg base (1) "changed" 3 m_changed) (F_next_place : Fx P w K mg base (1) "next_place" 3 m_next_place) (F_slot_of : Fx P w K mg base (2) "slot_of" 2 m_slot_of) : Fx P w K mg base (3) "wrong_guess" 4 m_wrong_guess :=
  fx_mkL (g := g_wrong_guess) Fn sc_wrong_guess hmg hb (by decide) rfl rfl fun cdv A outer s H W hr => (sss_cons (sp_par rfl sc_wrong_guess.nd rfl rfl (by decide) rfl rfl (sa_cons (sx_ix K (hu_of hr) (se_v 1) se_int) (sa_cons (sx_ix K (hu_of hr) (se_v 1) se_int) sa_nil)))
    (sss_cons (sp_if (sw_t (sw_and (st_cmp (op_eq' K hr.units) lf_eq (sx_ix K (hu_of hr) (se_v 0) se_int) se_str) (sw_and1 (st_cmp (op_neS K hr.units) lf_neS (se_v 2) se_int)))) (sss_cons (sp_set sc_wrong_guess.nd rfl (by first | exact .inl rfl | exact .inr rfl) (se_ifx (st_val (se_v 3)) se_str se_str))
    (sss_one (sp_ret (se_tup (sa_cons (se_tup (sa_cons se_str (sa_cons (se_v 6) sa_nil))) (sa_cons (sx_call K F_next_place (hr.mono (by first | decide | omega)) (by rfl) (sa_cons (se_v 0) (sa_cons (se_v 4) (sa_cons (se_v 6) sa_nil)))) (sa_cons (se_v 5) sa_nil))))))) sss_nil)
    (sss_cons (sp_if (st_cmp (op_neS K hr.units) lf_neS (sx_ix K (hu_of hr) (se_v 0) se_int) se_str) (sss_one (sp_ret se_non)) sss_nil)
    (sss_cons (sp_asgT (sx_call K F_slot_of (hr.mono (by first | decide | omega)) (by rfl) (sa_cons (se_v 1) (sa_cons (sx_ix K (hu_of hr) (se_v 0) se_int) sa_nil))) (sx_t K rfl (sgs_cons (sg_n sc_wrong_guess.nd rfl (by first | exact .inl rfl | exact .inr rfl)) (sgs_cons (sg_n sc_wrong_guess.nd rfl (by first | exact .inl rfl | exact .inr rfl)) (sgs_cons (sg_n sc_wrong_guess.nd rfl (by first | exact .inl rfl | exact .inr rfl)) sgs_nil))) gs_len3))
    (sss_cons (sp_if (sw_t (sw_or (st_cmp op_isA lf_is (se_v 9) se_non) (sw_or1 (sw_t (sw_and (st_cmp op_isnA lf_isn (se_v 2) se_non) (sw_and1 (st_cmp op_ge lf_ge (se_v 9) (se_v 2)))))))) (sss_one (sp_ret se_non)) sss_nil)
    (sss_one (sp_ret (se_tup (sa_cons (se_tup (sa_cons se_str sa_nil)) (sa_cons (sx_call K F_next_place (hr.mono (by first | decide | omega)) (by rfl) (sa_cons (se_v 0) (sa_cons (se_v 4) (sa_cons se_non sa_nil)))) (sa_cons (sx_call K F_changed (hr.mono (by first | decide | omega)) (by rfl) (sa_cons (se_v 5) (sa_cons (sx_ix K (hu_of hr) (se_v 0) se_int) (sa_cons (se_v 8) sa_nil)))) sa_nil)))))))))))
theorem fx_public_numbers (Fn : Fun K "public_numbers" "public_numbers" s_public_numbers f fd) (hmg : mg "public_numbers" = some (.ref f)) (hb : Binds K fd ["registers", "slots"] []) (B : Bn mg) : FxW P w K mg base (1) "public_numbers" 2 wf_public_numbers :=
  fxw_mk (g := gw_public_numbers) Fn sc_public_numbers hmg hb (by decide) rfl rfl fun cdv A outer s H W hr => (s3_cons (s3_set sc_public_numbers.nd rfl (by first | exact .inl rfl | exact .inr rfl) (x3_newH (sn_callTy (cl_list K) lf_list (by rfl) B.list mb_list (sa_cons (se_v 0) sa_nil))))
    (s3_cons (s3_for PassesOwn.never rfl (sx_seq K (se_v 1)) (sx_t K rfl (sgs_cons (sg_n sc_public_numbers.nd rfl (by first | exact .inl rfl | exact .inr rfl)) (sgs_cons (sg_n sc_public_numbers.nd rfl (by first | exact .inl rfl | exact .inr rfl)) (sgs_cons (sg_n sc_public_numbers.nd rfl (by first | exact .inl rfl | exact .inr rfl)) sgs_nil))) gs_len3) (s3_one (s3_extA K (x3_hid (se_v 2)) (x3_hid (sn_e (sn_lst (sa_cons (se_v 5) (sa_cons (se_v 6) sa_nil))))))))
    (s3_cons (s3_set sc_public_numbers.nd rfl (by first | exact .inl rfl | exact .inr rfl) (x3_newH (sn_lst sa_nil)))
    (s3_cons (s3_forC K PassesOwn.never rfl (x3_hid (se_v 2)) (sg_n sc_public_numbers.nd rfl (by first | exact .inl rfl | exact .inr rfl)) (s3_one (s3_if (t3_v (sw_t (sw_and (st_cmp (op_eq' K hr.units) lf_eq (sx_ix K (hu_of hr) (se_v 4) se_int) se_str) (sw_and1 (st_cmp (op_nin' K (hu_of hr)) lf_nin (sx_ix K (hu_of hr) (se_v 4) se_int) (se_v 3)))))) (s3_one (s3_app (x3_hid (se_v 3)) (x3_hid (sx_ix K (hu_of hr) (se_v 4) se_int)))) s3_nil)))
    (s3_one (s3_ret (x3_give (x3_hid (se_v 3)))))))))
theorem fx_renamed (Fn : Fun K "renamed" "renamed" s_renamed f fd) (hmg : mg "renamed" = some (.ref f)) (hb : Binds K fd ["kind", "numbers"] []) (B : Bn mg) : Fx P w K mg base (1) "renamed" 2 m_renamed :=
  fx_mkL (g := g_renamed) Fn sc_renamed hmg hb (by decide) rfl rfl fun cdv A outer s H W hr => (sss_one (sp_ret (se_ifx (st_cmp (op_eq' K hr.units) lf_eq (sx_ix K (hu_of hr) (se_v 0) se_int) se_str) (se_tup (sa_cons se_str (sa_cons (sx_idxL K (se_v 1) (sx_ix K (hu_of hr) (se_v 0) se_int)) sa_nil))) (se_v 0))))
theorem fx_numbered (Fn : Fun K "numbered" "numbered" s_numbered f fd) (hmg : mg "numbered" = some (.ref f)) (hb : Binds K fd ["place", "registers", "slots", "facts", "depth"] []) (B : Bn mg) (F_public_numbers : Fx P w K mg base (1) "public_numbers" 2 m_public_numbers) (F_renamed : Fx P w K mg base (1) "renamed" 2 m_renamed) : Fx P w K mg base (2) "numbered" 5 m_numbered :=
  fx_mkL (g := g_numbered) Fn sc_numbered hmg hb (by decide) rfl rfl fun cdv A outer s H W hr => (sss_cons (sp_set sc_numbered.nd rfl (by first | exact .inl rfl | exact .inr rfl) (sx_call K F_public_numbers (hr.mono (by first | decide | omega)) (by rfl) (sa_cons (se_v 1) (sa_cons (se_v 2) sa_nil))))
    (sss_one (sp_ret (se_tup (sa_cons (se_v 0) (sa_cons (se_callTy (cl_tuple K) lf_tuple (by rfl) B.tuple mb_tuple (sa_cons (sn_e (sn_lc (own := [("kind", 6)]) rfl sc_numbered.nd (sx_seq K (se_v 1)) (blkOk_by (N := N_numbered) (sc := defScope s_numbered) (by decide +kernel)) (fun _ _ _ _ _ => (sg_n sc_numbered.nd rfl (by first | exact .inl rfl | exact .inr rfl))) (fun _ _ _ _ _ => sts_nil) (fun _ _ _ _ _ => (sx_call K F_renamed (hr.mono (by first | decide | omega)) (by rfl) (sa_cons (se_v 6) (sa_cons (se_v 5) sa_nil)))) own1)) sa_nil)) (sa_cons (se_callTy (cl_tuple K) lf_tuple (by rfl) B.tuple mb_tuple (sa_cons (sn_e (sn_lc (own := [("present", 8), ("old", 9), ("age", 10)]) rfl sc_numbered.nd (sx_seq K (se_v 2)) (blkOk_by (N := N_numbered) (sc := defScope s_numbered) (by decide +kernel)) (fun _ _ _ _ _ => (sx_t K rfl (sgs_cons (sg_n sc_numbered.nd rfl (by first | exact .inl rfl | exact .inr rfl)) (sgs_cons (sg_n sc_numbered.nd rfl (by first | exact .inl rfl | exact .inr rfl)) (sgs_cons (sg_n sc_numbered.nd rfl (by first | exact .inl rfl | exact .inr rfl)) sgs_nil))) gs_len3)) (fun _ _ _ _ _ => sts_nil) (fun _ _ _ _ _ => (se_tup (sa_cons (sx_call K F_renamed (hr.mono (by first | decide | omega)) (by rfl) (sa_cons (se_v 8) (sa_cons (se_v 5) sa_nil))) (sa_cons (sx_call K F_renamed (hr.mono (by first | decide | omega)) (by rfl) (sa_cons (se_v 9) (sa_cons (se_v 5) sa_nil))) (sa_cons (se_v 10) sa_nil))))) own3)) sa_nil)) (sa_cons (se_callTy (cl_tuple K) lf_tuple (by rfl) B.tuple mb_tuple (sa_cons (sn_e (sn_lc (own := [("number", 7)]) rfl sc_numbered.nd (sx_seq K (se_v 5)) (blkOk_by (N := N_numbered) (sc := defScope s_numbered) (by decide +kernel)) (fun _ _ _ _ _ => (sg_n sc_numbered.nd rfl (by first | exact .inl rfl | exact .inr rfl))) (fun _ _ _ _ _ => sts_nil) (fun _ _ _ _ _ => (sx_ix K (hu_of hr) (se_v 3) (se_v 7))) own1)) sa_nil)) (sa_cons (se_v 4) sa_nil)))))))))
theorem fx_deeper (Fn : Fun K "deeper" "deeper" s_deeper f fd) (hmg : mg "deeper" = some (.ref f)) (hb : Binds K fd ["depth", "window"] []) (B : Bn mg) : Fx P w K mg base (1) "deeper" 2 m_deeper :=
  fx_mkL (g := g_deeper) Fn sc_deeper hmg hb (by decide) rfl rfl fun cdv A outer s H W hr => (sss_cons (sp_if (st_cmp op_isA lf_is (se_v 0) se_non) (sss_one (sp_ret se_non)) sss_nil)
    (sss_one (sp_ret (se_ifx (st_cmp op_isA lf_is (se_v 1) se_non) se_int (se_bin (op_add' K) lf_add (se_v 0) se_int)))))
theorem fx_opened (Fn : Fun K "opened" "opened" s_opened f fd) (hmg : mg "opened" = some (.ref f)) (hb : Binds K fd ["depth", "window"] []) (B : Bn mg) (F_deeper : Fx P w K mg base (1) "deeper" 2 m_deeper) : Fx P w K mg base (2) "opened" 2 m_opened :=
  fx_mkL (g := g_opened) Fn sc_opened hmg hb (by decide) rfl rfl fun cdv A outer s H W hr => (sss_one (sp_ret (se_ifx (st_cmp op_isA lf_is (se_v 0) se_non) se_int (sx_call K F_deeper (hr.mono (by first | decide | omega)) (by rfl) (sa_cons (se_v 0) (sa_cons (se_v 1) sa_nil))))))
theorem fx_steps (Fn : Fun K "steps" "steps" s_steps f fd) (hmg : mg "steps" = some (.ref f)) (hb : Binds K fd ["program", "state", "window"] []) (B : Bn mg) {t_SLOTS : Tok} (G_SLOTS : mg "SLOTS" = some (.int 2 t_SLOTS)) {t_ARRAYS : Tok} (G_ARRAYS : mg "ARRAYS" = some (.int 2 t_ARRAYS)) (F_cases : Fx P w K mg base (3) "cases" 2 m_cases) (F_deeper : Fx P w K mg base (1) "deeper" 2 m_deeper) (F_is_window : Fx P w K mg base (2) "is_window" 1 m_is_window) (F_made_row : Fx P w K mg base (3) "made_row" 3 m_made_row) (F_next_slot : Fx P w K mg base (3) "next_slot" 4 m_next_slot) (F_numbered : Fx P w K mg base (2) "numbered" 5 m_numbered) (F_opened : Fx P w K mg base (2) "opened" 2 m_opened) (F_real_step : Fx P w K mg base (4) "real_step" 3 m_real_step) (F_shows_secret : Fx P w K mg base (3) "shows_secret" 2 m_shows_secret) (F_wrong_guess : Fx P w K mg base (3) "wrong_guess" 4 m_wrong_guess) : Fx P w K mg base (5) "steps" 3 m_steps :=
  fx_mkL (g := g_steps) Fn sc_steps hmg hb (by decide) rfl rfl fun cdv A outer s H W hr => (sss_cons (sp_if (st_not (st_val (sx_call K F_is_window (hr.mono (by first | decide | omega)) (by rfl) (sa_cons (se_v 2) sa_nil)))) (sss_one sp_never) sss_nil)
    (sss_cons (sp_set sc_steps.nd rfl (by first | exact .inl rfl | exact .inr rfl) (sx_call K F_made_row (hr.mono (by first | decide | omega)) (by rfl) (sa_cons (se_v 0) (sa_cons (se_v 1) (sa_cons (se_v 2) sa_nil)))))
    (sss_cons (sp_if (sw_t (sw_or (st_cmp op_isA lf_is (se_v 3) se_non) (sw_or1 (st_val (sx_call K F_shows_secret (hr.mono (by first | decide | omega)) (by rfl) (sa_cons (se_v 3) (sa_cons (se_v 1) sa_nil))))))) (sss_one (sp_ret (sn_e (sn_lst sa_nil)))) sss_nil)
    (sss_cons (sp_setLc (lc_pe (own := [("s", 12)]) rfl sc_steps.nd rfl rfl (sw_true rfl rfl rfl (by decide +kernel)) (si_r1 (by rfl) B.range (sa_cons (se_gi G_SLOTS) sa_nil)) (blkOk_by (N := N_steps) (sc := defScope s_steps) (by decide +kernel)) (fun _ _ _ _ _ => (sg_n sc_steps.nd rfl (by first | exact .inl rfl | exact .inr rfl))) (fun _ _ _ _ _ => sts_nil) (fun _ _ _ _ _ => (sx_call K F_next_slot (hr.mono (by first | decide | omega)) (by rfl) (sa_cons (se_v 3) (sa_cons (se_v 1) (sa_cons (se_v 2) (sa_cons (se_v 12) sa_nil)))))) own1))
    (sss_cons (sp_set sc_steps.nd rfl (by first | exact .inl rfl | exact .inr rfl) (sx_ix K (hu_of hr) (se_v 1) se_int))
    (sss_cons (sp_setN sc_steps.nd rfl (by first | exact .inl rfl | exact .inr rfl) (sn_lst sa_nil))
    (sss_cons (sp_for PassesOwn.never rfl (sx_seq K (sx_call K F_cases (hr.mono (by first | decide | omega)) (by rfl) (sa_cons (se_v 3) (sa_cons (se_v 1) sa_nil)))) (sx_t K rfl (sgs_cons (sg_n sc_steps.nd rfl (by first | exact .inl rfl | exact .inr rfl)) (sgs_cons (sg_n sc_steps.nd rfl (by first | exact .inl rfl | exact .inr rfl)) (sgs_cons (sg_n sc_steps.nd rfl (by first | exact .inl rfl | exact .inr rfl)) sgs_nil))) gs_len3) (sss_cons (sp_set sc_steps.nd rfl (by first | exact .inl rfl | exact .inr rfl) (se_bin (op_add' K) lf_add (se_v 9) (se_tup (sa_cons (se_bin (op_mul' K) lf_mul (se_tup (sa_cons se_non sa_nil)) (se_gi G_ARRAYS)) sa_nil))))
    (sss_cons (sp_asgT (sx_call K F_real_step (hr.mono (by first | decide | omega)) (by rfl) (sa_cons (se_v 3) (sa_cons (se_v 1) (sa_cons (se_v 7) sa_nil)))) (sx_t K rfl (sgs_cons (sg_n sc_steps.nd rfl (by first | exact .inl rfl | exact .inr rfl)) (sgs_cons (sg_n sc_steps.nd rfl (by first | exact .inl rfl | exact .inr rfl)) sgs_nil)) gs_len2))
    (sss_cons (sp_app (pv 6) (se_tup (sa_cons (se_tup (sa_cons (se_tup (sa_cons se_str sa_nil)) (sa_cons (se_v 8) sa_nil))) (sa_cons (sx_call K F_numbered (hr.mono (by first | decide | omega)) (by rfl) (sa_cons (se_v 13) (sa_cons (se_v 14) (sa_cons (se_v 4) (sa_cons (se_v 10) (sa_cons (sx_call K F_deeper (hr.mono (by first | decide | omega)) (by rfl) (sa_cons (se_v 5) (sa_cons (se_v 2) sa_nil))) sa_nil)))))) sa_nil))))
    (sss_cons (sp_set sc_steps.nd rfl (by first | exact .inl rfl | exact .inr rfl) (sx_call K F_wrong_guess (hr.mono (by first | decide | omega)) (by rfl) (sa_cons (se_v 3) (sa_cons (se_v 1) (sa_cons (se_v 2) (sa_cons (se_v 7) sa_nil))))))
    (sss_one (sp_if (st_cmp op_isnA lf_isn (se_v 11) se_non) (sss_cons (sp_asgT (se_v 11) (sx_t K rfl (sgs_cons (sg_n sc_steps.nd rfl (by first | exact .inl rfl | exact .inr rfl)) (sgs_cons (sg_n sc_steps.nd rfl (by first | exact .inl rfl | exact .inr rfl)) (sgs_cons (sg_n sc_steps.nd rfl (by first | exact .inl rfl | exact .inr rfl)) sgs_nil))) gs_len3))
    (sss_one (sp_app (pv 6) (se_tup (sa_cons (se_tup (sa_cons (se_v 15) (sa_cons (se_v 8) sa_nil))) (sa_cons (sx_call K F_numbered (hr.mono (by first | decide | omega)) (by rfl) (sa_cons (se_v 13) (sa_cons (se_v 14) (sa_cons (se_v 4) (sa_cons (se_v 10) (sa_cons (sx_call K F_opened (hr.mono (by first | decide | omega)) (by rfl) (sa_cons (se_v 5) (sa_cons (se_v 2) sa_nil))) sa_nil)))))) sa_nil)))))) sss_nil)))))))
    (sss_one (sp_frz 6 (sp_ret (se_v 6)))))))))))
theorem fx_path_to (Fn : Fun K "path_to" "path_to" s_path_to f fd) (hmg : mg "path_to" = some (.ref f)) (hb : Binds K fd ["met", "state"] []) (B : Bn mg) : FxW P w K mg base (1) "path_to" 2 (wf_path_to P w) :=
  fxw_mk (g := gw_path_to P w) Fn sc_path_to hmg hb (by decide) rfl rfl fun cdv A outer s H W hr => (s3_cons (s3_set sc_path_to.nd rfl (by first | exact .inl rfl | exact .inr rfl) (x3_newH (sn_lst sa_nil)))
    (s3_cons (s3_set sc_path_to.nd rfl (by first | exact .inl rfl | exact .inr rfl) (x3_subN K hr.units (x3_hid (se_v 0)) (x3_hid (se_v 1))))
    (s3_cons (s3_while PassesOwn.never (t3_v (st_cmp op_isnA lf_isn (se_v 3) se_non)) (s3_cons (s3_asgT (x3_hid (se_v 3)) (sx_t K rfl (sgs_cons (sg_n sc_path_to.nd rfl (by first | exact .inl rfl | exact .inr rfl)) (sgs_cons (sg_n sc_path_to.nd rfl (by first | exact .inl rfl | exact .inr rfl)) sgs_nil)) gs_len2))
    (s3_cons (s3_app (x3_hid (se_v 2)) (x3_hid (se_v 4)))
    (s3_one (s3_set sc_path_to.nd rfl (by first | exact .inl rfl | exact .inr rfl) (x3_subN K hr.units (x3_hid (se_v 0)) (x3_hid (se_v 1))))))))
    (s3_one (s3_ret (x3_frzV (sx_rev K (se_v 2))))))))
theorem fx_search (Fn : Fun K "search" "search" s_search f fd) (hmg : mg "search" = some (.ref f)) (hb : Binds K fd ["program", "window"] []) (B : Bn mg) {t_MOST_STATES : Tok} (G_MOST_STATES : mg "MOST_STATES" = some (.int 600 t_MOST_STATES)) (F_first_state_states : Fx P w K mg base (1) "first_state" 1 m_first_state_states) (F_is_leak : Fx P w K mg base (4) "is_leak" 3 m_is_leak) (F_path_to : FxW P w K mg base (1) "path_to" 2 (wf_path_to P w)) (F_steps : Fx P w K mg base (5) "steps" 3 m_steps) {ftx : Addr} (Ttx : TxF P w K mg base ftx) (htx : mg "text_of" = some (.ref ftx)) : FxWG P w K mg base (11) "search" 2 (wf_search P w) :=
  fxwG_mk (g := gw_search P w) Fn sc_search hmg hb (by decide) rfl rfl fun cdv A hgd outer s H W hr => (s3_cons (s3_set sc_search.nd rfl (by first | exact .inl rfl | exact .inr rfl) (x3_hid (sx_call K F_first_state_states (hr.mono (by first | decide | omega)) (by rfl) (sa_cons (se_v 0) sa_nil))))
    (s3_cons (s3_if (t3_v (st_val (sx_call K F_is_leak (hr.mono (by first | decide | omega)) (by rfl) (sa_cons (se_v 0) (sa_cons (se_v 2) (sa_cons (se_v 1) sa_nil)))))) (s3_one (s3_ret (x3_hid (se_tup (sa_cons se_str (sa_cons (sn_e (sn_lst sa_nil)) sa_nil)))))) s3_nil)
    (s3_cons (s3_set sc_search.nd rfl (by first | exact .inl rfl | exact .inr rfl) (x3_disN K hr.units (x3_hid (se_v 2)) (x3_hid se_non)))
    (s3_cons (s3_set sc_search.nd rfl (by first | exact .inl rfl | exact .inr rfl) (x3_newH (sn_lst (sa_cons (se_v 2) sa_nil))))
    (s3_cons (s3_while PassesOwn.never (t3_v (st_cmp op_gt lf_gt (se_callB (cl_len K) lf_len (by rfl) B.len PySem.boot_len (sa_cons (se_v 4) sa_nil)) se_int)) (s3_cons (s3_set sc_search.nd rfl (by first | exact .inl rfl | exact .inr rfl) (x3_newH (sn_lst sa_nil)))
    (s3_cons (s3_forC K PassesOwn.never rfl (x3_hid (se_v 4)) (sg_n sc_search.nd rfl (by first | exact .inl rfl | exact .inr rfl)) (s3_one (s3_for PassesOwn.never rfl (sx_seq K (sx_call K F_steps (hr.mono (by first | decide | omega)) (by rfl) (sa_cons (se_v 0) (sa_cons (se_v 6) (sa_cons (se_v 1) sa_nil))))) (sx_t K rfl (sgs_cons (sg_n sc_search.nd rfl (by first | exact .inl rfl | exact .inr rfl)) (sgs_cons (sg_n sc_search.nd rfl (by first | exact .inl rfl | exact .inr rfl)) sgs_nil)) gs_len2) (s3_cons (s3_if (t3_inN K hr.units (x3_hid (se_v 8)) (x3_hid (se_v 3))) (s3_one s3_cont) s3_nil)
    (s3_cons (s3_putN hr.units (x3_hid (se_v 3)) (x3_hid (se_v 8)) (x3_hid (se_tup (sa_cons (se_v 6) (sa_cons (se_v 7) sa_nil)))))
    (s3_cons (s3_if (t3_cmp op_gt lf_gt (x3_lenN K (by rfl) B.len (x3_hid (se_v 3))) (x3_hid (se_gi G_MOST_STATES))) (s3_one (s3_ret (x3_hid (se_tup (sa_cons se_str (sa_cons (se_tup sa_nil) sa_nil)))))) s3_nil)
    (s3_cons (s3_if (t3_v (st_val (sx_call K F_is_leak (hr.mono (by first | decide | omega)) (by rfl) (sa_cons (se_v 0) (sa_cons (se_v 8) (sa_cons (se_v 1) sa_nil)))))) (s3_one (s3_ret (x3_tup (a3_cons (x3_hid se_str) (a3_cons (x3_callW K F_path_to (hr.mono (by first | decide | omega)) (by rfl) (a3_cons (x3_hid (se_v 3)) (a3_cons (x3_hid (se_v 8)) a3_nil))) a3_nil))))) s3_nil)
    (s3_one (s3_app (x3_hid (se_v 5)) (x3_hid (se_v 8)))))))))))
    (s3_one (s3_set sc_search.nd rfl (by first | exact .inl rfl | exact .inr rfl) (x3_hid (se_v 5)))))))
    (s3_one (s3_ret (x3_tup (a3_cons (x3_hid se_str) (a3_cons (x3_give (x3_sortTx K Ttx hgd (hr.mono (by first | decide | omega)) (by rfl) B.sorted (by rfl) htx (x3_listN K (by rfl) (by rfl) B.list (x3_hid (se_v 3))))) a3_nil))))))))))
theorem fx_least_window (Fn : Fun K "least_window" "least_window" s_least_window f fd) (hmg : mg "least_window" = some (.ref f)) (hb : Binds K fd ["program"] []) (B : Bn mg) (F_search : FxWG P w K mg base (11) "search" 2 (wf_search P w)) : FxWG P w K mg base (12) "least_window" 1 (wf_least_window P w) :=
  fxwG_mk (g := gw_least_window P w) Fn sc_least_window hmg hb (by decide) rfl rfl fun cdv A hgd outer s H W hr => (s3_cons (s3_set sc_least_window.nd rfl (by first | exact .inl rfl | exact .inr rfl) (x3_sub K (hu_of hr) (x3_callWG K F_search hgd (hr.mono (by first | decide | omega)) (by rfl) (a3_cons (x3_hid (se_v 0)) (a3_cons (x3_hid se_non) a3_nil))) (x3_hid se_int)))
    (s3_cons (s3_if (t3_v (st_cmp (op_eq' K hr.units) lf_eq (se_v 1) se_str)) (s3_one (s3_ret (x3_hid se_non))) s3_nil)
    (s3_cons (s3_set sc_least_window.nd rfl (by first | exact .inl rfl | exact .inr rfl) (x3_hid se_int))
    (s3_cons (s3_while PassesOwn.never (t3_v (st_cmp (op_neS K hr.units) lf_neS (se_v 1) se_str)) (s3_cons (s3_set sc_least_window.nd rfl (by first | exact .inl rfl | exact .inr rfl) (x3_sub K (hu_of hr) (x3_callWG K F_search hgd (hr.mono (by first | decide | omega)) (by rfl) (a3_cons (x3_hid (se_v 0)) (a3_cons (x3_hid (se_v 2)) a3_nil))) (x3_hid se_int)))
    (s3_cons (s3_if (t3_v (st_cmp (op_eq' K hr.units) lf_eq (se_v 1) se_str)) (s3_one (s3_ret (x3_hid (se_v 2)))) s3_nil)
    (s3_one (s3_augVadd sc_least_window.nd rfl (by first | exact .inl rfl | exact .inr rfl) (x3_hid se_int))))))
    (s3_one (s3_ret (x3_hid (se_neg se_int))))))))
theorem fx_is_accepted (Fn : Fun K "is_accepted" "is_accepted" s_is_accepted f fd) (hmg : mg "is_accepted" = some (.ref f)) (hb : Binds K fd ["program", "window"] []) (B : Bn mg) (F_search : FxWG P w K mg base (11) "search" 2 (wf_search P w)) : FxWG P w K mg base (12) "is_accepted" 2 (wf_is_accepted P w) :=
  fxwG_mk (g := gw_is_accepted P w) Fn sc_is_accepted hmg hb (by decide) rfl rfl fun cdv A hgd outer s H W hr => (s3_cons (s3_set sc_is_accepted.nd rfl (by first | exact .inl rfl | exact .inr rfl) (x3_sub K (hu_of hr) (x3_callWG K F_search hgd (hr.mono (by first | decide | omega)) (by rfl) (a3_cons (x3_hid (se_v 0)) (a3_cons (x3_hid (se_v 1)) a3_nil))) (x3_hid se_int)))
    (s3_one (s3_ret (x3_hid (se_ifx (st_cmp (op_eq' K hr.units) lf_eq (se_v 2) se_str) se_non (se_cmp (op_eq' K hr.units) lf_eq (se_v 2) se_str))))))
theorem fx_law_many (Fn : Fun K "_law_many" "_law_many" s_law_many f fd) (hmg : mg "_law_many" = some (.ref f)) (hb : Binds K fd ["program", "window"] []) (B : Bn mg) (F_first_state_states : Fx P w K mg base (1) "first_state" 1 m_first_state_states) (F_steps : Fx P w K mg base (5) "steps" 3 m_steps) : FxW P w K mg base (6) "_law_many" 2 (wf_law_many P w) :=
  fxw_mk (g := gw_law_many P w) Fn sc_law_many hmg hb (by decide) rfl rfl fun cdv A outer s H W hr => (s3_cons (s3_set sc_law_many.nd rfl (by first | exact .inl rfl | exact .inr rfl) (x3_newH (sn_lst (sa_cons (sx_call K F_first_state_states (hr.mono (by first | decide | omega)) (by rfl) (sa_cons (se_v 0) sa_nil)) sa_nil))))
    (s3_cons (s3_set sc_law_many.nd rfl (by first | exact .inl rfl | exact .inr rfl) (x3_disN K hr.units (x3_sub K (hu_of hr) (x3_hid (se_v 2)) (x3_hid se_int)) (x3_hid se_bl)))
    (s3_cons (s3_for PassesOwn.never rfl (si_r1 (by rfl) B.range (sa_cons se_int sa_nil)) (sg_n sc_law_many.nd rfl (by first | exact .inl rfl | exact .inr rfl)) (s3_cons (s3_if (t3_v (sw_t (sw_or (st_cmp op_ge lf_ge (se_v 4) (se_callB (cl_len K) lf_len (by rfl) B.len PySem.boot_len (sa_cons (se_v 2) sa_nil))) (sw_or1 (st_cmp op_gt lf_gt (se_callB (cl_len K) lf_len (by rfl) B.len PySem.boot_len (sa_cons (se_v 2) sa_nil)) se_int))))) (s3_one (s3_ret (x3_view (se_cmp op_gt lf_gt (se_callB (cl_len K) lf_len (by rfl) B.len PySem.boot_len (sa_cons (se_v 2) sa_nil)) se_int)))) s3_nil)
    (s3_one (s3_forI PassesOwn.never rfl (i3_seq K (x3_call K F_steps (hr.mono (by first | decide | omega)) (by rfl) (a3_cons (x3_hid (se_v 0)) (a3_cons (x3_sub K (hu_of hr) (x3_hid (se_v 2)) (x3_hid (se_v 4))) (a3_cons (x3_hid (se_v 1)) a3_nil))))) (sx_t K rfl (sgs_cons (sg_n sc_law_many.nd rfl (by first | exact .inl rfl | exact .inr rfl)) (sgs_cons (sg_n sc_law_many.nd rfl (by first | exact .inl rfl | exact .inr rfl)) sgs_nil)) gs_len2) (s3_one (s3_if (t3_ninN K hr.units (x3_hid (se_v 6)) (x3_hid (se_v 3))) (s3_cons (s3_putN hr.units (x3_hid (se_v 3)) (x3_hid (se_v 6)) (x3_hid se_bl))
    (s3_one (s3_app (x3_hid (se_v 2)) (x3_hid (se_v 6))))) s3_nil))))))
    (s3_one (s3_ret (x3_view (se_cmp op_gt lf_gt (se_callB (cl_len K) lf_len (by rfl) B.len PySem.boot_len (sa_cons (se_v 2) sa_nil)) se_int)))))))
theorem tx_text_of (Fn : Fun K "text_of" "text_of" s_text_of f fd) (hb : Binds K fd ["state"] []) (B : Bn mg) : TxF P w K mg base f := fun A outer s H a d as hgd hr e0 hd ht => text_pure Fn sc_text_of hb rfl B.repr (fun cdv A outer s H W => ⟨by rfl, .inl rfl⟩) (by decide) (by decide) hgd hr e0 hd ht.1 ht.2.1 ht.2.2.1 ht.2.2.2
theorem fn_law (Fn : Fun K "law" "law" s_law f fd) (B : Bn mg) (F_law_many : FxW P w K mg base (6) "_law_many" 2 (wf_law_many P w)) (F_law_next : FxW P w K mg base (1) "_law_next" 2 wf_law_next) (F_law_programK : FxW P w K mg base (3) "_law_program" 2 wf_law_programK) (F_is_accepted : FxWG P w K mg base (12) "is_accepted" 2 (wf_is_accepted P w)) (F_least_window : FxWG P w K mg base (12) "least_window" 1 (wf_least_window P w)) : FnG P w K mg base CX0 13 f fd ["script"] (spW0 K 1 (wf_law P w)) :=
  fnwG_mk (g := gw_law P w) Fn sc_law (by decide) rfl rfl fun cdv A hgd outer s H W hr => (s3_cons (s3_set sc_law.nd rfl (by first | exact .inl rfl | exact .inr rfl) (x3_newH (sn_lst (sa_cons (sn_e (sn_callTy (cl_list K) lf_list (by rfl) B.list mb_list (sa_cons (se_v 0) sa_nil))) (sa_cons se_int (sa_cons se_int (sa_cons se_int sa_nil)))))))
    (s3_cons (s3_set sc_law.nd rfl (by first | exact .inl rfl | exact .inr rfl) (x3_callW K F_law_programK (hr.mono (by first | decide | omega)) (by rfl) (a3_cons (x3_hid (se_v 1)) (a3_cons (x3_sub K (hu_of hr) (x3_hid (se_tup (sa_cons se_int (sa_cons se_int (sa_cons se_int sa_nil))))) (x3_callW K F_law_next (hr.mono (by first | decide | omega)) (by rfl) (a3_cons (x3_hid (se_v 1)) (a3_cons (x3_hid se_int) a3_nil)))) a3_nil))))
    (s3_cons (s3_set sc_law.nd rfl (by first | exact .inl rfl | exact .inr rfl) (x3_callWG K F_least_window hgd (hr.mono (by first | decide | omega)) (by rfl) (a3_cons (x3_hid (se_v 2)) a3_nil)))
    (s3_cons (s3_set sc_law.nd rfl (by first | exact .inl rfl | exact .inr rfl) (x3_callWG K F_is_accepted hgd (hr.mono (by first | decide | omega)) (by rfl) (a3_cons (x3_hid (se_v 2)) (a3_cons (x3_hid se_non) a3_nil))))
    (s3_cons (s3_if (t3_v (st_cmp op_isA lf_is (se_v 4) se_non)) (s3_one (s3_ret (x3_and (x3_hid (se_cmp (op_eq' K hr.units) lf_eq (se_v 3) (se_neg se_int))) (x3_one (x3_callW K F_law_many (hr.mono (by first | decide | omega)) (by rfl) (a3_cons (x3_hid (se_v 2)) (a3_cons (x3_hid se_non) a3_nil))))))) s3_nil)
    (s3_cons (s3_if (t3_v (st_cmp (op_eq' K hr.units) lf_eq (se_v 3) (se_neg se_int))) (s3_one (s3_ret (x3_and (x3_hid (se_not (se_v 4))) (x3_one (x3_cmp op_gt lf_gt (x3_callBV (cl_len K) lf_len (by rfl) B.len PySem.boot_len (a3_cons (x3_lcSF (W' := E0) (own := [("window", 5)]) rfl sc_law.nd (si_r1 (by rfl) B.range (sa_cons se_int sa_nil)) (blkOk_by (N := N_law) (sc := defScope s_law) (by decide +kernel)) (fun _ _ _ _ _ => (sg_n sc_law.nd rfl (by first | exact .inl rfl | exact .inr rfl))) (fun _ _ _ _ _ => (t3_val (x3_callW K F_law_many (hr.mono (by first | decide | omega)) (by rfl) (a3_cons (x3_hid (se_v 2)) (a3_cons (x3_hid (se_v 5)) a3_nil))))) (fun _ _ _ _ _ => (x3_hid (se_v 5))) own1) a3_nil)) (x3_hid se_int)))))) s3_nil)
    (s3_cons (s3_if (t3_v (st_cmp (op_neS K hr.units) lf_neS (se_v 4) (se_cmp op_isA lf_is (se_v 3) se_non))) (s3_one (s3_ret (x3_hid se_bl))) s3_nil)
    (s3_cons (s3_for PassesOwn.never rfl (si_r1 (by rfl) B.range (sa_cons se_int sa_nil)) (sg_n sc_law.nd rfl (by first | exact .inl rfl | exact .inr rfl)) (s3_cons (s3_set sc_law.nd rfl (by first | exact .inl rfl | exact .inr rfl) (x3_callWG K F_is_accepted hgd (hr.mono (by first | decide | omega)) (by rfl) (a3_cons (x3_hid (se_v 2)) (a3_cons (x3_hid (se_v 5)) a3_nil))))
    (s3_cons (s3_if (t3_w (w3_and (t3_v (st_cmp op_isA lf_is (se_v 6) se_non)) (w3_and1 (t3_not (t3_val (x3_callW K F_law_many (hr.mono (by first | decide | omega)) (by rfl) (a3_cons (x3_hid (se_v 2)) (a3_cons (x3_hid (se_v 5)) a3_nil)))))))) (s3_one (s3_ret (x3_hid se_bl))) s3_nil)
    (s3_one (s3_if (t3_v (sw_t (sw_and (st_cmp op_isnA lf_isn (se_v 6) se_non) (sw_and1 (st_cmp (op_neS K hr.units) lf_neS (se_v 6) (se_or (se_cmp op_isA lf_is (se_v 3) se_non) (se_one (se_cmp op_lt lf_lt (se_v 5) (se_v 3))))))))) (s3_one (s3_ret (x3_hid se_bl))) s3_nil)))))
    (s3_one (s3_ret (x3_hid se_bl)))))))))))
end
theorem tup_mk_GIVING {K : PySem.W.Frag} {a_q : Addr} {n_q : Nat} {s_q : Array (Option Value)} {t_q_0 : Tok} {t_q_1 : Tok} {t_q_2 : Tok} {t_q_3 : Tok} {t_q_4 : Tok} (l_q : K.lookup a_q = some ⟨.type "tuple", none, .seq #[.str "ask" t_q_0, .str "mix" t_q_1, .str "load" t_q_2, .str "mask" t_q_3, .str "get" t_q_4] n_q, s_q⟩) : ∀ F, Rep K F (.kt [.str "ask", .str "mix", .str "load", .str "mask", .str "get"]) (.ref a_q) := fun F => (kt_of (its := [.str "ask" t_q_0, .str "mix" t_q_1, .str "load" t_q_2, .str "mask" t_q_3, .str "get" t_q_4]) (vs := [.str "ask", .str "mix", .str "load", .str "mask", .str "get"]) l_q (sz_of (Nat.le_of_ble_eq_true rfl)) (.cons ⟨_, rfl⟩ (.cons ⟨_, rfl⟩ (.cons ⟨_, rfl⟩ (.cons ⟨_, rfl⟩ (.cons ⟨_, rfl⟩ .nil))))) (.cons (rep_str.mpr rfl) (.cons (rep_str.mpr rfl) (.cons (rep_str.mpr rfl) (.cons (rep_str.mpr rfl) (.cons (rep_str.mpr rfl) .nil))))))
theorem tup_mk_ZERO {K : PySem.W.Frag} {a_q : Addr} {n_q : Nat} {s_q : Array (Option Value)} {t_q_0 : Tok} (l_q : K.lookup a_q = some ⟨.type "tuple", none, .seq #[.str "zero" t_q_0] n_q, s_q⟩) : ∀ F, Rep K F (.kt [.str "zero"]) (.ref a_q) := fun F => (kt_of (its := [.str "zero" t_q_0]) (vs := [.str "zero"]) l_q (sz_of (Nat.le_of_ble_eq_true rfl)) (.cons ⟨_, rfl⟩ .nil) (.cons (rep_str.mpr rfl) .nil))
theorem tup_mk_SECRET {K : PySem.W.Frag} {a_q : Addr} {n_q : Nat} {s_q : Array (Option Value)} {t_q_0 : Tok} {a_q_1 : Addr} {n_q_1 : Nat} {s_q_1 : Array (Option Value)} (l_q : K.lookup a_q = some ⟨.type "tuple", none, .seq #[.str "secret" t_q_0, .ref a_q_1] n_q, s_q⟩) (l_q_1 : K.lookup a_q_1 = some ⟨.type "tuple", none, .seq #[] n_q_1, s_q_1⟩) : ∀ F, Rep K F (.kt [.str "secret", .kt []]) (.ref a_q) := fun F => (kt_of (its := [.str "secret" t_q_0, .ref a_q_1]) (vs := [.str "secret", .ref a_q_1]) l_q (sz_of (Nat.le_of_ble_eq_true rfl)) (.cons ⟨_, rfl⟩ (.cons rfl .nil)) (.cons (rep_str.mpr rfl) (.cons (kt_of (its := []) (vs := []) l_q_1 (sz_of (Nat.le_of_ble_eq_true rfl)) .nil .nil) .nil)))
theorem tab_mk_ASKING {K : PySem.W.Frag} {w : World} {d : Addr} {es : Array DictEntry} {n : Nat} (hl : K.lookup d = some ⟨.type "dict", none, .dict es n, #[]⟩) (hk : PySem.W.KeysLit w.params es.toList) (low : (d == sysModules) = false) {t0 : Tok} {t1 : Tok} {t2 : Tok} (e0 : PySem.W.nsIn K d "load" = some (some (.int 3 t0))) (e1 : PySem.W.nsIn K d "mask" = some (some (.int 3 t1))) (e2 : PySem.W.nsIn K d "test" = some (some (.int 1 t2))) (w0 : PySem.W.nsIn K d "ask" = some none) (w1 : PySem.W.nsIn K d "mix" = some none) (w2 : PySem.W.nsIn K d "put" = some none) (w3 : PySem.W.nsIn K d "get" = some none) (w4 : PySem.W.nsIn K d "fence" = some none) (w5 : PySem.W.nsIn K d "jump" = some none) (w6 : PySem.W.nsIn K d "end" = some none) : KTab K w d tab_ASKING := by
  refine ⟨⟨es, n, hl, hk, low⟩, fun z o h => ?_⟩
  unfold tab_ASKING at h
  rcases lookup_step h with ⟨rfl, rfl⟩ | h
  · exact ⟨_, .int 3, e0, ⟨_, rfl⟩, fun F => rep_int.mpr rfl⟩
  rcases lookup_step h with ⟨rfl, rfl⟩ | h
  · exact ⟨_, .int 3, e1, ⟨_, rfl⟩, fun F => rep_int.mpr rfl⟩
  rcases lookup_step h with ⟨rfl, rfl⟩ | h
  · exact ⟨_, .int 1, e2, ⟨_, rfl⟩, fun F => rep_int.mpr rfl⟩
  rcases lookup_step h with ⟨rfl, rfl⟩ | h
  · exact w0
  rcases lookup_step h with ⟨rfl, rfl⟩ | h
  · exact w1
  rcases lookup_step h with ⟨rfl, rfl⟩ | h
  · exact w2
  rcases lookup_step h with ⟨rfl, rfl⟩ | h
  · exact w3
  rcases lookup_step h with ⟨rfl, rfl⟩ | h
  · exact w4
  rcases lookup_step h with ⟨rfl, rfl⟩ | h
  · exact w5
  rcases lookup_step h with ⟨rfl, rfl⟩ | h
  · exact w6
  · cases h
def s_init : Stmt := (clsBody (topS 1)).getD 0 (.Pass ⟨0, 0, 0, 0⟩)
theorem sc_init : FnScope ["self"] ["self"] (defScope s_init) := ⟨rfl, rfl, rfl, by decide +kernel, rfl, by decide +kernel, by decide +kernel⟩
section
variable {P : Program} {w : World} {K : PySem.W.Frag} {mg : Str → Option Value} {base : Heap} {f : Addr} {fd : FuncData}
theorem fn_init {qual : Str} (Fn : Fun K "__init__" qual s_init f fd) (hm : mg "ValueError" = none) (vV : PySem.W.findCls K (.type "ValueError") (.type "type") "__init__" = some (.val (.builtin "ValueError.__init__"))) :
    FnOk P w K mg base CX0 1 f fd ["self"] (spI K) :=
  init_fn Fn sc_init rfl hm vV (fun cdv A outer s H W => pe_veinit (by rfl) hm vV (pa_cons (pv 0) pa_nil)) (fun cdv A outer s H W => by rfl)
end
end K16
namespace KP
open PySem PySem.Spec PyProof.Rows L2 Mi
local macro_rules | `(tactic| walk_at "ew") => `(tactic| simp (decide := true) [v_def])
def rd (t : List Int) (k : Int) : Int := t.getD k.toNat 0
def Ran (t : List Int) : Prop := ∀ x ∈ t, 0 ≤ x ∧ x < 1000
theorem Ran.app {t : List Int} (h : Ran t) {x : Int} (h1 : 0 ≤ x) (h2 : x < 1000) : Ran (t ++ [x]) := fun y hy => by
  rcases List.mem_append.mp hy with hy | hy
  · exact h y hy
  · simp at hy; subst hy; exact ⟨h1, h2⟩
theorem rng_ok {ρ : E} {fl : E → Option (List D)} (n : Nat) (hn : n ≤ 63) (h : fl ρ = some [.int n]) : fRng1 fl ρ = some (rngD 0 n) := by
  have h1 : -(2 ^ 62) ≤ (n : Int) := by omega
  have h2 : (n : Int) < 2 ^ 62 := by omega
  rw [v_rng1, h, Option.bind_some]
  simp only []
  rw [if_pos ⟨h1, h2⟩, Int.toNat_natCast]
def progD (s r : D) : D := .dK [(.inr "secret", s), (.inr "rows", r)]
end KP
namespace KP
open PySem PySem.Spec PyProof.Rows L2 Mi
theorem item_at_gen {d : D} {xs : List D} {k : Int} {o : D} (h1 : dLen d = some (.int xs.length)) (h2 : ∀ k : Int, dIx d (.int k) = atI xs k) : m_item_at [d, .int k, o] = some (if 0 ≤ k ∧ k < xs.length then xs.getD k.toNat o else o) := by
  unfold m_item_at g_item_at
  by_cases hk : 0 ≤ k
  · by_cases hl : k < (xs.length : Int)
    · have e : atI xs k = xs[k.toNat]? := by
        have q := atN (xs := xs) (j := k.toNat) (by omega)
        rwa [Int.toNat_of_nonneg hk] at q
      have e2 : xs[k.toNat]? = some (xs.getD k.toNat o) := by
        rw [List.getD_eq_getElem?_getD, List.getElem?_eq_getElem (by omega)]
        rfl
      simp (decide := true) [v_def, h1, h2, hk, hl, e, e2]
    · simp (decide := true) [v_def, h1, h2, hk, hl]
  · simp (decide := true) [v_def, h1, h2, hk]
theorem item_tup {xs : List D} {k : Int} {o : D} : m_item_at [.tup xs, .int k, o] = some (if 0 ≤ k ∧ k < xs.length then xs.getD k.toNat o else o) := item_at_gen rfl fun _ => rfl
/-- the k-th number, 0 beyond the end -/
def nth (l : List Int) (k : Int) : Int := if 0 ≤ k then l.getD k.toNat 0 else 0
theorem at_ints {l : List Int} {k : Int} (h : 0 ≤ k) (h2 : k < l.length) : atI (l.map D.int) k = some (.int (nth l k)) := by
  have q := atN (xs := l.map D.int) (j := k.toNat) (by simp; omega)
  rw [Int.toNat_of_nonneg h] at q
  rw [q, List.getElem?_map, List.getElem?_eq_getElem (by omega)]
  unfold nth
  rw [if_pos h, List.getD_eq_getElem?_getD, List.getElem?_eq_getElem (by omega)]
  rfl
theorem lcF_enum {fe : FE} {ρ : E} {i j : Nat} (h : Int → D → D) : ∀ (xs : List D) (k : Nat), (∀ (m : Nat) (d : D), xs[m]? = some d → fe ((ρ.set i (some (.int ((k + m : Nat) : Int)))).set j (some d)) = some (h ((k + m : Nat) : Int) d)) →
    ∃ ys, lcF (gT (gsC (gN i) (gsC (gN j) gsN))) fYes fe ρ (enumD k xs) = some ys ∧ ys.length = xs.length ∧ ∀ m, ys[m]? = (xs[m]?).map (h ((k + m : Nat) : Int))
  | [], k, _ => ⟨[], rfl, rfl, fun m => by simp⟩
  | d :: xs, k, hs => by
    obtain ⟨ys, e, hl, hm⟩ := lcF_enum h xs (k + 1) fun m d' hd => by
      have := hs (m + 1) d' (by simpa using hd)
      rw [show k + (m + 1) = k + 1 + m by omega] at this
      exact this
    have h0 := hs 0 d (by simp)
    rw [Nat.add_zero] at h0
    refine ⟨h (k : Nat) d :: ys, ?_, by simp [hl], fun m => ?_⟩
    · unfold enumD
      simp [h0, e]
    · cases m with
      | zero => simp
      | succ m =>
        rw [List.getElem?_cons_succ, List.getElem?_cons_succ, hm, show k + (m + 1) = k + 1 + m by omega]
theorem changed_ok {xs : List D} {k : Int} {d : D} (h : 0 ≤ k) (hl : xs.length ≤ 50000) : m_changed [.tup xs, .int k, d] = some (.tup (xs.set k.toNat d)) := by
  obtain ⟨ys, e, h1, h2⟩ := lcF_enum (i := 3) (j := 4) (ρ := [some (.tup xs), some (.int k), some d, none, none]) (fe := fIf (tB (e2 dEq (eVar 3) (eVar 1))) (eVar 2) (eVar 4)) (fun m o => if m = k then d else o) xs 0 (fun m o hd => by
    by_cases q : (m : Int) = k <;> simp [q])
  have ey : ys = xs.set k.toNat d := by
    apply List.ext_getElem?
    intro m
    rw [h2, List.getElem?_set]
    by_cases q : k.toNat = m
    · have q2 : (m : Int) = k := by omega
      rw [if_pos q]
      by_cases hm : m < xs.length
      · rw [List.getElem?_eq_getElem hm, q, if_pos hm]
        simp [q2]
      · rw [List.getElem?_eq_none (by omega), q, if_neg hm]
        rfl
    · have q2 : ¬ (m : Int) = k := by omega
      rw [if_neg q]
      cases xs[m]? <;> simp [q2]
  have hlen : (enumD 0 xs).length ≤ 50000 := by rw [enumD_len]; exact hl
  unfold m_changed g_changed
  simp [v_def, hlen, e, ey, -v_lcF]
inductive Row where
  | ask (a : Int) | mix (a b c : Int) | load (a b c : Int) | mask (a b c : Int) | test (a b c : Int) | put (a b : Int) | get (a b : Int) | fence | jump (a : Int) | fin
def Row.xs : Row → List D
  | .ask a => [.str "ask", .int a]
  | .mix a b c => [.str "mix", .int a, .int b, .int c]
  | .load a b c => [.str "load", .int a, .int b, .int c]
  | .mask a b c => [.str "mask", .int a, .int b, .int c]
  | .test a b c => [.str "test", .int a, .int b, .int c]
  | .put a b => [.str "put", .int a, .int b]
  | .get a b => [.str "get", .int a, .int b]
  | .fence => [.str "fence"]
  | .jump a => [.str "jump", .int a]
  | .fin => [.str "end"]
abbrev Row.d (r : Row) : D := .tup r.xs
def Row.ok (n : Int) : Row → Prop
  | .ask a => 0 ≤ a ∧ a < 4
  | .mix a b c => (0 ≤ a ∧ a < 4) ∧ (0 ≤ b ∧ b < 4) ∧ 0 ≤ c ∧ c < 4
  | .load a b c => (0 ≤ a ∧ a < 4) ∧ (0 ≤ b ∧ b < 2) ∧ 0 ≤ c ∧ c < 4
  | .mask a b c => (0 ≤ a ∧ a < 4) ∧ (0 ≤ b ∧ b < 2) ∧ 0 ≤ c ∧ c < 4
  | .test a b c => (0 ≤ a ∧ a < 4) ∧ (0 ≤ b ∧ b < 2) ∧ 0 ≤ c ∧ c < n
  | .put a b => (0 ≤ a ∧ a < 2) ∧ 0 ≤ b ∧ b < 4
  | .get a b => (0 ≤ a ∧ a < 4) ∧ 0 ≤ b ∧ b < 2
  | .jump a => 0 ≤ a ∧ a < n
  | _ => True
structure S where
  p : Option Int
  r : List Int
  s : List Int
  c : List Int
def pD : Option Int → D
  | some k => .int k
  | none => .non
def S.d (z : S) : D := .dK [(.inr "place", pD z.p), (.inr "registers", .tup (z.r.map .int)), (.inr "slots", .tup (z.s.map .int)), (.inr "counts", .tup (z.c.map .int))]
structure S.ok (n : Nat) (z : S) : Prop where
  p : ∀ k, z.p = some k → 0 ≤ k ∧ k < n
  r : z.r.length = 4
  s : z.s.length = 2
  c : z.c.length = 3
  c0 : ∀ k, 0 ≤ nth z.c k
/-- a meaning and secrets -/
structure Mn where
  A : Int → Int → Bool
  ask : Int → Int
  mix : Int → Int → Int → Int
  ld : Int → Int
  sec : Int → Int
/-- what a row gives, where it gives -/
def Row.val (M : Mn) (z : S) : Row → Option (Int × Int)
  | .ask a => some (a, M.ask (nth z.c 0))
  | .mix a b c => some (a, M.mix (nth z.c 1) (nth z.r b) (nth z.r c))
  | .load a b c => some (a, if M.A b (nth z.r c) = true then M.ld (nth z.c 2) else M.sec (nth z.c 2))
  | .mask a b c => some (a, if M.A b (nth z.r c) = true then nth z.r c else 0)
  | .get a b => some (a, nth z.s b)
  | _ => none
def wayD : Bool → D
  | true => .str "in"
  | false => .str "out"
def outD : Option Bool → D
  | some b => wayD b
  | none => .non
/-- the next place, by the way of a test -/
def Row.nxt (p : Int) (w : Option Bool) : Row → Option Int
  | .fin => none
  | .jump a => some a
  | .test _ _ c => if w = some false then some c else some (p + 1)
  | _ => some (p + 1)
def Row.ns (z : S) : Row → List Int
  | .put a b => z.s.set a.toNat (nth z.r b)
  | _ => z.s
end KP
namespace KP
open PySem PySem.Spec PyProof.Rows L2 Mi
@[simp] theorem v_nsS {k w : Str} : dNeS (.str k) (.str w) = some (.bl (!decide (k = w))) := by
  unfold dNeS
  rw [v_neS]
@[simp] theorem v_nsI {k w : Int} : dNeS (.int k) (.int w) = some (.bl (!decide (k = w))) := by
  unfold dNeS
  rw [v_neI]
@[simp] theorem v_eNS {w : Str} : dEq .non (.str w) = some (.bl false) := by
  show some (D.bl (decide (V.non = V.str w))) = _
  simp
@[simp] theorem x_ask (a : Int) : (Row.ask a).xs = [.str "ask", .int a] := rfl
@[simp] theorem x_mix (a b c : Int) : (Row.mix a b c).xs = [.str "mix", .int a, .int b, .int c] := rfl
@[simp] theorem x_load (a b c : Int) : (Row.load a b c).xs = [.str "load", .int a, .int b, .int c] := rfl
@[simp] theorem x_mask (a b c : Int) : (Row.mask a b c).xs = [.str "mask", .int a, .int b, .int c] := rfl
@[simp] theorem x_test (a b c : Int) : (Row.test a b c).xs = [.str "test", .int a, .int b, .int c] := rfl
@[simp] theorem x_put (a b : Int) : (Row.put a b).xs = [.str "put", .int a, .int b] := rfl
@[simp] theorem x_get (a b : Int) : (Row.get a b).xs = [.str "get", .int a, .int b] := rfl
@[simp] theorem x_fence : Row.fence.xs = [.str "fence"] := rfl
@[simp] theorem x_jump (a : Int) : (Row.jump a).xs = [.str "jump", .int a] := rfl
@[simp] theorem x_fin : Row.fin.xs = [.str "end"] := rfl
def progD' (sec : D) (rows : List Row) : D := progD sec (.tup (rows.map Row.d))
theorem val_rows {sec : D} {rows : List Row} : dIx (progD' sec rows) (.str "rows") = some (.tup (rows.map Row.d)) := by rfl
theorem row_at {sec : D} {rows : List Row} {k : Int} {R : Row} (h : 0 ≤ k) (hr : rows[k.toNat]? = some R) : m_row_at [progD' sec rows, .int k] = some R.d := by
  have hl := (List.getElem?_eq_some_iff.mp hr).1
  have e : (if 0 ≤ k ∧ k < (rows.map Row.d).length then (rows.map Row.d).getD k.toNat .non else .non) = R.d := by
    rw [if_pos ⟨h, by simp; omega⟩, List.getD_eq_getElem?_getD, List.getElem?_map, hr]
    rfl
  have e2 := item_tup (xs := rows.map Row.d) (k := k) (o := .non)
  rw [e] at e2
  unfold m_row_at g_row_at
  simp (decide := true) [v_def, val_rows, e2]
variable {M : Mn} {m s : D} {z : S} {R : Row} {n : Nat}
theorem next_place (p : Int) (w : Option Bool) : m_next_place [R.d, .int p, outD w] = some (pD (R.nxt p w)) := by
  unfold m_next_place g_next_place
  cases R
  case test a b c =>
    rcases w with _ | _ | _ <;> simp (decide := true) [v_def, outD, wayD, Row.nxt, pD]
  all_goals simp (decide := true) [v_def, Row.nxt, pD]
end KP
namespace KP
open PySem PySem.Spec PyProof.Rows L2 Mi
@[simp] theorem gv_ask : dNin (.str "ask") (D.kt [.str "ask", .str "mix", .str "load", .str "mask", .str "get"]) = some (.bl false) := by rfl
@[simp] theorem cn_ask : kNin tab_COUNTED (.str "ask") = some (.bl false) := by rfl
@[simp] theorem cx_ask : kIx tab_COUNTED (.str "ask") = some (.int 0) := by rfl
@[simp] theorem gv_mix : dNin (.str "mix") (D.kt [.str "ask", .str "mix", .str "load", .str "mask", .str "get"]) = some (.bl false) := by rfl
@[simp] theorem cn_mix : kNin tab_COUNTED (.str "mix") = some (.bl false) := by rfl
@[simp] theorem cx_mix : kIx tab_COUNTED (.str "mix") = some (.int 1) := by rfl
@[simp] theorem gv_load : dNin (.str "load") (D.kt [.str "ask", .str "mix", .str "load", .str "mask", .str "get"]) = some (.bl false) := by rfl
@[simp] theorem cn_load : kNin tab_COUNTED (.str "load") = some (.bl false) := by rfl
@[simp] theorem cx_load : kIx tab_COUNTED (.str "load") = some (.int 2) := by rfl
@[simp] theorem gv_mask : dNin (.str "mask") (D.kt [.str "ask", .str "mix", .str "load", .str "mask", .str "get"]) = some (.bl false) := by rfl
@[simp] theorem cn_mask : kNin tab_COUNTED (.str "mask") = some (.bl true) := by rfl
@[simp] theorem gv_test : dNin (.str "test") (D.kt [.str "ask", .str "mix", .str "load", .str "mask", .str "get"]) = some (.bl true) := by rfl
@[simp] theorem cn_test : kNin tab_COUNTED (.str "test") = some (.bl true) := by rfl
@[simp] theorem gv_put : dNin (.str "put") (D.kt [.str "ask", .str "mix", .str "load", .str "mask", .str "get"]) = some (.bl true) := by rfl
@[simp] theorem cn_put : kNin tab_COUNTED (.str "put") = some (.bl true) := by rfl
@[simp] theorem gv_get : dNin (.str "get") (D.kt [.str "ask", .str "mix", .str "load", .str "mask", .str "get"]) = some (.bl false) := by rfl
@[simp] theorem cn_get : kNin tab_COUNTED (.str "get") = some (.bl true) := by rfl
@[simp] theorem gv_fence : dNin (.str "fence") (D.kt [.str "ask", .str "mix", .str "load", .str "mask", .str "get"]) = some (.bl true) := by rfl
@[simp] theorem cn_fence : kNin tab_COUNTED (.str "fence") = some (.bl true) := by rfl
@[simp] theorem gv_jump : dNin (.str "jump") (D.kt [.str "ask", .str "mix", .str "load", .str "mask", .str "get"]) = some (.bl true) := by rfl
@[simp] theorem cn_jump : kNin tab_COUNTED (.str "jump") = some (.bl true) := by rfl
@[simp] theorem gv_end : dNin (.str "end") (D.kt [.str "ask", .str "mix", .str "load", .str "mask", .str "get"]) = some (.bl true) := by rfl
@[simp] theorem cn_end : kNin tab_COUNTED (.str "end") = some (.bl true) := by rfl
variable {M : Mn} {m s : D} {z : S} {R : Row} {n : Nat}
end KP
namespace KP
open PySem PySem.Spec PyProof.Rows L2 Mi
/-- a program as the laws draw it -/
structure PrOk (sec : List Int) (rows : List Row) : Prop where
  lo : 1 ≤ rows.length
  hi : rows.length ≤ 100
  ok : ∀ R ∈ rows, R.ok rows.length
  last : ∀ R, rows[rows.length - 1]? = some R → R = .fin ∨ ∃ a, R = .jump a
  sec : sec.Sublist [0, 1, 2, 3]
end KP
namespace KS
open PySem PySem.Spec PyProof.Rows L2 Mi KP KQ
abbrev Fc := Option Bool × Option Bool
def obD : Option Bool → D
  | none => .non
  | some b => .bl b
def fcD (f : Fc) : D := .tup [obD f.1, obD f.2]
def fcGet (f : Fc) (a : Int) : Option Bool := if a = 0 then f.1 else f.2
def fcSet (f : Fc) (a : Int) (b : Bool) : Fc := if a = 0 then (some b, f.2) else (f.1, some b)
def oiD : Option Int → D
  | none => .non
  | some i => .int i
def Kd.d : Kd → D
  | .zero => .kt [.str "zero"]
  | .sec [] => .kt [.str "secret", .kt []]
  | .sec (k :: ks) => .tup [.str "secret", .tup (.int k :: ks.map .int)]
  | .pub n => .tup [.str "public", .int n]
abbrev Sl := Kd × Kd × Option Int
def slD (s : Sl) : D := .tup [s.1.d, s.2.1.d, oiD s.2.2]
structure ASt where
  place : Int
  regs : List Kd
  slots : List Sl
  facts : List Fc
  depth : Option Int
deriving DecidableEq
def ASt.d (S : ASt) : D := .tup [.int S.place, .tup (S.regs.map Kd.d), .tup (S.slots.map slD), .tup (S.facts.map fcD), oiD S.depth]
def slKinds (ss : List Sl) : List Kd := ss.flatMap fun q => [q.1, q.2.1]
/-- the part with this number, if there is one -/
def gt {α : Type} (l : List α) (k : Int) (o : α) : α := if 0 ≤ k then l.getD k.toNat o else o
def ASt.reg (S : ASt) (r : Int) : Kd := gt S.regs r .zero
def ASt.slot (S : ASt) (s : Int) : Sl := gt S.slots s (.zero, .zero, none)
def ren (ns : List Int) : Kd → Kd
  | .pub n => .pub (ns.idxOf n)
  | k => k
def renS (ns : List Int) (q : Sl) : Sl := (ren ns q.1, ren ns q.2.1, q.2.2)
def numberedT (place : Int) (regs : List Kd) (slots : List Sl) (facts : List Fc) (depth : Option Int) : ASt :=
  let ns := numsK (regs ++ slKinds slots)
  ⟨place, regs.map (ren ns), slots.map (renS ns), ns.map fun n => gt facts n (none, none), depth⟩
inductive Dir where
  | step | guess (way : Bool) | stale
deriving DecidableEq
abbrev Lab := Dir × Option (Int × Bool)
def Dir.d : Dir → D
  | .step => .tup [.str "step"]
  | .guess w => .tup [.str "guess", wayD w]
  | .stale => .tup [.str "stale"]
def fctD : Option (Int × Bool) → D
  | none => .non
  | some (a, b) => .tup [.int a, .bl b]
def labD (l : Lab) : D := .tup [l.1.d, fctD l.2]
def stepD (p : Lab × ASt) : D := .tup [labD p.1, p.2.d]
abbrev Win := Option Int
/-- an instruction is made at this depth -/
def deepOk (depth : Option Int) (w : Win) : Bool := match depth, w with
  | some d, some w => decide (d < w)
  | _, _ => true
def can (R : KP.Row) (S : ASt) (w : Win) : Bool := match R with
  | .fin => false
  | .fence => S.depth.isNone
  | _ => deepOk S.depth w
def Kd.isSec : Kd → Bool
  | .sec _ => true
  | _ => false
def shows (R : KP.Row) (S : ASt) : Bool := match R with
  | .load _ _ c => (S.reg c).isSec
  | .test a b _ => match S.reg a with
    | .sec kn => !decide (b ∈ kn)
    | _ => false
  | _ => false
def leakT (R : KP.Row) (S : ASt) (w : Win) : Bool := can R S w && shows R S
/-- the array that is asked, and of which register -/
def asks : KP.Row → Option (Int × Int)
  | .load _ b c => some (b, c)
  | .mask _ b c => some (b, c)
  | .test a b _ => some (b, a)
  | _ => none
def casesT (R : KP.Row) (S : ASt) : List (Bool × Option (Int × Bool) × List Fc) := match asks R with
  | none => [(true, none, S.facts)]
  | some (b, r) => match S.reg r with
    | .zero => [(true, none, S.facts)]
    | .sec kn => [(decide (b ∈ kn), none, S.facts)]
    | .pub n => match fcGet (gt S.facts n (none, none)) b with
      | some t => [(t, none, S.facts)]
      | none => [(true, some (b, true), S.facts.set n.toNat (fcSet (gt S.facts n (none, none)) b true)), (false, some (b, false), S.facts.set n.toNat (fcSet (gt S.facts n (none, none)) b false))]
def maskedT (k : Kd) (b : Int) (t : Bool) : Kd := match k with
  | .pub n => if t then .pub n else .zero
  | .zero => .zero
  | .sec kn => if b ∈ kn then .sec kn else .sec (if kn = [] then [b] else [0, 1])
def givenT (R : KP.Row) (S : ASt) (t : Bool) : Kd := match R with
  | .mix _ b c => if (S.reg b).isSec || (S.reg c).isSec then .sec [] else .pub S.facts.length
  | .load _ _ _ => if t then .pub S.facts.length else .sec []
  | .mask _ b c => maskedT (S.reg c) b t
  | .get _ b => (S.slot b).1
  | _ => .pub S.facts.length
def givesTo : KP.Row → Option Int
  | .ask a => some a
  | .mix a _ _ => some a
  | .load a _ _ => some a
  | .mask a _ _ => some a
  | .get a _ => some a
  | _ => none
def boundedT (p o : Kd) (a : Option Int) (w : Win) : Sl := match a with
  | none => (p, .zero, none)
  | some a => match w with
    | none => (p, o, some 0)
    | some w => if w ≤ a then (p, .zero, none) else (p, o, some a)
def slotT (R : KP.Row) (S : ASt) (w : Win) (s : Int) : Sl :=
  let q := S.slot s
  match R with
  | .fence => (q.1, .zero, none)
  | .put b a => if b = s then boundedT (S.reg a) q.1 (some 0) w else boundedT q.1 q.2.1 (q.2.2.map (· + 1)) w
  | _ => boundedT q.1 q.2.1 (q.2.2.map (· + 1)) w
def slotsT (R : KP.Row) (S : ASt) (w : Win) : List Sl := [slotT R S w 0, slotT R S w 1]
def deeperT (d : Option Int) (w : Win) : Option Int := match d, w with
  | none, _ => none
  | some _, none => some 0
  | some d, some _ => some (d + 1)
def openedT (d : Option Int) (w : Win) : Option Int := match d with
  | none => some 0
  | some d => deeperT (some d) w
/-- the next place of an instruction that is not an end -/
def nxtT (R : KP.Row) (p : Int) (way : Bool) : Int := match R with
  | .jump a => a
  | .test _ _ c => if way then p + 1 else c
  | _ => p + 1
def realR (R : KP.Row) (S : ASt) (t : Bool) : List Kd := match givesTo R with
  | some r => S.regs.set r.toNat (givenT R S t)
  | none => S.regs
def wrongT (R : KP.Row) (S : ASt) (w : Win) (t : Bool) : Option (Dir × Int × List Kd) := match R with
  | .test _ _ _ => if w = some 0 then none else some (.guess !t, nxtT R S.place !t, S.regs)
  | .get a b => match (S.slot b).2.2 with
    | none => none
    | some g => match w with
      | none => some (.stale, S.place + 1, S.regs.set a.toNat (S.slot b).2.1)
      | some w => if w ≤ g then none else some (.stale, S.place + 1, S.regs.set a.toNat (S.slot b).2.1)
  | _ => none
def caseT (R : KP.Row) (S : ASt) (w : Win) (c : Bool × Option (Int × Bool) × List Fc) : List (Lab × ASt) :=
  ((.step, c.2.1), numberedT (nxtT R S.place c.1) (realR R S c.1) (slotsT R S w) (c.2.2 ++ [(none, none)]) (deeperT S.depth w)) ::
  (match wrongT R S w c.1 with
  | none => []
  | some (d, p, rs) => [((d, c.2.1), numberedT p rs (slotsT R S w) (c.2.2 ++ [(none, none)]) (openedT S.depth w))])
def stepsT (R : KP.Row) (S : ASt) (w : Win) : List (Lab × ASt) := if can R S w && !shows R S then (casesT R S).flatMap (caseT R S w) else []
def firstT (sec : List Int) : ASt := ⟨0, [0, 1, 2, 3].map fun r : Int => if r ∈ sec then .sec [] else .zero, [(.zero, .zero, none), (.zero, .zero, none)], [], none⟩
def Kd.ok (m : Nat) : Kd → Prop
  | .zero => True
  | .sec kn => kn = [] ∨ kn = [0] ∨ kn = [1] ∨ kn = [0, 1]
  | .pub n => 0 ≤ n ∧ n < m
def ageOk (w : Win) (a : Int) : Prop := match w with
  | none => a = 0
  | some v => a < v
def depOk (w : Win) (d : Int) : Prop := match w with
  | none => d = 0
  | some v => d ≤ v
def Sl.ok (m : Nat) (w : Win) (q : Sl) : Prop := q.1.ok m ∧ q.2.1.ok m ∧ (q.2.2 = none → q.2.1 = .zero) ∧ ∀ a, q.2.2 = some a → 0 ≤ a ∧ ageOk w a
structure ASt.ok (n : Nat) (w : Win) (S : ASt) : Prop where
  p0 : 0 ≤ S.place
  p1 : S.place < n
  r : S.regs.length = 4
  s : S.slots.length = 2
  rk : ∀ k ∈ S.regs, k.ok S.facts.length
  sk : ∀ q ∈ S.slots, Sl.ok S.facts.length w q
  num : numsK (S.regs ++ slKinds S.slots) = (List.range S.facts.length).map fun i : Nat => (i : Int)
  dp : ∀ d, S.depth = some d → 0 ≤ d ∧ depOk w d
end KS
namespace KS
open PySem PySem.Spec PyProof.Rows L2 Mi KP KQ
theorem getD_map' {α β : Type} (f : α → β) (l : List α) (k : Nat) (o : α) : (l.map f).getD k (f o) = f (l.getD k o) := by
  rw [List.getD_eq_getElem?_getD, List.getD_eq_getElem?_getD, List.getElem?_map]
  cases l[k]? <;> rfl
theorem item_map {α : Type} {f : α → D} {l : List α} {k : Int} {o : α} {od : D} (h : f o = od) : m_item_at [.tup (l.map f), .int k, od] = some (f (gt l k o)) := by
  subst h
  rw [item_tup]
  unfold gt
  by_cases h0 : 0 ≤ k
  · by_cases h1 : k < (l.length : Int)
    · rw [if_pos ⟨h0, by simpa using h1⟩, if_pos h0, getD_map']
    · rw [if_neg (by simp; omega), if_pos h0, List.getD_eq_getElem?_getD, List.getElem?_eq_none (by omega)]
      rfl
  · rw [if_neg (by omega), if_neg h0]
theorem zero_d : Kd.zero.d = .kt [.str "zero"] := rfl
theorem sec1_d {k : Int} {ks : List Int} : (Kd.sec (k :: ks)).d = .tup [.str "secret", .tup (.int k :: ks.map .int)] := rfl
@[simp] theorem od_n : oiD none = .non := rfl
@[simp] theorem od_s {i : Int} : oiD (some i) = .int i := rfl
@[simp] theorem obd_n : obD none = .non := rfl
@[simp] theorem obd_s {b : Bool} : obD (some b) = .bl b := rfl
@[simp] theorem kd_ix0 {k : Kd} : dIx k.d (.int 0) = some (.str (match k with | .zero => "zero" | .sec _ => "secret" | .pub _ => "public")) := by
  cases k with
  | zero => rfl
  | pub n => rfl
  | sec kn => cases kn <;> rfl
@[simp] theorem st0 {S : ASt} : dIx S.d (.int 0) = some (.int S.place) := rfl
@[simp] theorem st1 {S : ASt} : dIx S.d (.int 1) = some (.tup (S.regs.map Kd.d)) := rfl
@[simp] theorem st2 {S : ASt} : dIx S.d (.int 2) = some (.tup (S.slots.map slD)) := rfl
@[simp] theorem st3 {S : ASt} : dIx S.d (.int 3) = some (.tup (S.facts.map fcD)) := rfl
@[simp] theorem st4 {S : ASt} : dIx S.d (.int 4) = some (oiD S.depth) := rfl
@[simp] theorem sl0 {q : Sl} : dIx (slD q) (.int 0) = some q.1.d := rfl
@[simp] theorem sl1 {q : Sl} : dIx (slD q) (.int 1) = some q.2.1.d := rfl
@[simp] theorem sl2 {q : Sl} : dIx (slD q) (.int 2) = some (oiD q.2.2) := rfl
def knD : List Int → D
  | [] => .kt []
  | k :: ks => .tup (.int k :: ks.map .int)
@[simp] theorem kd_ix1 {kn : List Int} : dIx (Kd.sec kn).d (.int 1) = some (knD kn) := by
  cases kn <;> rfl
@[simp] theorem kd_ixp {n : Int} : dIx (Kd.pub n).d (.int 1) = some (.int n) := rfl
theorem bIn_seq {b : Int} {kn : List Int} {d : D} (h : d.seq? = some (kn.map .int)) : bIn (.int b) d = some (decide (b ∈ kn)) := by
  unfold bIn
  rw [h]
  simp only [v_fl3, Option.bind_some, flats_ints, inV_ints]
  simp
@[simp] theorem in_kn {b : Int} {kn : List Int} : dIn (.int b) (knD kn) = some (.bl (decide (b ∈ kn))) := by
  unfold dIn
  rw [bIn_seq (kn := kn) (by cases kn <;> rfl)]
  rfl
@[simp] theorem nin_kn {b : Int} {kn : List Int} : dNin (.int b) (knD kn) = some (.bl (!decide (b ∈ kn))) := by
  unfold dNin
  rw [bIn_seq (kn := kn) (by cases kn <;> rfl)]
  rfl
@[simp] theorem od_non {o : Option Int} : (oiD o).isNon = o.isNone := by cases o <;> rfl
theorem kind_of {S : ASt} {r : Int} : m_kind_of [S.d, .int r] = some (S.reg r).d := by
  have e := item_map (f := Kd.d) (l := S.regs) (k := r) zero_d
  unfold m_kind_of g_kind_of ASt.reg
  unfold ASt.d
  simp (decide := true) [v_def, e]
theorem slot_of {S : ASt} {r : Int} : m_slot_of [S.d, .int r] = some (slD (S.slot r)) := by
  have e := fun (od : D) (h : slD (.zero, .zero, none) = od) => item_map (f := slD) (l := S.slots) (k := r) h
  unfold m_slot_of g_slot_of ASt.slot
  unfold ASt.d
  have e2 := e (.tup [.kt [.str "zero"], .kt [.str "zero"], .non]) rfl
  simp (decide := true) [v_def, e2]
theorem is_window {w : Win} (h : ∀ n, w = some n → 0 ≤ n) : m_is_window [oiD w] = some (.bl true) := by
  have hn : ∀ n : Int, 0 ≤ n → m_is_natural [.int n] = some (.bl true) := fun n hn => by
    unfold m_is_natural g_is_natural
    simp (decide := true) [v_def, hn]
  unfold m_is_window g_is_window
  cases w with
  | none => simp (decide := true) [v_def]
  | some n => simp (decide := true) [v_def, hn n (h n rfl)]
theorem made_row {sec : D} {rows : List KP.Row} {S : ASt} {w : Win} {R : KP.Row} (h0 : 0 ≤ S.place) (hR : rows[S.place.toNat]? = some R) : m_made_row [progD' sec rows, S.d, oiD w] = some (if can R S w = true then R.d else .non) := by
  have e1 := row_at (sec := sec) h0 hR
  unfold m_made_row g_made_row can deepOk
  cases hd : S.depth with
  | none => cases R <;> simp (decide := true) [v_def, e1, hd]
  | some d =>
    cases w with
    | none => cases R <;> simp (decide := true) [v_def, e1, hd]
    | some v =>
      by_cases hv : v ≤ d
      · have hv2 : ¬ d < v := by omega
        cases R <;> simp (decide := true) [v_def, e1, hd, hv, hv2]
      · have hv2 : d < v := by omega
        cases R <;> simp (decide := true) [v_def, e1, hd, hv, hv2]
theorem shows_secret {S : ASt} {R : KP.Row} : m_shows_secret [R.d, S.d] = some (.bl (shows R S)) := by
  unfold m_shows_secret g_shows_secret shows
  cases R with
  | load a b c =>
    have e := kind_of (S := S) (r := c)
    cases hk : S.reg c <;> rw [hk] at e <;> simp (decide := true) [v_def, e, hk, Kd.isSec]
  | test a b c =>
    have e := kind_of (S := S) (r := a)
    cases hk : S.reg a <;> rw [hk] at e <;> simp (decide := true) [v_def, e, hk]
  | _ => simp (decide := true) [v_def]
theorem is_leak {sec : D} {rows : List KP.Row} {S : ASt} {w : Win} {R : KP.Row} (hw : ∀ n, w = some n → 0 ≤ n) (h0 : 0 ≤ S.place) (hR : rows[S.place.toNat]? = some R) : m_is_leak [progD' sec rows, S.d, oiD w] = some (.bl (leakT R S w)) := by
  have e1 := is_window hw
  have e2 := made_row (sec := sec) (w := w) h0 hR
  have e3 := shows_secret (S := S) (R := R)
  unfold m_is_leak g_is_leak leakT
  cases hc : can R S w <;> rw [hc] at e2 <;> simp (decide := true) at e2 <;> simp (decide := true) [v_def, e1, e2, e3]
end KS
namespace KP
open PySem PySem.Spec PyProof.Rows L2 Mi
end KP
namespace KS
open PySem PySem.Spec PyProof.Rows L2 Mi KP KQ
theorem pys_ints : ∀ kn : List Int, pys? (kn.map D.int) = some (kn.map PyData.int)
  | [] => rfl
  | k :: ks => by
    rw [List.map_cons, pys?, pys_ints ks]
    rfl
/-- a kind as data -/
def Kd.py : Kd → PyData
  | .zero => .tuple [.str "zero"]
  | .sec kn => .tuple [.str "secret", .tuple (kn.map .int)]
  | .pub n => .tuple [.str "public", .int n]
theorem kd_py (k : Kd) : k.d.py? = some k.py := by
  cases k with
  | zero => rfl
  | pub n => rfl
  | sec kn =>
    cases kn with
    | nil => rfl
    | cons a l =>
      rw [sec1_d]
      have e := pys_ints (a :: l)
      rw [List.map_cons] at e
      have e2 : (D.tup (.int a :: l.map .int)).py? = some (.tuple ((a :: l).map .int)) := by
        rw [D.py?, e]
        rfl
      show Option.map PyData.tuple (pys? _) = _
      unfold pys?
      simp only [pys?, e2, Option.bind_some]
      rfl
theorem kd_flat (k : Kd) : k.d.flat? = none := by
  cases k with
  | sec kn => cases kn <;> rfl
  | _ => rfl
@[simp] theorem kd_eq0 {k : Kd} : dEq k.d (.kt [.str "zero"]) = some (.bl (match k with | .zero => true | _ => false)) := by
  have h : k.py.depth ≤ 60 := by
    cases k with
    | zero => decide
    | pub n => simp [Kd.py, PyData.depth, PyData.depthAll]
    | sec kn =>
      have : ∀ l : List Int, PyData.depthAll (l.map .int) = 0 := fun l => by
        induction l with
        | nil => rfl
        | cons a l ih => simp [PyData.depthAll, PyData.depth, ih]
      simp [Kd.py, PyData.depth, PyData.depthAll, this]
  unfold dEq bEq
  rw [kd_flat, kd_py]
  simp only [show (D.kt [.str "zero"]).py? = some (.tuple [.str "zero"]) from rfl, if_pos h, Option.map_some]
  cases k <;> simp [Kd.py, PyData.eqv, PyData.eqvAll]
theorem at_map {α : Type} {f : α → D} {l : List α} {k : Int} {o : α} (h : 0 ≤ k) (h2 : k < l.length) : atI (l.map f) k = some (f (gt l k o)) := by
  have q := atN (xs := l.map f) (j := k.toNat) (by simp; omega)
  rw [Int.toNat_of_nonneg h] at q
  rw [q, List.getElem?_map, List.getElem?_eq_getElem (by omega)]
  unfold gt
  rw [if_pos h, List.getD_eq_getElem?_getD, List.getElem?_eq_getElem (by omega)]
  rfl
theorem fc_item {f : Fc} {b : Int} (h0 : 0 ≤ b) (h1 : b < 2) : m_item_at [fcD f, .int b, .non] = some (obD (fcGet f b)) := by
  have : b = 0 ∨ b = 1 := by omega
  unfold fcD
  rw [item_tup]
  rcases this with rfl | rfl <;> rfl
theorem fc_set {f : Fc} {b : Int} {t : Bool} (h0 : 0 ≤ b) (h1 : b < 2) : m_changed [fcD f, .int b, .bl t] = some (fcD (fcSet f b t)) := by
  have : b = 0 ∨ b = 1 := by omega
  unfold fcD
  rw [changed_ok h0 (by simp)]
  rcases this with rfl | rfl <;> rfl
theorem with_fact {fs : List Fc} {n b : Int} {t : Bool} (hn : 0 ≤ n) (hl : n < fs.length) (h0 : 0 ≤ b) (h1 : b < 2) (hf : fs.length ≤ 50000) : m_with_fact [.tup (fs.map fcD), .int n, .int b, .bl t] = some (.tup ((fs.set n.toNat (fcSet (gt fs n (none, none)) b t)).map fcD)) := by
  have e1 := at_map (f := fcD) (o := (none, none)) hn hl
  have e2 := fc_set (f := gt fs n (none, none)) (t := t) h0 h1
  have e3 := changed_ok (xs := fs.map fcD) (k := n) (d := fcD (fcSet (gt fs n (none, none)) b t)) hn (by simpa using hf)
  unfold m_with_fact g_with_fact
  simp (decide := true) [v_def, e1, e2, e3, List.map_set]
def caseD (c : Bool × Option (Int × Bool) × List Fc) : D := .tup [.bl c.1, fctD c.2.1, .tup (c.2.2.map fcD)]
@[simp] theorem tn_load : kNin tab_ASKING (.str "load") = some (.bl false) := rfl
@[simp] theorem tn_mask : kNin tab_ASKING (.str "mask") = some (.bl false) := rfl
@[simp] theorem tn_test : kNin tab_ASKING (.str "test") = some (.bl false) := rfl
@[simp] theorem tn_ask : kNin tab_ASKING (.str "ask") = some (.bl true) := rfl
@[simp] theorem tn_mix : kNin tab_ASKING (.str "mix") = some (.bl true) := rfl
@[simp] theorem tn_put : kNin tab_ASKING (.str "put") = some (.bl true) := rfl
@[simp] theorem tn_get : kNin tab_ASKING (.str "get") = some (.bl true) := rfl
@[simp] theorem tn_fence : kNin tab_ASKING (.str "fence") = some (.bl true) := rfl
@[simp] theorem tn_jump : kNin tab_ASKING (.str "jump") = some (.bl true) := rfl
@[simp] theorem tn_end : kNin tab_ASKING (.str "end") = some (.bl true) := rfl
@[simp] theorem tx_load : kIx tab_ASKING (.str "load") = some (.int 3) := rfl
@[simp] theorem tx_mask : kIx tab_ASKING (.str "mask") = some (.int 3) := rfl
@[simp] theorem tx_test : kIx tab_ASKING (.str "test") = some (.int 1) := rfl
theorem cases_ask {S : ASt} {R : KP.Row} {b r : Int} {word : Str} {xs : List D} (hx : R.xs = .str word :: xs) (hw : kNin tab_ASKING (.str word) = some (.bl false)) (h2 : dIx R.d (.int 2) = some (.int b)) {c : Int} (hi : kIx tab_ASKING (.str word) = some (.int c)) (h3 : dIx R.d (.int c) = some (.int r))
    (ha : asks R = some (b, r)) (hk : (S.reg r).ok S.facts.length) (h0 : 0 ≤ b) (h1 : b < 2) (hf : S.facts.length ≤ 50000) : m_cases [R.d, S.d] = some (.lst ((casesT R S).map caseD)) := by
  have e := kind_of (S := S) (r := r)
  have hd : dIx R.d (.int 0) = some (.str word) := by
    show dIx (.tup R.xs) (.int 0) = _
    rw [hx]
    simp
  unfold m_cases g_cases casesT
  rw [ha]
  simp only []
  cases hr : S.reg r with
  | zero =>
    rw [hr] at e
    simp (decide := true) [v_def, hd, hw, h2, hi, h3, e, caseD, fctD]
  | sec kn =>
    rw [hr] at e
    simp (decide := true) [v_def, hd, hw, h2, hi, h3, e, caseD, fctD]
  | pub n =>
    rw [hr] at e hk
    obtain ⟨n0, n1⟩ := hk
    have e1 := at_map (f := fcD) (l := S.facts) (o := (none, none)) n0 (by omega)
    have e2 := fc_item (f := gt S.facts n (none, none)) h0 h1
    cases hg : fcGet (gt S.facts n (none, none)) b with
    | some t =>
      rw [hg] at e2
      simp (decide := true) [v_def, hd, hw, h2, hi, h3, e, e1, e2, hg, caseD, fctD]
    | none =>
      rw [hg] at e2
      have e3 := fun t => with_fact (fs := S.facts) (n := n) (b := b) (t := t) n0 (by omega) h0 h1 hf
      simp (decide := true) [v_def, hd, hw, h2, hi, h3, e, e1, e2, e3, hg, caseD, fctD]
theorem cases_ok {S : ASt} {R : KP.Row} {n : Nat} {w : Win} (hS : S.ok n w) (hR : R.ok n) (hf : S.facts.length ≤ 50000) : m_cases [R.d, S.d] = some (.lst ((casesT R S).map caseD)) := by
  have hreg : ∀ r : Int, (S.reg r).ok S.facts.length := fun r => by
    unfold ASt.reg gt
    split
    · rw [List.getD_eq_getElem?_getD]
      cases e : S.regs[r.toNat]? with
      | none => exact trivial
      | some k => exact hS.rk k (List.mem_of_getElem? e)
    · exact trivial
  cases R with
  | load a b c => exact cases_ask (word := "load") rfl rfl rfl rfl rfl rfl (hreg c) hR.2.1.1 hR.2.1.2 hf
  | mask a b c => exact cases_ask (word := "mask") rfl rfl rfl rfl rfl rfl (hreg c) hR.2.1.1 hR.2.1.2 hf
  | test a b c => exact cases_ask (word := "test") rfl rfl rfl rfl rfl rfl (hreg a) hR.2.1.1 hR.2.1.2 hf
  | _ =>
    unfold m_cases g_cases casesT
    simp (decide := true) [v_def, asks, caseD, fctD]
theorem masked_ok {k : Kd} {b : Int} {t : Bool} {m : Nat} (hk : k.ok m) (h0 : 0 ≤ b) (h1 : b < 2) : m_masked [k.d, .int b, .bl t] = some (maskedT k b t).d := by
  unfold m_masked g_masked maskedT
  cases k with
  | zero => simp (decide := true) [v_def]
  | pub n => cases t <;> simp (decide := true) [v_def] <;> rfl
  | sec kn =>
    have hb : b = 0 ∨ b = 1 := by omega
    rcases hk with rfl | rfl | rfl | rfl <;> rcases hb with rfl | rfl <;> simp (decide := true) [v_def, knD, aStar] <;> rfl
end KS
namespace KS
open PySem PySem.Spec PyProof.Rows L2 Mi KP KQ
theorem reg_ok {S : ASt} {n : Nat} {w : Win} (hS : S.ok n w) (r : Int) : (S.reg r).ok S.facts.length := by
  unfold ASt.reg gt
  split
  · rw [List.getD_eq_getElem?_getD]
    cases e : S.regs[r.toNat]? with
    | none => exact trivial
    | some k => exact hS.rk k (List.mem_of_getElem? e)
  · exact trivial
theorem given_ok {S : ASt} {R : KP.Row} {n : Nat} {w : Win} {t : Bool} (hS : S.ok n w) (hR : R.ok n) : m_given_states [R.d, S.d, .bl t] = some (givenT R S t).d := by
  have hl : dLen (.tup (S.facts.map fcD)) = some (.int S.facts.length) := by simp
  have hp : ∀ i : Int, (Kd.pub i).d = .tup [.str "public", .int i] := fun _ => rfl
  have hs : (Kd.sec []).d = .kt [.str "secret", .kt []] := rfl
  unfold m_given_states g_given_states givenT
  cases R with
  | mix a b c =>
    have e1 := kind_of (S := S) (r := b)
    have e2 := kind_of (S := S) (r := c)
    cases hb : S.reg b <;> cases hc : S.reg c <;> rw [hb] at e1 <;> rw [hc] at e2 <;> simp (decide := true) [v_def, e1, e2, hb, hc, Kd.isSec, hp, hs]
  | load a b c => cases t <;> simp (decide := true) [v_def, hp, hs]
  | mask a b c =>
    have e1 := kind_of (S := S) (r := c)
    have e2 := masked_ok (t := t) (reg_ok hS c) hR.2.1.1 hR.2.1.2
    simp (decide := true) [v_def, e1, e2]
  | get a b =>
    have e1 := slot_of (S := S) (r := b)
    simp (decide := true) [v_def, e1]
  | _ => simp (decide := true) [v_def, hp]
theorem bounded_ok {p o : Kd} {a : Option Int} {w : Win} : m_bounded [p.d, o.d, oiD a, oiD w] = some (slD (boundedT p o a w)) := by
  have hz : Kd.zero.d = .kt [.str "zero"] := rfl
  unfold m_bounded g_bounded boundedT slD
  cases a with
  | none => simp (decide := true) [v_def, hz]
  | some a =>
    cases w with
    | none => simp (decide := true) [v_def]
    | some v =>
      by_cases h : v ≤ a <;> simp (decide := true) [v_def, h, hz]
theorem next_slot {S : ASt} {R : KP.Row} {n : Nat} {w : Win} {s : Int} (hS : S.ok n w) (h0 : 0 ≤ s) (h1 : s < 2) : m_next_slot [R.d, S.d, oiD w, .int s] = some (slD (slotT R S w s)) := by
  have e1 : atI (S.slots.map slD) s = some (slD (S.slot s)) := at_map h0 (by rw [hS.s]; exact h1)
  have hz : Kd.zero.d = .kt [.str "zero"] := rfl
  have hg : ∀ q : Sl, gT (gsC (gN 4) (gsC (gN 5) (gsC (gN 6) gsN))) (slD q) = some [(4, q.1.d), (5, q.2.1.d), (6, oiD q.2.2)] := fun q => rfl
  have hx : slD ((S.slot s).1, .zero, none) = .tup [(S.slot s).1.d, .kt [.str "zero"], .non] := rfl
  have e2 := fun (a : Option Int) => bounded_ok (p := (S.slot s).1) (o := (S.slot s).2.1) (a := a) (w := w)
  unfold m_next_slot g_next_slot slotT
  cases R with
  | fence => simp (decide := true) [v_def, e1, hg, hx, -v_gT]
  | put b a =>
    have e3 := bounded_ok (p := S.reg a) (o := (S.slot s).1) (a := some 0) (w := w)
    have e4 := kind_of (S := S) (r := a)
    simp only [od_s] at e3
    by_cases hb : b = s
    · simp (decide := true) [v_def, e1, hg, hb, e4, e3, -v_gT]
    · cases ha : (S.slot s).2.2 with
      | none =>
        have e5 := e2 none
        simp only [od_n] at e5
        simp (decide := true) [v_def, e1, hg, hb, ha, e5, -v_gT]
      | some g =>
        have e5 := e2 (some (g + 1))
        simp only [od_s] at e5
        simp (decide := true) [v_def, e1, hg, hb, ha, e5, -v_gT]
  | _ =>
    cases ha : (S.slot s).2.2 with
    | none =>
      have e5 := e2 none
      simp only [od_n] at e5
      simp (decide := true) [v_def, e1, hg, ha, e5, -v_gT]
    | some g =>
      have e5 := e2 (some (g + 1))
      simp only [od_s] at e5
      simp (decide := true) [v_def, e1, hg, ha, e5, -v_gT]
theorem deeper_ok {d w : Option Int} : m_deeper [oiD d, oiD w] = some (oiD (deeperT d w)) := by
  unfold m_deeper g_deeper deeperT
  cases d <;> cases w <;> simp (decide := true) [v_def]
theorem opened_ok {d w : Option Int} : m_opened [oiD d, oiD w] = some (oiD (openedT d w)) := by
  have e := deeper_ok (d := d) (w := w)
  unfold m_opened g_opened openedT
  cases d with
  | none => simp (decide := true) [v_def]
  | some d =>
    simp only [od_s] at e
    simp (decide := true) [v_def, e]
theorem nxt_ok {R : KP.Row} {p : Int} {b : Bool} (h : R ≠ .fin) : R.nxt p (some b) = some (nxtT R p b) := by
  cases R <;> cases b <;> simp [Row.nxt, nxtT] at h ⊢
theorem nxt_non {R : KP.Row} {p : Int} (h : R ≠ .fin) (h2 : ∀ a b c, R ≠ .test a b c) : R.nxt p none = some (nxtT R p true) := by
  cases R <;> simp [Row.nxt, nxtT] at h h2 ⊢
theorem real_step {S : ASt} {R : KP.Row} {n : Nat} {w : Win} {t : Bool} (hS : S.ok n w) (hR : R.ok n) (hf : R ≠ .fin) : m_real_step [R.d, S.d, .bl t] = some (.tup [.int (nxtT R S.place t), .tup ((realR R S t).map Kd.d)]) := by
  have e1 := next_place (R := R) S.place (some t)
  rw [nxt_ok hf] at e1
  simp only [pD] at e1
  have e2 := given_ok (t := t) hS hR
  have e3 : ∀ r : Int, 0 ≤ r → m_changed [.tup (S.regs.map Kd.d), .int r, (givenT R S t).d] = some (.tup ((S.regs.set r.toNat (givenT R S t)).map Kd.d)) := fun r hr => by
    rw [changed_ok hr (by rw [List.length_map, hS.r]; decide), List.map_set]
  have ew : (if t = true then some (D.str "in") else some (D.str "out")) = some (wayD t) := by cases t <;> rfl
  have ew2 : outD (some t) = wayD t := rfl
  rw [ew2] at e1
  unfold m_real_step g_real_step realR
  cases R with
  | fin => exact absurd rfl hf
  | ask a => have e4 := e3 a hR.1; simp (decide := true) [v_def, ew, e1, e2, e4, givesTo]
  | mix a b c => have e4 := e3 a hR.1.1; simp (decide := true) [v_def, ew, e1, e2, e4, givesTo]
  | load a b c => have e4 := e3 a hR.1.1; simp (decide := true) [v_def, ew, e1, e2, e4, givesTo]
  | mask a b c => have e4 := e3 a hR.1.1; simp (decide := true) [v_def, ew, e1, e2, e4, givesTo]
  | get a b => have e4 := e3 a hR.1.1; simp (decide := true) [v_def, ew, e1, e2, e4, givesTo]
  | _ => simp (decide := true) [v_def, ew, e1, givesTo]
def wrongD : Option (Dir × Int × List Kd) → D
  | none => .non
  | some (d, p, rs) => .tup [d.d, .int p, .tup (rs.map Kd.d)]
@[simp] theorem v_nsN {i : Int} : dNeS .non (.int i) = some (.bl true) := by
  have h : dNeP .non (.int i) = some (.bl (!decide (V.non = V.int i))) := rfl
  unfold dNeS
  rw [h]
  simp
theorem wrong_ok {S : ASt} {R : KP.Row} {n : Nat} {w : Win} {t : Bool} (hS : S.ok n w) (hR : R.ok n) : m_wrong_guess [R.d, S.d, oiD w, .bl t] = some (wrongD (wrongT R S w t)) := by
  have ew : (if t = true then some (D.str "out") else some (D.str "in")) = some (wayD (!t)) := by cases t <;> rfl
  unfold m_wrong_guess g_wrong_guess wrongT
  cases R with
  | test a b c =>
    have e1 := next_place (R := .test a b c) S.place (some (!t))
    rw [nxt_ok (by simp)] at e1
    simp only [pD] at e1
    rw [show outD (some (!t)) = wayD (!t) from rfl] at e1
    cases w with
    | none => simp (decide := true) [v_def, ew, e1, wrongD, Dir.d]
    | some v =>
      by_cases hv : v = 0
      · subst hv
        simp (decide := true) [v_def, ew, e1, wrongD, Dir.d]
      · simp (decide := true) [v_def, ew, e1, wrongD, Dir.d, hv]
  | get a b =>
    have e1 := next_place (R := .get a b) S.place none
    rw [nxt_non (by simp) (by simp)] at e1
    simp only [pD] at e1
    rw [show outD none = .non from rfl] at e1
    have e2 := slot_of (S := S) (r := b)
    have e3 : m_changed [.tup (S.regs.map Kd.d), .int a, (S.slot b).2.1.d] = some (.tup ((S.regs.set a.toNat (S.slot b).2.1).map Kd.d)) := by
      rw [changed_ok hR.1.1 (by rw [List.length_map, hS.r]; decide), List.map_set]
    have hg : ∀ q : Sl, gT (gsC (gN 7) (gsC (gN 8) (gsC (gN 9) gsN))) (slD q) = some [(7, q.1.d), (8, q.2.1.d), (9, oiD q.2.2)] := fun q => rfl
    cases ha : (S.slot b).2.2 with
    | none => cases w <;> simp (decide := true) [v_def, e2, hg, ha, wrongD, -v_gT]
    | some g =>
      cases w with
      | none => simp (decide := true) [v_def, e1, e2, e3, hg, ha, wrongD, Dir.d, nxtT, -v_gT]
      | some v =>
        by_cases hv : v ≤ g <;> simp (decide := true) [v_def, e1, e2, e3, hg, ha, hv, wrongD, Dir.d, nxtT, -v_gT]
  | _ => simp (decide := true) [v_def, wrongD]
end KS
namespace KS
open PySem PySem.Spec PyProof.Rows L2 Mi KP KQ
theorem ints_map : ∀ ns : List Int, ints? (ns.map D.int) = some ns
  | [] => rfl
  | n :: ns => by
    rw [List.map_cons, ints?, ints_map ns]
    rfl
theorem intsD_map : ∀ ns : List Int, intsD (ns.map D.int) = some ns
  | [] => rfl
  | n :: ns => by
    have := intsD_map ns
    simp [intsD, this]
@[simp] theorem kd_kd (k : Kd) : kd? k.d = some k := by
  cases k with
  | zero => rfl
  | pub n => rfl
  | sec kn =>
    cases kn with
    | nil => rfl
    | cons a l =>
      have e := ints_map (a :: l)
      rw [List.map_cons] at e
      show (match ([.str "secret", .tup (.int a :: l.map .int)] : List D) with
        | [.str s] => if s = "zero" then some Kd.zero else none
        | [.str s, .int n] => if s = "public" then some (.pub n) else none
        | [.str s, x] => if s = "secret" then (seqT? x).bind fun ys => (ints? ys).map .sec else none
        | _ => none) = _
      simp [seqT?, e]
theorem slot_sl (q : Sl) : slot? (slD q) = some (q.1, q.2.1, oiD q.2.2) := by
  unfold slot? slD
  simp
theorem mapM_kd : ∀ ks : List Kd, (ks.map Kd.d).mapM kd? = some ks
  | [] => rfl
  | k :: ks => by
    rw [List.map_cons, List.mapM_cons, kd_kd, mapM_kd ks]
    rfl
theorem mapM_sl : ∀ ks : List Sl, (ks.map slD).mapM slot? = some (ks.map fun q => (q.1, q.2.1, oiD q.2.2))
  | [] => rfl
  | k :: ks => by
    rw [List.map_cons, List.mapM_cons, slot_sl, mapM_sl ks]
    rfl
theorem pn_eq {rs : List Kd} {ss : List Sl} {r s : D} (hr : r.seq? = some (rs.map Kd.d)) (hs : s.seq? = some (ss.map slD)) (hl : rs.length + 2 * ss.length < 50000) : m_public_numbers [r, s] = some (.lst ((numsK (rs ++ slKinds ss)).map .int)) := by
  unfold m_public_numbers
  simp only [hr, hs, Option.bind_some, mapM_kd, mapM_sl, List.length_map, if_pos hl]
  unfold slKinds
  rw [List.flatMap_map]
theorem nums_mem {n : Int} : ∀ (ks : List Kd) (acc : List Int), n ∈ numsA acc ks ↔ n ∈ acc ∨ Kd.pub n ∈ ks
  | [], acc => by simp [numsA]
  | .zero :: ks, acc => by simp [numsA, nums_mem ks acc]
  | .sec kn :: ks, acc => by simp [numsA, nums_mem ks acc]
  | .pub m :: ks, acc => by
    rw [numsA, nums_mem]
    by_cases h : m ∈ acc
    · rw [if_pos h]
      constructor
      · rintro (h1 | h1)
        · exact .inl h1
        · exact .inr (List.mem_cons_of_mem _ h1)
      · rintro (h1 | h1)
        · exact .inl h1
        · rcases List.mem_cons.mp h1 with e | h1
          · cases e; exact .inl h
          · exact .inr h1
    · rw [if_neg h, List.mem_append]
      simp only [List.mem_cons, List.not_mem_nil, or_false, Kd.pub.injEq]
      constructor
      · rintro ((h1 | h1) | h1)
        · exact .inl h1
        · exact .inr (.inl h1)
        · exact .inr (.inr h1)
      · rintro (h1 | h1 | h1)
        · exact .inl (.inl h1)
        · exact .inl (.inr h1)
        · exact .inr h1
theorem numsK_mem {n : Int} {ks : List Kd} : n ∈ numsK ks ↔ Kd.pub n ∈ ks := by
  unfold numsK
  rw [nums_mem]
  simp
theorem renamed_ok {k : Kd} {ns : List Int} (h : ∀ n, k = .pub n → n ∈ ns) : m_renamed [k.d, .lst (ns.map .int)] = some (ren ns k).d := by
  unfold m_renamed g_renamed ren
  cases k with
  | pub n =>
    have e : dIdxL (.lst (ns.map .int)) (.int n) = some (.int (ns.idxOf n : Nat)) := by
      unfold dIdxL
      simp only [intsD_map, Option.bind_some, if_pos (h n rfl)]
    simp (decide := true) [v_def, e]
    rfl
  | _ => simp (decide := true) [v_def]
theorem lc_ren {ns : List Int} {ρ : E} (h5 : ρ[5]? = some (some (.lst (ns.map .int)))) (hl : ρ.length = 11) {rs : List Kd} (h : ∀ n, Kd.pub n ∈ rs → n ∈ ns) :
    lcF (gN 6) fYes (eA m_renamed (aCons (eVar 6) (aCons (eVar 5) aNil))) ρ (rs.map Kd.d) = some ((rs.map (ren ns)).map Kd.d) := by
  rw [lcF_map (fun d => match kd? d with | some k => (ren ns k).d | none => .non) _ fun d hd => ?_]
  · rw [List.map_map, List.map_map]
    congr 1
    apply List.map_congr_left
    intro k _
    simp
  · obtain ⟨k, hk, rfl⟩ := List.mem_map.mp hd
    refine ⟨[(6, k.d)], rfl, ?_⟩
    have e := renamed_ok (k := k) (ns := ns) fun n hn => h n (by rw [← hn]; exact hk)
    have e6 : (ρ.set 6 (some k.d))[6]? = some (some k.d) := List.getElem?_set_self (by omega)
    have e5 : (ρ.set 6 (some k.d))[5]? = some (some (.lst (ns.map .int))) := by rw [List.getElem?_set_ne (by decide)]; exact h5
    simp [e6, e5, e]
theorem lc_slot {ns : List Int} {ρ : E} (h5 : ρ[5]? = some (some (.lst (ns.map .int)))) (hl : ρ.length = 11) {ss : List Sl} (h : ∀ n, Kd.pub n ∈ slKinds ss → n ∈ ns) :
    lcF (gT (gsC (gN 8) (gsC (gN 9) (gsC (gN 10) gsN)))) fYes (fTup (aCons (eA m_renamed (aCons (eVar 8) (aCons (eVar 5) aNil))) (aCons (eA m_renamed (aCons (eVar 9) (aCons (eVar 5) aNil))) (aCons (eVar 10) aNil)))) ρ (ss.map slD) = some ((ss.map (renS ns)).map slD) := by
  rw [lcF_map (fun d => match slot? d with | some q => .tup [(ren ns q.1).d, (ren ns q.2.1).d, q.2.2] | none => .non) _ fun d hd => ?_]
  · rw [List.map_map, List.map_map]
    congr 1
    apply List.map_congr_left
    intro k _
    simp only [Function.comp, slot_sl]
    rfl
  · obtain ⟨q, hk, rfl⟩ := List.mem_map.mp hd
    refine ⟨[(8, q.1.d), (9, q.2.1.d), (10, oiD q.2.2)], rfl, ?_⟩
    have hq : ∀ k, k = q.1 ∨ k = q.2.1 → k ∈ slKinds ss := fun k h => by
      unfold slKinds
      rw [List.mem_flatMap]
      exact ⟨q, hk, by rcases h with rfl | rfl <;> simp⟩
    have e := renamed_ok (k := q.1) (ns := ns) fun n hn => h n (by rw [← hn]; exact hq _ (.inl rfl))
    have e' := renamed_ok (k := q.2.1) (ns := ns) fun n hn => h n (by rw [← hn]; exact hq _ (.inr rfl))
    have e8 : (((ρ.set 8 (some q.1.d)).set 9 (some q.2.1.d)).set 10 (some (oiD q.2.2)))[8]? = some (some q.1.d) := by rw [List.getElem?_set_ne (by decide), List.getElem?_set_ne (by decide)]; exact List.getElem?_set_self (by omega)
    have e9 : (((ρ.set 8 (some q.1.d)).set 9 (some q.2.1.d)).set 10 (some (oiD q.2.2)))[9]? = some (some q.2.1.d) := by rw [List.getElem?_set_ne (by decide)]; exact List.getElem?_set_self (by simp; omega)
    have e10 : (((ρ.set 8 (some q.1.d)).set 9 (some q.2.1.d)).set 10 (some (oiD q.2.2)))[10]? = some (some (oiD q.2.2)) := List.getElem?_set_self (by simp; omega)
    have e5 : (((ρ.set 8 (some q.1.d)).set 9 (some q.2.1.d)).set 10 (some (oiD q.2.2)))[5]? = some (some (.lst (ns.map .int))) := by rw [List.getElem?_set_ne (by decide), List.getElem?_set_ne (by decide), List.getElem?_set_ne (by decide)]; exact h5
    simp only [v_putE, v_putE0, v_tup, v_cons, v_eA, Mi.v_var, e8, e9, e10, e5, v_nil, Option.bind_some, id, e, e', slot_sl]
    simp
theorem lc_fact {ρ : E} {fs : List Fc} (h3 : ρ[3]? = some (some (.tup (fs.map fcD)))) (hl : ρ.length = 11) {ns : List Int} (h : ∀ n ∈ ns, 0 ≤ n ∧ n < fs.length) :
    lcF (gN 7) fYes (e2 dIx (eVar 3) (eVar 7)) ρ (ns.map .int) = some ((ns.map fun n => gt fs n (none, none)).map fcD) := by
  rw [lcF_map (fun d => match d with | .int n => fcD (gt fs n (none, none)) | _ => .non) _ fun d hd => ?_]
  · rw [List.map_map, List.map_map]
    rfl
  · obtain ⟨n, hk, rfl⟩ := List.mem_map.mp hd
    refine ⟨[(7, .int n)], rfl, ?_⟩
    have e := at_map (f := fcD) (l := fs) (o := (none, none)) (h n hk).1 (h n hk).2
    have e7 : (ρ.set 7 (some (.int n)))[7]? = some (some (.int n)) := List.getElem?_set_self (by omega)
    have e3 : (ρ.set 7 (some (.int n)))[3]? = some (some (.tup (fs.map fcD))) := by rw [List.getElem?_set_ne (by decide)]; exact h3
    simp [e7, e3, e]
theorem numsA_len : ∀ (ks : List Kd) (acc : List Int), (numsA acc ks).length ≤ acc.length + ks.length
  | [], acc => by simp [numsA]
  | .zero :: ks, acc => by have := numsA_len ks acc; simp [numsA]; omega
  | .sec kn :: ks, acc => by have := numsA_len ks acc; simp [numsA]; omega
  | .pub m :: ks, acc => by
    have := numsA_len ks (if m ∈ acc then acc else acc ++ [m])
    have h2 : (if m ∈ acc then acc else acc ++ [m]).length ≤ acc.length + 1 := by split <;> simp
    simp only [numsA, List.length_cons]
    omega
theorem numbered_ok {p : Int} {rs : List Kd} {ss : List Sl} {fs : List Fc} {d : Option Int} (hn : ∀ n, Kd.pub n ∈ rs ++ slKinds ss → 0 ≤ n ∧ n < fs.length) (h1 : rs.length = 4) (h2 : ss.length = 2) :
    m_numbered [.int p, .tup (rs.map Kd.d), .lst (ss.map slD), .tup (fs.map fcD), oiD d] = some (numberedT p rs ss fs d).d := by
  have e0 := pn_eq (rs := rs) (ss := ss) (r := .tup (rs.map Kd.d)) (s := .lst (ss.map slD)) rfl rfl (by omega)
  generalize hns : numsK (rs ++ slKinds ss) = ns at e0
  have hm : ∀ n, Kd.pub n ∈ rs ++ slKinds ss → n ∈ ns := fun n h => by rw [← hns]; exact numsK_mem.mpr h
  have hb : ∀ n ∈ ns, 0 ≤ n ∧ n < fs.length := fun n h => hn n (numsK_mem.mp (by rw [hns]; exact h))
  have hsl : (slKinds ss).length = 4 := by
    match ss, h2 with
    | [a, b], _ => rfl
  have hnl : ns.length ≤ 8 := by
    have := numsA_len (rs ++ slKinds ss) []
    rw [← hns]
    unfold numsK
    rw [List.length_append, hsl, h1] at this
    simpa using this
  have hnl2 : ns.length ≤ 50000 := by omega
  have hl1 : rs.length ≤ 50000 := by omega
  have hl2 : ss.length ≤ 50000 := by omega
  have a1 := fun (ρ : E) (h : ρ[5]? = _) (hl : ρ.length = 11) => lc_ren h hl (rs := rs) fun n h => hm n (List.mem_append_left _ h)
  have a2 := fun (ρ : E) (h : ρ[5]? = _) (hl : ρ.length = 11) => lc_slot h hl (ss := ss) fun n h => hm n (List.mem_append_right _ h)
  have a3 := fun (ρ : E) (h : ρ[3]? = some (some (.tup (fs.map fcD)))) (hl : ρ.length = 11) => lc_fact h hl hb
  unfold m_numbered g_numbered numberedT
  simp only [hns]
  simp (decide := true) [v_def, e0, -v_lcF, hnl2, hl1, hl2, a1, a2, a3, ASt.d]
end KS
namespace KS
open PySem PySem.Spec PyProof.Rows L2 Mi KP KQ
theorem Kd.ok.mono {m m' : Nat} {k : Kd} (h : k.ok m) (hm : m ≤ m') : k.ok m' := by
  cases k with
  | pub n => exact ⟨h.1, by have := h.2; omega⟩
  | _ => exact h
theorem slot_ok {S : ASt} {n : Nat} {w : Win} (hS : S.ok n w) (s : Int) : Sl.ok S.facts.length w (S.slot s) := by
  have h0 : Sl.ok S.facts.length w (.zero, .zero, none) := ⟨trivial, trivial, fun _ => rfl, fun a e => by cases e⟩
  unfold ASt.slot gt
  split
  · rw [List.getD_eq_getElem?_getD]
    cases e : S.slots[s.toNat]? with
    | none => exact h0
    | some k => exact hS.sk k (List.mem_of_getElem? e)
  · exact h0
theorem masked_kd {k : Kd} {b : Int} {t : Bool} {m : Nat} (hk : k.ok m) (h0 : 0 ≤ b) (h1 : b < 2) : (maskedT k b t).ok m := by
  unfold maskedT
  cases k with
  | zero => exact trivial
  | pub n =>
    simp only []
    split
    · exact hk
    · exact trivial
  | sec kn =>
    have hb : b = 0 ∨ b = 1 := by omega
    rcases hk with rfl | rfl | rfl | rfl <;> rcases hb with rfl | rfl <;> simp [Kd.ok]
theorem given_kd {S : ASt} {R : KP.Row} {n : Nat} {w : Win} {t : Bool} (hS : S.ok n w) (hR : R.ok n) : (givenT R S t).ok (S.facts.length + 1) := by
  have hp : (Kd.pub (S.facts.length : Int)).ok (S.facts.length + 1) := ⟨by omega, by omega⟩
  have hs : (Kd.sec []).ok (S.facts.length + 1) := .inl rfl
  unfold givenT
  cases R with
  | mix a b c =>
    simp only []
    split
    · exact hs
    · exact hp
  | load a b c =>
    simp only []
    split
    · exact hp
    · exact hs
  | mask a b c => exact (masked_kd (reg_ok hS c) hR.2.1.1 hR.2.1.2).mono (by omega)
  | get a b => exact (slot_ok hS b).1.mono (by omega)
  | _ => exact hp
theorem real_kd {S : ASt} {R : KP.Row} {n : Nat} {w : Win} {t : Bool} (hS : S.ok n w) (hR : R.ok n) : (realR R S t).length = 4 ∧ ∀ k ∈ realR R S t, k.ok (S.facts.length + 1) := by
  unfold realR
  split
  · refine ⟨by rw [List.length_set, hS.r], fun k hk => ?_⟩
    rcases List.mem_or_eq_of_mem_set hk with h | rfl
    · exact (hS.rk k h).mono (by omega)
    · exact given_kd hS hR
  · exact ⟨hS.r, fun k hk => (hS.rk k hk).mono (by omega)⟩
theorem Sl.ok.mono {m m' : Nat} {w : Win} {q : Sl} (h : Sl.ok m w q) (hm : m ≤ m') : Sl.ok m' w q := ⟨h.1.mono hm, h.2.1.mono hm, h.2.2⟩
theorem bounded_kd {p o : Kd} {a : Option Int} {w : Win} {m : Nat} (hp : p.ok m) (ho : o.ok m) (ha : ∀ x, a = some x → 0 ≤ x) : Sl.ok m w (boundedT p o a w) := by
  have h0 : Sl.ok m w (p, .zero, none) := ⟨hp, trivial, fun _ => rfl, fun a e => by cases e⟩
  unfold boundedT
  cases a with
  | none => exact h0
  | some a =>
    have h1 := ha a rfl
    cases w with
    | none => exact ⟨hp, ho, fun e => (by cases e), fun x e => (by cases e; exact ⟨Int.le_refl _, rfl⟩)⟩
    | some v =>
      simp only []
      split
      · exact h0
      · rename_i hv
        exact ⟨hp, ho, fun e => (by cases e), fun x e => (by cases e; exact ⟨h1, by show a < v; omega⟩)⟩
theorem slotT_kd {S : ASt} {R : KP.Row} {n : Nat} {w : Win} {s : Int} (hS : S.ok n w) : Sl.ok S.facts.length w (slotT R S w s) := by
  obtain ⟨h1, h2, h3, h4⟩ := slot_ok hS s
  have hb := bounded_kd (w := w) h1 h2 (a := (S.slot s).2.2.map (· + 1)) fun x e => by
    obtain ⟨y, hy, rfl⟩ := Option.map_eq_some_iff.mp e
    have := (h4 y hy).1
    omega
  unfold slotT
  cases R with
  | fence => exact ⟨h1, trivial, fun _ => rfl, fun a e => by cases e⟩
  | put b a =>
    simp only []
    split
    · exact bounded_kd (reg_ok hS a) h1 fun x e => by cases e; exact Int.le_refl _
    · exact hb
  | _ => exact hb
theorem case_len {S : ASt} {R : KP.Row} {c : Bool × Option (Int × Bool) × List Fc} (h : c ∈ casesT R S) : c.2.2.length = S.facts.length := by
  unfold casesT at h
  split at h
  · simp at h; subst h; rfl
  · split at h
    · simp at h; subst h; rfl
    · simp at h; subst h; rfl
    · split at h
      · simp at h; subst h; rfl
      · simp at h
        rcases h with rfl | rfl <;> simp
theorem numsA_nodup : ∀ (ks : List Kd) (acc : List Int), acc.Nodup → (numsA acc ks).Nodup
  | [], acc, h => h
  | .zero :: ks, acc, h => numsA_nodup ks acc h
  | .sec _ :: ks, acc, h => numsA_nodup ks acc h
  | .pub m :: ks, acc, h => by
    rw [numsA]
    split
    · exact numsA_nodup ks acc h
    · rename_i hm
      exact numsA_nodup ks _ (List.nodup_append.mpr ⟨h, by simp, fun a ha b hb e => by simp at hb; subst hb; subst e; exact hm ha⟩)
theorem numsA_ren (ns : List Int) : ∀ (ks : List Kd) (acc : List Int), (∀ n ∈ acc, n ∈ ns) → (∀ n, Kd.pub n ∈ ks → n ∈ ns) →
    numsA (acc.map fun n => (ns.idxOf n : Int)) (ks.map (ren ns)) = (numsA acc ks).map fun n => (ns.idxOf n : Int)
  | [], acc, _, _ => rfl
  | .zero :: ks, acc, h, h2 => numsA_ren ns ks acc h fun n hn => h2 n (List.mem_cons_of_mem _ hn)
  | .sec _ :: ks, acc, h, h2 => numsA_ren ns ks acc h fun n hn => h2 n (List.mem_cons_of_mem _ hn)
  | .pub m :: ks, acc, h, h2 => by
    have hm := h2 m (by simp)
    have e : ((ns.idxOf m : Int) ∈ acc.map fun n => (ns.idxOf n : Int)) ↔ m ∈ acc := by
      constructor
      · intro hh
        obtain ⟨x, hx, hxe⟩ := List.mem_map.mp hh
        have hl := List.idxOf_lt_length_of_mem hm
        have hl2 := List.idxOf_lt_length_of_mem (h x hx)
        have : ns.idxOf x = ns.idxOf m := by omega
        have e1 := List.getElem_idxOf hl2
        have e2 := List.getElem_idxOf hl
        have : x = m := by
          rw [← e1, ← e2]
          congr 1
        rw [← this]
        exact hx
      · exact fun hh => List.mem_map.mpr ⟨m, hh, rfl⟩
    rw [List.map_cons, ren, numsA, numsA]
    by_cases hh : m ∈ acc
    · rw [if_pos (e.mpr hh), if_pos hh]
      exact numsA_ren ns ks acc h fun n hn => h2 n (List.mem_cons_of_mem _ hn)
    · rw [if_neg (fun z => hh (e.mp z)), if_neg hh]
      have := numsA_ren ns ks (acc ++ [m]) (fun n hn => by
        rcases List.mem_append.mp hn with q | q
        · exact h n q
        · simp at q; subst q; exact hm) fun n hn => h2 n (List.mem_cons_of_mem _ hn)
      rw [List.map_append] at this
      exact this
theorem idx_range : ∀ (l : List Int), l.Nodup → l.map (fun n => (l.idxOf n : Int)) = (List.range l.length).map fun i : Nat => (i : Int) := fun l h => by
  apply List.ext_getElem
  · simp
  · intro i h1 h2
    simp at h1
    rw [List.getElem_map, List.getElem_map, List.getElem_range]
    congr 1
    exact h.idxOf_getElem i h1
theorem numsK_ren (ks : List Kd) : numsK (ks.map (ren (numsK ks))) = (List.range (numsK ks).length).map fun i : Nat => (i : Int) := by
  have h := numsA_ren (numsK ks) ks [] (fun n hn => by cases hn) fun n hn => numsK_mem.mpr hn
  unfold numsK at h ⊢
  rw [List.map_nil] at h
  rw [h]
  exact idx_range _ (numsA_nodup ks [] (by simp))
theorem slKinds_ren (ns : List Int) (ss : List Sl) : slKinds (ss.map (renS ns)) = (slKinds ss).map (ren ns) := by
  unfold slKinds
  induction ss with
  | nil => rfl
  | cons q ss ih =>
    rw [List.map_cons, List.flatMap_cons, List.flatMap_cons, List.map_append, ih]
    rfl
theorem ren_kd {ns : List Int} {k : Kd} {m : Nat} (hk : k.ok m) (h : ∀ n, k = .pub n → n ∈ ns) : (ren ns k).ok ns.length := by
  cases k with
  | pub n => exact ⟨by omega, by have := List.idxOf_lt_length_of_mem (h n rfl); omega⟩
  | _ => exact hk
theorem numbered_ok' {p : Int} {rs : List Kd} {ss : List Sl} {fs : List Fc} {d : Option Int} {n : Nat} {w : Win} {m : Nat} (h1 : rs.length = 4) (h2 : ss.length = 2) (p0 : 0 ≤ p) (p1 : p < n) (hr : ∀ k ∈ rs, k.ok m) (hs : ∀ q ∈ ss, Sl.ok m w q)
    (hd : ∀ x, d = some x → 0 ≤ x ∧ depOk w x) : (numberedT p rs ss fs d).ok n w := by
  have hm : ∀ k, k ∈ rs ++ slKinds ss → ∀ x, k = Kd.pub x → x ∈ numsK (rs ++ slKinds ss) := fun k hk x e => numsK_mem.mpr (by rw [← e]; exact hk)
  have hmem : ∀ q ∈ ss, q.1 ∈ slKinds ss ∧ q.2.1 ∈ slKinds ss := fun q hq => by
    unfold slKinds
    exact ⟨List.mem_flatMap.mpr ⟨q, hq, by simp⟩, List.mem_flatMap.mpr ⟨q, hq, by simp⟩⟩
  refine ⟨p0, p1, by simp [numberedT, h1], by simp [numberedT, h2], fun k hk => ?_, fun q hq => ?_, ?_, hd⟩
  · obtain ⟨k0, hk0, rfl⟩ := List.mem_map.mp hk
    have := ren_kd (hr k0 hk0) (hm k0 (List.mem_append_left _ hk0))
    simpa [numberedT] using this
  · obtain ⟨q0, hq0, rfl⟩ := List.mem_map.mp hq
    obtain ⟨a1, a2, a3, a4⟩ := hs q0 hq0
    have b1 := ren_kd a1 (hm q0.1 (List.mem_append_right _ (hmem q0 hq0).1))
    have b2 := ren_kd a2 (hm q0.2.1 (List.mem_append_right _ (hmem q0 hq0).2))
    refine ⟨by simpa [numberedT, renS] using b1, by simpa [numberedT, renS] using b2, fun e => ?_, a4⟩
    have := a3 e
    show ren _ q0.2.1 = _
    rw [this]
    rfl
  · show numsK (rs.map _ ++ slKinds (ss.map _)) = _
    rw [slKinds_ren, ← List.map_append, numsK_ren]
    simp [numberedT]
end KS
namespace KS
open PySem PySem.Spec PyProof.Rows L2 Mi KP KQ
theorem facts_le {S : ASt} {n : Nat} {w : Win} (hS : S.ok n w) : S.facts.length ≤ 8 := by
  have h1 := hS.num
  have hsl : (slKinds S.slots).length = 4 := by
    match h : S.slots, hS.s with
    | [a, b], _ => rfl
  have h2 := numsA_len (S.regs ++ slKinds S.slots) []
  have h3 := congrArg List.length h1
  unfold numsK at h3
  rw [List.length_map, List.length_range] at h3
  rw [List.length_append, hsl, hS.r] at h2
  simp at h2
  omega
noncomputable abbrev b_steps : FS := (sSeq (sAsg 10 (e2 dAdd (eVar 9) (fTup (aCons (e2 dMul (fTup (aCons (eC .non) (aNil))) (eC (.int 2))) (aNil)))))
  (sSeq (sAsgT (gT (gsC (gN 13) (gsC (gN 14) (gsN)))) (eA m_real_step (aCons (eVar 3) (aCons (eVar 1) (aCons (eVar 7) (aNil))))))
  (sSeq (sApp 6 (fTup (aCons (fTup (aCons (fTup (aCons (eC (.str "step")) (aNil))) (aCons (eVar 8) (aNil)))) (aCons (eA m_numbered (aCons (eVar 13) (aCons (eVar 14) (aCons (eVar 4) (aCons (eVar 10) (aCons (eA m_deeper (aCons (eVar 5) (aCons (eVar 2) (aNil)))) (aNil))))))) (aNil)))))
  (sSeq (sAsg 11 (eA m_wrong_guess (aCons (eVar 3) (aCons (eVar 1) (aCons (eVar 2) (aCons (eVar 7) (aNil)))))))
  (sIf (tB (e2 dIsn (eVar 11) (eC .non))) (sSeq (sAsgT (gT (gsC (gN 15) (gsC (gN 13) (gsC (gN 14) (gsN))))) (eVar 11))
  (sApp 6 (fTup (aCons (fTup (aCons (eVar 15) (aCons (eVar 8) (aNil)))) (aCons (eA m_numbered (aCons (eVar 13) (aCons (eVar 14) (aCons (eVar 4) (aCons (eVar 10) (aCons (eA m_opened (aCons (eVar 5) (aCons (eVar 2) (aNil)))) (aNil))))))) (aNil)))))) (sNext))))))
theorem pub_bound {rs : List Kd} {ss : List Sl} {m : Nat} {w : Win} {fs : List Fc} (hr : ∀ k ∈ rs, k.ok m) (hs : ∀ q ∈ ss, Sl.ok m w q) (hm : m ≤ fs.length) : ∀ n, Kd.pub n ∈ rs ++ slKinds ss → 0 ≤ n ∧ n < fs.length := fun n hn => by
  rcases List.mem_append.mp hn with h | h
  · have := hr _ h
    exact ⟨this.1, by have := this.2; omega⟩
  · unfold slKinds at h
    obtain ⟨q, hq, h⟩ := List.mem_flatMap.mp h
    have := hs q hq
    simp at h
    rcases h with h | h
    · have := this.1; rw [← h] at this; exact ⟨this.1, by have := this.2; omega⟩
    · have := this.2.1; rw [← h] at this; exact ⟨this.1, by have := this.2; omega⟩
theorem slotsT_kd {S : ASt} {R : KP.Row} {n : Nat} {w : Win} (hS : S.ok n w) : ∀ q ∈ slotsT R S w, Sl.ok (S.facts.length + 1) w q := fun q hq => by
  unfold slotsT at hq
  simp at hq
  rcases hq with rfl | rfl <;> exact (slotT_kd hS).mono (by omega)
theorem stale_kd {S : ASt} {R : KP.Row} {n : Nat} {w : Win} {t : Bool} {x : Dir × Int × List Kd} (hS : S.ok n w) (h : wrongT R S w t = some x) : x.2.2.length = 4 ∧ ∀ k ∈ x.2.2, k.ok (S.facts.length + 1) := by
  have hg : ∀ r b : Int, (S.regs.set r.toNat (S.slot b).2.1).length = 4 ∧ ∀ k ∈ S.regs.set r.toNat (S.slot b).2.1, k.ok (S.facts.length + 1) := fun r b => by
    refine ⟨by rw [List.length_set, hS.r], fun k hk => ?_⟩
    rcases List.mem_or_eq_of_mem_set hk with h | rfl
    · exact (hS.rk k h).mono (by omega)
    · exact (slot_ok hS b).2.1.mono (by omega)
  unfold wrongT at h
  cases R with
  | test a b c =>
    simp only [] at h
    split at h
    · cases h
    · cases h
      exact ⟨hS.r, fun k hk => (hS.rk k hk).mono (by omega)⟩
  | get a b =>
    simp only [] at h
    split at h
    · cases h
    · split at h
      · cases h; exact hg a b
      · split at h
        · cases h
        · cases h; exact hg a b
  | _ => cases h
theorem turn_ok {S : ASt} {R : KP.Row} {n : Nat} {w : Win} {sec : D} {rows : List KP.Row} (hS : S.ok n w) (hR : R.ok n) (hf : R ≠ .fin) {c : Bool × Option (Int × Bool) × List Fc} (hc : c ∈ casesT R S) {acc : List D} (hl : acc.length < 90000) {s7 s8 s9 s10 s11 s12 s13 s14 s15 : Slot} :
    ∃ ws s10' s11' s13' s14' s15', gT (gsC (gN 7) (gsC (gN 8) (gsC (gN 9) (gsN)))) (caseD c) = some ws ∧
      b_steps (putR [.sh (progD' sec rows), .sh S.d, .sh (oiD w), .sh R.d, .sh (.lst ((slotsT R S w).map slD)), .sh (oiD S.depth), .ow (.l acc), s7, s8, s9, s10, s11, s12, s13, s14, s15] ws) =
      some (.nx [.sh (progD' sec rows), .sh S.d, .sh (oiD w), .sh R.d, .sh (.lst ((slotsT R S w).map slD)), .sh (oiD S.depth), .ow (.l (acc ++ (caseT R S w c).map stepD)), .sh (.bl c.1), .sh (fctD c.2.1), .sh (.tup (c.2.2.map fcD)), s10', s11', s12, s13', s14', s15']) := by
  obtain ⟨t, fact, fs⟩ := c
  have hfl : fs.length = S.facts.length := case_len hc
  have hf8 := facts_le hS
  have e1 := real_step (t := t) hS hR hf
  have e2 := wrong_ok (t := t) hS hR
  obtain ⟨rl, rk⟩ := real_kd (t := t) hS hR
  have hfs : ∀ l : List D, D.tup (fs.map fcD ++ [.tup [.non, .non]]) = .tup ((fs ++ [(none, none)]).map fcD) := fun _ => by rw [List.map_append]; rfl
  have e3 := numbered_ok (p := nxtT R S.place t) (d := deeperT S.depth w) (fs := fs ++ [(none, none)]) (pub_bound rk (slotsT_kd (R := R) hS) (by simp [hfl])) rl rfl
  have e4 := deeper_ok (d := S.depth) (w := w)
  have e5 := opened_ok (d := S.depth) (w := w)
  have hn1 : acc.length < 100000 := by omega
  have hn2 : acc.length + 1 < 100000 := by omega
  have hn3 : fs.length + 1 ≤ 100000 := by omega
  rw [List.map_append] at e3
  have hfn : List.map fcD [((none : Option Bool), (none : Option Bool))] = [.tup [.non, .non]] := rfl
  rw [hfn] at e3
  unfold caseT
  simp only []
  cases hw : wrongT R S w t with
  | none =>
    rw [hw] at e2
    simp only [wrongD] at e2
    refine ⟨[(7, .bl t), (8, fctD fact), (9, .tup (fs.map fcD))], .sh (.tup (fs.map fcD ++ [.tup [.non, .non]])), .sh .non, .sh (.int (nxtT R S.place t)), .sh (.tup ((realR R S t).map Kd.d)), s15, rfl, ?_⟩
    simp (decide := true) [b_steps, e1, e2, e3, e4, hn1, hn3, stepD, labD, Dir.d]
  | some x =>
    obtain ⟨d, p, rs⟩ := x
    obtain ⟨sl, sk⟩ := stale_kd hS hw
    rw [hw] at e2
    simp only [wrongD] at e2
    have e6 := numbered_ok (p := p) (d := openedT S.depth w) (fs := fs ++ [(none, none)]) (pub_bound sk (slotsT_kd (R := R) hS) (by simp [hfl])) sl rfl
    rw [List.map_append, hfn] at e6
    refine ⟨[(7, .bl t), (8, fctD fact), (9, .tup (fs.map fcD))], .sh (.tup (fs.map fcD ++ [.tup [.non, .non]])), .sh (.tup [d.d, .int p, .tup (rs.map Kd.d)]), .sh (.int p), .sh (.tup (rs.map Kd.d)), .sh d.d, rfl, ?_⟩
    simp (decide := true) [b_steps, e1, e2, e3, e4, e5, e6, hn1, hn2, hn3, stepD, labD, Dir.d]
end KS
namespace KS
open PySem PySem.Spec PyProof.Rows L2 Mi KP KQ
variable {S : ASt} {R : KP.Row} {n : Nat} {w : Win} {sec : D} {rows : List KP.Row}
theorem forF_cons {tg : FG} {body : FS} {d : D} {ds : List D} {ρ ρ' : SEnv} {ws : List (Nat × D)} (h1 : tg d = some ws) (h2 : body (putR ρ ws) = some (.nx ρ')) : forF tg body (d :: ds) ρ = forF tg body ds ρ' := by
  show (tg d).bind _ = _
  rw [h1]
  show (body (putR ρ ws)).bind _ = _
  rw [h2]
  rfl
theorem case_few (c : Bool × Option (Int × Bool) × List Fc) : (caseT R S w c).length ≤ 2 := by
  unfold caseT
  cases wrongT R S w c.1 <;> simp
theorem loop_ok (hS : S.ok n w) (hR : R.ok n) (hf : R ≠ .fin) : ∀ (cs : List (Bool × Option (Int × Bool) × List Fc)) (acc : List D) (s7 s8 s9 s10 s11 s12 s13 s14 s15 : Slot), (∀ c ∈ cs, c ∈ casesT R S) → acc.length + 2 * cs.length < 90000 →
    ∃ s7' s8' s9' s10' s11' s12' s13' s14' s15', forF (gT (gsC (gN 7) (gsC (gN 8) (gsC (gN 9) (gsN))))) b_steps (cs.map caseD) [.sh (progD' sec rows), .sh S.d, .sh (oiD w), .sh R.d, .sh (.lst ((slotsT R S w).map slD)), .sh (oiD S.depth), .ow (.l acc), s7, s8, s9, s10, s11, s12, s13, s14, s15] =
      some (.nx [.sh (progD' sec rows), .sh S.d, .sh (oiD w), .sh R.d, .sh (.lst ((slotsT R S w).map slD)), .sh (oiD S.depth), .ow (.l (acc ++ (cs.flatMap (caseT R S w)).map stepD)), s7', s8', s9', s10', s11', s12', s13', s14', s15'])
  | [], acc, s7, s8, s9, s10, s11, s12, s13, s14, s15, _, _ => ⟨s7, s8, s9, s10, s11, s12, s13, s14, s15, by simp [forF]⟩
  | c :: cs, acc, s7, s8, s9, s10, s11, s12, s13, s14, s15, h, hl => by
    simp only [List.length_cons] at hl
    obtain ⟨ws, a10, a11, a13, a14, a15, h1, h2⟩ := turn_ok (sec := sec) (rows := rows) hS hR hf (h c (by simp)) (acc := acc) (by omega) (s7 := s7) (s8 := s8) (s9 := s9) (s10 := s10) (s11 := s11) (s12 := s12) (s13 := s13) (s14 := s14) (s15 := s15)
    have hc := case_few (R := R) (S := S) (w := w) c
    obtain ⟨b7, b8, b9, b10, b11, b12, b13, b14, b15, h3⟩ := loop_ok hS hR hf cs (acc ++ (caseT R S w c).map stepD) (.sh (.bl c.1)) (.sh (fctD c.2.1)) (.sh (.tup (c.2.2.map fcD))) a10 a11 s12 a13 a14 a15 (fun c hc => h c (by simp [hc])) (by
      rw [List.length_append, List.length_map]; omega)
    refine ⟨b7, b8, b9, b10, b11, b12, b13, b14, b15, ?_⟩
    rw [List.map_cons, forF_cons h1 h2, h3]
    simp
theorem cases_few : (casesT R S).length ≤ 2 := by
  unfold casesT
  split
  · simp
  · split
    · simp
    · simp
    · split <;> simp
theorem steps_ok (hw : ∀ v, w = some v → 0 ≤ v) (hS : S.ok n w) (hR : R.ok n) (hrow : rows[S.place.toNat]? = some R) : m_steps [progD' sec rows, S.d, oiD w] = some (.lst ((stepsT R S w).map stepD)) := by
  have e1 := is_window hw
  have e2 := made_row (sec := sec) (w := w) hS.p0 hrow
  have e3 := shows_secret (S := S) (R := R)
  have hf8 := facts_le hS
  have e4 := cases_ok hS hR (by omega)
  have n0 := next_slot (R := R) hS (s := 0) (by decide) (by decide)
  have n1 := next_slot (R := R) hS (s := 1) (by decide) (by decide)
  have rng : ∀ ρ, fRng1 (aCons (eC (.int 2)) aNil) ρ = some [.int 0, .int 1] := fun ρ => (rng_ok 2 (by decide) (by simp)).trans rfl
  unfold m_steps g_steps stepsT
  cases hc : can R S w with
  | false =>
    rw [hc] at e2
    simp (decide := true) at e2
    simp (decide := true) [v_def, e1, e2]
  | true =>
    rw [hc] at e2
    simp (decide := true) at e2
    cases hs : shows R S with
    | true =>
      rw [hs] at e3
      simp (decide := true) [v_def, e1, e2, e3]
    | false =>
      rw [hs] at e3
      have hf : R ≠ .fin := fun h => by subst h; simp [can] at hc
      have hfew := cases_few (R := R) (S := S)
      obtain ⟨b7, b8, b9, b10, b11, b12, b13, b14, b15, h3⟩ := loop_ok (sec := sec) (rows := rows) hS hR hf (casesT R S) [] .no .no .no .no .no .no .no .no .no (fun c hc => hc) (by simp; omega)
      have hsl : (slotsT R S w).map slD = [slD (slotT R S w 0), slD (slotT R S w 1)] := rfl
      rw [hsl] at h3
      simp (decide := true) [v_def, e1, e2, e3, e4, n0, n1, rng, h3, frz, -v_rng1]
theorem nxt_place {t : Bool} (PO : PrOk sec' rows) (h0 : 0 ≤ S.place) (hrow : rows[S.place.toNat]? = some R) (hf : R ≠ .fin) : 0 ≤ nxtT R S.place t ∧ nxtT R S.place t < rows.length := by
  have hl := (List.getElem?_eq_some_iff.mp hrow).1
  have hR := PO.ok R (List.mem_of_getElem? hrow)
  have hlast : S.place + 1 < rows.length ∨ ∃ a, R = .jump a := by
    by_cases h : S.place.toNat = rows.length - 1
    · rw [h] at hrow
      rcases PO.last R hrow with h | h
      · exact absurd h hf
      · exact .inr h
    · left; omega
  unfold nxtT
  cases R with
  | jump a => exact ⟨hR.1, hR.2⟩
  | test a b c =>
    have h : S.place + 1 < rows.length := hlast.resolve_right (by simp)
    cases t
    · exact ⟨hR.2.2.1, hR.2.2.2⟩
    · exact ⟨by simp; omega, by simpa using h⟩
  | _ =>
    have h : S.place + 1 < rows.length := hlast.resolve_right (by simp)
    exact ⟨by simp; omega, by simpa using h⟩
end KS
namespace KS
open PySem PySem.Spec PyProof.Rows L2 Mi KP KQ
variable {S : ASt} {R : KP.Row} {w : Win} {sec : List Int} {rows : List KP.Row}
theorem deeper_dep (hw : ∀ v, w = some v → 0 ≤ v) {d x : Option Int} (hd : ∀ x, d = some x → 0 ≤ x ∧ depOk w x) (hdo : deepOk d w = true) : ∀ y, deeperT d w = some y → 0 ≤ y ∧ depOk w y := fun y e => by
  unfold deeperT at e
  unfold depOk
  unfold deepOk at hdo
  cases d with
  | none => cases e
  | some d =>
    obtain ⟨h1, h2⟩ := hd d rfl
    cases w with
    | none => cases e; exact ⟨Int.le_refl _, rfl⟩
    | some v =>
      simp only [] at e hdo
      cases e
      have : d < v := by simpa using hdo
      exact ⟨by omega, by show d + 1 ≤ v; omega⟩
theorem opened_dep (hw : ∀ v, w = some v → 0 ≤ v) {d : Option Int} (hd : ∀ x, d = some x → 0 ≤ x ∧ depOk w x) (hdo : deepOk d w = true) : ∀ y, openedT d w = some y → 0 ≤ y ∧ depOk w y := fun y e => by
  unfold openedT at e
  cases d with
  | none =>
    cases e
    refine ⟨Int.le_refl _, ?_⟩
    unfold depOk
    cases w with
    | none => rfl
    | some v => exact hw v rfl
  | some d => exact deeper_dep hw (x := none) hd hdo y e
theorem can_deep (h : can R S w = true) : deepOk S.depth w = true := by
  unfold can at h
  cases R with
  | fin => cases h
  | fence =>
    simp only [] at h
    cases hd : S.depth with
    | none => rfl
    | some d => rw [hd] at h; cases h
  | _ => exact h
theorem can_fin (h : can R S w = true) : R ≠ .fin := fun e => by subst e; cases h
theorem steps_inv (PO : PrOk sec rows) (hw : ∀ v, w = some v → 0 ≤ v) (hS : S.ok rows.length w) (hrow : rows[S.place.toNat]? = some R) : ∀ p ∈ stepsT R S w, p.2.ok rows.length w := fun p hp => by
  unfold stepsT at hp
  split at hp
  · rename_i hcs
    rw [Bool.and_eq_true] at hcs
    have hf := can_fin hcs.1
    have hR := PO.ok R (List.mem_of_getElem? hrow)
    obtain ⟨c, hc, hp⟩ := List.mem_flatMap.mp hp
    obtain ⟨rl, rk⟩ := real_kd (t := c.1) hS hR
    unfold caseT at hp
    have hdo := can_deep hcs.1
    rcases List.mem_cons.mp hp with rfl | hp
    · obtain ⟨p0, p1⟩ := nxt_place (t := c.1) PO hS.p0 hrow hf
      exact numbered_ok' rl rfl p0 p1 rk (slotsT_kd hS) (deeper_dep hw (x := none) hS.dp hdo)
    · cases hwr : wrongT R S w c.1 with
      | none => rw [hwr] at hp; cases hp
      | some x =>
        obtain ⟨d, q, rs⟩ := x
        rw [hwr] at hp
        simp only [List.mem_singleton] at hp
        subst hp
        obtain ⟨sl, sk⟩ := stale_kd hS hwr
        have hq : ∃ t, q = nxtT R S.place t := by
          unfold wrongT at hwr
          cases R with
          | test a b c' =>
            simp only [] at hwr
            split at hwr
            · cases hwr
            · cases hwr; exact ⟨_, rfl⟩
          | get a b =>
            simp only [] at hwr
            split at hwr
            · cases hwr
            · split at hwr
              · cases hwr; exact ⟨true, rfl⟩
              · split at hwr
                · cases hwr
                · cases hwr; exact ⟨true, rfl⟩
          | _ => cases hwr
        obtain ⟨t, rfl⟩ := hq
        obtain ⟨p0, p1⟩ := nxt_place (t := t) PO hS.p0 hrow hf
        exact numbered_ok' sl rfl p0 p1 sk (slotsT_kd hS) (opened_dep hw hS.dp hdo)
  · cases hp
theorem first_inv (hn : 0 < rows.length) : (firstT sec).ok rows.length w := by
  refine ⟨Int.le_refl _, by show (0 : Int) < rows.length; omega, rfl, rfl, fun k hk => ?_, fun q hq => ?_, ?_, fun d e => by cases e⟩
  · unfold firstT at hk
    obtain ⟨r, _, rfl⟩ := List.mem_map.mp hk
    split
    · exact .inl rfl
    · exact trivial
  · unfold firstT at hq
    simp at hq
    subst hq
    exact ⟨trivial, trivial, fun _ => rfl, fun a e => by cases e⟩
  · have h : ∀ ks : List Kd, (∀ n, Kd.pub n ∉ ks) → numsA [] ks = [] := fun ks => by
      induction ks with
      | nil => exact fun _ => rfl
      | cons k ks ih =>
        intro h
        have h2 := ih fun n hn => h n (List.mem_cons_of_mem _ hn)
        cases k with
        | pub n => exact absurd (List.mem_cons_self) (h n)
        | zero => exact h2
        | sec kn => exact h2
    refine (h _ fun n hn => ?_).trans rfl
    rcases List.mem_append.mp hn with h1 | h1
    · unfold firstT at h1
      obtain ⟨r, _, e⟩ := List.mem_map.mp h1
      split at e <;> cases e
    · have : slKinds (firstT sec).slots = [.zero, .zero, .zero, .zero] := rfl
      rw [this] at h1
      simp at h1
end KS
namespace KS
open PySem PySem.Spec PyProof.Rows L2 Mi KP KQ
@[simp] theorem v_intB {b : Bool} : dInt (.bl b) = some (.int (if b then 1 else 0)) := rfl
section
variable {st : Sx} {a : Addr} {xs : List D} {v : D} {i : Int}
theorem subW_l (h : st a = some (.l xs)) : subW st (.adr a) (.int i) = atI xs i := by
  unfold subW
  simp only [h]
  rfl
theorem putW_l (h : st a = some (.l xs)) : putW st (.adr a) (.int i) v = (ixN xs.length i).map fun j => sxU st a (.l (xs.set j v)) := by
  unfold putW
  simp only [h]
  rfl
theorem appW_l (h : st a = some (.l xs)) (hl : xs.length < 100000) : appW st (.adr a) v = some (sxU st a (.l (xs ++ [v]))) := by
  unfold appW
  simp only [h, if_pos hl]
theorem isLc_l (h : st a = some (.l xs)) : isLc st (.adr a) := ⟨a, xs, rfl, h⟩
end
abbrev tapC (L : D) (i r s : Int) : Cell := .l [L, .int i, .int r, .int s]
/-- the tape's cell -/
structure Tape (L : D) (st : Sx) (t : Addr) : Prop where
  ns : ∃ xs : List Int, L = .lst (xs.map .int)
  at_ : ∃ i r s : Int, 0 ≤ i ∧ 0 ≤ r ∧ st t = some (tapC L i r s)
theorem sxU_sxU {st : Sx} {a : Addr} {c d : Cell} : sxU (sxU st a c) a d = sxU st a d := by
  funext x
  unfold sxU
  split <;> rfl
theorem Tape.put {L : D} {st : Sx} {t : Addr} (h : Tape L st t) {i r s : Int} (hi : 0 ≤ i) (hr : 0 ≤ r) : Tape L (sxU st t (tapC L i r s)) t := ⟨h.ns, i, r, s, hi, hr, sxU_same⟩
theorem Tape.beside {L : D} {st : Sx} {t a : Addr} {c : Cell} (h : Tape L st t) (ha : a ≠ t) : Tape L (sxU st a c) t := ⟨h.ns, by
  obtain ⟨i, r, s, h1, h2, h3⟩ := h.at_
  exact ⟨i, r, s, h1, h2, by rw [sxU_ne (Ne.symm ha)]; exact h3⟩⟩
/-- what a call that turns the tape alone leaves -/
def TapeTo (L : D) (st : Sx) (t : Addr) (st' : Sx) : Prop := ∃ i r s : Int, 0 ≤ i ∧ 0 ≤ r ∧ st' = sxU st t (tapC L i r s)
theorem TapeTo.tape {L : D} {st st' : Sx} {t : Addr} (h : TapeTo L st t st') (h0 : Tape L st t) : Tape L st' t := by
  obtain ⟨i, r, s, h1, h2, rfl⟩ := h
  exact h0.put h1 h2
theorem TapeTo.trans {L : D} {st st' st'' : Sx} {t : Addr} (h : TapeTo L st t st') (h2 : TapeTo L st' t st'') : TapeTo L st t st'' := by
  obtain ⟨i, r, s, _, _, rfl⟩ := h
  obtain ⟨i', r', s', h3, h4, rfl⟩ := h2
  exact ⟨i', r', s', h3, h4, sxU_sxU⟩
theorem TapeTo.ne {L : D} {st st' : Sx} {t a : Addr} (h : TapeTo L st t st') (ha : a ≠ t) : st' a = st a := by
  obtain ⟨i, r, s, _, _, rfl⟩ := h
  exact sxU_ne ha
theorem law_next {L : D} {st : Sx} {t : Addr} {m : Int} {Pd : D → Sx → Prop} {Px : Str → Sx → Prop} (h : Tape L st t) (hm : 0 < m) (hm2 : m < 1000000) (hP : ∀ v st', 0 ≤ v → v < m → TapeTo L st t st' → Pd (.int v) st') :
    wf_law_next [.adr t, .int m] st Pd Px := by
  obtain ⟨⟨xs, rfl⟩, i, r, s, hi, hr, hat⟩ := h
  have hat' : st t = some (.l [.lst (xs.map .int), .int i, .int r, .int s]) := hat
  have pm : ∀ x : Int, 0 ≤ x % m ∧ x % m < m := fun x => ⟨Int.emod_nonneg _ (by omega), Int.emod_lt_of_pos _ hm⟩
  have pdv : ∀ x : Int, 0 ≤ x → 0 ≤ x / m := fun x hx => Int.ediv_nonneg hx (by omega)
  have s2 : subW st (.adr t) (.int 2) = some (.int r) := by rw [subW_l hat']; simp
  have hm3 : m < 1073741824 := by omega
  have hp : dPow (.int 10) (.int 18) = some (.int 1000000000000000000) := by rfl
  have p2 : ∀ (st : Sx) (i' r' s' v : Int), st t = some (.l [.lst (xs.map .int), .int i', .int r', .int s']) → putW st (.adr t) (.int 2) (.int v) = some (sxU st t (tapC (.lst (xs.map .int)) i' v s')) := fun st i' r' s' v h => by
    rw [putW_l h]
    rfl
  have p3 : ∀ (st : Sx) (i' r' s' v : Int), st t = some (.l [.lst (xs.map .int), .int i', .int r', .int s']) → putW st (.adr t) (.int 3) (.int v) = some (sxU st t (tapC (.lst (xs.map .int)) i' r' v)) := fun st i' r' s' v h => by
    rw [putW_l h]
    rfl
  have se : ∀ (st : Sx) (i' r' s' : Int), st t = some (.l [.lst (xs.map .int), .int i', .int r', .int s']) → see 7 st (.adr t) = .lst [.lst (xs.map .int), .int i', .int r', .int s'] := fun st i' r' s' h => by
    rw [seeL h]
    simp
  refine ⟨rfl, ?_⟩
  unfold gw_law_next
  by_cases hr0 : 0 < r
  · simp [s2, hr0, hm, hm3, p2 _ _ _ _ _ hat']
    exact hP _ _ (pm r).1 (pm r).2 ⟨i, r / m, s, hi, pdv r hr, rfl⟩
  · have er : r = 0 := by omega
    subst er
    -- behind the cell
    have q3 : ∀ (i' s' v : Int), putW (sxU st t (tapC (.lst (xs.map .int)) i' 0 s')) (.adr t) (.int 3) (.int v) = some (sxU st t (tapC (.lst (xs.map .int)) i' 0 v)) := fun i' s' v => by
      rw [p3 _ i' 0 s' _ sxU_same, sxU_sxU]
    have q2 : ∀ (i' s' v : Int), putW (sxU st t (tapC (.lst (xs.map .int)) i' 0 s')) (.adr t) (.int 2) (.int v) = some (sxU st t (tapC (.lst (xs.map .int)) i' v s')) := fun i' s' v => by
      rw [p2 _ i' 0 s' _ sxU_same, sxU_sxU]
    have qs : ∀ (i' r' s' : Int), see 7 (sxU st t (tapC (.lst (xs.map .int)) i' r' s')) (.adr t) = .lst [.lst (xs.map .int), .int i', .int r', .int s'] := fun i' r' s' => se _ _ _ _ sxU_same
    by_cases hi2 : i < (xs.length : Int)
    · have ha : atI (xs.map D.int) i = some (.int (nth xs i)) := at_ints hi hi2
      have hx : ixNN st (.adr t) (.int 1) := fun p xs e h => ⟨1, rfl, by decide⟩
      have s1 : subW st (.adr t) (.int 1) = some (.int i) := by rw [subW_l hat']; simp
      have p1 : putW st (.adr t) (.int 1) (.int (i + 1)) = some (sxU st t (tapC (.lst (xs.map .int)) (i + 1) 0 s)) := by
        rw [putW_l hat']
        rfl
      have hc : 0 ≤ (if nth xs i < 0 then -nth xs i else nth xs i) := by split <;> omega
      generalize hcc : (if nth xs i < 0 then -nth xs i else nth xs i) = c at hc
      have hab : dAbs (.int (nth xs i)) = some (.int c) := by rw [v_abs, hcc]
      by_cases hbig : 1000000000000000000 ≤ c
      · simp [s2, hm, hm3, se _ _ _ _ hat', hi2, ha, hab, hx, s1, p1, q2, hp, hbig, -v_abs]
        exact hP _ _ (pm c).1 (pm c).2 ⟨i + 1, c / m, s, by omega, pdv c hc, rfl⟩
      · simp [s2, hm, hm3, se _ _ _ _ hat', hi2, ha, hab, hx, s1, p1, q3, qs, hp, hbig, -v_abs]
        exact hP _ _ (pm _).1 (pm _).2 ⟨i + 1, 0, _, by omega, Int.le_refl _, rfl⟩
    · have p3' : putW st (.adr t) (.int 3) (.int ((s * 48271 + 11) % 2147483647)) = some (sxU st t (tapC (.lst (xs.map .int)) i 0 ((s * 48271 + 11) % 2147483647))) := p3 _ _ _ _ _ hat'
      simp [s2, hm, hm3, se _ _ _ _ hat', hi2, p3', qs]
      exact hP _ _ (pm _).1 (pm _).2 ⟨i, 0, _, hi, Int.le_refl _, rfl⟩
end KS
namespace KS
open PySem PySem.Spec PyProof.Rows L2 Mi KP KQ
variable {L : D} {st : Sx} {t : Addr} {m : Int} {Pd : D → Sx → Prop} {Px : Str → Sx → Prop}
theorem law_row (h : Tape L st t) (hm : 0 < m) (hm2 : m < 1000) (hP : ∀ (R : KP.Row) st', R.ok m → TapeTo L st t st' → Pd R.d st') :
    wf_law_row [.adr t, .int m, .bl true] st Pd Px := by
  refine ⟨rfl, ?_⟩
  refine ⟨.adr t, rfl, .int 14, by simp (decide := true), law_next h (by decide) (by decide) fun k st1 k0 k1 t1 => ?_⟩
  have T1 := t1.tape h
  have ix34 : ∀ x : Int, 0 ≤ x → x < 2 → ∃ d : Int, dIx (.tup [.int 3, .int 4]) (.int x) = some (.int d) ∧ 0 < d ∧ d ≤ 4 := fun x x0 x1 => by
    have : x = 0 ∨ x = 1 := by omega
    rcases this with rfl | rfl
    · exact ⟨3, by simp, by decide, by decide⟩
    · exact ⟨4, by simp, by decide, by decide⟩
  -- a
  refine ⟨.adr t, rfl, .tup [.int 3, .int 4], by simp (decide := true), .adr t, rfl, .int 2, rfl, law_next T1 (by decide) (by decide) fun x st2 x0 x1 t2 => ?_⟩
  have T2 := t2.tape T1
  obtain ⟨d1, e1, d10, d11⟩ := ix34 x x0 x1
  refine ⟨.int d1, e1, law_next T2 d10 (by omega) fun a st3 a0 a1 t3 => ?_⟩
  have T3 := t3.tape T2
  -- b
  refine ⟨.adr t, rfl, .int 4, rfl, law_next T3 (by decide) (by decide) fun b st4 b0 b1 t4 => ?_⟩
  have T4 := t4.tape T3
  -- r
  refine ⟨.adr t, rfl, .tup [.int 3, .int 4], by simp (decide := true), .adr t, rfl, .int 2, rfl, law_next T4 (by decide) (by decide) fun y st5 y0 y1 t5 => ?_⟩
  have T5 := t5.tape T4
  obtain ⟨d2, e2, d20, d21⟩ := ix34 y y0 y1
  refine ⟨.int d2, e2, law_next T5 d20 (by omega) fun r st6 r0 r1 t6 => ?_⟩
  have T6 := t6.tape T5
  -- array
  refine ⟨.adr t, rfl, .int 2, rfl, law_next T6 (by decide) (by decide) fun u st7 u0 u1 t7 => ?_⟩
  have T7 := t7.tape T6
  refine ⟨.adr t, rfl, .int 2, rfl, law_next T7 (by decide) (by decide) fun v st8 v0 v1 t8 => ?_⟩
  have T8 := t8.tape T7
  have huv : ∀ u v : Int, 0 ≤ u → u < 2 → 0 ≤ v → v < 2 → ∃ A : Int, dMul (.int u) (.int v) = some (.int A) ∧ 0 ≤ A ∧ A < 2 := fun u v u0 u1 v0 v1 => by
    have hu : u = 0 ∨ u = 1 := by omega
    have hv : v = 0 ∨ v = 1 := by omega
    refine ⟨u * v, ?_, ?_, ?_⟩
    all_goals rcases hu with rfl | rfl <;> rcases hv with rfl | rfl
    all_goals first | decide | simp (decide := true)
  obtain ⟨A, eA, A0, A1⟩ := huv u v u0 u1 v0 v1
  refine ⟨.int A, eA, ?_⟩
  -- target
  refine ⟨.adr t, rfl, .int m, rfl, law_next T8 hm (by omega) fun g st9 g0 g1 t9 => ?_⟩
  have T9 := t9.tape T8
  have hto : TapeTo L st t st9 := t1.trans (t2.trans (t3.trans (t4.trans (t5.trans (t6.trans (t7.trans (t8.trans t9)))))))
  have a4 : a < 4 := by omega
  have r4 : r < 4 := by omega
  have kc : k = 0 ∨ k = 1 ∨ k = 2 ∨ k = 3 ∨ k = 4 ∨ k = 5 ∨ k = 6 ∨ k = 7 ∨ k = 8 ∨ k = 9 ∨ k = 10 ∨ k = 11 ∨ k = 12 ∨ k = 13 := by omega
  rcases kc with rfl | rfl | rfl | rfl | rfl | rfl | rfl | rfl | rfl | rfl | rfl | rfl | rfl | rfl
  · simp (decide := true)
    exact hP (.ask r) _ ⟨r0, r4⟩ hto
  · simp (decide := true)
    exact hP (.test a A g) _ ⟨⟨a0, a4⟩, ⟨A0, A1⟩, g0, g1⟩ hto
  · simp (decide := true)
    exact hP (.mix r a b) _ ⟨⟨r0, r4⟩, ⟨a0, a4⟩, b0, b1⟩ hto
  · simp (decide := true)
    exact hP (.load r A a) _ ⟨⟨r0, r4⟩, ⟨A0, A1⟩, a0, a4⟩ hto
  · simp (decide := true)
    exact hP (.load r A a) _ ⟨⟨r0, r4⟩, ⟨A0, A1⟩, a0, a4⟩ hto
  · simp (decide := true)
    exact hP (.mask r A a) _ ⟨⟨r0, r4⟩, ⟨A0, A1⟩, a0, a4⟩ hto
  · simp (decide := true)
    exact hP (.test a A g) _ ⟨⟨a0, a4⟩, ⟨A0, A1⟩, g0, g1⟩ hto
  · simp (decide := true)
    exact hP (.test a A g) _ ⟨⟨a0, a4⟩, ⟨A0, A1⟩, g0, g1⟩ hto
  · simp (decide := true)
    refine law_next T9 (by decide) (by decide) fun u' st10 u0 u1 t10 => ?_
    refine law_next (t10.tape T9) (by decide) (by decide) fun v' st11 v0 v1 t11 => ?_
    obtain ⟨A', eA, A0, A1⟩ := huv u' v' u0 u1 v0 v1
    exact ⟨.int A', eA, hP (.put A' a) _ ⟨⟨A0, A1⟩, a0, a4⟩ (hto.trans (t10.trans t11))⟩
  · simp (decide := true)
    refine law_next T9 (by decide) (by decide) fun u' st10 u0 u1 t10 => ?_
    refine law_next (t10.tape T9) (by decide) (by decide) fun v' st11 v0 v1 t11 => ?_
    obtain ⟨A', eA, A0, A1⟩ := huv u' v' u0 u1 v0 v1
    exact ⟨.int A', eA, hP (.get r A') _ ⟨⟨r0, r4⟩, A0, A1⟩ (hto.trans (t10.trans t11))⟩
  · simp (decide := true)
    exact hP .fence _ trivial hto
  · simp (decide := true)
    exact hP (.ask 0) _ ⟨by decide, by decide⟩ hto
  · simp (decide := true)
    exact hP (.test 0 0 g) _ ⟨⟨by decide, by decide⟩, ⟨by decide, by decide⟩, g0, g1⟩ hto
  · simp (decide := true)
    exact hP (.load r 0 0) _ ⟨⟨r0, r4⟩, ⟨by decide, by decide⟩, by decide, by decide⟩ hto
end KS
namespace KS
open PySem PySem.Spec PyProof.Rows L2 Mi KP KQ
variable {L : D} {st : Sx} {t : Addr} {m : Int} {Pd : D → Sx → Prop} {Px : Str → Sx → Prop}
/-- all but t stays -/
def Kept (st : Sx) (t : Addr) (st' : Sx) : Prop := ∀ x c, x ≠ t → st x = some c → st' x = some c
theorem TapeTo.kept {st' : Sx} (h : TapeTo L st t st') : Kept st t st' := fun x c hx e => by rw [h.ne hx]; exact e
theorem Kept.trans {st' st'' : Sx} (h : Kept st t st') (h2 : Kept st' t st'') : Kept st t st'' := fun x c hx e => h2 x c hx (h x c hx e)
theorem Kept.new {st' : Sx} {a : Addr} {c : Cell} (h : Kept st t st') (ha : st' a = none) : Kept st t (sxU st' a c) := fun x d hx e => by
  have := h x d hx e
  rw [sxU_ne (fun z => by subst z; rw [ha] at this; cases this)]
  exact this
theorem rows_lcS {tg : FG} (htg : ∀ d, ∃ ws, tg d = some ws) {ρ : E} {f : Mi.WX} (hm : 0 < m) (hf : ∀ (d : D) (ws : List (Nat × D)) (st1 : Sx) (Q : D → Sx → Prop), tg d = some ws → Tape L st1 t → (∀ (R : KP.Row) st', R.ok m → TapeTo L st1 t st' → Q R.d st') → f (putE ρ ws) st1 Q (fun _ _ => False)) :
    ∀ (ds : List D) (acc : List KP.Row) (st : Sx) (Pl : List D → Sx → Prop), Tape L st t → (∀ R ∈ acc, R.ok m) → (∀ (rs : List KP.Row) st', rs.length = acc.length + ds.length → (∀ R ∈ rs, R.ok m) → Tape L st' t → (TapeTo L st t st' ∨ st' = st) → Pl (rs.map KP.Row.d) st') → lcS tg f ρ ds (acc.map KP.Row.d) st Pl
  | [], acc, st, Pl, hT, ha, hP => hP acc st (by simp) ha hT (.inr rfl)
  | d :: ds, acc, st, Pl, hT, ha, hP => by
    obtain ⟨ws, hws⟩ := htg d
    refine ⟨ws, hws, hf d ws st _ hws hT fun R st' hR hto => ?_⟩
    have ih := rows_lcS htg hm hf ds (acc ++ [R]) st' Pl (hto.tape hT) (fun R' h => by
      rcases List.mem_append.mp h with h | h
      · exact ha R' h
      · simp at h; subst h; exact hR) fun rs st'' hl hr hT' hto' => hP rs st'' (by simp at hl ⊢; omega) hr hT' (.inl (by
        rcases hto' with h | h
        · exact hto.trans h
        · rw [h]; exact hto))
    rw [List.map_append] at ih
    exact ih
end KS
namespace KS
open PySem PySem.Spec PyProof.Rows L2 Mi KP KQ
theorem kd_cases {d : D} {k : Kd} (h : kd? d = some k) : ∃ xs, seqT? d = some xs ∧ match k with
    | .zero => xs = [.str "zero"]
    | .pub n => xs = [.str "public", .int n]
    | .sec kn => ∃ x ys, xs = [.str "secret", x] ∧ seqT? x = some ys ∧ ints? ys = some kn := by
  unfold kd? at h
  obtain ⟨xs, h1, h⟩ := Option.bind_eq_some_iff.mp h
  refine ⟨xs, h1, ?_⟩
  match xs, h with
  | [.str s], h =>
    simp only [] at h
    split at h
    · rename_i hs; subst hs; cases h; rfl
    · cases h
  | [.str s, .int n], h =>
    simp only [] at h
    split at h
    · rename_i hs; subst hs; cases h; rfl
    · cases h
  | [.str s, .non], h | [.str s, .bl _], h | [.str s, .str _], h | [.str s, .ty _], h | [.str s, .lst _], h | [.str s, .sl _], h | [.str s, .dK _], h | [.str s, .dT _], h | [.str s, .ob _ _], h | [.str s, .adr _], h | [.str s, .any], h =>
    simp [seqT?] at h
  | [.str s, .tup ys], h =>
    simp only [seqT?, Option.bind_some] at h
    split at h
    · rename_i hs; subst hs
      obtain ⟨kn, h2, rfl⟩ := Option.map_eq_some_iff.mp h
      exact ⟨_, ys, rfl, rfl, h2⟩
    · cases h
  | [.str s, .kt ys], h =>
    simp only [seqT?, Option.bind_some] at h
    split at h
    · rename_i hs; subst hs
      obtain ⟨kn, h2, rfl⟩ := Option.map_eq_some_iff.mp h
      exact ⟨_, ys, rfl, rfl, h2⟩
    · cases h
  | [], h => simp at h
  | .str s :: x :: y :: r, h => simp at h
  | .non :: r, h | .bl _ :: r, h | .int _ :: r, h | .ty _ :: r, h | .lst _ :: r, h | .sl _ :: r, h | .dK _ :: r, h | .dT _ :: r, h | .ob _ _ :: r, h | .adr _ :: r, h | .any :: r, h | .tup _ :: r, h | .kt _ :: r, h => simp at h
theorem seqT_ix {d : D} {xs : List D} {i : Int} (h : seqT? d = some xs) : dIx d (.int i) = atI xs i := by
  cases d <;> simp only [seqT?, reduceCtorEq, Option.some.injEq] at h
  · subst h; rfl
  · subst h; rfl
def Kd.word : Kd → Str
  | .zero => "zero"
  | .sec _ => "secret"
  | .pub _ => "public"
theorem kdq_ix0 {d : D} {k : Kd} (h : kd? d = some k) : dIx d (.int 0) = some (.str k.word) := by
  obtain ⟨xs, h1, h2⟩ := kd_cases h
  rw [seqT_ix h1]
  cases k with
  | zero => simp only [] at h2; subst h2; simp [Kd.word]
  | pub n => simp only [] at h2; subst h2; simp [Kd.word]
  | sec kn =>
    obtain ⟨x, ys, rfl, _, _⟩ := h2
    simp [Kd.word]
theorem kdq_pub {d : D} {n : Int} (h : kd? d = some (.pub n)) : dIx d (.int 1) = some (.int n) := by
  obtain ⟨xs, h1, h2⟩ := kd_cases h
  rw [seqT_ix h1]
  simp only [] at h2
  subst h2
  simp
theorem ints_rev : ∀ {ys : List D} {kn : List Int}, ints? ys = some kn → ys = kn.map .int
  | [], kn, h => by cases h; rfl
  | .int i :: ys, kn, h => by
    simp only [ints?] at h
    obtain ⟨r, h1, rfl⟩ := Option.map_eq_some_iff.mp h
    rw [ints_rev h1]
    rfl
  | .non :: r, _, h | .bl _ :: r, _, h | .str _ :: r, _, h | .ty _ :: r, _, h | .lst _ :: r, _, h | .sl _ :: r, _, h | .dK _ :: r, _, h | .dT _ :: r, _, h | .ob _ _ :: r, _, h | .adr _ :: r, _, h | .any :: r, _, h | .tup _ :: r, _, h | .kt _ :: r, _, h => by simp [ints?] at h
end KS
namespace KS
open PySem PySem.Spec PyProof.Rows L2 Mi KP KQ
theorem slot_cases {d : D} {q : Kd × Kd × D} (h : slot? d = some q) : ∃ p o, d = .tup [p, o, q.2.2] ∧ kd? p = some q.1 ∧ kd? o = some q.2.1 := by
  unfold slot? at h
  split at h
  · rename_i p o a
    obtain ⟨k1, h2, h⟩ := Option.bind_eq_some_iff.mp h
    obtain ⟨k2, h3, rfl⟩ := Option.map_eq_some_iff.mp h
    exact ⟨p, o, rfl, h2, h3⟩
  · cases h
theorem mapM_cons {α β : Type} {f : α → Option β} {x : α} {xs : List α} {ys : List β} (h : (x :: xs).mapM f = some ys) : ∃ y r, ys = y :: r ∧ f x = some y ∧ xs.mapM f = some r := by
  rw [List.mapM_cons] at h
  obtain ⟨y, h1, h⟩ := Option.bind_eq_some_iff.mp h
  obtain ⟨r, h2, h⟩ := Option.bind_eq_some_iff.mp h
  cases h
  exact ⟨y, r, rfl, h1, h2⟩
theorem extA_l {st : Sx} {a : Addr} {xs zs : List D} (h : st a = some (.l xs)) (hl : xs.length + zs.length ≤ 100000) : extA st (.adr a) (.lst zs) = some (sxU st a (.l (xs ++ zs))) := by
  unfold extA
  simp only [h]
  show (Option.bind (some zs) _) = _
  simp only [Option.bind_some, if_pos hl]
/-- the kinds of the slots are put behind -/
theorem pn_loop1 {a : Addr} {P : WOut → Prop} : ∀ (ss : List D) (qs : List (Kd × Kd × D)) (acc : List D) (ρ : E) (st : Sx), ss.mapM slot? = some qs → ρ.length = 8 → ρ[2]? = some (some (.adr a)) → st a = some (.l acc) → acc.length + 2 * ss.length < 90000 →
    (∀ (ρ' : E) (st' : Sx) (ys : List D), ρ'.length = 8 → ρ'[2]? = some (some (.adr a)) → st' = sxU st a (.l (acc ++ ys)) → ys.mapM kd? = some (qs.flatMap fun q => [q.1, q.2.1]) → ys.length = 2 * ss.length → P (.nx ρ' st')) →
    forW (gT (gsC (gN 5) (gsC (gN 6) (gsC (gN 7) gsN)))) (wsExtA (wHid (eVar 2)) (wHid (eO (fLst (aCons (eVar 5) (aCons (eVar 6) aNil)))))) ss ρ st P
  | [], qs, acc, ρ, st, h, h8, h2, hs, hl, hP => by
    cases h
    refine hP ρ st [] h8 h2 ?_ rfl rfl
    rw [List.append_nil]
    funext x
    unfold sxU
    split
    · rename_i e; subst e; exact hs
    · rfl
  | d :: ss, qs, acc, ρ, st, h, h8, h2, hs, hl, hP => by
    obtain ⟨q, r, rfl, hd, hr⟩ := mapM_cons h
    obtain ⟨p, o, h3, h4, h5⟩ := slot_cases hd
    simp only [List.length_cons] at hl
    refine ⟨[(5, p), (6, o), (7, q.2.2)], by rw [h3]; rfl, ?_⟩
    have l5 : (((ρ.set 5 (some p)).set 6 (some o)).set 7 (some q.2.2))[5]? = some (some p) := by
      rw [List.getElem?_set_ne (by decide), List.getElem?_set_ne (by decide)]; exact List.getElem?_set_self (by omega)
    have l6 : (((ρ.set 5 (some p)).set 6 (some o)).set 7 (some q.2.2))[6]? = some (some o) := by
      rw [List.getElem?_set_ne (by decide)]; exact List.getElem?_set_self (by simp; omega)
    have l2 : (((ρ.set 5 (some p)).set 6 (some o)).set 7 (some q.2.2))[2]? = some (some (.adr a)) := by
      rw [List.getElem?_set_ne (by decide), List.getElem?_set_ne (by decide), List.getElem?_set_ne (by decide)]; exact h2
    refine ⟨.adr a, by show (Option.bind _ id) = _; simp only [v_putE, v_putE0, l2]; rfl, isLc_l hs, .lst [p, o], ?_, _, extA_l hs (by simp; omega), ?_⟩
    · show (eO _ _) = _
      simp only [v_putE, v_putE0, v_eO, v_lst, v_cons, v_nil, Mi.v_var, l5, l6, Option.bind_some, id]
      rfl
    · refine pn_loop1 ss r (acc ++ [p, o]) _ (sxU st a (.l (acc ++ [p, o]))) hr (by simp [v_putE, h8]) (by simpa only [v_putE, v_putE0] using l2) sxU_same (by simp; omega) fun ρ' st' ys a1 a2 a3 a4 a5 => ?_
      refine hP ρ' st' (p :: o :: ys) a1 a2 ?_ ?_ (by simp [a5]; omega)
      · rw [a3, sxU_sxU]
        simp
      · rw [List.mapM_cons, List.mapM_cons, h4, h5, a4]
        rfl
/-- the numbers, each once -/
theorem pn_loop2 {a b : Addr} {P : WOut → Prop} {xs : List D} (hab : a ≠ b) : ∀ (ds : List D) (ks : List Kd) (acc : List Int) (ρ : E) (st : Sx), ds.mapM kd? = some ks → ρ.length = 8 → ρ[3]? = some (some (.adr b)) → st a = some (.l xs) → st b = some (.l (acc.map .int)) → acc.length + ds.length < 90000 →
    (∀ (ρ' : E) (st' : Sx), ρ'.length = 8 → ρ'[3]? = some (some (.adr b)) → st' b = some (.l ((numsA acc ks).map .int)) → P (.nx ρ' st')) →
    forC (gN 4) (wsIf (wtV (fAnd (tB (e2 dEq (e2 dIx (eVar 4) (eC (.int 0))) (eC (.str "public")))) (tB (e2 dNin (e2 dIx (eVar 4) (eC (.int 1))) (eVar 3))))) (wsApp (wHid (eVar 3)) (wHid (e2 dIx (eVar 4) (eC (.int 1))))) (wsNext)) a xs ds ρ st P
  | [], ks, acc, ρ, st, h, h8, h3, ha, hb, hl, hP => by
    cases h
    exact ⟨ha, hP ρ st h8 h3 hb⟩
  | d :: ds, ks, acc, ρ, st, h, h8, h3, ha, hb, hl, hP => by
    obtain ⟨k, r, rfl, hd, hr⟩ := mapM_cons h
    simp only [List.length_cons] at hl
    refine ⟨ha, [(4, d)], rfl, ?_⟩
    have l4 : (ρ.set 4 (some d))[4]? = some (some d) := List.getElem?_set_self (by omega)
    have l3 : (ρ.set 4 (some d))[3]? = some (some (.adr b)) := by rw [List.getElem?_set_ne (by decide)]; exact h3
    have v4 : (vw st (ρ.set 4 (some d)))[4]? = some (some (see 7 st d)) := by
      unfold vw
      rw [List.getElem?_map, l4]
      rfl
    have hse : see 7 st d = d := see_adr fun x e => by subst e; simp [kd?, seqT?] at hd
    rw [hse] at v4
    have v3 : (vw st (ρ.set 4 (some d)))[3]? = some (some (.lst (acc.map .int))) := by
      unfold vw
      rw [List.getElem?_map, l3]
      show some (some (see 7 st (.adr b))) = _
      rw [seeL hb, List.map_map]
      congr 3
    have e0 := kdq_ix0 hd
    have go : ∀ (st' : Sx) (acc' : List Int), st' a = some (.l xs) → st' b = some (.l (acc'.map .int)) → acc'.length ≤ acc.length + 1 → numsA acc (k :: r) = numsA acc' r → forC (gN 4) _ a xs ds (ρ.set 4 (some d)) st' P := fun st' acc' a1 a2 a3 a4 =>
      pn_loop2 hab ds r acc' (ρ.set 4 (some d)) st' hr (by simp [h8]) l3 a1 a2 (by omega) fun ρ' st'' b1 b2 b3 => hP ρ' st'' b1 b2 (by rw [a4]; exact b3)
    cases k with
    | pub n =>
      have e1 := kdq_pub hd
      have en : dNin (.int n) (.lst (acc.map .int)) = some (.bl (!decide (n ∈ acc))) := by
        unfold dNin
        rw [bIn_seq (kn := acc) rfl]
        rfl
      by_cases hn : n ∈ acc
      · refine ⟨false, by simp (decide := true) [v4, v3, e0, e1, en, Kd.word, hn], ?_⟩
        exact go st acc ha hb (by omega) (by simp [numsA, hn])
      · refine ⟨true, by simp (decide := true) [v4, v3, e0, e1, en, Kd.word, hn], ?_⟩
        refine ⟨.adr b, by simp [l3], isLc_l hb, .int n, by simp [l4, e1], _, appW_l hb (by simp; omega), ?_⟩
        refine go _ (acc ++ [n]) (by rw [sxU_ne hab]; exact ha) (by rw [sxU_same, List.map_append]; rfl) (by simp) (by simp [numsA, hn])
    | zero =>
      refine ⟨false, by simp (decide := true) [v4, e0, Kd.word], ?_⟩
      exact go st acc ha hb (by omega) rfl
    | sec kn =>
      refine ⟨false, by simp (decide := true) [v4, e0, Kd.word], ?_⟩
      exact go st acc ha hb (by omega) rfl
theorem mapM_app {α β : Type} {f : α → Option β} : ∀ {xs ys : List α} {us vs : List β}, xs.mapM f = some us → ys.mapM f = some vs → (xs ++ ys).mapM f = some (us ++ vs)
  | [], _, _, _, h, h2 => by cases h; exact h2
  | x :: xs, ys, us, vs, h, h2 => by
    obtain ⟨y, r, rfl, h3, h4⟩ := mapM_cons h
    rw [List.cons_append, List.mapM_cons, h3, mapM_app h4 h2]
    rfl
theorem pn_ok : ∀ ds d, m_public_numbers ds = some d → wf_public_numbers ds sx0 (fun d' _ => d' = d) (fun _ _ => False) := fun ds d h => by
  unfold m_public_numbers at h
  split at h
  · rename_i r s
    obtain ⟨rs, h1, h⟩ := Option.bind_eq_some_iff.mp h
    obtain ⟨ss, h2, h⟩ := Option.bind_eq_some_iff.mp h
    obtain ⟨ks, h3, h⟩ := Option.bind_eq_some_iff.mp h
    obtain ⟨qs, h4, h⟩ := Option.bind_eq_some_iff.mp h
    split at h
    · rename_i hl
      cases h
      refine ⟨rfl, ?_⟩
      refine ⟨.l rs, by simp [dList, h1], fun a ha => ?_⟩
      refine ⟨ss, by simp [h2], ?_⟩
      refine pn_loop1 ss qs rs _ _ h4 (by simp) (by simp) sxU_same (by omega) fun ρ' st' ys b8 b2 b3 b4 b5 => ?_
      subst b3
      refine ⟨.l [], by simp, fun b hb => ?_⟩
      have hab : a ≠ b := fun z => by subst z; rw [sxU_same] at hb; cases hb
      have e2 : (ρ'.set 3 (some (.adr b)))[2]? = some (some (.adr a)) := by rw [List.getElem?_set_ne (by decide)]; exact b2
      have ea : (sxU (sxU (sxU sx0 a (.l rs)) a (.l (rs ++ ys))) b (.l [])) a = some (.l (rs ++ ys)) := by rw [sxU_ne hab, sxU_same]
      refine ⟨.adr a, by simp [e2], a, rs ++ ys, rfl, ea, ?_⟩
      refine pn_loop2 hab (rs ++ ys) (ks ++ qs.flatMap fun q => [q.1, q.2.1]) [] _ _ (mapM_app h3 b4) (by simp [b8]) (List.getElem?_set_self (by omega)) ea sxU_same (by simp; omega) fun ρ'' st'' c8 c3 cb => ?_
      exact ⟨.adr b, by simp [c3], b, _, _, rfl, cb, rfl, rfl⟩
    · cases h
  · cases h
end KS
namespace KS
open PySem PySem.Spec PyProof.Rows L2 Mi KP KQ
variable {S : ASt} {R : KP.Row} {w : Win} {sec : D} {rows : List KP.Row} {n : Nat} {st : Sx} {Pd : D → Sx → Prop} {Px : Str → Sx → Prop}
@[simp] theorem kd_zt : kd? (.tup [.str "zero"]) = some .zero := rfl
theorem see_oi {n : Nat} {o : Option Int} : see n st (oiD o) = oiD o := by cases o <;> simp
end KS
namespace KS
open PySem PySem.Spec PyProof.Rows L2 Mi KP KQ
/-- what stood stays -/
def Ext (st st' : Sx) : Prop := ∀ x c, st x = some c → st' x = some c
theorem Ext.refl (st : Sx) : Ext st st := fun _ _ h => h
theorem Ext.trans {st st' st'' : Sx} (h : Ext st st') (h2 : Ext st' st'') : Ext st st'' := fun x c e => h2 x c (h x c e)
theorem Ext.new {st : Sx} {a : Addr} {c : Cell} (h : st a = none) : Ext st (sxU st a c) := fun x d e => by
  rw [sxU_ne (fun z => by subst z; rw [h] at e; cases e)]
  exact e
/-- a cell that was not there is changed -/
theorem Ext.put {st st' : Sx} {a : Addr} {c : Cell} (h : Ext st st') (ha : st a = none) : Ext st (sxU st' a c) := fun x d e => by
  rw [sxU_ne (fun z => by subst z; rw [ha] at e; cases e)]
  exact h x d e
def Kd.nk : Kd → NestedKey
  | .zero => .tup [.text "zero"]
  | .sec kn => .tup [.text "secret", .tup (kn.map .num)]
  | .pub n => .tup [.text "public", .num n]
theorem nks_ints : ∀ kn : List Int, nksD (kn.map D.int) = some (kn.map NestedKey.num)
  | [] => rfl
  | k :: ks => by
    rw [List.map_cons, nksD, nks_ints ks]
    rfl
theorem depth_nums : ∀ kn : List Int, NestedKey.depthAll (kn.map .num) = 0
  | [] => rfl
  | k :: ks => by
    rw [List.map_cons, NestedKey.depthAll, depth_nums ks]
    rfl
theorem kdq_nk {d : D} {k : Kd} (h : kd? d = some k) : isN d k.nk := by
  obtain ⟨xs, h1, h2⟩ := kd_cases h
  have hd : nkD d = (nksD xs).map .tup ∧ tupD d = true := by
    cases d <;> simp only [seqT?, reduceCtorEq, Option.some.injEq] at h1
    · subst h1; exact ⟨rfl, rfl⟩
    · subst h1; exact ⟨rfl, rfl⟩
  unfold isN
  rw [hd.1, hd.2]
  cases k with
  | zero => simp only [] at h2; subst h2; exact ⟨rfl, by decide, rfl⟩
  | pub n => simp only [] at h2; subst h2; exact ⟨rfl, by simp [Kd.nk, NestedKey.depth, NestedKey.depthAll], rfl⟩
  | sec kn =>
    obtain ⟨x, ys, rfl, h3, h4⟩ := h2
    have e := ints_rev h4
    have hx : nkD x = some (.tup (kn.map .num)) := by
      cases x <;> simp only [seqT?, reduceCtorEq, Option.some.injEq] at h3
      · subst h3; rw [e]; show (nksD _).map _ = _; rw [nks_ints]; rfl
      · subst h3; rw [e]; show (nksD _).map _ = _; rw [nks_ints]; rfl
    refine ⟨by simp [nksD, nkD, hx, Kd.nk], ?_, rfl⟩
    simp [Kd.nk, NestedKey.depth, NestedKey.depthAll, depth_nums]
end KS
namespace KS
open PySem PySem.Spec PyProof.Rows L2 Mi KP KQ
/-- data whose text is at most m long -/
def Sh (m j : Nat) (d : D) : Prop := ∃ p, d.py? = some p ∧ p.showable = true ∧ p.hasDict = false ∧ p.depth ≤ j ∧ p.shown.length ≤ m
theorem Sh.up {m m' j j' : Nat} {d : D} (h : Sh m j d) (hm : m ≤ m') (hj : j ≤ j') : Sh m' j' d := by
  obtain ⟨p, h1, h2, h3, h4, h5⟩ := h
  exact ⟨p, h1, h2, h3, by omega, by omega⟩
theorem sh_non {m j : Nat} (h : 4 ≤ m) : Sh m j .non := ⟨.none, rfl, rfl, rfl, Nat.zero_le _, by
  have : (PyData.none.shown).length = 4 := by simp only [PyData.shown]; decide +kernel
  omega⟩
theorem sh_bl {m j : Nat} {b : Bool} (h : 5 ≤ m) : Sh m j (.bl b) := ⟨.bool b, rfl, rfl, rfl, Nat.zero_le _, by
  have : ((PyData.bool b).shown).length ≤ 5 := by cases b <;> (simp only [PyData.shown]; decide +kernel)
  omega⟩
theorem small_text : ∀ n : Fin 200, (Str.ofString (toString (Int.ofNat n.val))).length ≤ 3 := by decide +kernel
theorem sh_int {m j : Nat} {i : Int} (h0 : 0 ≤ i) (h1 : i < 200) (h : 3 ≤ m) : Sh m j (.int i) := by
  obtain ⟨n, rfl⟩ := Int.eq_ofNat_of_zero_le h0
  refine ⟨.int n, rfl, ?_, rfl, Nat.zero_le _, ?_⟩
  · simp only [PyData.showable, decide_eq_true_eq, Int.natAbs_natCast]
    by_cases hn : n = 0
    · subst hn; decide
    · rw [Nat.log2_lt hn]
      exact Nat.lt_of_lt_of_le (by omega : n < 2 ^ 8) (Nat.pow_le_pow_right (by decide) (by decide))
  · have := small_text ⟨n, by omega⟩
    have e : (PyData.int (n : Int)).shown = Str.ofString (toString (Int.ofNat n)) := by simp only [PyData.shown]; rfl
    rw [e]
    exact Nat.le_trans this h
theorem join_le {m : Nat} : ∀ (ts : List Str), (∀ t ∈ ts, t.length ≤ m) → (Str.join ", " ts).length ≤ ts.length * (m + 2)
  | [], _ => by simp [Str.join]; rfl
  | [x], h => by
    have := h x (by simp)
    show x.length ≤ _
    simp
    omega
  | x :: y :: r, h => by
    have h1 := h x (by simp)
    have h2 := join_le (y :: r) fun t ht => h t (by simp [ht])
    show (x ++ ", " ++ Str.join ", " (y :: r)).length ≤ _
    rw [strLen_append, strLen_append]
    have h3 : ((", " : String) : Str).length = 2 := by decide +kernel
    have e : (x :: y :: r).length * (m + 2) = (y :: r).length * (m + 2) + (m + 2) := by rw [List.length_cons, Nat.add_mul]; omega
    rw [e]
    omega
theorem shs {m j : Nat} : ∀ ds : List D, (∀ d ∈ ds, Sh m j d) → ∃ ps, pys? ds = some ps ∧ PyData.showableAll ps = true ∧ PyData.hasDictAll ps = false ∧ PyData.depthAll ps ≤ j ∧ (∀ t ∈ PyData.shownAll ps, t.length ≤ m) ∧ (PyData.shownAll ps).length = ds.length
  | [], _ => ⟨[], rfl, rfl, rfl, Nat.zero_le _, by simp [PyData.shownAll], by simp [PyData.shownAll]⟩
  | d :: ds, h => by
    obtain ⟨p, h1, h2, h3, h4, h5⟩ := h d (by simp)
    obtain ⟨ps, q1, q2, q3, q4, q5, q6⟩ := shs ds fun d hd => h d (by simp [hd])
    refine ⟨p :: ps, ?_, ?_, ?_, ?_, ?_, ?_⟩
    · simp only [pys?, h1, q1, Option.bind_some]
    · simp only [PyData.showableAll, h2, q2, Bool.and_self]
    · simp only [PyData.hasDictAll, h3, q3, Bool.or_self]
    · rw [PyData.depthAll.eq_def]
      simp only []
      omega
    · intro t ht
      simp only [PyData.shownAll, List.mem_cons] at ht
      rcases ht with rfl | ht
      · exact h5
      · exact q5 t ht
    · simp only [PyData.shownAll, List.length_cons, q6]
theorem tuple_le {m c : Nat} {ts : List Str} (h : ∀ t ∈ ts, t.length ≤ m) (hl : ts.length ≤ c) : (tupleText ts).length ≤ c * (m + 2) + 3 := by
  have h1 := join_le ts h
  have h2 : ts.length * (m + 2) ≤ c * (m + 2) := Nat.mul_le_mul_right _ hl
  unfold tupleText
  rw [strLen_append, strLen_append]
  have a : (("(" : String) : Str).length = 1 := by decide +kernel
  have b : ((if ts.length == 1 then ",)" else ")" : String) : Str).length ≤ 2 := by split <;> decide +kernel
  omega
theorem sh_tup {m j c : Nat} {ds : List D} (h : ∀ d ∈ ds, Sh m j d) (hl : ds.length ≤ c) : Sh (c * (m + 2) + 3) (j + 1) (.tup ds) := by
  obtain ⟨ps, q1, q2, q3, q4, q5, q6⟩ := shs ds h
  refine ⟨.tuple ps, by simp only [D.py?, q1, Option.map_some], by simpa only [PyData.showable] using q2, by simpa only [PyData.hasDict] using q3, ?_, ?_⟩
  · rw [PyData.depth.eq_def]
    simp only []
    omega
  · simp only [PyData.shown]
    exact tuple_le q5 (by omega)
theorem sh_kt {m j c : Nat} {ds : List D} (h : ∀ d ∈ ds, Sh m j d) (hl : ds.length ≤ c) : Sh (c * (m + 2) + 3) (j + 1) (.kt ds) := by
  obtain ⟨ps, q1, q2, q3, q4, q5, q6⟩ := shs ds h
  refine ⟨.tuple ps, by simp only [D.py?, q1, Option.map_some], by simpa only [PyData.showable] using q2, by simpa only [PyData.hasDict] using q3, ?_, ?_⟩
  · rw [PyData.depth.eq_def]
    simp only []
    omega
  · simp only [PyData.shown]
    exact tuple_le q5 (by omega)
theorem sh_str {m j : Nat} {s : Str} (h : (reprText s).length ≤ m) : Sh m j (.str s) := ⟨.str s, rfl, rfl, rfl, Nat.zero_le _, by simp only [PyData.shown]; exact h⟩
theorem sh_ob {j : Nat} (o : Option Bool) : Sh 5 j (obD o) := by
  cases o with
  | none => exact sh_non (by decide)
  | some b => exact sh_bl (by decide)
theorem sh_oi {j : Nat} {o : Option Int} (h : ∀ a, o = some a → 0 ≤ a ∧ a < 200) : Sh 4 j (oiD o) := by
  cases o with
  | none => exact sh_non (by decide)
  | some a => exact sh_int (h a rfl).1 (h a rfl).2 (by decide)
theorem rt_len : (reprText "zero").length ≤ 8 ∧ (reprText "secret").length ≤ 8 ∧ (reprText "public").length ≤ 8 := by decide +kernel
theorem sh_kd {k : Kd} {m : Nat} (h : k.ok m) (hm : m ≤ 100) : Sh 40 2 k.d := by
  cases k with
  | zero => exact (sh_kt (c := 1) (m := 8) (j := 0) (fun d hd => by simp at hd; subst hd; exact sh_str rt_len.1) (by simp)).up (by decide) (by decide)
  | pub n => exact (sh_tup (c := 2) (m := 8) (j := 0) (fun d hd => by
      simp at hd
      rcases hd with rfl | rfl
      · exact sh_str rt_len.2.2
      · exact sh_int h.1 (by have := h.2; omega) (by decide)) (by simp)).up (by decide) (by decide)
  | sec kn =>
    rcases h with rfl | rfl | rfl | rfl
    · exact (sh_kt (c := 2) (m := 13) (j := 1) (fun d hd => by
        simp at hd
        rcases hd with rfl | rfl
        · exact (sh_str (j := 0) rt_len.2.1).up (by decide) (by decide)
        · exact (sh_kt (c := 0) (m := 3) (j := 0) (by simp) (by simp)).up (by decide) (by decide)) (by simp)).up (by decide) (by decide)
    all_goals exact (sh_tup (c := 2) (m := 13) (j := 1) (fun d hd => by
        simp at hd
        rcases hd with rfl | rfl
        · exact (sh_str (j := 0) rt_len.2.1).up (by decide) (by decide)
        · exact (sh_tup (c := 2) (m := 3) (j := 0) (fun d hd => by
            simp at hd
            first | (subst hd; exact sh_int (by decide) (by decide) (by decide)) | (rcases hd with rfl | rfl <;> exact sh_int (by decide) (by decide) (by decide))) (by simp)).up (by decide) (by decide)) (by simp)).up (by decide) (by decide)
theorem age_le {w : Win} (hw : ∀ v, w = some v → v ≤ 100) {a : Int} (h : ageOk w a) : a < 200 := by
  cases w with
  | none => have : a = 0 := h; omega
  | some v => have : a < v := h; have := hw v rfl; omega
theorem dep_le {w : Win} (hw : ∀ v, w = some v → v ≤ 100) {a : Int} (h : depOk w a) : a < 200 := by
  cases w with
  | none => have : a = 0 := h; omega
  | some v => have : a ≤ v := h; have := hw v rfl; omega
theorem state_sh {S : ASt} {n : Nat} {w : Win} (hS : S.ok n w) (hn : n ≤ 100) (hw : ∀ v, w = some v → v ≤ 100) : Sh 2000 5 S.d := by
  have f8 := facts_le hS
  have kd : ∀ {k : Kd}, k.ok S.facts.length → Sh 40 2 k.d := fun h => sh_kd h (by omega)
  refine (sh_tup (c := 5) (m := 300) (j := 4) (fun d hd => ?_) (by simp)).up (by decide) (by decide)
  simp only [List.mem_cons, List.not_mem_nil, or_false] at hd
  rcases hd with rfl | rfl | rfl | rfl | rfl
  · exact sh_int hS.p0 (by have := hS.p1; omega) (by decide)
  · exact (sh_tup (c := 4) (m := 40) (j := 2) (fun d hd => by
      obtain ⟨k, hk, rfl⟩ := List.mem_map.mp hd
      exact kd (hS.rk k hk)) (by simp [hS.r])).up (by decide) (by decide)
  · exact (sh_tup (c := 2) (m := 140) (j := 3) (fun d hd => by
      obtain ⟨q, hq, rfl⟩ := List.mem_map.mp hd
      obtain ⟨h1, h2, h3, h4⟩ := hS.sk q hq
      refine (sh_tup (c := 3) (m := 40) (j := 2) (fun d hd => ?_) (by simp)).up (by decide) (by decide)
      simp only [List.mem_cons, List.not_mem_nil, or_false] at hd
      rcases hd with rfl | rfl | rfl
      · exact kd h1
      · exact kd h2
      · exact (sh_oi (j := 0) fun a ha => ⟨(h4 a ha).1, age_le hw (h4 a ha).2⟩).up (by decide) (by decide)) (by simp [hS.s])).up (by decide) (by decide)
  · exact (sh_tup (c := 8) (m := 17) (j := 1) (fun d hd => by
      obtain ⟨f, hf, rfl⟩ := List.mem_map.mp hd
      refine (sh_tup (c := 2) (m := 5) (j := 0) (fun d hd => ?_) (by simp)).up (by decide) (by decide)
      simp only [List.mem_cons, List.not_mem_nil, or_false] at hd
      rcases hd with rfl | rfl <;> exact sh_ob _) (by simpa using f8)).up (by decide) (by decide)
  · exact (sh_oi (j := 0) fun a ha => ⟨(hS.dp a ha).1, dep_le hw (hS.dp a ha).2⟩).up (by decide) (by decide)
end KS
namespace KS
open PySem PySem.Spec PyProof.Rows L2 Mi KP KQ KR
section
variable {sec : List Int} {rows : List KP.Row}
theorem in_secK {r : Int} : dIn (.int r) (.kt (sec.map .int)) = some (.bl (decide (r ∈ sec))) := by
  unfold dIn
  rw [bIn_seq (kn := sec) rfl]
  rfl
theorem first_okK : m_first_state_states [progD' (.kt (sec.map .int)) rows] = some (firstT sec).d := by
  have rng : ∀ ρ, fRng1 (aCons (eC (.int 4)) aNil) ρ = some [.int 0, .int 1, .int 2, .int 3] := fun ρ => (KP.rng_ok 4 (by decide) (by simp)).trans rfl
  have hsec : dIx (progD' (.kt (sec.map .int)) rows) (.str "secret") = some (.kt (sec.map .int)) := rfl
  have e : lcF (gN 3) fYes (fIf (tB (e2 dIn (eVar 3) (eVar 1))) (eC (.kt [.str "secret", .kt []])) (eC (.kt [.str "zero"]))) [some (progD' (.kt (sec.map .int)) rows), some (.kt (sec.map .int)), none, none] [.int 0, .int 1, .int 2, .int 3] = some ((firstT sec).regs.map Kd.d) := by
    have h : ∀ r : Int, (if decide (r ∈ sec) = true then some (D.kt [.str "secret", .kt []]) else some (.kt [.str "zero"])) = some ((if r ∈ sec then Kd.sec [] else Kd.zero).d) := fun r => by
      by_cases hr : r ∈ sec <;> simp [hr] <;> rfl
    have h' : ∀ r : Int, (if r ∈ sec then some (D.kt [.str "secret", .kt []]) else some (.kt [.str "zero"])) = some ((if r ∈ sec then Kd.sec [] else Kd.zero).d) := fun r => by
      by_cases hr : r ∈ sec <;> simp [hr] <;> rfl
    simp [in_secK, h', firstT]
  unfold m_first_state_states g_first_state_states
  simp (decide := true) [v_def, hsec, rng, e, -v_lcF, -v_rng1]
  rfl
end
variable {L : D} {st : Sx} {t : Addr} {m : Int} {Pd : D → Sx → Prop} {Px : Str → Sx → Prop}
theorem law_programK (h : Tape L st t) (hm : 2 ≤ m) (hm2 : m < 60) (hP : ∀ (sec : List Int) (rows : List KP.Row) st', PrOk sec rows → 2 ≤ rows.length → (rows.length : Int) ≤ m → Tape L st' t → Kept st t st' → Pd (progD' (.kt (sec.map .int)) rows) st') :
    wf_law_programK [.adr t, .int m] st Pd Px := by
  refine ⟨rfl, ?_⟩
  refine ⟨.int 2, rfl, .adr t, rfl, .int (m - 1), rfl, law_next h (by omega) (by omega) fun k st1 k0 k1 t1 => ?_⟩
  have T1 := t1.tape h
  refine ⟨.int (2 + k), rfl, ?_⟩
  have rng : ∀ ρ : E, fRng1 (aCons (e2 dSub (eVar 2) (eC (.int 1))) aNil) (ρ.set 2 (some (.int (2 + k)))) = if 2 < ρ.length then some (rngD 0 (2 + k - 1).toNat) else none := fun ρ => by
    by_cases hl : 2 < ρ.length
    · have e : (ρ.set 2 (some (.int (2 + k))))[2]? = some (some (.int (2 + k))) := List.getElem?_set_self hl
      rw [if_pos hl]
      have := rng_ok (ρ := ρ.set 2 (some (.int (2 + k)))) (fl := aCons (e2 dSub (eVar 2) (eC (.int 1))) aNil) (2 + k - 1).toNat (by omega) (by
        simp [e]
        omega)
      exact this
    · rw [if_neg hl]
      have e : (ρ.set 2 (some (.int (2 + k))))[2]? = none := List.getElem?_eq_none (by simp; omega)
      simp [e]
  have hn : (2 + k - 1).toNat = (1 + k).toNat := by omega
  refine ⟨_, (rng _).trans (if_pos (by simp)), by rw [rngD_len]; omega, ?_⟩
  refine rows_lcS (L := L) (t := t) (m := 2 + k) (fun d => ⟨_, rfl⟩) (by omega) (fun d ws st2 Q hws hT hQ => ?_) _ [] st1 _ T1 (fun R hR => by cases hR) fun rs st2 hl hr T2 hto => ?_
  · cases hws
    refine ⟨.adr t, by simp, .int (2 + k), by simp, .bl true, by simp, law_row hT (by omega) (by omega) hQ⟩
  intro a ha
  rw [rngD_len] at hl
  simp only [List.length_nil, Nat.zero_add] at hl
  have hat : a ≠ t := fun z => by
    obtain ⟨_, _, _, _, _, h3⟩ := T2.at_
    rw [← z, ha] at h3
    cases h3
  have T3 : Tape L (sxU st2 a (.l (rs.map KP.Row.d))) t := T2.beside hat
  have K2 : Kept st t (sxU st2 a (.l (rs.map KP.Row.d))) := by
    refine Kept.new ?_ ha
    rcases hto with h | h
    · exact t1.kept.trans h.kept
    · rw [h]; exact t1.kept
  -- the last row
  refine ⟨.adr a, by simp, isLc_l sxU_same, ?_⟩
  refine ⟨.tup [.str "end"], by simp, .str "jump", rfl, .adr t, rfl, .int (2 + k), by simp, law_next T3 (by omega) (by omega) fun g st4 g0 g1 t4 => ?_⟩
  have T4 := t4.tape T3
  refine ⟨by simp, by simp, ?_⟩
  refine ⟨.adr t, rfl, .int 6, rfl, law_next T4 (by decide) (by decide) fun z st5 z0 z1 t5 => ?_⟩
  have T5 := t5.tape T4
  have K5 : Kept st t st5 := K2.trans (t4.kept.trans t5.kept)
  have ha5 : st5 a = some (.l (rs.map KP.Row.d)) := by rw [t5.ne hat, t4.ne hat]; exact sxU_same
  obtain ⟨last, hlast, hlok, hlk⟩ : ∃ R : KP.Row, dIx (.tup [.tup [.str "end"], .tup [.str "jump", .int g]]) (.int (if z = 0 then 1 else 0)) = some R.d ∧ R.ok (2 + k) ∧ (R = .fin ∨ ∃ a, R = .jump a) := by
    by_cases hz : z = 0
    · exact ⟨.jump g, by simp [hz], ⟨g0, g1⟩, .inr ⟨g, rfl⟩⟩
    · exact ⟨.fin, by simp [hz], trivial, .inl rfl⟩
  refine ⟨.int 0, rfl, .bl (decide (z = 0)), by simp, ?_⟩
  refine ⟨.int (if z = 0 then 1 else 0), by simp, rfl, last.d, hlast, ?_⟩
  have hlen : (rs.map KP.Row.d).length < 100000 := by rw [List.length_map, hl]; omega
  refine ⟨_, appW_l ha5 hlen, ?_⟩
  have T6 : Tape L (sxU st5 a (.l (rs.map KP.Row.d ++ [last.d]))) t := T5.beside hat
  have K6 : Kept st t (sxU st5 a (.l (rs.map KP.Row.d ++ [last.d]))) := fun x c hx e => by
    have e5 := K5 x c hx e
    by_cases hxa : x = a
    · subst hxa
      have := K2 x c hx e
      rw [sxU_same] at this
      -- a was free
      have : st x = none := by
        cases q : st x with
        | none => rfl
        | some c0 =>
          exfalso
          rcases hto with h | h
          · have := (t1.kept.trans h.kept) x c0 hx q
            rw [ha] at this; cases this
          · have := t1.kept x c0 hx q
            rw [← h, ha] at this; cases this
      rw [this] at e
      cases e
    · rw [sxU_ne hxa]
      exact e5
  -- the secret registers
  refine ⟨.tup [.kt [], .kt [.int 1], .kt [.int 1], .kt [.int 1, .int 2], .kt [.int 2], .kt [.int 0, .int 3]], by simp, .adr t, rfl, .int 6, rfl, law_next T6 (by decide) (by decide) fun y st7 y0 y1 t7 => ?_⟩
  have T7 := t7.tape T6
  obtain ⟨sec, hsec, hsub⟩ : ∃ sec : List Int, dIx (.tup [.kt [], .kt [.int 1], .kt [.int 1], .kt [.int 1, .int 2], .kt [.int 2], .kt [.int 0, .int 3]]) (.int y) = some (.kt (sec.map .int)) ∧ sec.Sublist [0, 1, 2, 3] := by
    have : y = 0 ∨ y = 1 ∨ y = 2 ∨ y = 3 ∨ y = 4 ∨ y = 5 := by omega
    rcases this with rfl | rfl | rfl | rfl | rfl | rfl
    · exact ⟨[], rfl, by decide⟩
    · exact ⟨[1], rfl, by decide⟩
    · exact ⟨[1], rfl, by decide⟩
    · exact ⟨[1, 2], rfl, by decide⟩
    · exact ⟨[2], rfl, by decide⟩
    · exact ⟨[0, 3], rfl, by decide⟩
  refine ⟨_, hsec, ?_⟩
  have ha7 : st7 a = some (.l (rs.map KP.Row.d ++ [last.d])) := by rw [t7.ne hat]; exact sxU_same
  have hsee : see 7 st7 (.adr a) = .lst ((rs ++ [last]).map KP.Row.d) := by
    rw [seeL ha7]
    rw [List.map_append, List.map_append, List.map_map]
    simp [KP.Row.d]
  have himm : ∀ l : List KP.Row, imms (l.map KP.Row.d) = true := fun l => by
    induction l with
    | nil => rfl
    | cons R l ih => rw [List.map_cons, imms_c, ih]; cases R <;> rfl
  have hims : imms (sec.map D.int) = true := by
    clear hsec hsub
    induction sec with
    | nil => rfl
    | cons R l ih => rw [List.map_cons, imms_c, ih]; rfl
  refine ⟨.k [(.inr "secret", .kt (sec.map .int)), (.inr "rows", .tup ((rs ++ [last]).map KP.Row.d))], ?_, ?_, ?_⟩
  · simp [hsee]
    rfl
  · show immK _ = true
    simp [immK, himm, hims]
    have hz := himm (rs ++ [last])
    rw [List.map_append] at hz
    exact ⟨hims, hz⟩
  · have hlr : ((rs ++ [last]).length : Int) = 2 + k := by simp [hl]; omega
    refine hP sec (rs ++ [last]) st7 ⟨by simp, by omega, fun R hR => ?_, fun R hR => ?_, hsub⟩ (by omega) (by omega) T7 (K6.trans t7.kept)
    · rw [hlr]
      rcases List.mem_append.mp hR with h | h
      · exact hr R h
      · simp at h; subst h; exact hlok
    · have e1 : (rs ++ [last])[(rs ++ [last]).length - 1]? = some last := by simp
      rw [hR] at e1
      cases e1
      exact hlk
end KS
namespace KS
open PySem PySem.Spec PyProof.Rows L2 Mi KP KQ
def oiN : Option Int → NestedKey
  | none => .none
  | some i => .num i
def obN : Option Bool → NestedKey
  | none => .none
  | some b => .num (if b = true then 1 else 0)
def slN (q : Sl) : NestedKey := .tup [q.1.nk, q.2.1.nk, oiN q.2.2]
def fcN (f : Fc) : NestedKey := .tup [obN f.1, obN f.2]
def ASt.nk (S : ASt) : NestedKey := .tup [.num S.place, .tup (S.regs.map Kd.nk), .tup (S.slots.map slN), .tup (S.facts.map fcN), oiN S.depth]
theorem nks_map {α : Type} {f : α → D} {g : α → NestedKey} (h : ∀ x, nkD (f x) = some (g x)) : ∀ l : List α, nksD (l.map f) = some (l.map g)
  | [] => rfl
  | x :: l => by
    rw [List.map_cons, List.map_cons, nksD, h x, nks_map h l]
    rfl
theorem kd_nk (k : Kd) : nkD k.d = some k.nk := (kdq_nk (kd_kd k)).1
theorem oi_nk (o : Option Int) : nkD (oiD o) = some (oiN o) := by cases o <;> rfl
theorem ob_nk (o : Option Bool) : nkD (obD o) = some (obN o) := by cases o <;> rfl
theorem sl_nk (q : Sl) : nkD (slD q) = some (slN q) := by
  unfold slD slN
  simp only [nkD, nksD, kd_nk, oi_nk, Option.bind_some, Option.map_some]
theorem fc_nk (f : Fc) : nkD (fcD f) = some (fcN f) := by
  unfold fcD fcN
  simp only [nkD, nksD, ob_nk, Option.bind_some, Option.map_some]
theorem st_nk (S : ASt) : nkD S.d = some S.nk := by
  unfold ASt.d ASt.nk
  simp only [nkD, nksD, nks_map kd_nk, nks_map sl_nk, nks_map fc_nk, oi_nk, Option.bind_some, Option.map_some]
theorem depthAll_le {n : Nat} : ∀ l : List NestedKey, (∀ k ∈ l, k.depth ≤ n) → NestedKey.depthAll l ≤ n
  | [], _ => by simp [NestedKey.depthAll]
  | k :: l, h => by
    have h1 := h k (by simp)
    have h2 := depthAll_le l fun x hx => h x (by simp [hx])
    rw [NestedKey.depthAll]
    omega
theorem kd_dep (k : Kd) : k.nk.depth ≤ 3 := by
  cases k with
  | zero => simp [Kd.nk, NestedKey.depth, NestedKey.depthAll]
  | pub n => simp [Kd.nk, NestedKey.depth, NestedKey.depthAll]
  | sec kn => simp [Kd.nk, NestedKey.depth, NestedKey.depthAll, depth_nums]
theorem tup_dep {n : Nat} {l : List NestedKey} (h : ∀ k ∈ l, k.depth ≤ n) : (NestedKey.tup l).depth ≤ n + 1 := by
  have := depthAll_le l h
  simp only [NestedKey.depth]
  omega
theorem st_dep (S : ASt) : S.nk.depth ≤ 8 := by
  have o1 : ∀ o : Option Int, (oiN o).depth ≤ 0 := fun o => by cases o <;> simp [oiN, NestedKey.depth]
  have o2 : ∀ o : Option Bool, (obN o).depth ≤ 0 := fun o => by cases o <;> simp [obN, NestedKey.depth]
  refine Nat.le_trans (tup_dep (n := 6) fun k hk => ?_) (by decide)
  simp only [List.mem_cons, List.not_mem_nil, or_false] at hk
  rcases hk with rfl | rfl | rfl | rfl | rfl
  · simp [NestedKey.depth]
  · refine Nat.le_trans (tup_dep (n := 3) fun k hk => ?_) (by decide)
    obtain ⟨x, _, rfl⟩ := List.mem_map.mp hk
    exact kd_dep x
  · refine Nat.le_trans (tup_dep (n := 4) fun k hk => ?_) (by decide)
    obtain ⟨x, _, rfl⟩ := List.mem_map.mp hk
    refine tup_dep (n := 3) fun k hk => ?_
    simp only [List.mem_cons, List.not_mem_nil, or_false] at hk
    rcases hk with rfl | rfl | rfl
    · exact kd_dep _
    · exact kd_dep _
    · exact Nat.le_trans (o1 _) (by decide)
  · refine Nat.le_trans (tup_dep (n := 1) fun k hk => ?_) (by decide)
    obtain ⟨x, _, rfl⟩ := List.mem_map.mp hk
    refine tup_dep (n := 0) fun k hk => ?_
    simp only [List.mem_cons, List.not_mem_nil, or_false] at hk
    rcases hk with rfl | rfl <;> exact o2 _
  · exact Nat.le_trans (o1 _) (by decide)
theorem st_isN (S : ASt) : isN S.d S.nk := ⟨st_nk S, st_dep S, rfl⟩
theorem map_inj' {α β : Type} {f : α → β} (h : ∀ a b, f a = f b → a = b) : ∀ {l m : List α}, l.map f = m.map f → l = m
  | [], [], _ => rfl
  | a :: l, b :: m, e => by
    rw [List.map_cons, List.map_cons] at e
    injection e with e1 e2
    rw [h a b e1, map_inj' h e2]
  | [], _ :: _, e => by simp at e
  | _ :: _, [], e => by simp at e
theorem kdnk_inj (a b : Kd) (h : a.nk = b.nk) : a = b := by
  cases a <;> cases b <;> simp [Kd.nk] at h ⊢
  · exact map_inj' (fun x y e => by injection e) h
  · exact h
theorem oiN_inj (a b : Option Int) (h : oiN a = oiN b) : a = b := by cases a <;> cases b <;> simp [oiN] at h ⊢; exact h
theorem obN_inj (a b : Option Bool) (h : obN a = obN b) : a = b := by
  rcases a with _ | _ | _ <;> rcases b with _ | _ | _ <;> simp [obN] at h ⊢
theorem slN_inj (a b : Sl) (h : slN a = slN b) : a = b := by
  obtain ⟨a1, a2, a3⟩ := a
  obtain ⟨b1, b2, b3⟩ := b
  simp only [slN, NestedKey.tup.injEq, List.cons.injEq, and_true] at h
  rw [kdnk_inj _ _ h.1, kdnk_inj _ _ h.2.1, oiN_inj _ _ h.2.2]
theorem fcN_inj (a b : Fc) (h : fcN a = fcN b) : a = b := by
  obtain ⟨a1, a2⟩ := a
  obtain ⟨b1, b2⟩ := b
  simp only [fcN, NestedKey.tup.injEq, List.cons.injEq, and_true] at h
  rw [obN_inj _ _ h.1, obN_inj _ _ h.2]
theorem stnk_inj {S T : ASt} (h : S.nk = T.nk) : S = T := by
  obtain ⟨p, r, s, f, d⟩ := S
  obtain ⟨p', r', s', f', d'⟩ := T
  simp only [ASt.nk, NestedKey.tup.injEq, List.cons.injEq, and_true, NestedKey.num.injEq] at h
  obtain ⟨h1, h2, h3, h4, h5⟩ := h
  rw [h1, map_inj' kdnk_inj h2, map_inj' slN_inj h3, map_inj' fcN_inj h4, oiN_inj _ _ h5]
abbrev Par := Option (ASt × Lab)
abbrev Met := List (ASt × Par)
def parD : Par → D
  | none => .non
  | some (S, l) => .tup [S.d, labD l]
def metD (M : Met) : List (D × D) := M.map fun m => (m.1.d, parD m.2)
def lkp (M : Met) (S : ASt) : Option Par := (M.find? fun m => decide (m.1 = S)).map (·.2)
theorem met_get (S : ASt) : ∀ M : Met, getN (metD M) S.nk = (lkp M S).map parD
  | [] => rfl
  | (T, p) :: M => by
    have ih := met_get S M
    unfold metD at ih ⊢
    rw [List.map_cons]
    unfold getN
    rw [st_nk]
    unfold lkp at ih ⊢
    by_cases h : T = S
    · subst h
      simp
    · have hn : ¬ (some T.nk = some S.nk) := fun e => h (stnk_inj (Option.some.inj e))
      rw [if_neg hn, ih]
      simp [h]
theorem lkp_none {M : Met} {S : ASt} : lkp M S = none ↔ S ∉ M.map (·.1) := by
  unfold lkp
  rw [Option.map_eq_none_iff, List.find?_eq_none]
  constructor
  · intro h hm
    obtain ⟨m, hm', rfl⟩ := List.mem_map.mp hm
    exact h m hm' (by simp)
  · intro h m hm e
    exact h (List.mem_map.mpr ⟨m, hm, by simpa using e⟩)
theorem met_put {M : Met} {S : ASt} {p : Par} (h : S ∉ M.map (·.1)) : putN (metD M) S.d (parD p) S.nk = metD (M ++ [(S, p)]) := by
  unfold putN
  rw [met_get, lkp_none.mpr h]
  simp [metD]
theorem lkp_mem {M : Met} {S : ASt} {p : Par} (hn : (M.map (·.1)).Nodup) (h : (S, p) ∈ M) : lkp M S = some p := by
  induction M with
  | nil => cases h
  | cons m M ih =>
    unfold lkp
    rw [List.map_cons, List.nodup_cons] at hn
    rcases List.mem_cons.mp h with rfl | h
    · simp
    · have hne : ¬ m.1 = S := fun e => hn.1 (List.mem_map.mpr ⟨(S, p), h, e.symm⟩)
      have := ih hn.2 h
      unfold lkp at this
      simp [hne, this]
end KS
namespace KS
open PySem PySem.Spec PyProof.Rows L2 Mi KP KQ
def rowT (rows : List KP.Row) (S : ASt) : KP.Row := rows.getD S.place.toNat .fin
def nextT (rows : List KP.Row) (w : Win) (S : ASt) : List (Lab × ASt) := stepsT (rowT rows S) S w
def lkT (rows : List KP.Row) (w : Win) (S : ASt) : Bool := leakT (rowT rows S) S w
inductive Pth (sec : List Int) (rows : List KP.Row) (w : Win) : List Lab → ASt → Prop
  | nil : Pth sec rows w [] (firstT sec)
  | snoc {ls : List Lab} {S T : ASt} {l : Lab} : Pth sec rows w ls S → (l, T) ∈ nextT rows w S → Pth sec rows w (ls ++ [l]) T
inductive Valid (sec : List Int) (rows : List KP.Row) (w : Win) : Met → Prop
  | one : Valid sec rows w [(firstT sec, none)]
  | add {M : Met} {S T : ASt} {l : Lab} : Valid sec rows w M → S ∈ M.map (·.1) → (l, T) ∈ nextT rows w S → T ∉ M.map (·.1) → Valid sec rows w (M ++ [(T, some (S, l))])
section
variable {sec : List Int} {rows : List KP.Row} {w : Win} {M : Met}
theorem Valid.nodup (h : Valid sec rows w M) : (M.map (·.1)).Nodup := by
  induction h with
  | one => simp
  | add hV hS hl hn ih =>
    rw [List.map_append, List.nodup_append]
    refine ⟨ih, by simp, fun a ha b hb => ?_⟩
    simp at hb
    subst hb
    exact fun e => hn (e ▸ ha)
theorem Valid.first (h : Valid sec rows w M) : firstT sec ∈ M.map (·.1) := by
  induction h with
  | one => simp
  | add hV hS hl hn ih => rw [List.map_append]; exact List.mem_append_left _ ih
theorem rowT_get (S : ASt) (h : S.place.toNat < rows.length) : rows[S.place.toNat]? = some (rowT rows S) := by
  unfold rowT
  rw [List.getD_eq_getElem?_getD, List.getElem?_eq_getElem h]
  rfl
theorem ok_row {n : Nat} {S : ASt} (h : S.ok rows.length w) : rows[S.place.toNat]? = some (rowT rows S) := rowT_get S (by have := h.p0; have := h.p1; omega)
theorem Valid.ok (PO : PrOk sec rows) (hn : 0 < rows.length) (hw : ∀ v, w = some v → 0 ≤ v) (h : Valid sec rows w M) : ∀ S ∈ M.map (·.1), S.ok rows.length w := by
  induction h with
  | one =>
    intro S hS
    simp at hS
    subst hS
    exact first_inv hn
  | @add M S T l hV hS hl hn ih =>
    intro U hU
    rw [List.map_append, List.mem_append] at hU
    rcases hU with hU | hU
    · exact ih U hU
    · simp at hU
      subst hU
      exact steps_inv PO hw (ih S hS) (ok_row (n := 0) (ih S hS)) _ hl
theorem Valid.len (h : Valid sec rows w M) : 1 ≤ M.length := by
  induction h with
  | one => simp
  | add _ _ _ _ ih => simp
end
section
variable {PP : Program} {ww : World} {sec : List Int} {rows : List KP.Row} {w : Win} {M M0 : Met} {st : Sx} {Pd : D → Sx → Prop} {Px : Str → Sx → Prop}
noncomputable abbrev w_back (PP : Program) (ww : World) : WS := (wsSeq (wsAsgT (gT (gsC (gN 1) (gsC (gN 4) (gsN)))) (wHid (eVar 3)))
  (wsSeq (wsApp (wHid (eVar 2)) (wHid (eVar 4)))
  (wsAsg 3 (wSubN PP ww (wHid (eVar 0)) (wHid (eVar 1))))))
theorem back_ok (hnd : (M0.map (·.1)).Nodup) (hV : Valid sec rows w M) (hsub : ∀ m ∈ M, m ∈ M0) : ∀ (S : ASt) (p : Par), (S, p) ∈ M → ∃ ls, Pth sec rows w ls S ∧ ls.length < M.length ∧
    ∀ (a pa : Addr) (acc : List Lab) (n : Nat) (x1 x4 : Option D) (st : Sx) (Q : WOut → Prop), M.length ≤ n → st a = some (.n PP ww a (metD M0)) → st pa = some (.l (acc.map labD)) → acc.length + M.length < 90000 →
      (∀ x1 x4, Q (.nx [some (.adr a), x1, some (.adr pa), some .non, x4] (sxU st pa (.l ((acc ++ ls.reverse).map labD))))) →
      whW (wtV (tB (e2 dIsn (eVar 3) (eC .non)))) (w_back PP ww) n [some (.adr a), x1, some (.adr pa), some (parD p), x4] st Q := by
  induction hV with
  | one =>
    intro S p hm
    simp at hm
    obtain ⟨rfl, rfl⟩ := hm
    refine ⟨[], .nil, by simp, fun a pa acc n x1 x4 st Q hn ha hpa hl hQ => ?_⟩
    obtain ⟨n, rfl⟩ : ∃ k, n = k + 1 := ⟨n - 1, by simp at hn; omega⟩
    have e : sxU st pa (.l (acc.map labD)) = st := by
      funext x
      unfold sxU
      split
      · rename_i z; subst z; exact hpa.symm
      · rfl
    have q := hQ x1 x4
    simp only [List.reverse_nil, List.append_nil, e] at q
    exact ⟨false, by simp (decide := true) [parD], q⟩
  | @add M S' T l hV hS' hl hn ih =>
    intro S p hm
    rcases List.mem_append.mp hm with hm | hm
    · obtain ⟨ls, h1, h2, h3⟩ := ih (fun m h => hsub m (by simp [h])) S p hm
      refine ⟨ls, h1, by simp; omega, fun a pa acc n x1 x4 st Q hn' ha hpa hl hQ => ?_⟩
      simp at hn' hl
      exact h3 a pa acc n x1 x4 st Q (by omega) ha hpa (by omega) hQ
    · simp at hm
      obtain ⟨rfl, rfl⟩ := hm
      obtain ⟨m', hm', e'⟩ := List.mem_map.mp hS'
      obtain ⟨S'', p'⟩ := m'
      simp only at e'
      subst e'
      obtain ⟨ls, h1, h2, h3⟩ := ih (fun m h => hsub m (by simp [h])) S'' p' hm'
      refine ⟨ls ++ [l], .snoc h1 hl, by simp; omega, fun a pa acc n x1 x4 st Q hn' ha hpa hlen hQ => ?_⟩
      simp at hn' hlen
      obtain ⟨n, rfl⟩ : ∃ k, n = k + 1 := ⟨n - 1, by omega⟩
      have hap : a ≠ pa := fun z => by rw [z, hpa] at ha; cases ha
      refine ⟨true, by simp (decide := true) [parD], ?_⟩
      refine ⟨_, rfl, [(1, S''.d), (4, labD l)], rfl, ?_⟩
      refine ⟨.adr pa, rfl, isLc_l hpa, labD l, rfl, _, appW_l hpa (by simp; omega), ?_⟩
      have hget : getN (metD M0) S''.nk = some (parD p') := by
        rw [met_get, lkp_mem hnd (hsub (S'', p') (List.mem_append_left _ hm'))]
        rfl
      refine ⟨.adr a, rfl, S''.d, rfl, a, _, S''.nk, parD p', rfl, by rw [sxU_ne hap]; exact ha, st_isN S'', hget, ?_⟩
      refine h3 a pa (acc ++ [l]) n _ _ _ Q (by omega) (by rw [sxU_ne hap]; exact ha) (by rw [sxU_same, List.map_append]; rfl) (by simp; omega) fun x1 x4 => ?_
      rw [sxU_sxU]
      have := hQ x1 x4
      simpa using this
theorem path_to (hV : Valid sec rows w M) (hlen : M.length < 80000) {a : Addr} {S : ASt} (hS : S ∈ M.map (·.1)) (ha : st a = some (.n PP ww a (metD M)))
    (hP : ∀ (ls : List Lab) (st' : Sx), Pth sec rows w ls S → ls.length < M.length → Ext st st' → Pd (.lst (ls.map labD)) st') : wf_path_to PP ww [.adr a, S.d] st Pd Px := by
  obtain ⟨m, hm, e⟩ := List.mem_map.mp hS
  obtain ⟨S', p⟩ := m
  simp only at e
  subst e
  obtain ⟨ls, h1, h2, h3⟩ := back_ok (PP := PP) (ww := ww) hV.nodup hV (fun m h => h) S' p hm
  refine ⟨rfl, ?_⟩
  refine ⟨.l [], by simp, fun pa hpa => ?_⟩
  have E1 : Ext st (sxU st pa (.l [])) := .new hpa
  have hget : getN (metD M) S'.nk = some (parD p) := by
    rw [met_get, lkp_mem hV.nodup hm]
    rfl
  refine ⟨.adr a, rfl, S'.d, rfl, a, _, S'.nk, parD p, rfl, E1 _ _ ha, st_isN S', hget, ?_⟩
  refine ⟨M.length, h3 a pa [] M.length _ _ _ _ (Nat.le_refl _) (E1 _ _ ha) sxU_same (by simp; omega) fun x1 x4 => ?_⟩
  rw [sxU_sxU]
  simp only [List.nil_append, List.map_reverse]
  have hs : see 7 (sxU st pa (.l (ls.map labD).reverse)) (.adr pa) = .lst (ls.map labD).reverse := by
    rw [seeL sxU_same, ← List.map_reverse, List.map_map]
    congr 1
  have him : imms (ls.map labD) = true := by
    have : ∀ l : List Lab, imms (l.map labD) = true := fun l => by
      induction l with
      | nil => rfl
      | cons x l ih =>
        rw [List.map_cons, imms_c, ih]
        obtain ⟨d, f⟩ := x
        cases d with
        | guess b => cases b <;> cases f <;> rfl
        | _ => cases f <;> rfl
    exact this ls
  refine ⟨.l (ls.map labD), ?_, him, hP ls _ h1 h2 (.new hpa)⟩
  have er : dRev (.lst (ls.map labD).reverse) = some (.l (ls.map labD)) := by
    simp [dRev]
  simp [hs, er]
end
end KS
namespace KS
open PySem PySem.Spec PyProof.Rows L2 Mi KP KQ
variable {PP : Program} {ww : World} {sec : List Int} {rows : List KP.Row} {w : Win} {M : Met} {st st0 : Sx}
abbrev fsts (M : Met) : List ASt := M.map (·.1)
def NoLk (rows : List KP.Row) (w : Win) (M : Met) : Prop := ∀ S ∈ fsts M, lkT rows w S = false
def Done (rows : List KP.Row) (w : Win) (M : Met) (S : ASt) : Prop := ∀ p ∈ nextT rows w S, p.2 ∈ fsts M
/-- what the search comes to -/
inductive Res where
  | leak (M : Met) (S : ASt) | many (M : Met) | table (M : Met)
def goIn (rows : List KP.Row) (w : Win) (S : ASt) : List (Lab × ASt) → Met → List ASt → Res ⊕ (Met × List ASt)
  | [], M, fs => .inr (M, fs)
  | (l, T) :: ts, M, fs => if T ∈ fsts M then goIn rows w S ts M fs else if 600 < M.length + 1 then .inl (.many (M ++ [(T, some (S, l))])) else
    if lkT rows w T = true then .inl (.leak (M ++ [(T, some (S, l))]) T) else goIn rows w S ts (M ++ [(T, some (S, l))]) (fs ++ [T])
def goLv (rows : List KP.Row) (w : Win) : List ASt → Met → List ASt → Res ⊕ (Met × List ASt)
  | [], M, fs => .inr (M, fs)
  | S :: Ls, M, fs => match goIn rows w S (nextT rows w S) M fs with
    | .inl r => .inl r
    | .inr (M1, f1) => goLv rows w Ls M1 f1
def goWh (rows : List KP.Row) (w : Win) : Nat → Met → List ASt → Res
  | 0, M, _ => .table M
  | n + 1, M, Lv => if Lv = [] then .table M else match goLv rows w Lv M [] with
    | .inl r => r
    | .inr (M', f') => goWh rows w n M' f'
def searchR (sec : List Int) (rows : List KP.Row) (w : Win) : Res := if lkT rows w (firstT sec) = true then .leak [(firstT sec, none)] (firstT sec) else goWh rows w 601 [(firstT sec, none)] [firstT sec]
/-- the outcomes inside the loops -/
inductive FinR (sec : List Int) (rows : List KP.Row) (w : Win) : Res → D → Prop
  | leak {M : Met} {S : ASt} {ls : List Lab} : Valid sec rows w M → S ∈ fsts M → lkT rows w S = true → Pth sec rows w ls S → ls.length < M.length → M.length ≤ 600 → FinR sec rows w (.leak M S) (.tup [.str "leak", .lst (ls.map labD)])
  | many {M : Met} : Valid sec rows w M → 600 < M.length → FinR sec rows w (.many M) (.tup [.str "many", .tup []])
inductive Fin (sec : List Int) (rows : List KP.Row) (w : Win) : D → Prop
  | leak {M : Met} {S : ASt} {ls : List Lab} : Valid sec rows w M → S ∈ fsts M → lkT rows w S = true → Pth sec rows w ls S → ls.length < M.length → M.length ≤ 600 → Fin sec rows w (.tup [.str "leak", .lst (ls.map labD)])
  | many {M : Met} : Valid sec rows w M → 600 < M.length → Fin sec rows w (.tup [.str "many", .tup []])
theorem FinR.fin {sec : List Int} {rows : List KP.Row} {w : Win} {r : Res} {d : D} (h : FinR sec rows w r d) : Fin sec rows w d := by
  cases h with
  | leak a b c d e f => exact .leak a b c d e f
  | many a b => exact .many a b
def e_se (sec : List Int) (rows : List KP.Row) (w : Win) (ma la fa : Addr) (x6 x7 x8 : Option D) : E := [some (progD' (.kt (sec.map .int)) rows), some (oiD w), some (firstT sec).d, some (.adr ma), some (.adr la), some (.adr fa), x6, x7, x8]
noncomputable abbrev w_in (PP : Program) (ww : World) : WS := (wsSeq (wsIf (wtOf (wInN PP ww false (wHid (eVar 8)) (wHid (eVar 3)))) (wsCont) (wsNext))
  (wsSeq (wsPutN PP ww (wHid (eVar 3)) (wHid (eVar 8)) (wHid (fTup (aCons (eVar 6) (aCons (eVar 7) (aNil))))))
  (wsSeq (wsIf (wtOf (wOp dGt (wLenN PP ww (wHid (eVar 3))) (wHid (eC (.int 600))))) (wsRet (wHid (fTup (aCons (eC (.str "many")) (aCons (fTup (aNil)) (aNil)))))) (wsNext))
  (wsSeq (wsIf (wtV (tB (eA m_is_leak (aCons (eVar 0) (aCons (eVar 8) (aCons (eVar 1) (aNil))))))) (wsRet (wTup (waCons (wHid (eC (.str "leak"))) (waCons (wCall0 (wf_path_to PP ww) (waCons (wHid (eVar 3)) (waCons (wHid (eVar 8)) (waNil)))) (waNil))))) (wsNext))
  (wsApp (wHid (eVar 5)) (wHid (eVar 8)))))))
theorem fsts_app {M : Met} {T : ASt} {p : Par} : fsts (M ++ [(T, p)]) = fsts M ++ [T] := by simp [fsts]
theorem in_loop {ma la fa : Addr} {S : ASt} {Q : WOut → Prop} (PO : PrOk sec rows) (hn0 : 0 < rows.length) (hw : ∀ v, w = some v → 0 ≤ v) (hma : st0 ma = none) (hfa0 : st0 fa = none) (hlm : la ≠ ma) (hlf : la ≠ fa) {Lv : List ASt} :
    ∀ (ts : List (Lab × ASt)) (M : Met) (fs : List ASt) (st : Sx) (x7 x8 : Option D), (∀ p ∈ ts, p ∈ nextT rows w S) → Valid sec rows w M → M.length ≤ 600 → NoLk rows w M → S ∈ fsts M → st ma = some (.n PP ww ma (metD M)) → st la = some (.l (Lv.map ASt.d)) → st fa = some (.l (fs.map ASt.d)) → fs.length ≤ M.length → Ext st0 st → (∀ U ∈ fs, U ∈ fsts M) →
    (∀ r d st', goIn rows w S ts M fs = .inl r → FinR sec rows w r d → Ext st0 st' → Q (.rt d st')) →
    (∀ (M' : Met) (fs' : List ASt) (st' : Sx) (x7 x8 : Option D), goIn rows w S ts M fs = .inr (M', fs') → Valid sec rows w M' → M'.length ≤ 600 → NoLk rows w M' → (∀ U ∈ fsts M, U ∈ fsts M') → (∀ p ∈ ts, p.2 ∈ fsts M') → (∀ U ∈ fsts M', U ∈ fsts M ∨ U ∈ fs') → (∀ U ∈ fs, U ∈ fs') → (∀ U ∈ fs', U ∈ fsts M') → M'.length + fs.length = M.length + fs'.length →
      st' ma = some (.n PP ww ma (metD M')) → st' la = some (.l (Lv.map ASt.d)) → st' fa = some (.l (fs'.map ASt.d)) → Ext st0 st' → Q (.nx (e_se sec rows w ma la fa (some S.d) x7 x8) st')) →
    forW (gT (gsC (gN 7) (gsC (gN 8) (gsN)))) (w_in PP ww) (ts.map stepD) (e_se sec rows w ma la fa (some S.d) x7 x8) st Q
  | [], M, fs, st, x7, x8, _, hV, hl, hk, hS, hm, hla, hf, hlen, hE, hfs, hR, hQ => hQ M fs st x7 x8 rfl hV hl hk (fun U h => h) (by simp) (fun U h => .inl h) (fun U h => h) hfs rfl hm hla hf hE
  | (l, T) :: ts, M, fs, st, x7, x8, hts, hV, hl, hk, hS, hm, hla, hf, hlen, hE, hfs, hR, hQ => by
    have hlT : (l, T) ∈ nextT rows w S := hts _ (by simp)
    have hmf : ma ≠ fa := fun z => by rw [z, hf] at hm; cases hm
    refine ⟨[(7, labD l), (8, T.d)], rfl, ?_⟩
    by_cases hT : T ∈ fsts M
    · have hsome : (getN (metD M) T.nk).isSome = true := by
        rw [met_get, Option.isSome_map]
        cases hq : lkp M T with
        | none => exact absurd hT (lkp_none.mp hq)
        | some p => rfl
      refine ⟨T.d, rfl, .adr ma, rfl, ma, _, T.nk, rfl, hm, st_isN T, true, by simp [hsome], ?_⟩
      have hgo : goIn rows w S ((l, T) :: ts) M fs = goIn rows w S ts M fs := by rw [goIn, if_pos hT]
      refine in_loop PO hn0 hw hma hfa0 hlm hlf ts M fs st _ _ (fun p hp => hts p (by simp [hp])) hV hl hk hS hm hla hf hlen hE hfs (fun r d st' h => hR r d st' (hgo.trans h)) fun M' fs' st' x7 x8 a0 a1 a2 a3 a4 a5 a6 a7 a8 a9 b1 b2 b3 b4 => ?_
      refine hQ M' fs' st' x7 x8 (hgo.trans a0) a1 a2 a3 a4 (fun p hp => ?_) a6 a7 a8 a9 b1 b2 b3 b4
      rcases List.mem_cons.mp hp with rfl | hp
      · exact a4 T hT
      · exact a5 p hp
    · have hnone : getN (metD M) T.nk = none := by rw [met_get, lkp_none.mpr hT]; rfl
      refine ⟨T.d, rfl, .adr ma, rfl, ma, _, T.nk, rfl, hm, st_isN T, false, by simp [hnone], ?_⟩
      have hput : putN (metD M) T.d (parD (some (S, l))) T.nk = metD (M ++ [(T, some (S, l))]) := met_put hT
      have hV2 : Valid sec rows w (M ++ [(T, some (S, l))]) := .add hV hS hlT hT
      have hml : (metD M).length = M.length := by simp [metD]
      refine ⟨.tup [S.d, labD l], rfl, .adr ma, rfl, T.d, rfl, ma, _, T.nk, rfl, hm, st_isN T, by rw [hml]; omega, ?_⟩
      have hput' : putN (metD M) T.d (.tup [S.d, labD l]) T.nk = metD (M ++ [(T, some (S, l))]) := hput
      rw [hput']
      have E2 : Ext st0 (sxU st ma (.n PP ww ma (metD (M ++ [(T, some (S, l))])))) := hE.put hma
      have hml2 : ((metD (M ++ [(T, some (S, l))])).length : Int) = M.length + 1 := by simp [metD]
      by_cases h6 : M.length = 600
      · refine ⟨.adr ma, rfl, ma, _, rfl, sxU_same, .int 600, rfl, .bl true, by rw [hml2, h6]; rfl, true, rfl, ?_⟩
        refine ⟨_, rfl, hR _ _ _ (by rw [goIn, if_neg hT, if_pos (by omega)]) (.many hV2 (by simp; omega)) E2⟩
      · have h5 : M.length + 1 ≤ 600 := by omega
        refine ⟨.adr ma, rfl, ma, _, rfl, sxU_same, .int 600, rfl, .bl false, ?_, false, rfl, ?_⟩
        · rw [hml2]
          have : ¬ ((600 : Int) < M.length + 1) := by omega
          simp [this]
        have hTok := hV2.ok PO hn0 hw T (by simp)
        have hlk := is_leak (sec := .kt (sec.map .int)) (w := w) hw hTok.p0 (ok_row (n := 0) hTok)
        have hsd : ∀ st, see 7 st T.d = T.d := fun st => rfl
        have hpd : ∀ st, see 7 st (progD' (.kt (sec.map .int)) rows) = progD' (.kt (sec.map .int)) rows := fun st => rfl
        have hsw : ∀ st, see 7 st (oiD w) = oiD w := fun st => see_oi
        cases hT2 : lkT rows w T with
        | true =>
          have hlk' : leakT (rowT rows T) T w = true := hT2
          rw [hlk'] at hlk
          refine ⟨true, by simp [e_se, hsd, hpd, hsw, hlk], ?_⟩
          refine ⟨_, rfl, .adr ma, rfl, T.d, rfl, ?_⟩
          refine path_to hV2 (by simp; omega) (by simp) sxU_same fun ls st' h1 h2 h3 => ?_
          exact ⟨by simp, hR _ _ _ (by rw [goIn, if_neg hT, if_neg (by omega), if_pos hT2]) (.leak hV2 (by rw [fsts_app]; simp) hT2 h1 h2 (by simpa using h5)) (E2.trans h3)⟩
        | false =>
          have hlk' : leakT (rowT rows T) T w = false := hT2
          rw [hlk'] at hlk
          refine ⟨false, by simp [e_se, hsd, hpd, hsw, hlk], ?_⟩
          have hf2 : (sxU st ma (.n PP ww ma (metD (M ++ [(T, some (S, l))])))) fa = some (.l (fs.map ASt.d)) := by rw [sxU_ne (Ne.symm hmf)]; exact hf
          refine ⟨.adr fa, rfl, isLc_l hf2, T.d, rfl, _, appW_l hf2 (by simp; omega), ?_⟩
          have hgo : goIn rows w S ((l, T) :: ts) M fs = goIn rows w S ts (M ++ [(T, some (S, l))]) (fs ++ [T]) := by rw [goIn, if_neg hT, if_neg (by omega), if_neg (by rw [hT2]; exact Bool.false_ne_true)]
          refine in_loop PO hn0 hw hma hfa0 hlm hlf ts (M ++ [(T, some (S, l))]) (fs ++ [T]) _ _ _ (fun p hp => hts p (by simp [hp])) hV2 (by simpa using h5) (fun U hU => ?_) (by rw [fsts_app]; simp [hS]) (by rw [sxU_ne hmf]; exact sxU_same) (by rw [sxU_ne hlf, sxU_ne hlm]; exact hla) (by rw [sxU_same, List.map_append]; rfl) (by simp; omega) (E2.put hfa0) (fun U hU => ?_) (fun r d st' h => hR r d st' (hgo.trans h)) fun M' fs' st' x7 x8 a0 a1 a2 a3 a4 a5 a6 a7 a8 a9 b1 b2 b3 b4 => ?_
          · rw [fsts_app, List.mem_append] at hU
            rcases hU with hU | hU
            · exact hk U hU
            · simp at hU; subst hU; exact hT2
          · rw [fsts_app, List.mem_append]
            rcases List.mem_append.mp hU with hU | hU
            · exact .inl (hfs U hU)
            · exact .inr hU
          · have a4' : ∀ U ∈ fsts M, U ∈ fsts M' := fun U hU => a4 U (by rw [fsts_app]; simp [hU])
            have hTM : T ∈ fsts M' := a4 T (by rw [fsts_app]; simp)
            refine hQ M' fs' st' x7 x8 (hgo.trans a0) a1 a2 a3 a4' (fun p hp => ?_) (fun U hU => ?_) (fun U hU => a7 U (by simp [hU])) a8 (by simp at a9; omega) b1 b2 b3 b4
            · rcases List.mem_cons.mp hp with rfl | hp
              · exact hTM
              · exact a5 p hp
            · rcases a6 U hU with h | h
              · rw [fsts_app, List.mem_append] at h
                rcases h with h | h
                · exact .inl h
                · exact .inr (a7 U (by simp at h; subst h; simp))
              · exact .inr h
end KS
namespace KS
open PySem PySem.Spec PyProof.Rows L2 Mi KP KQ
variable {PP : Program} {ww : World} {sec : List Int} {rows : List KP.Row} {w : Win} {M : Met} {st st0 : Sx} {Pd : D → Sx → Prop} {Px : Str → Sx → Prop}
theorem Done.mono {M M' : Met} {S : ASt} (h : Done rows w M S) (hm : ∀ U ∈ fsts M, U ∈ fsts M') : Done rows w M' S := fun p hp => hm _ (h p hp)
noncomputable abbrev w_lv (PP : Program) (ww : World) : WS := (wsFor (fSeq (eA m_steps (aCons (eVar 0) (aCons (eVar 6) (aCons (eVar 1) (aNil)))))) (gT (gsC (gN 7) (gsC (gN 8) (gsN)))) (w_in PP ww))
theorem lv_loop {ma la fa : Addr} {Q : WOut → Prop} (PO : PrOk sec rows) (hn0 : 0 < rows.length) (hw : ∀ v, w = some v → 0 ≤ v) (hma : st0 ma = none) (hfa0 : st0 fa = none) (hlm : la ≠ ma) (hlf : la ≠ fa) {Lv : List ASt} :
    ∀ (Ls : List ASt) (M : Met) (fs : List ASt) (st : Sx) (x6 x7 x8 : Option D), (∀ S ∈ Ls, S ∈ fsts M) → Valid sec rows w M → M.length ≤ 600 → NoLk rows w M → st ma = some (.n PP ww ma (metD M)) → st la = some (.l (Lv.map ASt.d)) → st fa = some (.l (fs.map ASt.d)) → fs.length ≤ M.length → Ext st0 st → (∀ U ∈ fs, U ∈ fsts M) →
    (∀ r d st', goLv rows w Ls M fs = .inl r → FinR sec rows w r d → Ext st0 st' → Q (.rt d st')) →
    (∀ (M' : Met) (fs' : List ASt) (st' : Sx) (x6 x7 x8 : Option D), goLv rows w Ls M fs = .inr (M', fs') → Valid sec rows w M' → M'.length ≤ 600 → NoLk rows w M' → (∀ U ∈ fsts M, U ∈ fsts M') → (∀ S ∈ Ls, Done rows w M' S) → (∀ U ∈ fsts M', U ∈ fsts M ∨ U ∈ fs') → (∀ U ∈ fs, U ∈ fs') → (∀ U ∈ fs', U ∈ fsts M') → M'.length + fs.length = M.length + fs'.length →
      st' ma = some (.n PP ww ma (metD M')) → st' la = some (.l (Lv.map ASt.d)) → st' fa = some (.l (fs'.map ASt.d)) → Ext st0 st' → Q (.nx (e_se sec rows w ma la fa x6 x7 x8) st')) →
    forC (gN 6) (w_lv PP ww) la (Lv.map ASt.d) (Ls.map ASt.d) (e_se sec rows w ma la fa x6 x7 x8) st Q
  | [], M, fs, st, x6, x7, x8, hLs, hV, hl, hk, hm, hla, hf, hlen, hE, hfs, hR, hQ => ⟨hla, hQ M fs st x6 x7 x8 rfl hV hl hk (fun U h => h) (by simp) (fun U h => .inl h) (fun U h => h) hfs rfl hm hla hf hE⟩
  | S :: Ls, M, fs, st, x6, x7, x8, hLs, hV, hl, hk, hm, hla, hf, hlen, hE, hfs, hR, hQ => by
    have hS := hLs S (by simp)
    have hSok := hV.ok PO hn0 hw S hS
    have hrow := ok_row (n := 0) hSok
    have hRok : (rowT rows S).ok rows.length := PO.ok _ (List.mem_of_getElem? hrow)
    have s4 := steps_ok (sec := .kt (sec.map .int)) hw hSok hRok hrow
    refine ⟨hla, [(6, S.d)], rfl, (nextT rows w S).map stepD, ?_, ?_⟩
    · simp [e_se, s4, nextT]
    refine in_loop PO hn0 hw hma hfa0 hlm hlf (nextT rows w S) M fs st x7 x8 (fun p hp => hp) hV hl hk hS hm hla hf hlen hE hfs (fun r d st' h f e => by exact hR r d st' (by rw [goLv, h]) f e) fun M1 f1 st1 x7 x8 a0 a1 a2 a3 a4 a5 a6 a7 a8 a9 b1 b2 b3 b4 => ?_
    have hgo : goLv rows w (S :: Ls) M fs = goLv rows w Ls M1 f1 := by rw [goLv, a0]
    refine lv_loop PO hn0 hw hma hfa0 hlm hlf Ls M1 f1 st1 _ _ _ (fun U hU => a4 U (hLs U (by simp [hU]))) a1 a2 a3 b1 b2 b3 (by omega) b4 a8 (fun r d st' h => hR r d st' (hgo.trans h)) fun M2 f2 st2 x6 x7 x8 c0 c1 c2 c3 c4 c5 c6 c7 c8 c9 d1 d2 d3 d4 => ?_
    refine hQ M2 f2 st2 x6 x7 x8 (hgo.trans c0) c1 c2 c3 (fun U hU => c4 U (a4 U hU)) (fun U hU => ?_) (fun U hU => ?_) (fun U hU => c7 U (a7 U hU)) c8 (by omega) d1 d2 d3 d4
    · rcases List.mem_cons.mp hU with rfl | hU
      · exact Done.mono (M := M1) a5 c4
      · exact c5 U hU
    · rcases c6 U hU with h | h
      · rcases a6 U h with h | h
        · exact .inl h
        · exact .inr (c7 U h)
      · exact .inr h
noncomputable abbrev w_wb (PP : Program) (ww : World) : WS := (wsSeq (wsAsg 5 (wNewH (fLst (aNil))))
  (wsSeq (wsForC (wHid (eVar 4)) (gN 6) (w_lv PP ww))
  (wsAsg 4 (wHid (eVar 5)))))
theorem wh_loop {ma : Addr} {Q : WOut → Prop} {rr : Res} (PO : PrOk sec rows) (hn0 : 0 < rows.length) (hw : ∀ v, w = some v → 0 ≤ v) (hma : st0 ma = none)
    (hR : ∀ d st', FinR sec rows w rr d → Ext st0 st' → Q (.rt d st'))
    (hQ : ∀ (M : Met) (st' : Sx) (x4 x5 x6 x7 x8 : Option D), rr = .table M → Valid sec rows w M → M.length ≤ 600 → NoLk rows w M → (∀ S ∈ fsts M, Done rows w M S) → st' ma = some (.n PP ww ma (metD M)) → Ext st0 st' → Q (.nx [some (progD' (.kt (sec.map .int)) rows), some (oiD w), some (firstT sec).d, some (.adr ma), x4, x5, x6, x7, x8] st')) :
    ∀ (n : Nat) (M : Met) (Lv : List ASt) (la : Addr) (st : Sx) (x5 x6 x7 x8 : Option D), Lv = [] ∨ 601 ≤ n + M.length → Valid sec rows w M → M.length ≤ 600 → NoLk rows w M → (∀ S ∈ Lv, S ∈ fsts M) → (∀ U ∈ fsts M, U ∈ Lv ∨ Done rows w M U) → st ma = some (.n PP ww ma (metD M)) → st la = some (.l (Lv.map ASt.d)) → Ext st0 st → goWh rows w n M Lv = rr →
      whW (wtV (tB (e2 dGt (eA (g1 dLen) (aCons (eVar 4) (aNil))) (eC (.int 0))))) (w_wb PP ww) (n + 1) [some (progD' (.kt (sec.map .int)) rows), some (oiD w), some (firstT sec).d, some (.adr ma), some (.adr la), x5, x6, x7, x8] st Q := by
  intro n
  induction n with
  | zero =>
    intro M Lv la st x5 x6 x7 x8 hn hV hl hk hLv hd hm hla hE hrr
    have hLv0 : Lv = [] := hn.resolve_right (by omega)
    subst hLv0
    have hs : see 7 st (.adr la) = .lst [] := by rw [seeL hla]; rfl
    exact ⟨false, by simp [hs], hQ M st _ _ _ _ _ hrr.symm hV hl hk (fun S hS => (hd S hS).resolve_left (by simp)) hm hE⟩
  | succ n ih =>
    intro M Lv la st x5 x6 x7 x8 hn hV hl hk hLv hd hm hla hE hrr
    have hs : see 7 st (.adr la) = .lst (Lv.map ASt.d) := by
      rw [seeL hla, List.map_map]
      congr 1
    by_cases hL : Lv = []
    · subst hL
      exact ⟨false, by simp [hs], hQ M st _ _ _ _ _ (by rw [← hrr, goWh, if_pos rfl]) hV hl hk (fun S hS => (hd S hS).resolve_left (by simp)) hm hE⟩
    · have hpos : 0 < Lv.length := List.length_pos_iff.mpr hL
      refine ⟨true, by simp [hs]; exact hpos, ?_⟩
      refine ⟨.l [], by simp, fun fa hfa => ?_⟩
      have E1 : Ext st (sxU st fa (.l [])) := .new hfa
      have hfa0 : st0 fa = none := by
        cases hx : st0 fa with
        | none => rfl
        | some c => rw [hE _ _ hx] at hfa; cases hfa
      have hlm : la ≠ ma := fun z => by rw [z, hm] at hla; cases hla
      have hlf : la ≠ fa := fun z => by rw [z, hfa] at hla; cases hla
      refine ⟨.adr la, rfl, la, Lv.map ASt.d, rfl, E1 _ _ hla, ?_⟩
      rw [goWh, if_neg hL] at hrr
      refine lv_loop PO hn0 hw hma hfa0 hlm hlf Lv M [] _ x6 x7 x8 hLv hV hl hk (E1 _ _ hm) (E1 _ _ hla) sxU_same (by simp) (hE.trans E1) (by simp) (fun r d st' h f e => by
        rw [h] at hrr
        exact hR d st' (by rw [← hrr]; exact f) e) fun M' fs' st' x6 x7 x8 a0 a1 a2 a3 a4 a5 a6 a7 a8 a9 b1 b2 b3 b4 => ?_
      refine ⟨.adr fa, rfl, ?_⟩
      rw [a0] at hrr
      refine ih M' fs' fa st' _ _ _ _ ?_ a1 a2 a3 a8 (fun U hU => ?_) b1 b3 b4 hrr
      · by_cases hf : fs' = []
        · exact .inl hf
        · have : 0 < fs'.length := List.length_pos_iff.mpr hf
          have := hn.resolve_left hL
          simp at a9
          exact .inr (by omega)
      · rcases a6 U hU with h | h
        · rcases hd U h with h | h
          · exact .inr (a5 U h)
          · exact .inr (h.mono a4)
        · exact .inl h
theorem st_tx {S : ASt} {n : Nat} (hS : S.ok n w) (hn : n ≤ 100) (hw : ∀ v, w = some v → v ≤ 100) : TxOk S.d := by
  obtain ⟨p, h1, h2, h3, h4, h5⟩ := state_sh hS hn hw
  exact ⟨rfl, p, h1, h2, h3, by omega, sz_of (by omega)⟩
theorem search_okR (PO : PrOk sec rows) (hn0 : 0 < rows.length) (hn1 : rows.length ≤ 100) (hw : ∀ v, w = some v → 0 ≤ v) (hw1 : ∀ v, w = some v → v ≤ 100)
    (hP : ∀ d st', FinR sec rows w (searchR sec rows w) d → Ext st st' → Pd d st')
    (hT : ∀ M st', searchR sec rows w = .table M → Valid sec rows w M → M.length ≤ 600 → NoLk rows w M → (∀ S ∈ fsts M, Done rows w M S) → Ext st st' → Pd (.tup [.str "table", .lst (sortTx (M.map fun m => m.1.d))]) st') :
    wf_search PP ww [progD' (.kt (sec.map .int)) rows, oiD w] st Pd Px := by
  have f1 := first_okK (sec := sec) (rows := rows)
  have hS : (firstT sec).ok rows.length w := first_inv hn0
  have hlk := is_leak (sec := .kt (sec.map .int)) (w := w) hw hS.p0 (ok_row (n := 0) hS)
  have hsd : ∀ st, see 7 st (firstT sec).d = (firstT sec).d := fun st => rfl
  have hpd : ∀ st, see 7 st (progD' (.kt (sec.map .int)) rows) = progD' (.kt (sec.map .int)) rows := fun st => rfl
  have hsw : ∀ st, see 7 st (oiD w) = oiD w := fun st => see_oi
  refine ⟨rfl, (firstT sec).d, by simp [f1], ?_⟩
  cases hL : lkT rows w (firstT sec) with
  | true =>
    have hlk' : leakT (rowT rows (firstT sec)) (firstT sec) w = true := hL
    rw [hlk'] at hlk
    refine ⟨true, by simp [hsd, hpd, hsw, hlk], ?_⟩
    exact ⟨.tup [.str "leak", .lst []], by simp, hP _ st (by rw [show searchR sec rows w = .leak [(firstT sec, none)] (firstT sec) from if_pos hL]; exact .leak .one (by simp [fsts]) hL .nil (by simp) (by simp)) (.refl _)⟩
  | false =>
    have hlk' : leakT (rowT rows (firstT sec)) (firstT sec) w = false := hL
    rw [hlk'] at hlk
    refine ⟨false, by simp [hsd, hpd, hsw, hlk], fun ma hma => ?_⟩
    refine ⟨(firstT sec).d, rfl, .non, rfl, (firstT sec).nk, st_isN _, sxU_same, ?_⟩
    rw [sxU_sxU]
    have Em : Ext st (sxU st ma (.n PP ww ma (metD [(firstT sec, none)]))) := .new hma
    refine ⟨.l [(firstT sec).d], by simp, fun la hla => ?_⟩
    have El : Ext (sxU st ma (.n PP ww ma (metD [(firstT sec, none)]))) (sxU (sxU st ma (.n PP ww ma (metD [(firstT sec, none)]))) la (.l [(firstT sec).d])) := .new hla
    refine ⟨602, ?_⟩
    have hsr : searchR sec rows w = goWh rows w 601 [(firstT sec, none)] [firstT sec] := if_neg (by rw [hL]; exact Bool.false_ne_true)
    refine wh_loop (st0 := st) (rr := searchR sec rows w) PO hn0 hw hma (fun d st' h e => by exact hP d st' h e) (fun M st' x4 x5 x6 x7 x8 hrr hV hl hk hd hm hE => ?_) 601 [(firstT sec, none)] [firstT sec] la _ _ _ _ _ (.inr (by simp)) .one (by simp) (fun S hS => ?_) (fun S h => by simp at h; subst h; simp [fsts]) (fun U hU => .inl (by simpa [fsts] using hU)) (El _ _ sxU_same) sxU_same (Em.trans El) hsr.symm
    · have hkeys : (metD M).map (·.1) = M.map fun m => m.1.d := by simp [metD]
      refine ⟨.str "table", rfl, .adr ma, rfl, ma, metD M, rfl, hm, fun b hb => ?_⟩
      refine ⟨b, _, rfl, sxU_same, fun d hd' => ?_, fun c hc => ?_⟩
      · rw [hkeys] at hd'
        obtain ⟨m, hm', rfl⟩ := List.mem_map.mp hd'
        exact st_tx (hV.ok PO hn0 hw m.1 (List.mem_map.mpr ⟨m, hm', rfl⟩)) hn1 hw1
      · refine ⟨c, _, _, rfl, sxU_same, rfl, by simp, ?_⟩
        rw [hkeys]
        refine hT M _ hrr hV hl hk hd fun x d h => ?_
        have h1 := hE _ _ h
        have hbx : x ≠ b := fun z => by rw [z] at h1; rw [h1] at hb; cases hb
        have hcx : x ≠ c := fun z => by
          rw [z] at h1 hbx
          rw [sxU_ne hbx, h1] at hc
          cases hc
        unfold sxD
        rw [if_neg hcx, sxU_ne hcx, sxU_ne hbx]
        exact h1
    · simp [fsts] at hS
      subst hS
      exact hL
end KS
namespace KS
open PySem PySem.Spec PyProof.Rows L2 Mi KP KQ
variable {PP : Program} {ww : World} {sec : List Int} {rows : List KP.Row} {w : Win} {st : Sx}
def Shut (rows : List KP.Row) (w : Win) (Ts : List ASt) (S : ASt) : Prop := lkT rows w S = false ∧ ∀ p ∈ nextT rows w S, p.2 ∈ Ts
end KS
namespace KS
open PySem PySem.Spec PyProof.Rows L2 Mi KP KQ
abbrev ch (s : Str) : List Nat := s.cps.toList
theorem ch_app {a b : Str} : ch (a ++ b) = ch a ++ ch b := Array.toList_append
def leafs : List PyData := [.none, .bool true, .bool false, .str "zero", .str "secret", .str "public"] ++ (List.range 200).map fun n => .int (Int.ofNat n)
def ltx : List (List Nat) := [ch "None", ch "True", ch "False", ch (reprText "zero"), ch (reprText "secret"), ch (reprText "public")] ++ (List.range 200).map fun n => ch (Str.ofString (toString (Int.ofNat n)))
theorem leafs_tx : leafs.map (fun p => ch p.shown) = ltx := by
  unfold leafs ltx
  rw [List.map_append, List.map_map]
  congr 1
theorem ltx_nodup : ltx.Nodup := by decide +kernel
theorem ltx_clean : ltx.all (fun t => !t.isEmpty && t.all fun c => c != 40 && c != 41 && c != 44) = true := by decide +kernel
def Clean (t : List Nat) : Prop := ∀ c ∈ t, c ≠ 40 ∧ c ≠ 41 ∧ c ≠ 44
theorem leaf_clean {p : PyData} (h : p ∈ leafs) : Clean (ch p.shown) ∧ ch p.shown ≠ [] := by
  have hm : ch p.shown ∈ ltx := by rw [← leafs_tx]; exact List.mem_map.mpr ⟨p, h, rfl⟩
  have := List.all_eq_true.mp ltx_clean _ hm
  simp only [Bool.and_eq_true, Bool.not_eq_true', List.isEmpty_eq_false_iff, List.all_eq_true, bne_iff_ne] at this
  exact ⟨fun c hc => ⟨(this.2 c hc).1.1, (this.2 c hc).1.2, (this.2 c hc).2⟩, this.1⟩
theorem nodup_map_inj {α β : Type} {f : α → β} : ∀ {l : List α}, (l.map f).Nodup → ∀ {a b : α}, a ∈ l → b ∈ l → f a = f b → a = b
  | x :: l, h, a, b, ha, hb, e => by
    rw [List.map_cons, List.nodup_cons] at h
    rcases List.mem_cons.mp ha with ea | ha' <;> rcases List.mem_cons.mp hb with eb | hb'
    · rw [ea, eb]
    · exact absurd (List.mem_map.mpr ⟨b, hb', by rw [← e, ea]⟩) h.1
    · exact absurd (List.mem_map.mpr ⟨a, ha', by rw [e, eb]⟩) h.1
    · exact nodup_map_inj h.2 ha' hb' e
theorem leaf_inj {p q : PyData} (hp : p ∈ leafs) (hq : q ∈ leafs) (e : ch p.shown = ch q.shown) : p = q :=
  nodup_map_inj (f := fun p => ch p.shown) (by rw [leafs_tx]; exact ltx_nodup) hp hq e
def Sep (r : List Nat) : Prop := r = [] ∨ ∃ c t, r = c :: t ∧ (c = 44 ∨ c = 41)
theorem clean_split : ∀ {t u r r' : List Nat}, Clean t → Clean u → Sep r → Sep r' → t ++ r = u ++ r' → t = u ∧ r = r'
  | [], [], _, _, _, _, _, _, e => ⟨rfl, e⟩
  | [], c :: u, r, r', _, hu, hr, _, e => by
    have := hu c (by simp)
    rcases hr with rfl | ⟨d, t, rfl, hd⟩
    · simp at e
    · simp at e
      omega
  | c :: t, [], r, r', ht, _, _, hr, e => by
    have := ht c (by simp)
    rcases hr with rfl | ⟨d, t, rfl, hd⟩
    · simp at e
    · simp at e
      omega
  | c :: t, d :: u, r, r', ht, hu, hr, hr', e => by
    rw [List.cons_append, List.cons_append] at e
    injection e with e1 e2
    obtain ⟨h1, h2⟩ := clean_split (fun x hx => ht x (by simp [hx])) (fun x hx => hu x (by simp [hx])) hr hr' e2
    exact ⟨by rw [e1, h1], h2⟩
inductive Good : PyData → Prop
  | leaf {p : PyData} : p ∈ leafs → Good p
  | tup {ps : List PyData} : (∀ p ∈ ps, Good p) → Good (.tuple ps)
abbrev tx (p : PyData) : List Nat := ch p.shown
def jn : List (List Nat) → List Nat
  | [] => []
  | [x] => x
  | x :: y :: r => x ++ 44 :: 32 :: jn (y :: r)
theorem ch_join : ∀ ts : List Str, ch (Str.join ", " ts) = jn (ts.map ch)
  | [] => rfl
  | [x] => rfl
  | x :: y :: r => by
    show ch (x ++ ", " ++ Str.join ", " (y :: r)) = _
    rw [ch_app, ch_app, ch_join (y :: r)]
    have e : ch ((", " : String) : Str) = [44, 32] := by decide +kernel
    rw [e]
    simp [jn]
theorem shownAll_map : ∀ ps : List PyData, PyData.shownAll ps = ps.map PyData.shown
  | [] => by simp [PyData.shownAll]
  | p :: ps => by simp [PyData.shownAll, shownAll_map ps]
theorem tx_tup (ps : List PyData) : tx (.tuple ps) = 40 :: (jn (ps.map tx) ++ if ps.length = 1 then [44, 41] else [41]) := by
  unfold tx
  simp only [PyData.shown]
  unfold tupleText
  rw [ch_app, ch_app, ch_join, shownAll_map, List.map_map]
  have e1 : ch (("(" : String) : Str) = [40] := by decide +kernel
  have e2 : ch ((",)" : String) : Str) = [44, 41] := by decide +kernel
  have e3 : ch (((")" : String)) : Str) = [41] := by decide +kernel
  rw [e1]
  by_cases h : ps.length = 1
  · simp [h, e2, Function.comp_def]
  · simp [h, e3, Function.comp_def]
theorem good_head {q : PyData} (h : Good q) : ∃ c t, tx q = c :: t ∧ c ≠ 41 := by
  cases h with
  | leaf h =>
    obtain ⟨h1, h2⟩ := leaf_clean h
    cases e : tx q with
    | nil => exact absurd e h2
    | cons c t => exact ⟨c, t, rfl, (h1 c (by show c ∈ tx q; rw [e]; simp)).2.1⟩
  | tup h => exact ⟨40, _, tx_tup _, by decide⟩
def UD (p : PyData) : Prop := ∀ q, Good q → ∀ r r', Sep r → Sep r' → tx p ++ r = tx q ++ r' → p = q ∧ r = r'
theorem sep41 {r : List Nat} : Sep (41 :: r) := .inr ⟨41, r, rfl, .inr rfl⟩
theorem sep44 {r : List Nat} : Sep (44 :: r) := .inr ⟨44, r, rfl, .inl rfl⟩
theorem items : ∀ {ps qs : List PyData} {r r' : List Nat}, (∀ p ∈ ps, UD p) → (∀ q ∈ qs, Good q) → ps ≠ [] → qs ≠ [] → jn (ps.map tx) ++ 41 :: r = jn (qs.map tx) ++ 41 :: r' → ps = qs ∧ r = r'
  | [], _, _, _, _, _, h, _, _ => absurd rfl h
  | _, [], _, _, _, _, _, h, _ => absurd rfl h
  | [p], [q], r, r', hp, hq, _, _, e => by
    obtain ⟨h1, h2⟩ := hp p (by simp) q (hq q (by simp)) _ _ sep41 sep41 e
    injection h2 with _ h2
    exact ⟨by rw [h1], h2⟩
  | [p], q :: q2 :: s, r, r', hp, hq, _, _, e => by
    have e : tx p ++ 41 :: r = tx q ++ 44 :: 32 :: (jn ((q2 :: s).map tx) ++ 41 :: r') := by simpa [jn] using e
    obtain ⟨h1, h2⟩ := hp p (by simp) q (hq q (by simp)) _ _ sep41 sep44 e
    simp at h2
  | p :: p2 :: s, [q], r, r', hp, hq, _, _, e => by
    have e : tx p ++ 44 :: 32 :: (jn ((p2 :: s).map tx) ++ 41 :: r) = tx q ++ 41 :: r' := by simpa [jn] using e
    obtain ⟨h1, h2⟩ := hp p (by simp) q (hq q (by simp)) _ _ sep44 sep41 e
    simp at h2
  | p :: p2 :: s, q :: q2 :: s', r, r', hp, hq, _, _, e => by
    have e : tx p ++ 44 :: 32 :: (jn ((p2 :: s).map tx) ++ 41 :: r) = tx q ++ 44 :: 32 :: (jn ((q2 :: s').map tx) ++ 41 :: r') := by simpa [jn] using e
    obtain ⟨h1, h2⟩ := hp p (by simp) q (hq q (by simp)) _ _ sep44 sep44 e
    injection h2 with _ h2
    injection h2 with _ h2
    obtain ⟨h3, h4⟩ := items (ps := p2 :: s) (qs := q2 :: s') (fun x hx => hp x (by simp at hx ⊢; right; exact hx)) (fun x hx => hq x (by simp at hx ⊢; right; exact hx)) (by simp) (by simp) h2
    exact ⟨by rw [h1, h3], h4⟩
theorem uniq {p : PyData} (hp : Good p) : UD p := by
  induction hp with
  | @leaf p h =>
    intro q hq r r' hr hr' e
    obtain ⟨h1, h2⟩ := leaf_clean h
    cases hq with
    | leaf g =>
      obtain ⟨g1, g2⟩ := leaf_clean g
      obtain ⟨a, b⟩ := clean_split h1 g1 hr hr' e
      exact ⟨leaf_inj h g a, b⟩
    | tup g =>
      rw [tx_tup] at e
      cases z : tx p with
      | nil => exact absurd z h2
      | cons c t =>
        rw [z] at e
        rw [List.cons_append, List.cons_append] at e
        injection e with e1 _
        exact absurd e1 (h1 c (by show c ∈ tx p; rw [z]; simp)).1
  | @tup ps h ih =>
    intro q hq r r' hr hr' e
    cases hq with
    | leaf g =>
      obtain ⟨g1, g2⟩ := leaf_clean g
      rw [tx_tup] at e
      cases z : tx q with
      | nil => exact absurd z g2
      | cons c t =>
        rw [z] at e
        rw [List.cons_append, List.cons_append] at e
        injection e with e1 _
        exact absurd e1.symm (g1 c (by show c ∈ tx q; rw [z]; simp)).1
    | @tup qs g =>
      rw [tx_tup, tx_tup, List.cons_append, List.cons_append] at e
      injection e with _ e
      have fin : ∀ {ps qs : List PyData} {r r' : List Nat}, ps = qs ∧ r = r' → PyData.tuple ps = .tuple qs ∧ r = r' := fun z => ⟨by rw [z.1], z.2⟩
      match ps, qs, ih, g, e with
      | [], [], _, _, e => exact ⟨rfl, by simpa [jn] using e⟩
      | [], q :: s, _, g, e =>
        obtain ⟨c, t, e1, hc⟩ := good_head (g q (by simp))
        exfalso
        cases s with
        | nil => simp [jn, e1] at e; exact hc e.1.symm
        | cons q2 s => simp [jn, e1] at e; exact hc e.1.symm
      | p :: s, [], _, _, e =>
        obtain ⟨c, t, e1, hc⟩ := good_head (h p (by simp))
        exfalso
        cases s with
        | nil => simp [jn, e1] at e; exact hc e.1
        | cons q2 s => simp [jn, e1] at e; exact hc e.1
      | [p], [q], ih, g, e =>
        have e : tx p ++ 44 :: 41 :: r = tx q ++ 44 :: 41 :: r' := by simpa [jn] using e
        obtain ⟨h1, h2⟩ := ih p (by simp) q (g q (by simp)) _ _ sep44 sep44 e
        simp at h2
        exact fin ⟨by rw [h1], h2⟩
      | [p], q :: q2 :: s, ih, g, e =>
        have e : tx p ++ 44 :: 41 :: r = tx q ++ 44 :: 32 :: (jn ((q2 :: s).map tx) ++ 41 :: r') := by simpa [jn] using e
        obtain ⟨h1, h2⟩ := ih p (by simp) q (g q (by simp)) _ _ sep44 sep44 e
        simp at h2
      | p :: p2 :: s, [q], ih, g, e =>
        have e : tx p ++ 44 :: 32 :: (jn ((p2 :: s).map tx) ++ 41 :: r) = tx q ++ 44 :: 41 :: r' := by simpa [jn] using e
        obtain ⟨h1, h2⟩ := ih p (by simp) q (g q (by simp)) _ _ sep44 sep44 e
        simp at h2
      | p :: p2 :: s, q :: q2 :: s', ih, g, e =>
        refine fin (items ih g (by simp) (by simp) ?_)
        have n1 : (p :: p2 :: s).length ≠ 1 := by simp
        have n2 : (q :: q2 :: s').length ≠ 1 := by simp
        rw [if_neg n1, if_neg n2, List.append_assoc, List.append_assoc] at e
        simpa using e
theorem pys_map {α : Type} {f : α → D} {g : α → PyData} (h : ∀ x, (f x).py? = some (g x)) : ∀ l : List α, pys? (l.map f) = some (l.map g)
  | [] => rfl
  | x :: l => by simp only [List.map_cons, pys?, h x, pys_map h l, Option.bind_some]
def oiP : Option Int → PyData
  | none => .none
  | some i => .int i
def obP : Option Bool → PyData
  | none => .none
  | some b => .bool b
def slP (q : Sl) : PyData := .tuple [q.1.py, q.2.1.py, oiP q.2.2]
def fcP (f : Fc) : PyData := .tuple [obP f.1, obP f.2]
def ASt.p (S : ASt) : PyData := .tuple [.int S.place, .tuple (S.regs.map Kd.py), .tuple (S.slots.map slP), .tuple (S.facts.map fcP), oiP S.depth]
theorem oi_py (o : Option Int) : (oiD o).py? = some (oiP o) := by cases o <;> rfl
theorem ob_py (o : Option Bool) : (obD o).py? = some (obP o) := by cases o <;> rfl
theorem sl_py (q : Sl) : (slD q).py? = some (slP q) := by simp only [slD, D.py?, pys?, kd_py, oi_py, Option.map_some, Option.bind_some, slP]
theorem fc_py (q : Fc) : (fcD q).py? = some (fcP q) := by simp only [fcD, D.py?, pys?, ob_py, Option.map_some, Option.bind_some, fcP]
theorem st_p (S : ASt) : S.d.py? = some S.p := by simp only [ASt.d, D.py?, pys?, pys_map kd_py, pys_map sl_py, pys_map fc_py, oi_py, Option.map_some, Option.bind_some, ASt.p]
theorem kdp_inj (a b : Kd) (h : a.py = b.py) : a = b := by
  cases a <;> cases b <;> simp [Kd.py] at h ⊢
  · exact map_inj' (fun x y e => by injection e) h
  · exact h
theorem oiP_inj (a b : Option Int) (h : oiP a = oiP b) : a = b := by cases a <;> cases b <;> simp [oiP] at h ⊢; exact h
theorem obP_inj (a b : Option Bool) (h : obP a = obP b) : a = b := by
  rcases a with _ | _ | _ <;> rcases b with _ | _ | _ <;> simp [obP] at h ⊢
theorem slP_inj (a b : Sl) (h : slP a = slP b) : a = b := by
  obtain ⟨a1, a2, a3⟩ := a
  obtain ⟨b1, b2, b3⟩ := b
  simp only [slP, PyData.tuple.injEq, List.cons.injEq, and_true] at h
  rw [kdp_inj _ _ h.1, kdp_inj _ _ h.2.1, oiP_inj _ _ h.2.2]
theorem fcP_inj (a b : Fc) (h : fcP a = fcP b) : a = b := by
  obtain ⟨a1, a2⟩ := a
  obtain ⟨b1, b2⟩ := b
  simp only [fcP, PyData.tuple.injEq, List.cons.injEq, and_true] at h
  rw [obP_inj _ _ h.1, obP_inj _ _ h.2]
theorem stp_inj {S T : ASt} (h : S.p = T.p) : S = T := by
  obtain ⟨p, r, s, f, d⟩ := S
  obtain ⟨p', r', s', f', d'⟩ := T
  simp only [ASt.p, PyData.tuple.injEq, List.cons.injEq, and_true, PyData.int.injEq] at h
  obtain ⟨h1, h2, h3, h4, h5⟩ := h
  rw [h1, map_inj' kdp_inj h2, map_inj' slP_inj h3, map_inj' fcP_inj h4, oiP_inj _ _ h5]
theorem good_int {i : Int} (h0 : 0 ≤ i) (h1 : i < 200) : Good (.int i) := by
  obtain ⟨n, rfl⟩ := Int.eq_ofNat_of_zero_le h0
  refine .leaf ?_
  unfold leafs
  exact List.mem_append_right _ (List.mem_map.mpr ⟨n, List.mem_range.mpr (by omega), rfl⟩)
theorem good_lf {p : PyData} (h : p ∈ [PyData.none, .bool true, .bool false, .str "zero", .str "secret", .str "public"]) : Good p := .leaf (List.mem_append_left _ h)
theorem good_kd {k : Kd} {m : Nat} (h : k.ok m) (hm : m ≤ 100) : Good k.py := by
  cases k with
  | zero =>
    refine .tup fun p hp => ?_
    simp at hp; subst hp; exact good_lf (by simp)
  | pub n =>
    refine .tup fun p hp => ?_
    simp at hp
    rcases hp with rfl | rfl
    · exact good_lf (by simp)
    · exact good_int h.1 (by have := h.2; omega)
  | sec kn =>
    refine .tup fun p hp => ?_
    simp at hp
    rcases hp with rfl | rfl
    · exact good_lf (by simp)
    · refine .tup fun p hp => ?_
      obtain ⟨i, hi, rfl⟩ := List.mem_map.mp hp
      have : i = 0 ∨ i = 1 := by
        rcases h with rfl | rfl | rfl | rfl <;> simp at hi <;> omega
      rcases this with rfl | rfl <;> exact good_int (by decide) (by decide)
theorem good_ob (o : Option Bool) : Good (obP o) := by
  rcases o with _ | _ | _ <;> exact good_lf (by simp [obP])
theorem good_oi {o : Option Int} (h : ∀ a, o = some a → 0 ≤ a ∧ a < 200) : Good (oiP o) := by
  cases o with
  | none => exact good_lf (by simp [oiP])
  | some a => exact good_int (h a rfl).1 (h a rfl).2
theorem good_st {S : ASt} {n : Nat} {w : Win} (hS : S.ok n w) (hn : n ≤ 100) (hw : ∀ v, w = some v → v ≤ 100) : Good S.p := by
  have f8 := facts_le hS
  have kd : ∀ {k : Kd}, k.ok S.facts.length → Good k.py := fun h => good_kd h (by omega)
  refine .tup fun p hp => ?_
  simp only [List.mem_cons, List.not_mem_nil, or_false] at hp
  rcases hp with rfl | rfl | rfl | rfl | rfl
  · exact good_int hS.p0 (by have := hS.p1; omega)
  · exact .tup fun p hp => by
      obtain ⟨k, hk, rfl⟩ := List.mem_map.mp hp
      exact kd (hS.rk k hk)
  · exact .tup fun p hp => by
      obtain ⟨q, hq, rfl⟩ := List.mem_map.mp hp
      obtain ⟨h1, h2, h3, h4⟩ := hS.sk q hq
      refine .tup fun p hp => ?_
      simp only [List.mem_cons, List.not_mem_nil, or_false] at hp
      rcases hp with rfl | rfl | rfl
      · exact kd h1
      · exact kd h2
      · exact good_oi fun a ha => ⟨(h4 a ha).1, age_le hw (h4 a ha).2⟩
  · exact .tup fun p hp => by
      obtain ⟨f, hf, rfl⟩ := List.mem_map.mp hp
      refine .tup fun p hp => ?_
      simp only [List.mem_cons, List.not_mem_nil, or_false] at hp
      rcases hp with rfl | rfl <;> exact good_ob _
  · exact good_oi fun a ha => ⟨(hS.dp a ha).1, dep_le hw (hS.dp a ha).2⟩
theorem tx_inj {p q : PyData} (hp : Good p) (hq : Good q) (e : tx p = tx q) : p = q := (uniq hp q hq [] [] (.inl rfl) (.inl rfl) (by rw [e])).1
theorem st_txt (S : ASt) : txt S.d = tx S.p := by
  unfold txt
  rw [st_p]
theorem st_txt_inj {S T : ASt} {n : Nat} {w : Win} (hS : S.ok n w) (hT : T.ok n w) (hn : n ≤ 100) (hw : ∀ v, w = some v → v ≤ 100) (e : txt S.d = txt T.d) : S = T := by
  rw [st_txt, st_txt] at e
  exact stp_inj (tx_inj (good_st hS hn hw) (good_st hT hn hw) e)
end KS
namespace KS
open PySem PySem.Spec PyProof.Rows L2 Mi KP KQ
variable {S T : ASt} {n : Nat} {w : Win} {sec : List Int} {rows : List KP.Row} {M : Met}
def ltS (S T : ASt) : Prop := txt S.d < txt T.d
instance (S T : ASt) : Decidable (ltS S T) := by unfold ltS; infer_instance
def leB (S T : ASt) : Bool := decide (txt S.d ≤ txt T.d)
def sortT (Ss : List ASt) : List ASt := Ss.mergeSort leB
theorem leB_trans (a b c : ASt) (h1 : leB a b = true) (h2 : leB b c = true) : leB a c = true := by
  unfold leB at *
  simp only [decide_eq_true_eq] at *
  exact List.le_trans h1 h2
theorem leB_total (a b : ASt) : (leB a b || leB b a) = true := by
  unfold leB
  simp only [Bool.or_eq_true, decide_eq_true_eq]
  exact List.le_total _ _
theorem sortT_mem {Ss : List ASt} : S ∈ sortT Ss ↔ S ∈ Ss := List.mem_mergeSort
theorem sortT_perm (Ss : List ASt) : (sortT Ss).Perm Ss := List.mergeSort_perm _ _
theorem ltS_of {S T : ASt} (hS : S.ok n w) (hT : T.ok n w) (hn : n ≤ 100) (hw : ∀ v, w = some v → v ≤ 100) (h : leB S T = true) (hne : S ≠ T) : ltS S T := by
  unfold leB at h
  simp only [decide_eq_true_eq] at h
  unfold ltS
  apply Classical.byContradiction
  intro hlt
  have h2 : txt T.d ≤ txt S.d := List.not_lt.mp hlt
  exact hne (st_txt_inj hS hT hn hw (List.le_antisymm h h2))
theorem sortT_asc {Ss : List ASt} (hok : ∀ S ∈ Ss, S.ok n w) (hn : n ≤ 100) (hw : ∀ v, w = some v → v ≤ 100) (hnd : Ss.Nodup) : (sortT Ss).Pairwise ltS := by
  have h1 : (sortT Ss).Pairwise (fun a b => leB a b = true) := List.pairwise_mergeSort leB_trans leB_total Ss
  have h2 : (sortT Ss).Nodup := (sortT_perm Ss).symm.nodup_iff.mp hnd
  refine (h1.and h2).imp_of_mem fun {a b} ha hb hab => ?_
  exact ltS_of (hok a (sortT_mem.mp ha)) (hok b (sortT_mem.mp hb)) hn hw hab.1 hab.2
end KS
namespace KS
open PySem PySem.Spec PyProof.Rows L2 Mi KP KQ
variable {S T : ASt} {n : Nat} {w : Win} {sec : List Int} {rows : List KP.Row} {M : Met}
variable {PP : Program} {ww : World} {st : Sx} {Pd : D → Sx → Prop} {Px : Str → Sx → Prop}
/-- what the judge answers: of states of the program -/
def Just (rows : List KP.Row) (sec : List Int) (w : Win) (Us : List ASt) : Prop := firstT sec ∈ Us ∧ Us.Pairwise ltS ∧ ∀ S ∈ Us, Shut rows w Us S
end KS
namespace KS
open PySem PySem.Spec PyProof.Rows L2 Mi KP KQ KR
variable {sec : List Int} {rows : List KP.Row} {w : Win} {M : Met}
theorem just_found (PO : PrOk sec rows) (hw : ∀ v, w = some v → 0 ≤ v) (hw1 : ∀ v, w = some v → v ≤ 100) (hV : Valid sec rows w M) (hk : NoLk rows w M) (hd : ∀ S ∈ fsts M, Done rows w M S) : Just rows sec w (sortT (fsts M)) :=
  ⟨sortT_mem.mpr hV.first, sortT_asc (hV.ok PO PO.lo hw) PO.hi hw1 hV.nodup, fun S hS => ⟨hk S (sortT_mem.mp hS), fun p hp => sortT_mem.mpr (hd S (sortT_mem.mp hS) p hp)⟩⟩
variable {PP : Program} {ww : World} {st : Sx} {Pd : D → Sx → Prop} {Px : Str → Sx → Prop}
end KS
namespace KS
open PySem PySem.Spec PyProof.Rows L2 Mi KP KQ
section
variable {α β : Type} {l m : List α} {i a : Int} {o v : α}
theorem gt_set (h0 : 0 ≤ a) (h1 : a < l.length) : gt (l.set a.toNat v) i o = if i = a then v else gt l i o := by
  unfold gt
  by_cases hi : 0 ≤ i
  · rw [if_pos hi, if_pos hi, List.getD_eq_getElem?_getD, List.getD_eq_getElem?_getD]
    by_cases e : i = a
    · subst e
      rw [if_pos rfl, List.getElem?_set_self (by omega)]
      rfl
    · rw [if_neg e, List.getElem?_set_ne (by omega)]
  · rw [if_neg hi, if_neg hi, if_neg (by omega)]
theorem gt_map (f : α → β) : gt (l.map f) i (f o) = f (gt l i o) := by
  unfold gt
  split
  · rw [List.getD_eq_getElem?_getD, List.getD_eq_getElem?_getD, List.getElem?_map]
    cases l[i.toNat]? <;> rfl
  · rfl
theorem gt_app (h0 : 0 ≤ i) (h1 : i < l.length) : gt (l ++ m) i o = gt l i o := by
  unfold gt
  rw [if_pos h0, if_pos h0, List.getD_eq_getElem?_getD, List.getD_eq_getElem?_getD, List.getElem?_append_left (by omega)]
theorem gt_last : gt (l ++ [v]) (l.length : Int) o = v := by
  unfold gt
  rw [if_pos (by omega), List.getD_eq_getElem?_getD]
  simp
theorem gt_out (h : i < 0 ∨ (l.length : Int) ≤ i) : gt l i o = o := by
  unfold gt
  split
  · rw [List.getD_eq_getElem?_getD, List.getElem?_eq_none (by omega)]
    rfl
  · rfl
theorem gt_idx [DecidableEq α] {x : α} (h : x ∈ l) : gt l (l.idxOf x : Int) o = x := by
  have hl := List.idxOf_lt_length_of_mem h
  unfold gt
  rw [if_pos (by omega), List.getD_eq_getElem?_getD, Int.toNat_natCast, List.getElem?_eq_getElem hl]
  simp
end
def vC (M : Mn) (ν : List Int) : Kd → Int → Prop
  | .zero, v => v = 0
  | .pub n, v => 0 ≤ n ∧ n < ν.length ∧ v = gt ν n 0
  | .sec kn, v => ∀ a ∈ kn, M.A a v = true
def fC (M : Mn) (ν : List Int) (fs : List Fc) : Prop := ∀ (n a : Int) (t : Bool), 0 ≤ n → n < ν.length → 0 ≤ a → a < 2 → fcGet (gt fs n (none, none)) a = some t → M.A a (gt ν n 0) = t
def slz : Sl := (.zero, .zero, none)
structure Conc (M : Mn) (w : Int) (ν : List Int) (p : Int) (rs : List Kd) (ss : List Sl) (fs : List Fc) (z : KP.S) (nt : List (Option (Int × Int))) : Prop where
  p : z.p = some p
  rl : z.r.length = 4
  sl : z.s.length = 2
  nl : nt.length = 2
  r : ∀ i, vC M ν (gt rs i .zero) (nth z.r i)
  s : ∀ i, vC M ν (gt ss i slz).1 (nth z.s i)
  fl : ν.length = fs.length
  f : fC M ν fs
  n : ∀ i v k, gt nt i none = some (v, k) → 0 ≤ k ∧ (k < w → (gt ss i slz).2.2 = some k ∧ vC M ν (gt ss i slz).2.1 v)
section
variable {M : Mn} {w x : Int} {ν : List Int} {k : Kd} {v : Int} {rs : List Kd} {ss : List Sl} {fs : List Fc} {z : KP.S} {nt : List (Option (Int × Int))} {p : Int}
/-- numbering from 0 -/
theorem Conc.num (h : Conc M w ν p rs ss fs z nt) (hb : ∀ n, Kd.pub n ∈ rs ++ slKinds ss → 0 ≤ n ∧ n < ν.length) : Conc M w ((numsK (rs ++ slKinds ss)).map fun n => gt ν n 0) p (rs.map (ren (numsK (rs ++ slKinds ss)))) (ss.map (renS (numsK (rs ++ slKinds ss)))) ((numsK (rs ++ slKinds ss)).map fun n => gt fs n (none, none)) z nt := by
  have hk : ∀ {k : Kd} {v : Int}, (∀ n, k = .pub n → n ∈ numsK (rs ++ slKinds ss)) → vC M ν k v → vC M ((numsK (rs ++ slKinds ss)).map fun n => gt ν n 0) (ren (numsK (rs ++ slKinds ss)) k) v := fun {k v} hm hv => by
    cases k with
    | zero => exact hv
    | sec kn => exact hv
    | pub n =>
      have hn := hm n rfl
      have hl := List.idxOf_lt_length_of_mem hn
      refine ⟨by omega, by rw [List.length_map]; omega, ?_⟩
      have e : gt ((numsK (rs ++ slKinds ss)).map fun n => gt ν n 0) ((numsK (rs ++ slKinds ss)).idxOf n : Int) 0 = gt ν n 0 := by
        unfold gt
        rw [if_pos (by omega), List.getD_eq_getElem?_getD, List.getElem?_map, Int.toNat_natCast, List.getElem?_eq_getElem hl]
        simp
      rw [e]
      exact hv.2.2
  have mem_r : ∀ i n, gt rs i .zero = .pub n → n ∈ numsK (rs ++ slKinds ss) := fun i n e => by
    rw [numsK_mem]
    refine List.mem_append_left _ ?_
    unfold gt at e
    split at e
    · rw [List.getD_eq_getElem?_getD] at e
      cases q : rs[i.toNat]? with
      | none => rw [q] at e; cases e
      | some k =>
        rw [q] at e
        have e : k = .pub n := e
        subst e
        exact List.mem_of_getElem? q
    · cases e
  have mem_s : ∀ i, gt ss i slz = slz ∨ gt ss i slz ∈ ss := fun i => by
    unfold gt
    split
    · rw [List.getD_eq_getElem?_getD]
      cases q : ss[i.toNat]? with
      | none => exact .inl rfl
      | some k => exact .inr (List.mem_of_getElem? q)
    · exact .inl rfl
  have mem_1 : ∀ i n, (gt ss i slz).1 = .pub n → n ∈ numsK (rs ++ slKinds ss) := fun i n e => by
    rw [numsK_mem]
    rcases mem_s i with h | h
    · rw [h] at e; cases e
    · exact List.mem_append_right _ (List.mem_flatMap.mpr ⟨_, h, by simp [e]⟩)
  have mem_2 : ∀ i n, (gt ss i slz).2.1 = .pub n → n ∈ numsK (rs ++ slKinds ss) := fun i n e => by
    rw [numsK_mem]
    rcases mem_s i with h | h
    · rw [h] at e; cases e
    · exact List.mem_append_right _ (List.mem_flatMap.mpr ⟨_, h, by simp [e]⟩)
  have gr : ∀ i, gt (rs.map (ren (numsK (rs ++ slKinds ss)))) i .zero = ren (numsK (rs ++ slKinds ss)) (gt rs i .zero) := fun i => gt_map (o := Kd.zero) (ren (numsK (rs ++ slKinds ss)))
  have gs : ∀ i, gt (ss.map (renS (numsK (rs ++ slKinds ss)))) i slz = renS (numsK (rs ++ slKinds ss)) (gt ss i slz) := fun i => gt_map (o := slz) (renS (numsK (rs ++ slKinds ss)))
  refine ⟨h.p, h.rl, h.sl, h.nl, fun i => ?_, fun i => ?_, by simp, fun n a t h0 h1 a0 a1 e => ?_, fun i v k e => ?_⟩
  · rw [gr]
    exact hk (mem_r i) (h.r i)
  · rw [gs]
    exact hk (mem_1 i) (h.s i)
  · rw [List.length_map] at h1
    have e1 : ∀ {β : Type} (f : Int → β) (o : β), gt ((numsK (rs ++ slKinds ss)).map f) n o = f ((numsK (rs ++ slKinds ss))[n.toNat]'(by omega)) := fun f o => by
      unfold gt
      rw [if_pos h0, List.getD_eq_getElem?_getD, List.getElem?_map, List.getElem?_eq_getElem (by omega)]
      rfl
    rw [e1] at e ⊢
    have hm : (numsK (rs ++ slKinds ss))[n.toNat]'(by omega) ∈ numsK (rs ++ slKinds ss) := List.getElem_mem _
    generalize (numsK (rs ++ slKinds ss))[n.toNat]'(by omega) = j at *
    have hj : 0 ≤ j ∧ j < ν.length := hb j (numsK_mem.mp hm)
    exact h.f j a t hj.1 hj.2 a0 a1 e
  · rw [gs]
    obtain ⟨k0, h2⟩ := h.n i v k e
    exact ⟨k0, fun hw => ⟨(h2 hw).1, hk (mem_2 i) (h2 hw).2⟩⟩
end
end KS
namespace KS
open PySem PySem.Spec PyProof.Rows L2 Mi KP KQ
def gk (g : Int → Int) : Kd → Kd
  | .pub n => .pub (g n)
  | k => k
/-- 1 is 2 with other numbers, and some old values are gone -/
structure Rl (g : Int → Int) (rs1 : List Kd) (ss1 : List Sl) (fs1 : List Fc) (rs2 : List Kd) (ss2 : List Sl) (fs2 : List Fc) : Prop where
  r : rs2 = rs1.map (gk g)
  p : ∀ i, (gt ss2 i slz).1 = gk g (gt ss1 i slz).1
  o : ∀ i, (gt ss1 i slz).2 = (.zero, none) ∨ (gt ss2 i slz).2.1 = gk g (gt ss1 i slz).2.1 ∧ (gt ss2 i slz).2.2 = (gt ss1 i slz).2.2
  f : ∀ n, Kd.pub n ∈ rs1 ++ slKinds ss1 → gt fs2 (g n) (none, none) = gt fs1 n (none, none)
  inj : ∀ n m, Kd.pub n ∈ rs1 ++ slKinds ss1 → Kd.pub m ∈ rs1 ++ slKinds ss1 → g n = g m → n = m
theorem slK_mem {k : Kd} {ss : List Sl} : k ∈ slKinds ss ↔ ∃ q ∈ ss, q.1 = k ∨ q.2.1 = k := by
  unfold slKinds
  rw [List.mem_flatMap]
  constructor
  · rintro ⟨q, hq, h⟩
    refine ⟨q, hq, ?_⟩
    simp at h
    rcases h with h | h
    · exact .inl h.symm
    · exact .inr h.symm
  · rintro ⟨q, hq, h⟩
    refine ⟨q, hq, ?_⟩
    simp
    rcases h with h | h
    · exact .inl h.symm
    · exact .inr h.symm
theorem gt_mem {α : Type} {l : List α} {i : Int} {o x : α} (h : gt l i o = x) (hx : x ≠ o) : x ∈ l := by
  unfold gt at h
  split at h
  · rw [List.getD_eq_getElem?_getD] at h
    cases q : l[i.toNat]? with
    | none => rw [q] at h; exact absurd h.symm hx
    | some k =>
      rw [q] at h
      have h : k = x := h
      subst h
      exact List.mem_of_getElem? q
  · exact absurd h.symm hx
theorem mem_gt {α : Type} {l : List α} {o x : α} (h : x ∈ l) : ∃ i, gt l i o = x := by
  obtain ⟨n, hn, e⟩ := List.mem_iff_getElem.1 h
  refine ⟨(n : Int), ?_⟩
  unfold gt
  rw [if_pos (by omega), List.getD_eq_getElem?_getD, Int.toNat_natCast, List.getElem?_eq_getElem hn]
  exact e
section
variable {g : Int → Int} {rs1 rs2 : List Kd} {ss1 ss2 : List Sl} {fs1 fs2 : List Fc}
theorem slot_kinds {k : Kd} {ss : List Sl} (hz : k ≠ .zero) : k ∈ slKinds ss ↔ ∃ i, (gt ss i slz).1 = k ∨ (gt ss i slz).2.1 = k := by
  rw [slK_mem]
  constructor
  · rintro ⟨q, hq, h⟩
    obtain ⟨i, e⟩ := mem_gt (o := slz) hq
    exact ⟨i, by rw [e]; exact h⟩
  · rintro ⟨i, h⟩
    refine ⟨gt ss i slz, gt_mem rfl ?_, h⟩
    intro e
    rw [e] at h
    rcases h with h | h <;> exact hz h.symm
theorem Rl.pub (h : Rl g rs1 ss1 fs1 rs2 ss2 fs2) {n : Int} (hn : Kd.pub n ∈ rs1 ++ slKinds ss1) : Kd.pub (g n) ∈ rs2 ++ slKinds ss2 := by
  rcases List.mem_append.1 hn with hn | hn
  · refine List.mem_append_left _ ?_
    rw [h.r]
    exact List.mem_map.2 ⟨_, hn, rfl⟩
  · refine List.mem_append_right _ ?_
    obtain ⟨i, hi⟩ := (slot_kinds (by simp)).1 hn
    refine (slot_kinds (by simp)).2 ⟨i, ?_⟩
    rcases hi with hi | hi
    · left; rw [h.p i, hi]; rfl
    · right
      rcases h.o i with ho | ⟨ho, _⟩
      · rw [ho] at hi; cases hi
      · rw [ho, hi]; rfl
theorem Rl.num (h : Rl g rs1 ss1 fs1 rs2 ss2 fs2) :
    Rl (fun i => ((numsK (rs2 ++ slKinds ss2)).idxOf (g (gt (numsK (rs1 ++ slKinds ss1)) i 0)) : Nat))
      (rs1.map (ren (numsK (rs1 ++ slKinds ss1)))) (ss1.map (renS (numsK (rs1 ++ slKinds ss1)))) ((numsK (rs1 ++ slKinds ss1)).map fun n => gt fs1 n (none, none))
      (rs2.map (ren (numsK (rs2 ++ slKinds ss2)))) (ss2.map (renS (numsK (rs2 ++ slKinds ss2)))) ((numsK (rs2 ++ slKinds ss2)).map fun n => gt fs2 n (none, none)) := by
  generalize e1 : numsK (rs1 ++ slKinds ss1) = ns1
  generalize e2 : numsK (rs2 ++ slKinds ss2) = ns2
  have m1 : ∀ n, n ∈ ns1 ↔ Kd.pub n ∈ rs1 ++ slKinds ss1 := fun n => by rw [← e1]; exact numsK_mem
  have m2 : ∀ n, n ∈ ns2 ↔ Kd.pub n ∈ rs2 ++ slKinds ss2 := fun n => by rw [← e2]; exact numsK_mem
  have hg : ∀ n, n ∈ ns1 → g n ∈ ns2 := fun n hn => (m2 _).2 (h.pub ((m1 n).1 hn))
  have hk : ∀ {k : Kd}, (∀ n, k = .pub n → n ∈ ns1) → ren ns2 (gk g k) = gk (fun i => ((ns2.idxOf (g (gt ns1 i 0)) : Nat) : Int)) (ren ns1 k) := fun {k} hm => by
    cases k with
    | zero => rfl
    | sec kn => rfl
    | pub n =>
      show Kd.pub _ = Kd.pub ((ns2.idxOf (g (gt ns1 _ 0)) : Nat) : Int)
      rw [gt_idx (hm n rfl)]
  have hback : ∀ {m : Int}, Kd.pub m ∈ rs1.map (ren ns1) ++ slKinds (ss1.map (renS ns1)) → ∃ n ∈ ns1, m = (ns1.idxOf n : Int) := fun {m} hm => by
    rw [slKinds_ren, ← List.map_append] at hm
    obtain ⟨k, hk, e⟩ := List.mem_map.1 hm
    cases k with
    | zero => cases e
    | sec kn => cases e
    | pub n => cases e; exact ⟨n, (m1 n).2 hk, rfl⟩
  have hz1 : ∀ i, gt (ss1.map (renS ns1)) i slz = renS ns1 (gt ss1 i slz) := fun i => gt_map (o := slz) (renS ns1)
  have hz2 : ∀ i, gt (ss2.map (renS ns2)) i slz = renS ns2 (gt ss2 i slz) := fun i => gt_map (o := slz) (renS ns2)
  have hfst : ∀ {i n : Int}, (gt ss1 i slz).1 = Kd.pub n → n ∈ ns1 := fun {i n} e => (m1 n).2 (List.mem_append_right _ ((slot_kinds (by simp)).2 ⟨i, .inl e⟩))
  have hsnd : ∀ {i n : Int}, (gt ss1 i slz).2.1 = Kd.pub n → n ∈ ns1 := fun {i n} e => (m1 n).2 (List.mem_append_right _ ((slot_kinds (by simp)).2 ⟨i, .inr e⟩))
  refine ⟨?_, ?_, ?_, ?_, ?_⟩
  · rw [h.r, List.map_map, List.map_map]
    refine List.map_congr_left fun k hk2 => hk fun n e => (m1 n).2 (List.mem_append_left _ (e ▸ hk2))
  · intro i
    rw [hz1, hz2]
    show ren ns2 _ = gk _ (ren ns1 _)
    rw [h.p i]
    exact hk fun n e => hfst e
  · intro i
    rw [hz1, hz2]
    rcases h.o i with ho | ⟨h1, h2⟩
    · left
      show (ren ns1 _, _) = _
      rw [ho]
      rfl
    · right
      refine ⟨?_, h2⟩
      show ren ns2 _ = gk _ (ren ns1 _)
      rw [h1]
      exact hk fun n e => hsnd e
  · intro m hm
    obtain ⟨n, hn, rfl⟩ := hback hm
    have a : ∀ {ns : List Int} {fs : List Fc} {n : Int}, n ∈ ns → gt (ns.map fun n => gt fs n (none, none)) (ns.idxOf n : Int) (none, none) = gt fs n (none, none) := fun {ns fs n} hn => by
      have hl := List.idxOf_lt_length_of_mem hn
      unfold gt
      rw [if_pos (by omega), List.getD_eq_getElem?_getD, List.getElem?_map, Int.toNat_natCast, List.getElem?_eq_getElem hl]
      simp
    show gt _ ((ns2.idxOf (g (gt ns1 _ 0)) : Nat) : Int) _ = _
    rw [gt_idx hn, a (hg n hn), a hn]
    exact h.f n ((m1 n).1 hn)
  · intro m m' hm hm' e
    obtain ⟨n, hn, rfl⟩ := hback hm
    obtain ⟨n', hn', rfl⟩ := hback hm'
    have e : ((ns2.idxOf (g (gt ns1 _ 0)) : Nat) : Int) = ((ns2.idxOf (g (gt ns1 _ 0)) : Nat) : Int) := e
    rw [gt_idx hn, gt_idx hn'] at e
    have e3 : gt ns2 (ns2.idxOf (g n) : Int) 0 = gt ns2 (ns2.idxOf (g n') : Int) 0 := by rw [e]
    rw [gt_idx (hg n hn), gt_idx (hg n' hn')] at e3
    rw [h.inj n n' ((m1 n).1 hn) ((m1 n').1 hn') e3]
end
end KS
namespace KS
open PySem PySem.Spec PyProof.Rows L2 Mi KP KQ
section
variable {g : Int → Int} {S1 S2 : ASt} {R : KP.Row} {n1 n2 : Nat} {w : Int} {t : Bool}
abbrev RS (g : Int → Int) (S1 S2 : ASt) : Prop := Rl g S1.regs S1.slots S1.facts S2.regs S2.slots S2.facts
def newg (g : Int → Int) (S1 S2 : ASt) (n : Int) : Int := if n = S1.facts.length then S2.facts.length else g n
theorem RS.reg (h : RS g S1 S2) (r : Int) : S2.reg r = gk g (S1.reg r) := by
  unfold ASt.reg
  rw [h.r]
  exact gt_map (o := Kd.zero) (gk g)
theorem sec_gk {k : Kd} : (gk g k).isSec = k.isSec := by cases k <;> rfl
theorem RS.shows (h : RS g S1 S2) : shows R S2 = shows R S1 := by
  cases R with
  | load a b c => show (S2.reg c).isSec = (S1.reg c).isSec; rw [h.reg, sec_gk]
  | test a b c =>
    show (match S2.reg a with | .sec kn => !decide (b ∈ kn) | _ => false) = (match S1.reg a with | .sec kn => !decide (b ∈ kn) | _ => false)
    rw [h.reg]
    cases S1.reg a <;> rfl
  | _ => rfl
theorem reg_pub {r n : Int} (h : S1.reg r = .pub n) : Kd.pub n ∈ S1.regs ++ slKinds S1.slots := List.mem_append_left _ (gt_mem h (by simp))
/-- what belongs together among the cases -/
structure CR (g : Int → Int) (S1 S2 : ASt) (c1 c2 : Bool × Option (Int × Bool) × List Fc) : Prop where
  t : c2.1 = c1.1
  f : c2.2.1 = c1.2.1
  l1 : c1.2.2.length = S1.facts.length
  l2 : c2.2.2.length = S2.facts.length
  g : ∀ n, Kd.pub n ∈ S1.regs ++ slKinds S1.slots → gt c2.2.2 (g n) (none, none) = gt c1.2.2 n (none, none)
theorem gk_masked {k : Kd} {b : Int} {t : Bool} : maskedT (gk g k) b t = gk g (maskedT k b t) := by
  cases k with
  | pub n => cases t <;> rfl
  | zero => rfl
  | sec kn => simp only [gk, maskedT]; split <;> rfl
theorem masked_pub {k : Kd} {b n : Int} {t : Bool} (h : maskedT k b t = .pub n) : k = .pub n := by
  cases k with
  | pub m => cases t <;> simp [maskedT] at h; rw [h]
  | zero => cases h
  | sec kn => simp only [maskedT] at h; split at h <;> cases h
def oldK (S : ASt) (k : Kd) : Prop := ∀ n, k = .pub n → Kd.pub n ∈ S.regs ++ slKinds S.slots
theorem old_reg {r : Int} : oldK S1 (S1.reg r) := fun n e => reg_pub e
theorem old_fst {i : Int} : oldK S1 (S1.slot i).1 := fun n e => List.mem_append_right _ ((slot_kinds (by simp)).2 ⟨i, .inl e⟩)
theorem old_snd {i : Int} : oldK S1 (S1.slot i).2.1 := fun n e => List.mem_append_right _ ((slot_kinds (by simp)).2 ⟨i, .inr e⟩)
theorem old_masked {k : Kd} {b : Int} {t : Bool} (h : oldK S1 k) : oldK S1 (maskedT k b t) := fun n e => h n (masked_pub e)
/-- an old number or the new one -/
def newK (S : ASt) (k : Kd) : Prop := ∀ n, k = .pub n → Kd.pub n ∈ S.regs ++ slKinds S.slots ∨ n = S.facts.length
theorem oldK.new {k : Kd} (h : oldK S1 k) : newK S1 k := fun n e => .inl (h n e)
theorem new_pubK : newK S1 (.pub S1.facts.length) := fun n e => by cases e; exact .inr rfl
theorem gk_new : gk (newg g S1 S2) (.pub S1.facts.length) = .pub S2.facts.length := by
  show Kd.pub (if _ then _ else _) = _
  rw [if_pos rfl]
end
end KS
namespace KS
open PySem PySem.Spec PyProof.Rows L2 Mi KP KQ
theorem steps_case {R : KP.Row} {S S' : ASt} {w : Win} {l : Lab} : (l, S') ∈ stepsT R S w ↔ can R S w = true ∧ shows R S = false ∧ ∃ c ∈ casesT R S, l.2 = c.2.1 ∧
    ((l.1 = .step ∧ S' = numberedT (nxtT R S.place c.1) (realR R S c.1) (slotsT R S w) (c.2.2 ++ [(none, none)]) (deeperT S.depth w)) ∨
     ∃ x, wrongT R S w c.1 = some x ∧ l.1 = x.1 ∧ S' = numberedT x.2.1 x.2.2 (slotsT R S w) (c.2.2 ++ [(none, none)]) (openedT S.depth w)) := by
  constructor
  · intro h
    unfold stepsT at h
    split at h
    · rename_i hcs
      have hcs : can R S w = true ∧ shows R S = false := by simpa using hcs
      obtain ⟨c, hc, hm⟩ := List.mem_flatMap.mp h
      refine ⟨hcs.1, hcs.2, c, hc, ?_⟩
      unfold caseT at hm
      rcases List.mem_cons.mp hm with e | hm
      · cases e
        exact ⟨rfl, .inl ⟨rfl, rfl⟩⟩
      · cases hx : wrongT R S w c.1 with
        | none => rw [hx] at hm; cases hm
        | some x =>
          rw [hx] at hm
          simp only [List.mem_singleton] at hm
          cases hm
          exact ⟨rfl, .inr ⟨x, rfl, rfl, rfl⟩⟩
    · cases h
  · rintro ⟨h1, h2, c, hc, h3, h4⟩
    unfold stepsT
    rw [if_pos (by rw [h1, h2]; rfl)]
    refine List.mem_flatMap.mpr ⟨c, hc, ?_⟩
    obtain ⟨l1, l2⟩ := l
    simp only at h3 h4
    subst h3
    unfold caseT
    rcases h4 with ⟨e1, e2⟩ | ⟨x, hx, e1, e2⟩
    · subst e1; subst e2; exact List.mem_cons_self ..
    · subst e1; subst e2
      rw [hx]
      exact List.mem_cons_of_mem _ (List.mem_singleton.mpr rfl)
end KS
namespace KS.X
open PySem PySem.Spec PyProof.Rows L2 Mi KP KQ
/-- the first window is no wider than the second -/
def WLe (W1 W2 : Win) : Prop := match W1, W2 with
  | some v, some u => v ≤ u
  | _, none => True
  | none, some _ => False
/-- ages of the same value -/
def AgR (W : Win) (a1 a2 : Option Int) : Prop := match W with
  | some _ => a2 = a1
  | none => a2.isSome = a1.isSome
theorem AgR.map {W : Win} {a1 a2 : Option Int} (h : AgR W a1 a2) : AgR W (a1.map (· + 1)) (a2.map (· + 1)) := by
  cases W with
  | none => cases a1 <;> cases a2 <;> first | exact h | (cases h)
  | some w => cases (show a2 = a1 from h); rfl
theorem AgR.refl {W : Win} {a : Option Int} : AgR W a a := by cases W <;> rfl
/-- 1 is 2 with other numbers, and some old values are gone -/
structure Rw (W : Win) (g : Int → Int) (rs1 : List Kd) (ss1 : List Sl) (fs1 : List Fc) (rs2 : List Kd) (ss2 : List Sl) (fs2 : List Fc) : Prop where
  r : rs2 = rs1.map (gk g)
  p : ∀ i, (gt ss2 i slz).1 = gk g (gt ss1 i slz).1
  o : ∀ i, (gt ss1 i slz).2 = (.zero, none) ∨ (gt ss2 i slz).2.1 = gk g (gt ss1 i slz).2.1 ∧ AgR W (gt ss1 i slz).2.2 (gt ss2 i slz).2.2
  f : ∀ n, Kd.pub n ∈ rs1 ++ slKinds ss1 → gt fs2 (g n) (none, none) = gt fs1 n (none, none)
  inj : ∀ n m, Kd.pub n ∈ rs1 ++ slKinds ss1 → Kd.pub m ∈ rs1 ++ slKinds ss1 → g n = g m → n = m
section
variable {W : Win} {g : Int → Int} {rs1 rs2 : List Kd} {ss1 ss2 : List Sl} {fs1 fs2 : List Fc}
theorem Rw.pub (h : Rw W g rs1 ss1 fs1 rs2 ss2 fs2) {n : Int} (hn : Kd.pub n ∈ rs1 ++ slKinds ss1) : Kd.pub (g n) ∈ rs2 ++ slKinds ss2 := by
  rcases List.mem_append.1 hn with hn | hn
  · refine List.mem_append_left _ ?_
    rw [h.r]
    exact List.mem_map.2 ⟨_, hn, rfl⟩
  · refine List.mem_append_right _ ?_
    obtain ⟨i, hi⟩ := (slot_kinds (by simp)).1 hn
    refine (slot_kinds (by simp)).2 ⟨i, ?_⟩
    rcases hi with hi | hi
    · left; rw [h.p i, hi]; rfl
    · right
      rcases h.o i with ho | ⟨ho, _⟩
      · rw [ho] at hi; cases hi
      · rw [ho, hi]; rfl
theorem Rw.num (h : Rw W g rs1 ss1 fs1 rs2 ss2 fs2) :
    Rw W (fun i => ((numsK (rs2 ++ slKinds ss2)).idxOf (g (gt (numsK (rs1 ++ slKinds ss1)) i 0)) : Nat))
      (rs1.map (ren (numsK (rs1 ++ slKinds ss1)))) (ss1.map (renS (numsK (rs1 ++ slKinds ss1)))) ((numsK (rs1 ++ slKinds ss1)).map fun n => gt fs1 n (none, none))
      (rs2.map (ren (numsK (rs2 ++ slKinds ss2)))) (ss2.map (renS (numsK (rs2 ++ slKinds ss2)))) ((numsK (rs2 ++ slKinds ss2)).map fun n => gt fs2 n (none, none)) := by
  generalize e1 : numsK (rs1 ++ slKinds ss1) = ns1
  generalize e2 : numsK (rs2 ++ slKinds ss2) = ns2
  have m1 : ∀ n, n ∈ ns1 ↔ Kd.pub n ∈ rs1 ++ slKinds ss1 := fun n => by rw [← e1]; exact numsK_mem
  have m2 : ∀ n, n ∈ ns2 ↔ Kd.pub n ∈ rs2 ++ slKinds ss2 := fun n => by rw [← e2]; exact numsK_mem
  have hg : ∀ n, n ∈ ns1 → g n ∈ ns2 := fun n hn => (m2 _).2 (h.pub ((m1 n).1 hn))
  have hk : ∀ {k : Kd}, (∀ n, k = .pub n → n ∈ ns1) → ren ns2 (gk g k) = gk (fun i => ((ns2.idxOf (g (gt ns1 i 0)) : Nat) : Int)) (ren ns1 k) := fun {k} hm => by
    cases k with
    | zero => rfl
    | sec kn => rfl
    | pub n =>
      show Kd.pub _ = Kd.pub ((ns2.idxOf (g (gt ns1 _ 0)) : Nat) : Int)
      rw [gt_idx (hm n rfl)]
  have hback : ∀ {m : Int}, Kd.pub m ∈ rs1.map (ren ns1) ++ slKinds (ss1.map (renS ns1)) → ∃ n ∈ ns1, m = (ns1.idxOf n : Int) := fun {m} hm => by
    rw [slKinds_ren, ← List.map_append] at hm
    obtain ⟨k, hk, e⟩ := List.mem_map.1 hm
    cases k with
    | zero => cases e
    | sec kn => cases e
    | pub n => cases e; exact ⟨n, (m1 n).2 hk, rfl⟩
  have hz1 : ∀ i, gt (ss1.map (renS ns1)) i slz = renS ns1 (gt ss1 i slz) := fun i => gt_map (o := slz) (renS ns1)
  have hz2 : ∀ i, gt (ss2.map (renS ns2)) i slz = renS ns2 (gt ss2 i slz) := fun i => gt_map (o := slz) (renS ns2)
  have hfst : ∀ {i n : Int}, (gt ss1 i slz).1 = Kd.pub n → n ∈ ns1 := fun {i n} e => (m1 n).2 (List.mem_append_right _ ((slot_kinds (by simp)).2 ⟨i, .inl e⟩))
  have hsnd : ∀ {i n : Int}, (gt ss1 i slz).2.1 = Kd.pub n → n ∈ ns1 := fun {i n} e => (m1 n).2 (List.mem_append_right _ ((slot_kinds (by simp)).2 ⟨i, .inr e⟩))
  refine ⟨?_, ?_, ?_, ?_, ?_⟩
  · rw [h.r, List.map_map, List.map_map]
    refine List.map_congr_left fun k hk2 => hk fun n e => (m1 n).2 (List.mem_append_left _ (e ▸ hk2))
  · intro i
    rw [hz1, hz2]
    show ren ns2 _ = gk _ (ren ns1 _)
    rw [h.p i]
    exact hk fun n e => hfst e
  · intro i
    rw [hz1, hz2]
    rcases h.o i with ho | ⟨h1, h2⟩
    · left
      show (ren ns1 _, _) = _
      rw [ho]
      rfl
    · right
      refine ⟨?_, h2⟩
      show ren ns2 _ = gk _ (ren ns1 _)
      rw [h1]
      exact hk fun n e => hsnd e
  · intro m hm
    obtain ⟨n, hn, rfl⟩ := hback hm
    have a : ∀ {ns : List Int} {fs : List Fc} {n : Int}, n ∈ ns → gt (ns.map fun n => gt fs n (none, none)) (ns.idxOf n : Int) (none, none) = gt fs n (none, none) := fun {ns fs n} hn => by
      have hl := List.idxOf_lt_length_of_mem hn
      unfold gt
      rw [if_pos (by omega), List.getD_eq_getElem?_getD, List.getElem?_map, Int.toNat_natCast, List.getElem?_eq_getElem hl]
      simp
    show gt _ ((ns2.idxOf (g (gt ns1 _ 0)) : Nat) : Int) _ = _
    rw [gt_idx hn, a (hg n hn), a hn]
    exact h.f n ((m1 n).1 hn)
  · intro m m' hm hm' e
    obtain ⟨n, hn, rfl⟩ := hback hm
    obtain ⟨n', hn', rfl⟩ := hback hm'
    have e : ((ns2.idxOf (g (gt ns1 _ 0)) : Nat) : Int) = ((ns2.idxOf (g (gt ns1 _ 0)) : Nat) : Int) := e
    rw [gt_idx hn, gt_idx hn'] at e
    have e3 : gt ns2 (ns2.idxOf (g n) : Int) 0 = gt ns2 (ns2.idxOf (g n') : Int) 0 := by rw [e]
    rw [gt_idx (hg n hn), gt_idx (hg n' hn')] at e3
    rw [h.inj n n' ((m1 n).1 hn) ((m1 n').1 hn') e3]
end
section
variable {g : Int → Int} {S1 S2 : ASt} {R : KP.Row} {n1 n2 : Nat} {W1 W2 : Win} {t : Bool}
abbrev RS (W : Win) (g : Int → Int) (S1 S2 : ASt) : Prop := Rw W g S1.regs S1.slots S1.facts S2.regs S2.slots S2.facts
theorem RS.reg (h : RS W2 g S1 S2) (r : Int) : S2.reg r = gk g (S1.reg r) := by
  unfold ASt.reg
  rw [h.r]
  exact gt_map (o := Kd.zero) (gk g)
theorem RS.shows (h : RS W2 g S1 S2) : shows R S2 = shows R S1 := by
  cases R with
  | load a b c => show (S2.reg c).isSec = (S1.reg c).isSec; rw [h.reg, sec_gk]
  | test a b c =>
    show (match S2.reg a with | .sec kn => !decide (b ∈ kn) | _ => false) = (match S1.reg a with | .sec kn => !decide (b ∈ kn) | _ => false)
    rw [h.reg]
    cases S1.reg a <;> rfl
  | _ => rfl
theorem ok_pub (hS : S1.ok n1 W1) {n : Int} (h : Kd.pub n ∈ S1.regs ++ slKinds S1.slots) : 0 ≤ n ∧ n < S1.facts.length := pub_bound hS.rk hS.sk (Nat.le_refl _) n h
theorem RS.gold (h : RS W2 g S1 S2) (hS : S1.ok n1 W1) {k : Kd} (hk : ∀ n, k = .pub n → Kd.pub n ∈ S1.regs ++ slKinds S1.slots) : gk (newg g S1 S2) k = gk g k := by
  cases k with
  | pub n =>
    have := ok_pub hS (hk n rfl)
    show Kd.pub (if _ then _ else _) = _
    rw [if_neg (by omega)]
    rfl
  | _ => rfl
/-- what belongs together among the cases -/
structure CR (g : Int → Int) (S1 S2 : ASt) (c1 c2 : Bool × Option (Int × Bool) × List Fc) : Prop where
  t : c2.1 = c1.1
  f : c2.2.1 = c1.2.1
  l1 : c1.2.2.length = S1.facts.length
  l2 : c2.2.2.length = S2.facts.length
  g : ∀ n, Kd.pub n ∈ S1.regs ++ slKinds S1.slots → gt c2.2.2 (g n) (none, none) = gt c1.2.2 n (none, none)
theorem cr_same (h : RS W2 g S1 S2) {t : Bool} : CR g S1 S2 (t, none, S1.facts) (t, none, S2.facts) := ⟨rfl, rfl, rfl, rfl, h.f⟩
theorem cr_set (h : RS W2 g S1 S2) (h1 : S1.ok n1 W1) (h2 : S2.ok n2 W2) {n b : Int} {t : Bool} (hn : Kd.pub n ∈ S1.regs ++ slKinds S1.slots) :
    CR g S1 S2 (t, some (b, t), S1.facts.set n.toNat (fcSet (gt S1.facts n (none, none)) b t)) (t, some (b, t), S2.facts.set (g n).toNat (fcSet (gt S2.facts (g n) (none, none)) b t)) := by
  have b1 := ok_pub h1 hn
  have b2 := ok_pub h2 (h.pub hn)
  refine ⟨rfl, rfl, List.length_set, List.length_set, fun m hm => ?_⟩
  show gt (S2.facts.set _ _) _ _ = gt (S1.facts.set _ _) _ _
  rw [gt_set b1.1 b1.2, gt_set b2.1 b2.2, h.f n hn]
  by_cases e : m = n
  · subst e; simp
  · rw [if_neg e, if_neg fun e2 => e (h.inj _ _ hm hn e2)]
    exact h.f m hm
theorem cases_two (h : RS W2 g S1 S2) (h1 : S1.ok n1 W1) (h2 : S2.ok n2 W2) :
    (∀ c1 ∈ casesT R S1, ∃ c2 ∈ casesT R S2, CR g S1 S2 c1 c2) ∧ (∀ c2 ∈ casesT R S2, ∃ c1 ∈ casesT R S1, CR g S1 S2 c1 c2) := by
  unfold casesT
  cases asks R with
  | none => simp only [List.mem_singleton]; exact ⟨fun c1 e => ⟨_, rfl, e ▸ cr_same h⟩, fun c2 e => ⟨_, rfl, e ▸ cr_same h⟩⟩
  | some br =>
    obtain ⟨b, r⟩ := br
    simp only []
    have hr := h.reg r
    cases q : S1.reg r with
    | zero =>
      rw [q] at hr; rw [hr]
      simp only [gk, List.mem_singleton]; exact ⟨fun c1 e => ⟨_, rfl, e ▸ cr_same h⟩, fun c2 e => ⟨_, rfl, e ▸ cr_same h⟩⟩
    | sec kn =>
      rw [q] at hr; rw [hr]
      simp only [gk, List.mem_singleton]; exact ⟨fun c1 e => ⟨_, rfl, e ▸ cr_same h⟩, fun c2 e => ⟨_, rfl, e ▸ cr_same h⟩⟩
    | pub n =>
      have hn := reg_pub q
      rw [q] at hr; rw [hr]
      simp only [gk]
      have hf := h.f n hn
      have hf' : fcGet (gt S2.facts (g n) (none, none)) b = fcGet (gt S1.facts n (none, none)) b := by rw [hf]
      rw [hf']
      cases fcGet (gt S1.facts n (none, none)) b with
      | some t => simp only [List.mem_singleton]; exact ⟨fun c1 e => ⟨_, rfl, e ▸ cr_same h⟩, fun c2 e => ⟨_, rfl, e ▸ cr_same h⟩⟩
      | none =>
        have k := fun t => cr_set (b := b) (t := t) h h1 h2 hn
        simp only [List.mem_cons, List.not_mem_nil, or_false]
        constructor
        · rintro c1 (e | e)
          · exact ⟨_, .inl rfl, e ▸ k true⟩
          · exact ⟨_, .inr rfl, e ▸ k false⟩
        · rintro c2 (e | e)
          · exact ⟨_, .inl rfl, e ▸ k true⟩
          · exact ⟨_, .inr rfl, e ▸ k false⟩
theorem given_two (h : RS W2 g S1 S2) (h1 : S1.ok n1 W1) : givenT R S2 t = gk (newg g S1 S2) (givenT R S1 t) ∧ newK S1 (givenT R S1 t) := by
  cases R with
  | mix a b c =>
    simp only [givenT]
    rw [h.reg b, h.reg c, sec_gk, sec_gk]
    split
    · exact ⟨rfl, fun n e => by cases e⟩
    · exact ⟨gk_new.symm, new_pubK⟩
  | load a b c =>
    simp only [givenT]
    split
    · exact ⟨gk_new.symm, new_pubK⟩
    · exact ⟨rfl, fun n e => by cases e⟩
  | mask a b c =>
    show maskedT (S2.reg c) b t = gk _ (maskedT (S1.reg c) b t) ∧ newK S1 (maskedT (S1.reg c) b t)
    rw [h.gold h1 (old_masked old_reg), h.reg, gk_masked]
    exact ⟨rfl, (old_masked old_reg).new⟩
  | get a b =>
    show (S2.slot b).1 = gk _ (S1.slot b).1 ∧ newK S1 (S1.slot b).1
    rw [h.gold h1 old_fst]
    exact ⟨h.p b, old_fst.new⟩
  | _ => exact ⟨gk_new.symm, new_pubK⟩
end
section
variable {g : Int → Int} {S1 S2 : ASt} {R : KP.Row} {n1 n2 : Nat} {W1 W2 : Win} {t : Bool}
theorem gt_slots {W : Win} {S : ASt} {i : Int} : gt (slotsT R S W) i slz = if i = 0 ∨ i = 1 then slotT R S W i else slz := by
  unfold slotsT
  by_cases h0 : i = 0
  · subst h0; rfl
  · by_cases h1 : i = 1
    · subst h1; rfl
    · rw [gt_out (by simp; omega), if_neg (by omega)]
def Old2 (W : Win) (g' : Int → Int) (q1 q2 : Sl) : Prop := q1.2 = (.zero, none) ∨ q2.2.1 = gk g' q1.2.1 ∧ AgR W q1.2.2 q2.2.2
theorem bounded_two (hW : WLe W1 W2) {g' : Int → Int} {p1 o1 p2 o2 : Kd} {a1 a2 : Option Int} (h : (o1, a1) = (Kd.zero, none) ∨ o2 = gk g' o1 ∧ AgR W2 a1 a2) :
    Old2 W2 g' (boundedT p1 o1 a1 W1) (boundedT p2 o2 a2 W2) := by
  rcases h with h | ⟨h1, h2⟩
  · cases h; exact .inl rfl
  · cases a1 with
    | none => exact .inl rfl
    | some x =>
      cases W1 with
      | none =>
        cases W2 with
        | some u => exact hW.elim
        | none =>
          cases a2 with
          | none => cases h2
          | some y => exact .inr ⟨h1, rfl⟩
      | some v =>
        simp only [boundedT]
        by_cases hv : v ≤ x
        · rw [if_pos hv]; exact .inl rfl
        · rw [if_neg hv]
          cases W2 with
          | none =>
            cases a2 with
            | none => cases h2
            | some y => exact .inr ⟨h1, rfl⟩
          | some u =>
            cases (show a2 = some x from h2)
            have hvu : v ≤ u := hW
            simp only []
            rw [if_neg (by omega)]
            exact .inr ⟨h1, rfl⟩
theorem bounded_old {W : Win} {p o : Kd} {a : Option Int} (hp : oldK S1 p) (ho : oldK S1 o) : oldK S1 (boundedT p o a W).1 ∧ oldK S1 (boundedT p o a W).2.1 := by
  have hz : oldK S1 .zero := fun n e => by cases e
  cases a with
  | none => exact ⟨hp, hz⟩
  | some a =>
    cases W with
    | none => exact ⟨hp, ho⟩
    | some w =>
      simp only [boundedT]
      split
      · exact ⟨hp, hz⟩
      · exact ⟨hp, ho⟩
theorem bounded_1 {W : Win} {p o : Kd} {a : Option Int} : (boundedT p o a W).1 = p := by
  cases a with
  | none => rfl
  | some a =>
    cases W with
    | none => rfl
    | some w => simp only [boundedT]; split <;> rfl
theorem slot_two (hW : WLe W1 W2) (h : RS W2 g S1 S2) (h1 : S1.ok n1 W1) (i : Int) :
    (slotT R S2 W2 i).1 = gk (newg g S1 S2) (slotT R S1 W1 i).1 ∧ Old2 W2 (newg g S1 S2) (slotT R S1 W1 i) (slotT R S2 W2 i) ∧
    oldK S1 (slotT R S1 W1 i).1 ∧ oldK S1 (slotT R S1 W1 i).2.1 := by
  have hp : (S2.slot i).1 = gk (newg g S1 S2) (S1.slot i).1 := by rw [h.gold h1 old_fst]; exact h.p i
  have ho : (S1.slot i).2 = (.zero, none) ∨ (S2.slot i).2.1 = gk (newg g S1 S2) (S1.slot i).2.1 ∧ AgR W2 (S1.slot i).2.2 (S2.slot i).2.2 := by rw [h.gold h1 old_snd]; exact h.o i
  have hz : oldK S1 .zero := fun n e => by cases e
  have agedR : slotT R S1 W1 i = boundedT (S1.slot i).1 (S1.slot i).2.1 ((S1.slot i).2.2.map (· + 1)) W1 → slotT R S2 W2 i = boundedT (S2.slot i).1 (S2.slot i).2.1 ((S2.slot i).2.2.map (· + 1)) W2 →
      (slotT R S2 W2 i).1 = gk (newg g S1 S2) (slotT R S1 W1 i).1 ∧ Old2 W2 (newg g S1 S2) (slotT R S1 W1 i) (slotT R S2 W2 i) ∧
      oldK S1 (slotT R S1 W1 i).1 ∧ oldK S1 (slotT R S1 W1 i).2.1 := fun e1 e2 => by
    rw [e1, e2]
    have hb := bounded_two hW (g' := newg g S1 S2) (p1 := (S1.slot i).1) (p2 := (S2.slot i).1) (o1 := (S1.slot i).2.1) (o2 := (S2.slot i).2.1) (a1 := (S1.slot i).2.2.map (· + 1)) (a2 := (S2.slot i).2.2.map (· + 1)) (by
      rcases ho with ho | ⟨h2, h3⟩
      · left; rw [ho]; rfl
      · right; exact ⟨h2, h3.map⟩)
    have hc := bounded_old (W := W1) (a := (S1.slot i).2.2.map (· + 1)) (old_fst (S1 := S1) (i := i)) (old_snd (S1 := S1) (i := i))
    exact ⟨by rw [bounded_1, bounded_1]; exact hp, hb, hc.1, hc.2⟩
  cases R with
  | fence => exact ⟨hp, .inl rfl, old_fst, hz⟩
  | put b a =>
    by_cases e : b = i
    · subst e
      have e1 : ∀ (S : ASt) (W : Win), slotT (.put b a) S W b = boundedT (S.reg a) (S.slot b).1 (some 0) W := fun S W => by simp [slotT]
      rw [e1, e1]
      have hb := bounded_two hW (g' := newg g S1 S2) (p1 := S1.reg a) (p2 := S2.reg a) (o1 := (S1.slot b).1) (o2 := (S2.slot b).1) (a1 := some 0) (a2 := some 0) (.inr ⟨hp, .refl⟩)
      have hc := bounded_old (W := W1) (a := some 0) (old_reg (S1 := S1) (r := a)) (old_fst (S1 := S1) (i := b))
      exact ⟨by rw [bounded_1, bounded_1, h.gold h1 old_reg, h.reg], hb, hc.1, hc.2⟩
    · exact agedR (by simp [slotT, e]) (by simp [slotT, e])
  | _ => exact agedR rfl rfl
theorem raw_two (hW : WLe W1 W2) (h : RS W2 g S1 S2) (h1 : S1.ok n1 W1) (h2 : S2.ok n2 W2) {c1 c2 : Bool × Option (Int × Bool) × List Fc} (hc : CR g S1 S2 c1 c2) {rs1 rs2 : List Kd} (hr : rs2 = rs1.map (gk (newg g S1 S2))) (hk : ∀ k ∈ rs1, newK S1 k) :
    Rw W2 (newg g S1 S2) rs1 (slotsT R S1 W1) (c1.2.2 ++ [(none, none)]) rs2 (slotsT R S2 W2) (c2.2.2 ++ [(none, none)]) := by
  have hnew : ∀ n, Kd.pub n ∈ rs1 ++ slKinds (slotsT R S1 W1) → Kd.pub n ∈ S1.regs ++ slKinds S1.slots ∨ n = S1.facts.length := fun n hn => by
    rcases List.mem_append.1 hn with hn | hn
    · exact hk _ hn n rfl
    · left
      obtain ⟨i, hi⟩ := (slot_kinds (by simp)).1 hn
      rw [gt_slots] at hi
      have := slot_two (R := R) hW h h1 i
      split at hi
      · rcases hi with hi | hi
        · exact this.2.2.1 n hi
        · exact this.2.2.2 n hi
      · rcases hi with hi | hi <;> cases hi
  have hg : ∀ n, Kd.pub n ∈ S1.regs ++ slKinds S1.slots → newg g S1 S2 n = g n := fun n hn => by
    have := ok_pub h1 hn
    unfold newg
    rw [if_neg (by omega)]
  refine ⟨hr, fun i => ?_, fun i => ?_, fun n hn => ?_, fun n m hn hm e => ?_⟩
  · rw [gt_slots, gt_slots]
    split
    · exact (slot_two hW h h1 i).1
    · rfl
  · rw [gt_slots, gt_slots]
    split
    · exact (slot_two hW h h1 i).2.1
    · exact .inl rfl
  · rcases hnew n hn with ho | e
    · have b1 := ok_pub h1 ho
      have b2 := ok_pub h2 (h.pub ho)
      have l1 := hc.l1
      have l2 := hc.l2
      rw [hg n ho, gt_app b1.1 (by omega), gt_app b2.1 (by omega)]
      exact hc.g n ho
    · subst e
      unfold newg
      rw [if_pos rfl, ← hc.l1, ← hc.l2, gt_last, gt_last]
  · rcases hnew n hn with ho | e1 <;> rcases hnew m hm with po | e2
    · rw [hg n ho, hg m po] at e
      exact h.inj n m ho po e
    · subst e2
      have b2 := ok_pub h2 (h.pub ho)
      rw [hg n ho] at e
      unfold newg at e
      rw [if_pos rfl] at e
      omega
    · subst e1
      have b2 := ok_pub h2 (h.pub po)
      rw [hg m po] at e
      unfold newg at e
      rw [if_pos rfl] at e
      omega
    · rw [e1, e2]
theorem regs_two (h : RS W2 g S1 S2) (h1 : S1.ok n1 W1) : S2.regs = S1.regs.map (gk (newg g S1 S2)) := by
  rw [h.r]
  exact List.map_congr_left fun k hk => (h.gold h1 fun n e => List.mem_append_left _ (e ▸ hk)).symm
theorem regs_new (h1 : S1.ok n1 W1) : ∀ k ∈ S1.regs, newK S1 k := fun k hk n e => .inl (List.mem_append_left _ (e ▸ hk))
theorem set_two (h : RS W2 g S1 S2) (h1 : S1.ok n1 W1) {r : Nat} {k1 k2 : Kd} (hk : k2 = gk (newg g S1 S2) k1) (hn : newK S1 k1) : S2.regs.set r k2 = (S1.regs.set r k1).map (gk (newg g S1 S2)) ∧ ∀ k ∈ S1.regs.set r k1, newK S1 k := by
  refine ⟨by rw [List.map_set, regs_two h h1, hk], fun k hk => ?_⟩
  rcases List.mem_or_eq_of_mem_set hk with hk | e
  · exact regs_new h1 k hk
  · exact e ▸ hn
theorem realF_two (h : RS W2 g S1 S2) (h1 : S1.ok n1 W1) : realR R S2 t = (realR R S1 t).map (gk (newg g S1 S2)) ∧ ∀ k ∈ realR R S1 t, newK S1 k := by
  unfold realR
  have := given_two (R := R) (t := t) h h1
  cases givesTo R with
  | none => exact ⟨regs_two h h1, regs_new h1⟩
  | some r => exact set_two h h1 this.1 this.2
end
end KS.X
namespace KV
theorem nodup_len {α : Type} [DecidableEq α] : ∀ {l m : List α}, l.Nodup → (∀ x ∈ l, x ∈ m) → l.length ≤ m.length
  | [], _, _, _ => by simp
  | a :: l, m, h, hs => by
    obtain ⟨h1, h2⟩ := List.nodup_cons.1 h
    have ha := hs a (List.mem_cons_self ..)
    have ih := nodup_len (l := l) (m := m.erase a) h2 fun x hx => by
      have hne : x ≠ a := fun e => h1 (e ▸ hx)
      exact (List.mem_erase_of_ne hne).2 (hs x (List.mem_cons_of_mem _ hx))
    rw [List.length_erase_of_mem ha] at ih
    have : 0 < m.length := List.length_pos_of_mem ha
    simp only [List.length_cons]
    omega
end KV
namespace KS.X
open PySem PySem.Spec PyProof.Rows L2 Mi KP KQ
variable {g : Int → Int} {S1 S2 S' : ASt} {R : KP.Row} {n1 n2 : Nat} {W W1 W2 : Win} {t : Bool} {l : Lab} {sec : List Int} {rows : List KP.Row} {ls : List Lab} {S : ASt}
theorem can_up (hW : WLe W1 W2) (hd : AgR W2 S1.depth S2.depth) (h : can R S1 W1 = true) : can R S2 W2 = true := by
  have hdeep : deepOk S1.depth W1 = true → deepOk S2.depth W2 = true := fun h => by
    cases W2 with
    | none => unfold deepOk; cases S2.depth <;> rfl
    | some u =>
      have hd : S2.depth = S1.depth := hd
      rw [hd]
      cases W1 with
      | none => exact hW.elim
      | some v =>
        cases e : S1.depth with
        | none => rfl
        | some d =>
          rw [e] at h
          have hW : v ≤ u := hW
          have h : decide (d < v) = true := h
          show decide (d < u) = true
          rw [decide_eq_true_eq] at h ⊢
          omega
  cases R with
  | fin => cases h
  | fence =>
    show S2.depth.isNone = true
    have h : S1.depth.isNone = true := h
    cases W2 with
    | none =>
      have hd : S2.depth.isSome = S1.depth.isSome := hd
      cases e1 : S1.depth with
      | none => rw [e1] at hd; cases e2 : S2.depth with
        | none => rfl
        | some d => rw [e2] at hd; cases hd
      | some d => rw [e1] at h; cases h
    | some u => rw [show S2.depth = S1.depth from hd]; exact h
  | _ => exact hdeep h
theorem deeper_two (hW : WLe W1 W2) {d1 d2 : Option Int} (hd : AgR W2 d1 d2) : AgR W2 (deeperT d1 W1) (deeperT d2 W2) := by
  cases W2 with
  | none =>
    cases d1 <;> cases d2 <;> cases W1 <;> first | rfl | (cases hd)
  | some u =>
    cases (show d2 = d1 from hd)
    cases W1 with
    | none => exact hW.elim
    | some v => cases d1 <;> rfl
theorem opened_two (hW : WLe W1 W2) {d1 d2 : Option Int} (hd : AgR W2 d1 d2) : AgR W2 (openedT d1 W1) (openedT d2 W2) := by
  cases W2 with
  | none =>
    cases d1 <;> cases d2 <;> cases W1 <;> first | rfl | (cases hd)
  | some u =>
    cases (show d2 = d1 from hd)
    cases W1 with
    | none => exact hW.elim
    | some v => cases d1 <;> rfl
theorem wrong_up (hW : WLe W1 W2) (hW0 : ∀ v, W1 = some v → 0 ≤ v) (h : RS W2 g S1 S2) (h1 : S1.ok n1 W1) (hp : S1.place = S2.place) {x : Dir × Int × List Kd} (hx : wrongT R S1 W1 t = some x) :
    ∃ rs2, wrongT R S2 W2 t = some (x.1, x.2.1, rs2) ∧ rs2 = x.2.2.map (gk (newg g S1 S2)) ∧ ∀ k ∈ x.2.2, newK S1 k := by
  cases R with
  | test a b c =>
    simp only [wrongT] at hx
    split at hx
    · cases hx
    · rename_i hne
      cases hx
      refine ⟨S2.regs, ?_, regs_two h h1, regs_new h1⟩
      simp only [wrongT]
      rw [if_neg ?_, hp]
      intro e
      subst e
      cases W1 with
      | none => exact hW.elim
      | some v =>
        have hW : v ≤ 0 := hW
        have := hW0 v rfl
        exact hne (by congr 1; omega)
  | get a b =>
    simp only [wrongT] at hx
    cases q : (S1.slot b).2.2 with
    | none => rw [q] at hx; cases hx
    | some y =>
      rw [q] at hx
      simp only [] at hx
      have ho : (S2.slot b).2.1 = gk (newg g S1 S2) (S1.slot b).2.1 ∧ AgR W2 (S1.slot b).2.2 (S2.slot b).2.2 := by
        rw [h.gold h1 old_snd]
        rcases h.o b with ho | ho
        · have : (S1.slot b).2.2 = none := congrArg Prod.snd ho
          rw [this] at q; cases q
        · exact ho
      have hs := set_two h h1 (r := a.toNat) ho.1 old_snd.new
      have hx' : x = (.stale, S1.place + 1, S1.regs.set a.toNat (S1.slot b).2.1) ∧ ∀ v, W1 = some v → ¬ v ≤ y := by
        cases W1 with
        | none => cases hx; exact ⟨rfl, fun v e => by cases e⟩
        | some v =>
          simp only [] at hx
          split at hx
          · cases hx
          · rename_i hv
            cases hx
            exact ⟨rfl, fun u e => by cases e; exact hv⟩
      obtain ⟨rfl, hv⟩ := hx'
      refine ⟨S2.regs.set a.toNat (S2.slot b).2.1, ?_, hs.1, hs.2⟩
      simp only [wrongT]
      have hag := ho.2
      rw [q] at hag
      cases W2 with
      | none =>
        have hag : (S2.slot b).2.2.isSome = true := hag
        cases q2 : (S2.slot b).2.2 with
        | none => rw [q2] at hag; cases hag
        | some z => simp only []; rw [hp]
      | some u =>
        rw [show (S2.slot b).2.2 = some y from hag]
        simp only []
        cases W1 with
        | none => exact hW.elim
        | some v =>
          have hW : v ≤ u := hW
          have := hv v rfl
          rw [if_neg (by omega), hp]
  | _ => cases hx
theorem step_up (hW : WLe W1 W2) (hW0 : ∀ v, W1 = some v → 0 ≤ v) (h : RS W2 g S1 S2) (h1 : S1.ok n1 W1) (h2 : S2.ok n2 W2) (hd : AgR W2 S1.depth S2.depth) (hp : S1.place = S2.place)
    (hs : (l, S') ∈ stepsT R S1 W1) : ∃ S2' g', (l, S2') ∈ stepsT R S2 W2 ∧ RS W2 g' S' S2' ∧ AgR W2 S'.depth S2'.depth ∧ S'.place = S2'.place := by
  obtain ⟨hc, hsh, c1, hc1, e, hw⟩ := steps_case.1 hs
  obtain ⟨c, hcm, cr⟩ := (cases_two h h1 h2).1 c1 hc1
  have hc' : can R S2 W2 = true := can_up hW hd hc
  have hsh' : shows R S2 = false := by rw [h.shows]; exact hsh
  rcases hw with ⟨e1, e2⟩ | ⟨x, hx, e1, e2⟩
  · have hr := realF_two (R := R) (t := c1.1) h h1
    subst e2
    refine ⟨numberedT (nxtT R S2.place c1.1) (realR R S2 c1.1) (slotsT R S2 W2) (c.2.2 ++ [(none, none)]) (deeperT S2.depth W2), _,
      steps_case.2 ⟨hc', hsh', c, hcm, e.trans cr.f.symm, .inl ⟨e1, by rw [cr.t]⟩⟩, (raw_two hW h h1 h2 cr hr.1 hr.2).num, deeper_two hW hd, ?_⟩
    show nxtT R S1.place c1.1 = _
    rw [hp]; rfl
  · obtain ⟨rs2, hw2, hr1, hr2⟩ := wrong_up hW hW0 h h1 hp hx
    subst e2
    exact ⟨numberedT x.2.1 rs2 (slotsT R S2 W2) (c.2.2 ++ [(none, none)]) (openedT S2.depth W2), _,
      steps_case.2 ⟨hc', hsh', c, hcm, e.trans cr.f.symm, .inr ⟨(x.1, x.2.1, rs2), by rw [cr.t]; exact hw2, e1, rfl⟩⟩, (raw_two hW h h1 h2 cr hr1 hr2).num, opened_two hW hd, rfl⟩
/-- a real step of the wider is one of the narrower, where nothing is guessed -/
theorem real_down (hW : WLe W1 W2) (h : RS W2 g S1 S2) (h1 : S1.ok n1 W1) (h2 : S2.ok n2 W2) (hd1 : S1.depth = none) (hd2 : S2.depth = none) (hp : S1.place = S2.place)
    (hs : (l, S') ∈ stepsT R S2 W2) (hn : S'.depth = none) : ∃ S1' g', (l, S1') ∈ stepsT R S1 W1 ∧ RS W2 g' S1' S' ∧ S1'.depth = none ∧ S1'.place = S'.place ∧ S1'.slots = (S1'.slots) := by
  obtain ⟨hc, hsh, c, hcm, e, hw⟩ := steps_case.1 hs
  obtain ⟨c1, hc1, cr⟩ := (cases_two h h1 h2).2 c hcm
  have hc' : can R S1 W1 = true := by
    cases R with
    | fin => cases hc
    | fence => show S1.depth.isNone = true; rw [hd1]; rfl
    | _ => show deepOk S1.depth W1 = true; rw [hd1]; rfl
  have hsh' : shows R S1 = false := by rw [← h.shows]; exact hsh
  rcases hw with ⟨e1, e2⟩ | ⟨x, hx, e1, e2⟩
  · have hr := realF_two (R := R) (t := c1.1) h h1
    rw [cr.t] at e2
    subst e2
    refine ⟨numberedT (nxtT R S1.place c1.1) (realR R S1 c1.1) (slotsT R S1 W1) (c1.2.2 ++ [(none, none)]) (deeperT S1.depth W1), _,
      steps_case.2 ⟨hc', hsh', c1, hc1, e.trans cr.f, .inl ⟨e1, rfl⟩⟩, (raw_two hW h h1 h2 cr hr.1 hr.2).num, ?_, ?_, rfl⟩
    · show deeperT S1.depth W1 = none
      rw [hd1]; rfl
    · show nxtT R S1.place c1.1 = _
      rw [hp]; rfl
  · subst e2
    have : openedT S2.depth W2 = none := hn
    rw [hd2] at this
    cases this
theorem pth_ok (PO : PrOk sec rows) (hw : ∀ v, W = some v → 0 ≤ v) (h : Pth sec rows W ls S) : S.ok rows.length W := by
  induction h with
  | nil => exact first_inv PO.lo
  | snoc h hs ih =>
    have hrow := ok_row (n := 0) ih
    have hR : (KS.rowT rows _).ok rows.length := PO.ok _ (List.mem_of_getElem? hrow)
    exact steps_inv PO hw ih hrow _ hs
def gid (n : Int) : Int := n
theorem gk_id {k : Kd} : gk gid k = k := by cases k <;> rfl
theorem RS.id (S : ASt) : RS W gid S S := by
  refine ⟨?_, fun i => gk_id.symm, fun i => .inr ⟨gk_id.symm, .refl⟩, fun n _ => rfl, fun n m _ _ e => e⟩
  rw [show gk gid = fun k => k from funext fun k => gk_id]
  simp
theorem path_up (PO : PrOk sec rows) (hW : WLe W1 W2) (h1 : ∀ v, W1 = some v → 0 ≤ v) (h2 : ∀ v, W2 = some v → 0 ≤ v) (h : Pth sec rows W1 ls S1) :
    ∃ S2 g, Pth sec rows W2 ls S2 ∧ RS W2 g S1 S2 ∧ AgR W2 S1.depth S2.depth ∧ S1.place = S2.place := by
  induction h with
  | nil => exact ⟨_, gid, .nil, RS.id _, .refl, rfl⟩
  | snoc hp hs ih =>
    obtain ⟨S2, g, k1, k2, k3, k4⟩ := ih
    have o1 := pth_ok PO h1 hp
    have o2 := pth_ok PO h2 k1
    obtain ⟨S2', g', j1, j2, j3, j4⟩ := step_up hW h1 k2 o1 o2 k3 k4 hs
    refine ⟨S2', g', .snoc k1 ?_, j2, j3, j4⟩
    unfold nextT rowT at *
    rw [← k4]
    exact j1
def HasLk (sec : List Int) (rows : List KP.Row) (W : Win) : Prop := ∃ ls S, Pth sec rows W ls S ∧ lkT rows W S = true
theorem lk_mono (PO : PrOk sec rows) (hW : WLe W1 W2) (h1 : ∀ v, W1 = some v → 0 ≤ v) (h2 : ∀ v, W2 = some v → 0 ≤ v) (h : HasLk sec rows W1) : HasLk sec rows W2 := by
  obtain ⟨ls, S, hp, hl⟩ := h
  obtain ⟨S2, g, k1, k2, k3, k4⟩ := path_up PO hW h1 h2 hp
  refine ⟨ls, S2, k1, ?_⟩
  unfold lkT leakT rowT at *
  rw [Bool.and_eq_true] at *
  rw [← k4]
  exact ⟨can_up hW k3 hl.1, by rw [k2.shows]; exact hl.2⟩
end KS.X
namespace KS.X
open PySem PySem.Spec PyProof.Rows L2 Mi KP KQ
inductive Loc where
  | reg (i : Int) | pre (s : Int) | old (s : Int)
deriving DecidableEq
inductive Vw where
  | zero | sec (kn : List Int) | pub (f : Fc)
def vl (rs : List Kd) (ss : List Sl) : Loc → Kd
  | .reg i => gt rs i .zero
  | .pre s => (gt ss s slz).1
  | .old s => (gt ss s slz).2.1
def vk (fs : List Fc) : Kd → Vw
  | .zero => .zero
  | .sec kn => .sec kn
  | .pub n => .pub (gt fs n (none, none))
abbrev _root_.KS.ASt.v (S : ASt) (l : Loc) : Vw := vk S.facts (vl S.regs S.slots l)
variable {S S' : ASt} {R : KP.Row} {n n1 : Nat} {W : Win} {t : Bool} {l : Lab} {p : Int} {rs : List Kd} {ss : List Sl} {fs : List Fc} {d : Option Int} {L : Loc}
theorem vl_in {k : Kd} (h : vl rs ss L = k) (hz : k ≠ .zero) : k ∈ rs ++ slKinds ss := by
  cases L with
  | reg i => exact List.mem_append_left _ (gt_mem h hz)
  | pre s => exact List.mem_append_right _ ((slot_kinds hz).2 ⟨s, .inl h⟩)
  | old s => exact List.mem_append_right _ ((slot_kinds hz).2 ⟨s, .inr h⟩)
theorem vl_ren {ns : List Int} : vl (rs.map (ren ns)) (ss.map (renS ns)) L = ren ns (vl rs ss L) := by
  have hz : ∀ i, gt (ss.map (renS ns)) i slz = renS ns (gt ss i slz) := fun i => gt_map (o := slz) (renS ns)
  cases L with
  | reg i => exact gt_map (o := Kd.zero) (ren ns)
  | pre s => show (gt (ss.map (renS ns)) s slz).1 = _; rw [hz]; rfl
  | old s => show (gt (ss.map (renS ns)) s slz).2.1 = _; rw [hz]; rfl
/-- numbering anew changes nothing that is seen -/
theorem num_v : ASt.v (numberedT p rs ss fs d) L = vk fs (vl rs ss L) := by
  show vk ((numsK (rs ++ slKinds ss)).map fun n => gt fs n (none, none)) (vl (rs.map (ren _)) (ss.map (renS _)) L) = _
  rw [vl_ren]
  cases e : vl rs ss L with
  | zero => rfl
  | sec kn => rfl
  | pub m =>
    have hm : m ∈ numsK (rs ++ slKinds ss) := numsK_mem.mpr (vl_in e (by simp))
    have hl := List.idxOf_lt_length_of_mem hm
    show Vw.pub (gt ((numsK (rs ++ slKinds ss)).map fun n => gt fs n (none, none)) (((numsK (rs ++ slKinds ss)).idxOf m : Nat) : Int) (none, none)) = Vw.pub _
    congr 1
    unfold gt
    rw [if_pos (by omega), List.getD_eq_getElem?_getD, List.getElem?_map, Int.toNat_natCast, List.getElem?_eq_getElem hl]
    simp
theorem v_pub (hS : S.ok n W) {m : Int} (h : vl S.regs S.slots L = .pub m) : 0 ≤ m ∧ m < S.facts.length := pub_bound hS.rk hS.sk (Nat.le_refl _) m (vl_in h (by simp))
/-- a case's facts, and the new number behind them -/
abbrev CS := Bool × Option (Int × Bool) × List Fc
theorem case_len {c : CS} (h : c ∈ casesT R S) : c.2.2.length = S.facts.length := by
  unfold casesT at h
  split at h
  · simp at h; rw [h]
  · split at h
    · simp at h; rw [h]
    · simp at h; rw [h]
    · split at h
      · simp at h; rw [h]
      · simp at h; rcases h with h | h <;> rw [h] <;> simp
theorem vk_new {c : CS} (hc : c ∈ casesT R S) : vk (c.2.2 ++ [(none, none)]) (.pub S.facts.length) = .pub (none, none) := by
  show Vw.pub _ = Vw.pub _
  rw [← case_len hc, gt_last]
end KS.X
namespace KS.X
open PySem PySem.Spec PyProof.Rows L2 Mi KP KQ
variable {S S' : ASt} {R : KP.Row} {n n1 : Nat} {W : Win} {t : Bool} {l : Lab} {p q : Int} {rs : List Kd} {ss : List Sl} {fs : List Fc} {d : Option Int} {L L' : Loc}
/-- a row leaves at L' what was at L -/
inductive Tr (R : KP.Row) : Loc → Loc → Prop
  | keepR {i : Int} : givesTo R ≠ some i → Tr R (.reg i) (.reg i)
  | keepP {s : Int} : (∀ a, R ≠ .put s a) → Tr R (.pre s) (.pre s)
  | keepO {s : Int} : (∀ a, R ≠ .put s a) → Tr R (.old s) (.old s)
  | getP {r s : Int} : R = .get r s → Tr R (.pre s) (.reg r)
  | getO {r s : Int} : R = .get r s → Tr R (.old s) (.reg r)
  | putP {s a : Int} : R = .put s a → Tr R (.reg a) (.pre s)
  | putO {s a : Int} : R = .put s a → Tr R (.pre s) (.old s)
/-- where a row that is no fence can lead -/
def Nx (R : KP.Row) (p q : Int) : Prop := match R with
  | .jump a => q = a
  | .test _ _ c => q = p + 1 ∨ q = c
  | .fin => False
  | .fence => False
  | _ => q = p + 1
/-- a row makes a new number -/
def New (R : KP.Row) (r : Int) : Prop := R = .ask r ∨ (∃ x y, R = .mix r x y) ∨ ∃ b c, R = .load r b c
inductive Src (R : KP.Row) (S : ASt) (t : Bool) (L' : Loc) (k : Kd) : Prop
  | zero : k = .zero → Src R S t L' k
  | tr {L : Loc} : Tr R L L' → k = vl S.regs S.slots L → Src R S t L' k
  | mask {r b c : Int} : R = .mask r b c → L' = .reg r → k = maskedT (S.reg c) b t → Src R S t L' k
  | new {r : Int} : New R r → L' = .reg r → k = .pub S.facts.length → Src R S t L' k
  | mix {r x y : Int} : R = .mix r x y → L' = .reg r → ((S.reg x).isSec = true ∨ (S.reg y).isSec = true) → k = .sec [] → Src R S t L' k
  | load {r b c : Int} : R = .load r b c → L' = .reg r → t = false → k = .sec [] → Src R S t L' k
theorem slot_src (hf : R ≠ .fence) (s : Int) : Src R S t (.pre s) (gt (slotsT R S W) s slz).1 ∧ Src R S t (.old s) (gt (slotsT R S W) s slz).2.1 := by
  rw [gt_slots]
  split
  · have aged : (∀ a, R ≠ .put s a) → Src R S t (.pre s) (boundedT (S.slot s).1 (S.slot s).2.1 ((S.slot s).2.2.map (· + 1)) W).1 ∧ Src R S t (.old s) (boundedT (S.slot s).1 (S.slot s).2.1 ((S.slot s).2.2.map (· + 1)) W).2.1 := fun hn => by
      refine ⟨by rw [bounded_1]; exact .tr (.keepP hn) rfl, ?_⟩
      cases hq : (S.slot s).2.2.map (· + 1) with
      | none => exact .zero rfl
      | some a =>
        cases W with
        | none => exact .tr (.keepO hn) rfl
        | some w =>
          simp only [boundedT]
          split
          · exact .zero rfl
          · exact .tr (.keepO hn) rfl
    cases R with
    | fence => exact absurd rfl hf
    | put b a =>
      by_cases e : b = s
      · subst e
        have e1 : slotT (.put b a) S W b = boundedT (S.reg a) (S.slot b).1 (some 0) W := by simp [slotT]
        rw [e1]
        refine ⟨by rw [bounded_1]; exact .tr (.putP rfl) rfl, ?_⟩
        cases W with
        | none => exact .tr (.putO rfl) rfl
        | some w =>
          simp only [boundedT]
          split
          · exact .zero rfl
          · exact .tr (.putO rfl) rfl
      · have e1 : slotT (.put b a) S W s = boundedT (S.slot s).1 (S.slot s).2.1 ((S.slot s).2.2.map (· + 1)) W := by simp [slotT, e]
        rw [e1]
        exact aged fun x hx => by cases hx; exact e rfl
    | _ => exact aged fun x hx => by cases hx
  · exact ⟨.zero rfl, .zero rfl⟩
theorem real_src (hS : S.ok n W) (hR : R.ok n1) (i : Int) : Src R S t (.reg i) (gt (realR R S t) i .zero) := by
  unfold realR
  cases hg : givesTo R with
  | none => exact .tr (.keepR (by rw [hg]; simp)) rfl
  | some r =>
    simp only []
    have hr : 0 ≤ r ∧ r < 4 := by
      cases R <;> simp only [givesTo, Option.some.injEq, reduceCtorEq] at hg <;> subst hg <;> first | exact hR | exact hR.1
    rw [gt_set hr.1 (by rw [hS.r]; exact hr.2)]
    split
    · rename_i e
      subst e
      cases R with
      | ask a => cases hg; exact .new (.inl rfl) rfl rfl
      | mix a b c =>
        cases hg
        simp only [givenT]
        split
        · rename_i h
          exact .mix rfl rfl (by simpa using h) rfl
        · exact .new (.inr (.inl ⟨_, _, rfl⟩)) rfl rfl
      | load a b c =>
        cases hg
        simp only [givenT]
        cases t with
        | true => exact .new (.inr (.inr ⟨_, _, rfl⟩)) rfl rfl
        | false => exact .load rfl rfl rfl rfl
      | mask a b c => cases hg; exact .mask rfl rfl rfl
      | get a b => cases hg; exact .tr (.getP rfl) rfl
      | _ => cases hg
    · rename_i e
      exact .tr (.keepR (by rw [hg]; simp; exact fun h => e h.symm)) rfl
/-- what a step leaves -/
theorem step_src (hS : S.ok n W) (hR : R.ok n1) (hf : R ≠ .fence) (hs : (l, S') ∈ stepsT R S W) : shows R S = false ∧ Nx R S.place S'.place ∧ ∃ c ∈ casesT R S, ∀ L', ∃ k, Src R S c.1 L' k ∧ S'.v L' = vk (c.2.2 ++ [(none, none)]) k := by
  obtain ⟨hc, hsh, c, hcm, e, hw⟩ := steps_case.1 hs
  refine ⟨hsh, ?_, c, hcm, fun L' => ?_⟩
  · rcases hw with ⟨_, e2⟩ | ⟨x, hx, _, e2⟩
    · subst e2
      show Nx R S.place (nxtT R S.place c.1)
      cases R with
      | fin => cases hc
      | fence => exact absurd rfl hf
      | test a b d => cases c.1 <;> first | exact .inl rfl | exact .inr rfl
      | _ => rfl
    · subst e2
      show Nx R S.place x.2.1
      cases R with
      | test a b d =>
        simp only [wrongT] at hx
        split at hx
        · cases hx
        · cases hx
          cases c.1 <;> first | exact .inl rfl | exact .inr rfl
      | get a b =>
        simp only [wrongT] at hx
        split at hx
        · cases hx
        · split at hx
          · cases hx; rfl
          · split at hx
            · cases hx
            · cases hx; rfl
      | _ => cases hx
  · rcases hw with ⟨_, e2⟩ | ⟨x, hx, _, e2⟩
    · subst e2
      refine ⟨_, ?_, num_v⟩
      cases L' with
      | reg i => exact real_src hS hR i
      | pre s => exact (slot_src hf s).1
      | old s => exact (slot_src hf s).2
    · subst e2
      refine ⟨_, ?_, num_v⟩
      cases L' with
      | pre s => exact (slot_src hf s).1
      | old s => exact (slot_src hf s).2
      | reg i =>
        show Src R S c.1 (.reg i) (gt x.2.2 i .zero)
        cases R with
        | test a b d =>
          simp only [wrongT] at hx
          split at hx
          · cases hx
          · cases hx
            exact .tr (.keepR (by simp [givesTo])) rfl
        | get a b =>
          have hx2 : x.2.2 = S.regs.set a.toNat (S.slot b).2.1 := by
            simp only [wrongT] at hx
            split at hx
            · cases hx
            · split at hx
              · cases hx; rfl
              · split at hx
                · cases hx
                · cases hx; rfl
          rw [hx2, gt_set hR.1.1 (by rw [hS.r]; exact hR.1.2)]
          split
          · rename_i e3
            subst e3
            exact .tr (.getO rfl) rfl
          · rename_i e3
            exact .tr (.keepR (by simp [givesTo]; exact fun h => e3 h.symm)) rfl
        | _ => cases hx
end KS.X
namespace KS.X
open PySem PySem.Spec PyProof.Rows L2 Mi KP KQ
variable {S S' B : ASt} {R : KP.Row} {rows : List KP.Row} {n n1 : Nat} {W : Win} {t m : Bool} {l : Lab} {p q b b3 : Int} {L L' : Loc}
/-- ranks: 0 nothing, 1 a public value that may lie outside array b, 2 a secret, 3 a secret that is not known in b3 -/
inductive Mv (R : KP.Row) (b : Int) (m : Bool) (b3 : Int) : Nat → Loc → Nat → Loc → Prop
  | none : Mv R b m b3 0 (.reg 0) 0 (.reg 0)
  | tr {k : Nat} {L L' : Loc} : 1 ≤ k → Tr R L L' → Mv R b m b3 k L k L'
  | mask {k : Nat} {r x c : Int} : 1 ≤ k → R = .mask r x c → (k = 1 → m = true ∧ x ≠ b) → (k = 3 → x ≠ b3) → Mv R b m b3 k (.reg c) k (.reg r)
  | new {r : Int} : New R r → Mv R b m b3 0 (.reg 0) 1 (.reg r)
  | src {k : Nat} {r c : Int} : R = .load r b c → k = 2 ∨ k = 3 → Mv R b m b3 1 (.reg c) k (.reg r)
  | mix {k : Nat} {r x y z : Int} : R = .mix r x y → z = x ∨ z = y → k = 2 ∨ k = 3 → Mv R b m b3 2 (.reg z) k (.reg r)
structure Nd where
  k : Nat
  p : Int
  L : Loc
deriving DecidableEq
def Ed (rows : List KP.Row) (b : Int) (m : Bool) (b3 : Int) (x y : Nd) : Prop := ∃ R, rows[x.p.toNat]? = some R ∧ Nx R x.p y.p ∧ Mv R b m b3 x.k x.L y.k y.L
/-- what a node says of a state -/
def Rl (b : Int) (m : Bool) (b3 : Int) (k : Nat) (v : Vw) : Prop := match k, v with
  | 0, _ => True
  | 1, .sec _ => True
  | 1, .pub f => fcGet f b ≠ some true ∧ (m = true → fcGet f (1 - b) ≠ some false)
  | 2, .sec _ => True
  | 3, .sec kn => b3 ∉ kn
  | _, _ => False
def St (B : ASt) (b : Int) (m : Bool) (b3 : Int) (x : Nd) : Prop := x.p = B.place ∧ Rl b m b3 x.k (B.v x.L)
inductive Rc (rows : List KP.Row) (B : ASt) (b : Int) (m : Bool) (b3 : Int) : Nd → Prop
  | start {x : Nd} : St B b m b3 x → Rc rows B b m b3 x
  | step {x y : Nd} : Rc rows B b m b3 x → Ed rows b m b3 x y → Rc rows B b m b3 y
def arr (b : Int) : Prop := b = 0 ∨ b = 1
structure Inv (rows : List KP.Row) (B S : ASt) : Prop where
  i0 : ∀ b m b3, Rc rows B b m b3 ⟨0, S.place, .reg 0⟩
  i1 : ∀ b b3 L f, arr b → S.v L = .pub f → fcGet f b ≠ some true → Rc rows B b true b3 ⟨1, S.place, L⟩ ∨ (fcGet f (1 - b) = some false ∧ Rc rows B b false b3 ⟨1, S.place, L⟩)
  i2 : ∀ b3 L kn, S.v L = .sec kn → ∃ b m, arr b ∧ Rc rows B b m b3 ⟨2, S.place, L⟩
  i3 : ∀ b3 L kn, arr b3 → S.v L = .sec kn → b3 ∉ kn → ∃ b m, arr b ∧ Rc rows B b m b3 ⟨3, S.place, L⟩
theorem Inv.start (hv : ∀ L, S.v L = B.v L ∨ S.v L = .zero) (hp : S.place = B.place) : Inv rows B S := by
  refine ⟨fun b m b3 => .start ⟨hp, trivial⟩, fun b b3 L f hb h hf => ?_, fun b3 L kn h => ⟨0, true, .inl rfl, .start ⟨hp, ?_⟩⟩, fun b3 L kn _ h hk => ⟨0, true, .inl rfl, .start ⟨hp, ?_⟩⟩⟩
  · have e : B.v L = .pub f := by rcases hv L with e | e <;> rw [e] at h <;> first | exact h | cases h
    by_cases hx : fcGet f (1 - b) = some false
    · refine .inr ⟨hx, .start ⟨hp, ?_⟩⟩
      show Rl b false b3 1 (B.v L)
      rw [e]
      exact ⟨hf, fun z => by cases z⟩
    · refine .inl (.start ⟨hp, ?_⟩)
      show Rl b true b3 1 (B.v L)
      rw [e]
      exact ⟨hf, fun _ => hx⟩
  · have e : B.v L = .sec kn := by rcases hv L with e | e <;> rw [e] at h <;> first | exact h | cases h
    show Rl 0 true b3 2 (B.v L)
    rw [e]; trivial
  · have e : B.v L = .sec kn := by rcases hv L with e | e <;> rw [e] at h <;> first | exact h | cases h
    show Rl 0 true b3 3 (B.v L)
    rw [e]; exact hk
theorem fc_set {f : Fc} {a x : Int} {t : Bool} (ha : arr a) (hx : arr x) : fcGet (fcSet f a t) x = if x = a then some t else fcGet f x := by
  rcases ha with rfl | rfl <;> rcases hx with rfl | rfl <;> simp [fcGet, fcSet]
theorem asks_arr {r : Int} (hR : R.ok n1) (h : asks R = some (b, r)) : arr b := by
  cases R <;> simp only [asks, Option.some.injEq, Prod.mk.injEq, reduceCtorEq] at h
  · have := hR.2.1; unfold arr; omega
  · have := hR.2.1; unfold arr; omega
  · have := hR.2.1; unfold arr; omega
/-- the facts of a case -/
theorem case_fc (hS : S.ok n W) (hR : R.ok n1) {c : CS} (hc : c ∈ casesT R S) {m x : Int} (hm : 0 ≤ m) (hx : arr x) :
    fcGet (gt c.2.2 m (none, none)) x = fcGet (gt S.facts m (none, none)) x ∨
    ∃ r, asks R = some (x, r) ∧ S.reg r = .pub m ∧ fcGet (gt S.facts m (none, none)) x = none ∧ fcGet (gt c.2.2 m (none, none)) x = some c.1 := by
  unfold casesT at hc
  cases ha : asks R with
  | none => rw [ha] at hc; simp at hc; rw [hc]; exact .inl rfl
  | some br =>
    obtain ⟨y, r⟩ := br
    rw [ha] at hc
    simp only [] at hc
    have hy := asks_arr hR ha
    cases hr : S.reg r with
    | zero => rw [hr] at hc; simp at hc; rw [hc]; exact .inl rfl
    | sec kn => rw [hr] at hc; simp at hc; rw [hc]; exact .inl rfl
    | pub m0 =>
      rw [hr] at hc
      simp only [] at hc
      have hm0 := v_pub (L := .reg r) hS hr
      cases hf : fcGet (gt S.facts m0 (none, none)) y with
      | some t => rw [hf] at hc; simp at hc; rw [hc]; exact .inl rfl
      | none =>
        rw [hf] at hc
        simp only [List.mem_cons, List.not_mem_nil, or_false] at hc
        have key : ∀ t : Bool, c = (t, some (y, t), S.facts.set m0.toNat (fcSet (gt S.facts m0 (none, none)) y t)) →
            fcGet (gt c.2.2 m (none, none)) x = fcGet (gt S.facts m (none, none)) x ∨
            ∃ r', some (y, r) = some (x, r') ∧ S.reg r' = .pub m ∧ fcGet (gt S.facts m (none, none)) x = none ∧ fcGet (gt c.2.2 m (none, none)) x = some c.1 := fun t e => by
          subst e
          show fcGet (gt (S.facts.set _ _) m _) x = _ ∨ _
          rw [gt_set hm0.1 hm0.2]
          by_cases e : m = m0
          · subst e
            rw [if_pos rfl, fc_set hy hx]
            by_cases e2 : x = y
            · subst e2
              rw [if_pos rfl]
              exact .inr ⟨r, rfl, hr, hf, rfl⟩
            · rw [if_neg e2]; exact .inl rfl
          · rw [if_neg e]; exact .inl rfl
        rcases hc with hc | hc
        · exact key true hc
        · exact key false hc
theorem fc_mono (hS : S.ok n W) (hR : R.ok n1) {c : CS} (hc : c ∈ casesT R S) {m x : Int} (hm : 0 ≤ m) (hx : arr x) {v : Bool} (h : fcGet (gt S.facts m (none, none)) x = some v) : fcGet (gt c.2.2 m (none, none)) x = some v := by
  rcases case_fc hS hR hc hm hx with e | ⟨r, _, _, e, _⟩
  · rw [e]; exact h
  · rw [h] at e; cases e
theorem arr_1 {b : Int} (h : arr b) : arr (1 - b) := by unfold arr at *; omega
end KS.X
namespace KS.X
open PySem PySem.Spec PyProof.Rows L2 Mi KP KQ
variable {S S' B : ASt} {R : KP.Row} {rows : List KP.Row} {n n1 : Nat} {W : Win} {t m : Bool} {l : Lab} {p q b b3 : Int} {L L' : Loc}
theorem vk_pub {fs : List Fc} {k : Kd} {f : Fc} (h : vk fs k = .pub f) : ∃ m, k = .pub m ∧ f = gt fs m (none, none) := by
  cases k with
  | pub m => cases h; exact ⟨m, rfl, rfl⟩
  | zero => cases h
  | sec kn => cases h
theorem vk_sec {fs : List Fc} {k : Kd} {kn : List Int} (h : vk fs k = .sec kn) : k = .sec kn := by
  cases k with
  | pub m => cases h
  | zero => cases h
  | sec kn' => cases h; rfl
theorem case_val {r x m0 : Int} {c : CS} (hS : S.ok n W) (hR : R.ok n1) (hc : c ∈ casesT R S) (ha : asks R = some (x, r)) (hr : S.reg r = .pub m0) : fcGet (gt c.2.2 m0 (none, none)) x = some c.1 := by
  have hm0 := v_pub (L := .reg r) hS hr
  have hx := asks_arr hR ha
  unfold casesT at hc
  rw [ha] at hc
  simp only [hr] at hc
  cases hf : fcGet (gt S.facts m0 (none, none)) x with
  | some t => rw [hf] at hc; simp at hc; rw [hc]; exact hf
  | none =>
    rw [hf] at hc
    simp only [List.mem_cons, List.not_mem_nil, or_false] at hc
    rcases hc with hc | hc <;> subst hc <;> show fcGet (gt (S.facts.set _ _) m0 _) x = _ <;> rw [gt_set hm0.1 hm0.2, if_pos rfl, fc_set hx hx, if_pos rfl]
theorem Inv.step (h : Inv rows B S) (hS : S.ok n W) (hrow : rows[S.place.toNat]? = some R) (hR : R.ok n1) (hf : R ≠ .fence) (hs : (l, S') ∈ stepsT R S W) : Inv rows B S' := by
  obtain ⟨hsh, hN, c, hc, hsrc⟩ := step_src hS hR hf hs
  have ed : ∀ {b m b3 k L k' L'}, Rc rows B b m b3 ⟨k, S.place, L⟩ → Mv R b m b3 k L k' L' → Rc rows B b m b3 ⟨k', S'.place, L'⟩ := fun h1 h2 => .step h1 ⟨R, hrow, hN, h2⟩
  have srcs : ∀ {r x c0}, R = .load r x c0 → c.1 = false → ∀ b3 k, k = 2 ∨ k = 3 → ∃ b m, arr b ∧ Rc rows B b m b3 ⟨k, S'.place, .reg r⟩ := fun {r x c0} e ht b3 k hk => by
    have ha : asks R = some (x, c0) := by rw [e]; rfl
    have hx := asks_arr hR ha
    cases hr : S.reg c0 with
    | zero =>
      unfold casesT at hc
      rw [ha] at hc
      simp only [hr, List.mem_singleton] at hc
      rw [hc] at ht; cases ht
    | sec kn =>
      rw [e] at hsh
      have hsh : (S.reg c0).isSec = false := hsh
      rw [hr] at hsh; cases hsh
    | pub m0 =>
      have hm0 := v_pub (L := .reg c0) hS hr
      have hv := case_val hS hR hc ha hr
      have hv0 : S.v (.reg c0) = .pub (gt S.facts m0 (none, none)) := by
        show vk S.facts (S.reg c0) = _
        rw [hr]; rfl
      have hne : fcGet (gt S.facts m0 (none, none)) x ≠ some true := fun z => by
        rw [fc_mono hS hR hc hm0.1 hx z, ht] at hv
        cases hv
      rcases h.i1 x b3 _ _ hx hv0 hne with hi | ⟨_, hi⟩
      · exact ⟨x, true, hx, ed hi (.src e hk)⟩
      · exact ⟨x, false, hx, ed hi (.src e hk)⟩
  have mixs : ∀ {r x y}, R = .mix r x y → ((S.reg x).isSec = true ∨ (S.reg y).isSec = true) → ∀ b3 k, k = 2 ∨ k = 3 → ∃ b m, arr b ∧ Rc rows B b m b3 ⟨k, S'.place, .reg r⟩ := fun {r x y} e hxy b3 k hk => by
    have one : ∀ z, (z = x ∨ z = y) → (S.reg z).isSec = true → ∃ b m, arr b ∧ Rc rows B b m b3 ⟨k, S'.place, .reg r⟩ := fun z hz hi => by
      cases hr : S.reg z with
      | zero => rw [hr] at hi; cases hi
      | pub m0 => rw [hr] at hi; cases hi
      | sec kn =>
        obtain ⟨b, m, hb, hi⟩ := h.i2 b3 (.reg z) kn (by show vk S.facts (S.reg z) = _; rw [hr]; rfl)
        exact ⟨b, m, hb, ed hi (.mix e hz hk)⟩
    rcases hxy with h1 | h1
    · exact one x (.inl rfl) h1
    · exact one y (.inr rfl) h1
  refine ⟨fun b m b3 => ed (h.i0 b m b3) .none, fun b b3 L' f hb hv hfb => ?_, fun b3 L' kn hv => ?_, fun b3 L' kn hb3 hv hkn => ?_⟩
  · obtain ⟨k, hk, e⟩ := hsrc L'
    rw [hv] at e
    obtain ⟨m0, hkm, hfm⟩ := vk_pub e.symm
    cases hk with
    | zero e2 => rw [e2] at hkm; cases hkm
    | @tr L hT e2 =>
      have hm0 := v_pub (L := L) hS (e2.symm.trans hkm)
      have hl := case_len hc
      rw [gt_app hm0.1 (by omega)] at hfm
      subst hfm
      have hv0 : S.v L = .pub (gt S.facts m0 (none, none)) := by
        show vk S.facts (vl S.regs S.slots L) = _
        rw [← e2, hkm]; rfl
      rcases h.i1 b b3 L _ hb hv0 (fun z => hfb (fc_mono hS hR hc hm0.1 hb z)) with hi | ⟨hx, hi⟩
      · exact .inl (ed hi (.tr (Nat.le_refl _) hT))
      · exact .inr ⟨fc_mono hS hR hc hm0.1 (arr_1 hb) hx, ed hi (.tr (Nat.le_refl _) hT)⟩
    | @mask r x c0 e2 e3 e4 =>
      rw [e4] at hkm
      have hr := masked_pub hkm
      have ht : c.1 = true := by
        rw [hr] at hkm
        cases hc1 : c.1 with
        | true => rfl
        | false => rw [hc1] at hkm; cases hkm
      have hm0 := v_pub (L := .reg c0) hS hr
      have hl := case_len hc
      rw [gt_app hm0.1 (by omega)] at hfm
      subst hfm
      have ha : asks R = some (x, c0) := by rw [e2]; rfl
      have hx := asks_arr hR ha
      have hval := case_val hS hR hc ha hr
      rw [ht] at hval
      have hxb : x ≠ b := fun z => by subst z; exact hfb hval
      have hx1 : x = 1 - b := by unfold arr at hx hb; omega
      have hv0 : S.v (.reg c0) = .pub (gt S.facts m0 (none, none)) := by
        show vk S.facts (S.reg c0) = _
        rw [hr]; rfl
      subst e3
      rcases h.i1 b b3 _ _ hb hv0 (fun z => hfb (fc_mono hS hR hc hm0.1 hb z)) with hi | ⟨hz, hi⟩
      · exact .inl (ed hi (.mask (Nat.le_refl _) e2 (fun _ => ⟨rfl, hxb⟩) (fun z => by cases z)))
      · rw [fc_mono hS hR hc hm0.1 (arr_1 hb) hz] at *
        rw [hx1] at hval
        rw [fc_mono hS hR hc hm0.1 (arr_1 hb) hz] at hval
        cases hval
    | @new r hN e2 e3 => subst e2; exact .inl (ed (h.i0 b true b3) (.new hN))
    | mix _ _ _ e2 => rw [e2] at hkm; cases hkm
    | load _ _ _ e2 => rw [e2] at hkm; cases hkm
  · obtain ⟨k, hk, e⟩ := hsrc L'
    rw [hv] at e
    have hks := vk_sec e.symm
    cases hk with
    | zero e2 => rw [e2] at hks; cases hks
    | @tr L hT e2 =>
      obtain ⟨b, m, hb, hi⟩ := h.i2 b3 L kn (by show vk S.facts (vl S.regs S.slots L) = _; rw [← e2, hks]; rfl)
      exact ⟨b, m, hb, ed hi (.tr (by decide) hT)⟩
    | @mask r x c0 e2 e3 e4 =>
      rw [e4] at hks
      cases hr : S.reg c0 with
      | zero => rw [hr] at hks; cases hks
      | pub m0 => rw [hr] at hks; cases hc1 : c.1 <;> rw [hc1] at hks <;> cases hks
      | sec kn0 =>
        obtain ⟨b, m, hb, hi⟩ := h.i2 b3 (.reg c0) kn0 (by show vk S.facts (S.reg c0) = _; rw [hr]; rfl)
        subst e3
        exact ⟨b, m, hb, ed hi (.mask (by decide) e2 (fun z => by cases z) (fun z => by cases z))⟩
    | new _ _ e2 => rw [e2] at hks; cases hks
    | mix e2 e3 e4 _ => subst e3; exact mixs e2 e4 b3 2 (.inl rfl)
    | load e2 e3 e4 _ => subst e3; exact srcs e2 e4 b3 2 (.inl rfl)
  · obtain ⟨k, hk, e⟩ := hsrc L'
    rw [hv] at e
    have hks := vk_sec e.symm
    cases hk with
    | zero e2 => rw [e2] at hks; cases hks
    | @tr L hT e2 =>
      obtain ⟨b, m, hb, hi⟩ := h.i3 b3 L kn hb3 (by show vk S.facts (vl S.regs S.slots L) = _; rw [← e2, hks]; rfl) hkn
      exact ⟨b, m, hb, ed hi (.tr (by decide) hT)⟩
    | @mask r x c0 e2 e3 e4 =>
      rw [e4] at hks
      cases hr : S.reg c0 with
      | zero => rw [hr] at hks; cases hks
      | pub m0 => rw [hr] at hks; cases hc1 : c.1 <;> rw [hc1] at hks <;> cases hks
      | sec kn0 =>
        rw [hr] at hks
        have hkk : b3 ∉ kn0 ∧ x ≠ b3 := by
          simp only [maskedT] at hks
          split at hks
          · rename_i hx
            cases hks
            exact ⟨hkn, fun z => hkn (z ▸ hx)⟩
          · rename_i hx
            split at hks
            · rename_i h0
              cases hks
              rw [h0]
              exact ⟨by simp, fun z => hkn (by simp [z])⟩
            · cases hks
              exact absurd (by rcases hb3 with rfl | rfl <;> simp) hkn
        obtain ⟨b, m, hb, hi⟩ := h.i3 b3 (.reg c0) kn0 hb3 (by show vk S.facts (S.reg c0) = _; rw [hr]; rfl) hkk.1
        subst e3
        exact ⟨b, m, hb, ed hi (.mask (by decide) e2 (fun z => by cases z) (fun _ => hkk.2))⟩
    | new _ _ e2 => rw [e2] at hks; cases hks
    | mix e2 e3 e4 _ => subst e3; exact mixs e2 e4 b3 3 (.inr rfl)
    | load e2 e3 e4 _ => subst e3; exact srcs e2 e4 b3 3 (.inr rfl)
end KS.X
namespace KS.X
open PySem PySem.Spec PyProof.Rows L2 Mi KP KQ
variable {S S' B : ASt} {R : KP.Row} {rows : List KP.Row} {n n1 k k' : Nat} {w j : Int} {W : Win} {t m : Bool} {l : Lab} {p q b b3 : Int} {L L' : Loc}
theorem case_pref (pref : Int → Bool) : ∃ c ∈ casesT R S, ∀ x r m0, asks R = some (x, r) → S.reg r = .pub m0 → fcGet (gt S.facts m0 (none, none)) x ≠ some (!pref x) → c.1 = pref x := by
  unfold casesT
  cases ha : asks R with
  | none => exact ⟨_, List.mem_singleton.mpr rfl, fun x r m0 e => by cases e⟩
  | some br =>
    obtain ⟨y, r⟩ := br
    simp only []
    cases hr : S.reg r with
    | zero => exact ⟨_, List.mem_singleton.mpr rfl, fun x r' m0 e e2 => by cases e; rw [hr] at e2; cases e2⟩
    | sec kn => exact ⟨_, List.mem_singleton.mpr rfl, fun x r' m0 e e2 => by cases e; rw [hr] at e2; cases e2⟩
    | pub m0 =>
      simp only []
      cases hf : fcGet (gt S.facts m0 (none, none)) y with
      | some t =>
        refine ⟨_, List.mem_singleton.mpr rfl, fun x r' m1 e e2 h => ?_⟩
        cases e
        rw [hr] at e2
        cases e2
        rw [hf] at h
        show t = pref y
        cases t <;> cases hp : pref y <;> simp [hp] at h ⊢
      | none =>
        cases hp : pref y with
        | true => exact ⟨_, List.mem_cons_self, fun x r' m1 e e2 h => by cases e; exact hp.symm⟩
        | false => exact ⟨_, List.mem_cons_of_mem _ (List.mem_singleton.mpr rfl), fun x r' m1 e e2 h => by cases e; exact hp.symm⟩
/-- a case that keeps what is said -/
structure Pref (R : KP.Row) (S : ASt) (b : Int) (c : CS) : Prop where
  mem : c ∈ casesT R S
  ch : ∀ x r m0, asks R = some (x, r) → S.reg r = .pub m0 → fcGet (gt S.facts m0 (none, none)) x ≠ some (!decide (x ≠ b)) → c.1 = decide (x ≠ b)
theorem rl_keep (hS : S.ok n W) (hR : R.ok n1) {c : CS} (hc : Pref R S b c) (hb : arr b) {K : Kd} (hK : vl S.regs S.slots L = K) (h : Rl b m b3 k (S.v L)) : Rl b m b3 k (vk (c.2.2 ++ [(none, none)]) K) := by
  have h : Rl b m b3 k (vk S.facts K) := by rw [← hK]; exact h
  cases K with
  | zero => exact h
  | sec kn => exact h
  | pub m0 =>
    have hm0 := v_pub hS hK
    have hl := case_len hc.mem
    match k, h with
    | 0, _ => trivial
    | 1, h =>
      obtain ⟨h1, h2⟩ := h
      show fcGet (gt (c.2.2 ++ [(none, none)]) m0 (none, none)) b ≠ some true ∧ (m = true → fcGet (gt (c.2.2 ++ [(none, none)]) m0 (none, none)) (1 - b) ≠ some false)
      rw [gt_app hm0.1 (by omega)]
      constructor
      · rcases case_fc hS hR hc.mem hm0.1 hb with e | ⟨r, ha, hr, he, e⟩
        · rw [e]; exact h1
        · have := hc.ch b r m0 ha hr (by rw [he]; simp)
          rw [e, this]
          simp
      · intro hm
        rcases case_fc hS hR hc.mem hm0.1 (arr_1 hb) with e | ⟨r, ha, hr, he, e⟩
        · rw [e]; exact h2 hm
        · have := hc.ch (1 - b) r m0 ha hr (by rw [he]; simp)
          rw [e, this, decide_eq_true (by unfold arr at hb; omega)]
          simp
    | 2, h => exact h.elim
    | 3, h => exact h.elim
    | k + 4, h => exact h.elim
theorem rl_ne (hk : 1 ≤ k) {K : Vw} (h : Rl b m b3 k K) : K ≠ .zero := by
  intro e
  subst e
  match k, hk, h with
  | 1, _, h => exact h
  | 2, _, h => exact h
  | 3, _, h => exact h
  | k + 4, _, h => exact h
theorem rl_new {c : CS} (hc : c ∈ casesT R S) : Rl b m b3 1 (vk (c.2.2 ++ [(none, none)]) (.pub S.facts.length)) := by
  rw [vk_new hc]
  refine ⟨?_, fun _ => ?_⟩
  · show fcGet (none, none) b ≠ some true
    unfold fcGet; split <;> simp
  · show fcGet (none, none) (1 - b) ≠ some false
    unfold fcGet; split <;> simp
theorem rl_sec (hk : k = 2 ∨ k = 3) {fs : List Fc} : Rl b m b3 k (vk fs (.sec [])) := by
  rcases hk with rfl | rfl
  · trivial
  · show b3 ∉ []
    simp
theorem slot_to (hS : S.ok n (some w)) (hR : R.ok n1) (hf : R ≠ .fence) (ha : ∀ s a, (S.slot s).2.2 = some a → a < j) (hj : 0 ≤ j) (hjw : j < w) {s : Int} (h01 : s = 0 ∨ s = 1) :
    ((∀ a, R ≠ .put s a) → (gt (slotsT R S (some w)) s slz).1 = (S.slot s).1 ∧ (gt (slotsT R S (some w)) s slz).2.1 = (S.slot s).2.1) ∧
    (∀ a, R = .put s a → (gt (slotsT R S (some w)) s slz).1 = S.reg a ∧ (gt (slotsT R S (some w)) s slz).2.1 = (S.slot s).1) := by
  rw [gt_slots, if_pos h01]
  constructor
  · intro hn
    have e1 : slotT R S (some w) s = boundedT (S.slot s).1 (S.slot s).2.1 ((S.slot s).2.2.map (· + 1)) (some w) := by
      cases R with
      | fence => exact absurd rfl hf
      | put b a =>
        have e : b ≠ s := fun z => hn a (by rw [z])
        simp [slotT, e]
      | _ => rfl
    rw [e1]
    refine ⟨bounded_1, ?_⟩
    have hq : (S.slot s) ∈ S.slots := by
      show gt S.slots s slz ∈ _
      have h2 := hS.s
      unfold gt
      rw [if_pos (by omega), List.getD_eq_getElem?_getD, List.getElem?_eq_getElem (by omega)]
      exact List.getElem_mem _
    have hok := hS.sk _ hq
    cases e : (S.slot s).2.2 with
    | none => exact (hok.2.2.1 e).symm
    | some a =>
      have := ha s a e
      simp only [Option.map_some, boundedT]
      rw [if_neg (by omega)]
  · intro a e
    subst e
    have e1 : slotT (.put s a) S (some w) s = boundedT (S.reg a) (S.slot s).1 (some 0) (some w) := by simp [slotT]
    rw [e1]
    refine ⟨bounded_1, ?_⟩
    simp only [boundedT]
    rw [if_neg (by omega)]
theorem real_to (hS : S.ok n W) (hR : R.ok n1) {i : Int} : (givesTo R ≠ some i → gt (realR R S t) i .zero = S.reg i) ∧ (givesTo R = some i → gt (realR R S t) i .zero = givenT R S t) := by
  unfold realR
  cases hg : givesTo R with
  | none => exact ⟨fun _ => rfl, fun e => by cases e⟩
  | some r =>
    simp only []
    have hr : 0 ≤ r ∧ r < 4 := by
      cases R <;> simp only [givesTo, Option.some.injEq, reduceCtorEq] at hg <;> subst hg <;> first | exact hR | exact hR.1
    rw [gt_set hr.1 (by rw [hS.r]; exact hr.2)]
    constructor
    · intro h
      rw [if_neg fun e => h (by rw [e])]
      rfl
    · intro h
      cases h
      rw [if_pos rfl]
theorem slot_in (hS : S.ok n W) {s : Int} (h : S.v (.pre s) ≠ .zero ∨ S.v (.old s) ≠ .zero) : s = 0 ∨ s = 1 := by
  refine Classical.byContradiction fun hc => ?_
  have e : gt S.slots s slz = slz := gt_out (by rw [hS.s]; omega)
  rcases h with h | h
  · exact h (by show vk _ (gt S.slots s slz).1 = _; rw [e]; rfl)
  · exact h (by show vk _ (gt S.slots s slz).2.1 = _; rw [e]; rfl)
end KS.X
namespace KS.X
open PySem PySem.Spec PyProof.Rows L2 Mi KP KQ
variable {S S' B : ASt} {R : KP.Row} {rows : List KP.Row} {n n1 k k' : Nat} {w j : Int} {W : Win} {t m : Bool} {l : Lab} {p q b b3 : Int} {L L' : Loc}
theorem num_age {p : Int} {rs : List Kd} {ss : List Sl} {fs : List Fc} {d : Option Int} {s : Int} : ((numberedT p rs ss fs d).slot s).2.2 = (gt ss s slz).2.2 := by
  show (gt (ss.map (renS _)) s slz).2.2 = _
  rw [show gt (ss.map (renS (numsK (rs ++ slKinds ss)))) s slz = renS (numsK (rs ++ slKinds ss)) (gt ss s slz) from gt_map (o := slz) (renS _)]
  rfl
theorem bnd_age {p o : Kd} {x : Option Int} {W : Win} {a : Int} (h : (boundedT p o x W).2.2 = some a) : ∃ y, x = some y ∧ (a = y ∨ a = 0) := by
  cases x with
  | none => cases h
  | some y =>
    refine ⟨y, rfl, ?_⟩
    cases W with
    | none => cases h; exact .inr rfl
    | some w =>
      simp only [boundedT] at h
      split at h
      · cases h
      · cases h; exact .inl rfl
theorem realize (hS : S.ok n (some w)) (hR : R.ok n1) (hd : ∀ d, S.depth = some d → d < j) (ha : ∀ s a, (S.slot s).2.2 = some a → a < j) (hj : 0 ≤ j) (hjw : j < w) (hb : arr b) (hb3 : arr b3) (hN : Nx R S.place q) (hM : Mv R b m b3 k L k' L') (hRl : Rl b m b3 k (S.v L)) :
    leakT R S (some w) = true ∨ ∃ l S', (l, S') ∈ stepsT R S (some w) ∧ S'.place = q ∧ Rl b m b3 k' (S'.v L') ∧ (∀ d, S'.depth = some d → d < j + 1) ∧ ∀ s a, (S'.slot s).2.2 = some a → a < j + 1 := by
  have hf : R ≠ .fence := fun e => by subst e; exact hN
  have hcan : can R S (some w) = true := by
    have hdo : deepOk S.depth (some w) = true := by
      cases e : S.depth with
      | none => rfl
      | some d =>
        have := hd d e
        show decide (d < w) = true
        rw [decide_eq_true_eq]; omega
    cases R with
    | fin => exact hN.elim
    | fence => exact hN.elim
    | _ => exact hdo
  by_cases hsh : shows R S = true
  · left
    unfold leakT
    rw [hcan, hsh]; rfl
  have hsh : shows R S = false := by simpa using hsh
  right
  obtain ⟨c, hc, hch⟩ := case_pref (R := R) (S := S) (fun x => decide (x ≠ b))
  have hP : Pref R S b c := ⟨hc, hch⟩
  have ages : ∀ {p rs fs d} (s a : Int), ((numberedT p rs (slotsT R S (some w)) fs d).slot s).2.2 = some a → a < j + 1 := fun {p rs fs d} s a e => by
    rw [num_age, gt_slots] at e
    split at e
    · have aged : (boundedT (S.slot s).1 (S.slot s).2.1 ((S.slot s).2.2.map (· + 1)) (some w)).2.2 = some a → a < j + 1 := fun e => by
        obtain ⟨y, hy, h⟩ := bnd_age e
        cases hq : (S.slot s).2.2 with
        | none => rw [hq] at hy; cases hy
        | some z =>
          rw [hq] at hy
          have hy : z + 1 = y := by simpa using hy
          have := ha s z hq
          rcases h with rfl | rfl <;> omega
      cases R with
      | fence => exact absurd rfl hf
      | put x y =>
        by_cases e2 : x = s
        · subst e2
          have e1 : slotT (.put x y) S (some w) x = boundedT (S.reg y) (S.slot x).1 (some 0) (some w) := by simp [slotT]
          rw [e1] at e
          obtain ⟨z, hz, h⟩ := bnd_age e
          cases hz
          omega
        · have e1 : slotT (.put x y) S (some w) s = boundedT (S.slot s).1 (S.slot s).2.1 ((S.slot s).2.2.map (· + 1)) (some w) := by simp [slotT, e2]
          rw [e1] at e
          exact aged e
      | _ => exact aged e
    · cases e
  have fin : nxtT R S.place c.1 = q → Rl b m b3 k' (vk (c.2.2 ++ [(none, none)]) (vl (realR R S c.1) (slotsT R S (some w)) L')) →
      ∃ l S', (l, S') ∈ stepsT R S (some w) ∧ S'.place = q ∧ Rl b m b3 k' (S'.v L') ∧ (∀ d, S'.depth = some d → d < j + 1) ∧ ∀ s a, (S'.slot s).2.2 = some a → a < j + 1 := fun h1 h2 => by
    refine ⟨(.step, c.2.1), _, steps_case.2 ⟨hcan, hsh, c, hc, rfl, .inl ⟨rfl, rfl⟩⟩, h1, ?_, fun d e => ?_, ages⟩
    · rw [num_v]; exact h2
    · have e : deeperT S.depth (some w) = some d := e
      cases hq : S.depth with
      | none => rw [hq] at e; cases e
      | some y => rw [hq] at e; cases e; have := hd y hq; omega
  have finw : ∀ x, wrongT R S (some w) c.1 = some x → x.2.1 = q → Rl b m b3 k' (vk (c.2.2 ++ [(none, none)]) (vl x.2.2 (slotsT R S (some w)) L')) →
      ∃ l S', (l, S') ∈ stepsT R S (some w) ∧ S'.place = q ∧ Rl b m b3 k' (S'.v L') ∧ (∀ d, S'.depth = some d → d < j + 1) ∧ ∀ s a, (S'.slot s).2.2 = some a → a < j + 1 := fun x hx h1 h2 => by
    refine ⟨(x.1, c.2.1), _, steps_case.2 ⟨hcan, hsh, c, hc, rfl, .inr ⟨x, hx, rfl, rfl⟩⟩, h1, ?_, fun d e => ?_, ages⟩
    · rw [num_v]; exact h2
    · have e : openedT S.depth (some w) = some d := e
      cases hq : S.depth with
      | none => rw [hq] at e; cases e; omega
      | some y => rw [hq] at e; cases e; have := hd y hq; omega
  have both : Rl b m b3 k' (vk (c.2.2 ++ [(none, none)]) (vl (realR R S c.1) (slotsT R S (some w)) L')) →
      ∃ l S', (l, S') ∈ stepsT R S (some w) ∧ S'.place = q ∧ Rl b m b3 k' (S'.v L') ∧ (∀ d, S'.depth = some d → d < j + 1) ∧ ∀ s a, (S'.slot s).2.2 = some a → a < j + 1 := fun h2 => by
    by_cases hq : nxtT R S.place c.1 = q
    · exact fin hq h2
    · cases R with
      | test x y z =>
        have hw0 : ¬ (some w = some (0 : Int)) := fun e => by cases e; omega
        refine finw (.guess !c.1, nxtT (.test x y z) S.place !c.1, S.regs) (by simp only [wrongT]; rw [if_neg hw0]) ?_ h2
        have hN : q = S.place + 1 ∨ q = z := hN
        show nxtT (.test x y z) S.place (!c.1) = q
        cases hc1 : c.1 with
        | true =>
          rw [hc1] at hq
          have hq : ¬ (S.place + 1 = q) := hq
          show z = q
          rcases hN with e | e
          · exact absurd e.symm hq
          · exact e.symm
        | false =>
          rw [hc1] at hq
          have hq : ¬ (z = q) := hq
          show S.place + 1 = q
          rcases hN with e | e
          · exact e.symm
          · exact absurd e.symm hq
      | fin => exact hN.elim
      | fence => exact hN.elim
      | _ => exact (hq (Eq.symm hN)).elim
  have nz : 1 ≤ k → S.v L ≠ .zero := fun hk => rl_ne hk hRl
  cases hM with
  | none => exact both trivial
  | tr hk hT =>
    cases hT with
    | keepR hg =>
      refine both ?_
      show Rl b m b3 k (vk _ (gt (realR R S c.1) _ .zero))
      rw [(real_to hS hR).1 hg]
      exact rl_keep (L := .reg _) hS hR hP hb rfl hRl
    | @keepP s hg =>
      refine both ?_
      have h01 := slot_in hS (.inl (nz hk))
      show Rl b m b3 k (vk _ (gt (slotsT R S (some w)) s slz).1)
      rw [((slot_to hS hR hf ha hj hjw h01).1 hg).1]
      exact rl_keep (L := .pre s) hS hR hP hb rfl hRl
    | @keepO s hg =>
      refine both ?_
      have h01 := slot_in hS (.inr (nz hk))
      show Rl b m b3 k (vk _ (gt (slotsT R S (some w)) s slz).2.1)
      rw [((slot_to hS hR hf ha hj hjw h01).1 hg).2]
      exact rl_keep (L := .old s) hS hR hP hb rfl hRl
    | @getP r s e =>
      subst e
      refine both ?_
      show Rl b m b3 k (vk _ (gt (realR (.get r s) S c.1) r .zero))
      rw [(real_to hS hR).2 rfl]
      exact rl_keep (L := .pre s) hS hR hP hb rfl hRl
    | @getO r s e =>
      subst e
      have h01 := slot_in hS (.inr (nz hk))
      have hq : (S.slot s) ∈ S.slots := by
        show gt S.slots s slz ∈ _
        have h2 := hS.s
        unfold gt
        rw [if_pos (by omega), List.getD_eq_getElem?_getD, List.getElem?_eq_getElem (by omega)]
        exact List.getElem_mem _
      have hok := hS.sk _ hq
      cases hage : (S.slot s).2.2 with
      | none =>
        have hz : (S.slot s).2.1 = .zero := hok.2.2.1 hage
        exact absurd (show vk S.facts (S.slot s).2.1 = _ by rw [hz]; rfl) (nz hk)
      | some g =>
        have hg := ha s g hage
        refine finw (.stale, S.place + 1, S.regs.set r.toNat (S.slot s).2.1) ?_ (show S.place + 1 = q from Eq.symm hN) ?_
        · simp only [wrongT]
          rw [hage]
          simp only []
          rw [if_neg (by omega)]
        · show Rl b m b3 k (vk _ (gt (S.regs.set r.toNat (S.slot s).2.1) r .zero))
          rw [gt_set hR.1.1 (by rw [hS.r]; exact hR.1.2), if_pos rfl]
          exact rl_keep (L := .old s) hS hR hP hb rfl hRl
    | @putP s a e =>
      subst e
      refine both ?_
      have h01 : s = 0 ∨ s = 1 := by have := hR.1; omega
      show Rl b m b3 k (vk _ (gt (slotsT (.put s a) S (some w)) s slz).1)
      rw [((slot_to hS hR hf ha hj hjw h01).2 a rfl).1]
      exact rl_keep (L := .reg a) hS hR hP hb rfl hRl
    | @putO s a e =>
      subst e
      refine both ?_
      have h01 : s = 0 ∨ s = 1 := by have := hR.1; omega
      show Rl b m b3 k (vk _ (gt (slotsT (.put s a) S (some w)) s slz).2.1)
      rw [((slot_to hS hR hf ha hj hjw h01).2 a rfl).2]
      exact rl_keep (L := .pre s) hS hR hP hb rfl hRl
  | @mask _ r x c0 hk e h1 h3 =>
    subst e
    refine both ?_
    have hx : arr x := asks_arr (R := .mask r x c0) hR rfl
    show Rl b m b3 k (vk _ (gt (realR (.mask r x c0) S c.1) r .zero))
    rw [(real_to hS hR).2 rfl]
    show Rl b m b3 k (vk _ (maskedT (S.reg c0) x c.1))
    have hv : S.v (.reg c0) = vk S.facts (S.reg c0) := rfl
    cases hr : S.reg c0 with
    | zero => exact absurd (by rw [hv, hr]; rfl) (nz hk)
    | pub m0 =>
      have hRl' := hRl
      rw [hv, hr] at hRl'
      match k, hk, hRl', h1 with
      | 1, _, hRl', h1 =>
        obtain ⟨hm, hxb⟩ := h1 rfl
        have hm0 := v_pub (L := .reg c0) hS hr
        have hx1 : x = 1 - b := by unfold arr at hx hb; omega
        have ht : c.1 = true := by
          rw [hch x c0 m0 rfl hr ?_]
          · simpa using hxb
          · rw [decide_eq_true hxb]
            show fcGet _ x ≠ some false
            rw [hx1]
            exact hRl'.2 hm
        rw [ht]
        show Rl b m b3 1 (vk _ (.pub m0))
        have := rl_keep (L := .reg c0) hS hR hP hb rfl hRl
        rw [show vl S.regs S.slots (.reg c0) = .pub m0 from hr] at this
        exact this
      | 2, _, hRl', _ => exact hRl'.elim
      | 3, _, hRl', _ => exact hRl'.elim
      | k + 4, _, hRl', _ => exact hRl'.elim
    | sec kn =>
      have hRl' := hRl
      rw [hv, hr] at hRl'
      have hsec : ∃ kn', maskedT (.sec kn) x c.1 = .sec kn' ∧ (b3 ∉ kn → x ≠ b3 → b3 ∉ kn') := by
        simp only [maskedT]
        split
        · exact ⟨kn, rfl, fun h _ => h⟩
        · rename_i hxk
          refine ⟨_, rfl, fun h1 h2 => ?_⟩
          split
          · simp; exact fun z => h2 z.symm
          · rename_i hne
            exfalso
            have hin : Kd.sec kn ∈ S.regs := gt_mem (o := Kd.zero) (l := S.regs) (i := c0) hr (by simp)
            have hko := hS.rk _ hin
            have hko : kn = [] ∨ kn = [0] ∨ kn = [1] ∨ kn = [0, 1] := hko
            unfold arr at hx hb3
            rcases hko with rfl | rfl | rfl | rfl
            · exact hne rfl
            · simp at h1 hxk; omega
            · simp at h1 hxk; omega
            · simp at h1 hxk; omega
      obtain ⟨kn', e1, e2⟩ := hsec
      rw [e1]
      match k, hk, hRl', h3 with
      | 1, _, _, _ => trivial
      | 2, _, _, _ => trivial
      | 3, _, hRl', h3 => exact e2 hRl' (h3 rfl)
      | k + 4, _, hRl', _ => exact hRl'.elim
  | @new r hn =>
    refine both ?_
    have hg : givesTo R = some r := by
      rcases hn with e | ⟨x, y, e⟩ | ⟨x, y, e⟩ <;> rw [e] <;> rfl
    show Rl b m b3 1 (vk _ (gt (realR R S c.1) r .zero))
    rw [(real_to hS hR).2 hg]
    rcases hn with e | ⟨x, y, e⟩ | ⟨x, y, e⟩
    · subst e; exact rl_new hc
    · subst e
      simp only [givenT]
      split
      · trivial
      · exact rl_new hc
    · subst e
      simp only [givenT]
      split
      · exact rl_new hc
      · trivial
  | @src _ r c0 e hk =>
    subst e
    refine both ?_
    show Rl b m b3 k' (vk _ (gt (realR (.load r b c0) S c.1) r .zero))
    rw [(real_to hS hR).2 rfl]
    have hv : S.v (.reg c0) = vk S.facts (S.reg c0) := rfl
    cases hr : S.reg c0 with
    | zero => exact absurd (by rw [hv, hr]; rfl) (nz (Nat.le_refl _))
    | sec kn =>
      have hsh : (S.reg c0).isSec = false := hsh
      rw [hr] at hsh; cases hsh
    | pub m0 =>
      rw [hv, hr] at hRl
      have ht : c.1 = false := by
        rw [hch b c0 m0 rfl hr ?_]
        · simp
        · have := hRl.1
          simpa using this
      simp only [givenT]
      rw [ht]
      exact rl_sec hk
  | @mix _ r x y z e hz hk =>
    subst e
    refine both ?_
    show Rl b m b3 k' (vk _ (gt (realR (.mix r x y) S c.1) r .zero))
    rw [(real_to hS hR).2 rfl]
    have hv : S.v (.reg z) = vk S.facts (S.reg z) := rfl
    have hsec : (S.reg z).isSec = true := by
      cases hr : S.reg z with
      | zero => rw [hv, hr] at hRl; exact hRl.elim
      | pub m0 => rw [hv, hr] at hRl; exact hRl.elim
      | sec kn => rfl
    simp only [givenT]
    rw [if_pos (by rcases hz with rfl | rfl <;> rw [hsec] <;> simp)]
    exact rl_sec hk
end KS.X
namespace KS.X
open PySem PySem.Spec PyProof.Rows L2 Mi KP KQ
section
variable {α : Type} [DecidableEq α] {E : α → α → Prop}
inductive Wk (E : α → α → Prop) : α → List α → α → Prop
  | nil {x : α} : Wk E x [] x
  | cons {x y z : α} {l : List α} : E x y → Wk E y l z → Wk E x (y :: l) z
theorem Wk.snoc {x y z : α} {l : List α} (h : Wk E x l y) (e : E y z) : Wk E x (l ++ [z]) z := by
  induction h with
  | nil => exact .cons e .nil
  | cons a _ ih => exact .cons a (ih e)
theorem Wk.from {x y z : α} {l : List α} (h : Wk E y l z) (hx : x ∈ y :: l) : ∃ l2, Wk E x l2 z ∧ (∀ a ∈ l2, a ∈ l) ∧ ((y :: l).Nodup → (x :: l2).Nodup) := by
  induction h with
  | @nil y =>
    have hx : x = y := by simpa using hx
    subst hx
    exact ⟨[], .nil, fun a h => h, fun h => h⟩
  | @cons y y2 z l e h ih =>
    by_cases hxy : x = y
    · subst hxy
      exact ⟨_, .cons e h, fun a h => h, fun h => h⟩
    · obtain ⟨l2, h1, h2, h3⟩ := ih (by simpa [hxy] using hx)
      exact ⟨l2, h1, fun a ha => List.mem_cons_of_mem _ (h2 a ha), fun hn => h3 (List.nodup_cons.mp hn).2⟩
theorem Wk.cut {x z : α} {l : List α} (h : Wk E x l z) : ∃ l', Wk E x l' z ∧ (x :: l').Nodup ∧ ∀ a ∈ l', a ∈ l := by
  induction h with
  | nil => exact ⟨[], .nil, by simp, fun a h => h⟩
  | @cons x y z l e h ih =>
    obtain ⟨l', h1, h2, h3⟩ := ih
    by_cases hx : x ∈ y :: l'
    · obtain ⟨l2, k1, k2, k3⟩ := h1.from hx
      exact ⟨l2, k1, k3 h2, fun a ha => List.mem_cons_of_mem _ (h3 a (k2 a ha))⟩
    · refine ⟨y :: l', .cons e h1, List.nodup_cons.mpr ⟨hx, h2⟩, fun a ha => ?_⟩
      rcases List.mem_cons.mp ha with rfl | ha
      · exact List.mem_cons_self
      · exact List.mem_cons_of_mem _ (h3 a ha)
end
variable {B : ASt} {R : KP.Row} {rows : List KP.Row} {n n1 k k' : Nat} {w j : Int} {m : Bool} {b b3 : Int} {L L' : Loc} {x y z : Nd} {l : List Nd}
theorem Rc.walk (h : Rc rows B b m b3 y) : ∃ x l, St B b m b3 x ∧ Wk (Ed rows b m b3) x l y := by
  induction h with
  | start h => exact ⟨_, [], h, .nil⟩
  | step _ e ih =>
    obtain ⟨x, l, h1, h2⟩ := ih
    exact ⟨x, _, h1, h2.snoc e⟩
def isGet : KP.Row → Bool
  | .get _ _ => true
  | _ => false
def Loc.sl : Loc → Bool
  | .reg _ => false
  | _ => true
theorem wk_C (h : Wk (Ed rows b m b3) x l y) (hy : y.L.sl = false) : x.k ≤ y.k ∧ (x.L.sl = true → rows.any isGet = true) := by
  induction h with
  | nil => exact ⟨Nat.le_refl _, fun e => by rw [hy] at e; cases e⟩
  | @cons x x2 y l e h ih =>
    obtain ⟨i1, i2⟩ := ih hy
    obtain ⟨R, hrow, _, hM⟩ := e
    have hin := List.mem_of_getElem? hrow
    obtain ⟨k1, p1, L1⟩ := x
    obtain ⟨k2, p2, L2⟩ := x2
    cases hM with
    | none => exact ⟨Nat.zero_le _, fun e => by cases e⟩
    | tr hk hT =>
      refine ⟨i1, fun e => ?_⟩
      cases hT with
      | keepR => cases e
      | keepP => exact i2 rfl
      | keepO => exact i2 rfl
      | getP hR => exact List.any_eq_true.mpr ⟨R, hin, by rw [hR]; rfl⟩
      | getO hR => exact List.any_eq_true.mpr ⟨R, hin, by rw [hR]; rfl⟩
      | putP => cases e
      | putO => exact i2 rfl
    | mask => exact ⟨i1, fun e => by cases e⟩
    | new => exact ⟨Nat.zero_le _, fun e => by cases e⟩
    | src _ hk => exact ⟨by have i1 : k2 ≤ y.k := i1; show 1 ≤ y.k; omega, fun e => by cases e⟩
    | mix _ _ hk => exact ⟨by have i1 : k2 ≤ y.k := i1; show 2 ≤ y.k; omega, fun e => by cases e⟩
/-- what a row can enter -/
def rks (τ : Nat) : List Nat := if τ = 3 then [1, 2, 3] else [1, 2]
def ent (τ : Nat) (hg : Bool) : KP.Row → List (Nat × Loc)
  | .ask r => [(1, .reg r)]
  | .mix r _ _ => (rks τ).map fun k => (k, .reg r)
  | .load r _ _ => (rks τ).map fun k => (k, .reg r)
  | .mask r _ _ => (rks τ).map fun k => (k, .reg r)
  | .get r _ => (rks τ).map fun k => (k, .reg r)
  | .put s _ => if hg then (rks τ).flatMap fun k => [(k, .pre s), (k, .old s)] else []
  | _ => []
theorem rks_in {τ k : Nat} (hτ : τ = 2 ∨ τ = 3) (h1 : 1 ≤ k) (h2 : k ≤ τ) : k ∈ rks τ := by
  unfold rks
  rcases hτ with rfl | rfl
  · have : k = 1 ∨ k = 2 := by omega
    rcases this with rfl | rfl <;> simp
  · have : k = 1 ∨ k = 2 ∨ k = 3 := by omega
    rcases this with rfl | rfl | rfl <;> simp
theorem ed_ent {τ : Nat} {hg : Bool} {P : List (Nat × Loc)} (hτ : τ = 2 ∨ τ = 3) (hP : ∀ R ∈ rows, ∀ q ∈ ent τ hg R, q ∈ P) (e : Ed rows b m b3 x y) (hx : (x.k, x.L) ∈ P) (hk : y.k ≤ τ) (hs : y.L.sl = true → hg = true) : (y.k, y.L) ∈ P := by
  obtain ⟨R, hrow, _, hM⟩ := e
  have hin := List.mem_of_getElem? hrow
  have hR := hP R hin
  obtain ⟨k1, p1, L1⟩ := x
  obtain ⟨k2, p2, L2⟩ := y
  have one : ∀ {k : Nat} {r : Int}, 1 ≤ k → k ≤ τ → (k, Loc.reg r) ∈ (rks τ).map fun k => (k, Loc.reg r) := fun {k r} h1 h2 => List.mem_map.mpr ⟨k, rks_in hτ h1 h2, rfl⟩
  have h1τ : 1 ≤ τ := by omega
  cases hM with
  | none => exact hx
  | tr h1 hT =>
    cases hT with
    | keepR => exact hx
    | keepP => exact hx
    | keepO => exact hx
    | getP e => subst e; exact hR _ (one h1 hk)
    | getO e => subst e; exact hR _ (one h1 hk)
    | @putP s a e =>
      subst e
      refine hR _ ?_
      have := hs rfl
      subst this
      exact List.mem_flatMap.mpr ⟨k1, rks_in hτ h1 hk, by simp⟩
    | @putO s a e =>
      subst e
      refine hR _ ?_
      have := hs rfl
      subst this
      exact List.mem_flatMap.mpr ⟨k1, rks_in hτ h1 hk, by simp⟩
  | mask h1 e => subst e; exact hR _ (one h1 hk)
  | @new r hn =>
    rcases hn with e | ⟨_, _, e⟩ | ⟨_, _, e⟩
    · subst e; exact hR _ (by simp [ent])
    · subst e; exact hR _ (one (Nat.le_refl _) h1τ)
    · subst e; exact hR _ (one (Nat.le_refl _) h1τ)
  | src e h => subst e; exact hR _ (one (by omega) hk)
  | mix e _ h => subst e; exact hR _ (one (by omega) hk)
def allN (P : List (Nat × Loc)) (n : Nat) : List Nd := P.flatMap fun q => (List.range n).map fun i : Nat => ⟨q.1, (i : Int), q.2⟩
theorem allN_len {P : List (Nat × Loc)} {n : Nat} : (allN P n).length = P.length * n := by
  unfold allN
  induction P with
  | nil => simp
  | cons q P ih => rw [List.flatMap_cons, List.length_append, ih, List.length_map, List.length_range, List.length_cons, Nat.succ_mul]; omega
theorem allN_mem {P : List (Nat × Loc)} {n : Nat} {x : Nd} (h : (x.k, x.L) ∈ P) (h0 : 0 ≤ x.p) (h1 : x.p < n) : x ∈ allN P n := by
  refine List.mem_flatMap.mpr ⟨_, h, List.mem_map.mpr ⟨x.p.toNat, List.mem_range.mpr (by omega), ?_⟩⟩
  obtain ⟨k, p, L⟩ := x
  simp only at h0 h1 ⊢
  rw [Int.toNat_of_nonneg h0]
theorem wk_in {τ : Nat} {P : List (Nat × Loc)} (hτ : τ = 2 ∨ τ = 3) (PO : ∀ R ∈ rows, R.ok rows.length) (hP : ∀ R ∈ rows, ∀ q ∈ ent τ (rows.any isGet) R, q ∈ P) (h : Wk (Ed rows b m b3) x l y) (hy : y.L.sl = false) (hyk : y.k = τ) (hyp : y.p < rows.length) : (x.k, x.L) ∈ P → 0 ≤ x.p → ∀ z ∈ x :: l, z ∈ allN P rows.length := by
  induction h with
  | @nil x =>
    intro hx h0 z hz
    have hz : z = x := by simpa using hz
    subst hz
    exact allN_mem hx h0 hyp
  | @cons x x2 y l e h ih =>
    intro hx h0 z hz
    obtain ⟨c1, c2⟩ := wk_C h hy
    have hx2 := ed_ent hτ hP e hx (by omega) c2
    have hlt : x.p < rows.length ∧ 0 ≤ x2.p := by
      obtain ⟨R, hrow, hN, _⟩ := e
      have h1 := (List.getElem?_eq_some_iff.mp hrow).1
      have hR := PO R (List.mem_of_getElem? hrow)
      refine ⟨by omega, ?_⟩
      cases R with
      | jump a => have hN : x2.p = a := hN; have := hR.1; omega
      | test a c d =>
        have hN : x2.p = x.p + 1 ∨ x2.p = d := hN
        have := hR.2.2.1
        omega
      | fin => exact hN.elim
      | fence => exact hN.elim
      | _ => have hN : x2.p = x.p + 1 := hN; omega
    rcases List.mem_cons.mp hz with rfl | hz
    · exact allN_mem hx h0 hlt.1
    · exact ih hy hyk hyp hx2 hlt.2 z hz
/-- a walk that is short -/
theorem short_walk {τ : Nat} {P : List (Nat × Loc)} (hτ : τ = 2 ∨ τ = 3) (PO : ∀ R ∈ rows, R.ok rows.length) (hP : ∀ R ∈ rows, ∀ q ∈ ent τ (rows.any isGet) R, q ∈ P) (h : Wk (Ed rows b m b3) x l y) (hy : y.L.sl = false) (hyk : y.k = τ) (hyp : y.p < rows.length) (hx : (x.k, x.L) ∈ P) (h0 : 0 ≤ x.p) :
    ∃ l', Wk (Ed rows b m b3) x l' y ∧ l'.length + 1 ≤ P.length * rows.length := by
  obtain ⟨l', h1, h2, _⟩ := h.cut
  refine ⟨l', h1, ?_⟩
  have := KV.nodup_len h2 (wk_in hτ PO hP h1 hy hyk hyp hx h0)
  rw [allN_len] at this
  simpa using this
end KS.X
namespace KS.X
open PySem PySem.Spec PyProof.Rows L2 Mi KP KQ
variable {B S S' : ASt} {R : KP.Row} {sec : List Int} {rows : List KP.Row} {n n1 k k' : Nat} {w j : Int} {m : Bool} {b b3 : Int} {L L' : Loc} {x y z : Nd} {l : List Nd} {ls : List Lab}
theorem sum3 {f : KP.Row → Nat} {T : KP.Row} {t M : Nat} (ht : f T ≤ t) : ∀ {init : List KP.Row}, init.length ≤ 3 → T ∈ init → (∀ R ∈ init, f R ≤ M) → (init.map f).sum ≤ t + 2 * M
  | [], _, h, _ => by cases h
  | [a], _, h, hb => by
    have ha := hb a (by simp)
    simp at h
    subst h
    simp
    omega
  | [a, c], _, h, hb => by
    have ha := hb a (by simp)
    have hc := hb c (by simp)
    simp at h
    rcases h with rfl | rfl <;> simp <;> omega
  | [a, c, d], _, h, hb => by
    have ha := hb a (by simp)
    have hc := hb c (by simp)
    have hd := hb d (by simp)
    simp at h
    rcases h with rfl | rfl | rfl <;> simp <;> omega
  | a :: c :: d :: e :: r, h, _, _ => by simp at h
theorem sum3G {f : KP.Row → Nat} {T G : KP.Row} {t g M : Nat} (ht : f T ≤ t) (hg : f G ≤ g) (hne : G ≠ T) : ∀ {init : List KP.Row}, init.length ≤ 3 → T ∈ init → G ∈ init → (∀ R ∈ init, f R ≤ M) → (init.map f).sum ≤ t + g + M
  | [], _, h, _, _ => by cases h
  | [a], _, h, h2, hb => by
    simp at h h2
    exact absurd (h2.trans h.symm) hne
  | [a, c], _, h, h2, hb => by
    have ha := hb a (by simp)
    have hc := hb c (by simp)
    simp at h h2
    rcases h with rfl | rfl <;> rcases h2 with rfl | rfl <;> first | exact absurd rfl hne | (simp; omega)
  | [a, c, d], _, h, h2, hb => by
    have ha := hb a (by simp)
    have hc := hb c (by simp)
    have hd := hb d (by simp)
    simp at h h2
    rcases h with rfl | rfl | rfl <;> rcases h2 with rfl | rfl | rfl <;> first | exact absurd rfl hne | (simp; omega)
  | a :: c :: d :: e :: r, h, _, _, _ => by simp at h
theorem ent_le {τ : Nat} (hτ : τ = 2 ∨ τ = 3) (hg : Bool) (R : KP.Row) : (ent τ hg R).length ≤ 2 * τ ∧ (hg = false → (ent τ hg R).length ≤ τ) ∧ (isGet R = true → (ent τ hg R).length = τ) := by
  rcases hτ with rfl | rfl <;> cases hg <;> cases R <;> simp [ent, rks, isGet]
/-- what is looked for stands in a row of its own -/
def Tg (τ : Nat) (R : KP.Row) : Prop := (τ = 2 ∧ ∃ a b c, R = .load a b c) ∨ (τ = 3 ∧ ∃ a b c, R = .test a b c)
theorem pairs_len {τ : Nat} (hn : rows.length ≤ 4) (PO : PrOk sec rows) (hR : R ∈ rows) (hT : Tg τ R) : (rows.flatMap (ent τ (rows.any isGet))).length ≤ 9 := by
  have hτ : τ = 2 ∨ τ = 3 := by rcases hT with h | h <;> omega
  have hlo := PO.lo
  have hlast := PO.last
  rcases List.eq_nil_or_concat rows with e | ⟨init, last, e⟩
  · rw [e] at hlo; simp at hlo
  rw [List.concat_eq_append] at e
  have hl : last = .fin ∨ ∃ a, last = .jump a := hlast last (by rw [e]; simp)
  have hil : init.length ≤ 3 := by rw [e] at hn; simp at hn; omega
  have hz : (ent τ (rows.any isGet) last).length = 0 := by rcases hl with rfl | ⟨a, rfl⟩ <;> rfl
  have hRi : R ∈ init := by
    rw [e] at hR
    rcases List.mem_append.mp hR with h | h
    · exact h
    · simp at h
      rcases hT with ⟨_, a, c, d, h2⟩ | ⟨_, a, c, d, h2⟩ <;> rcases hl with rfl | ⟨a, rfl⟩ <;> rw [h2] at h <;> cases h
  have hsum : (rows.flatMap (ent τ (rows.any isGet))).length = (init.map fun R => (ent τ (rows.any isGet) R).length).sum := by
    generalize rows.any isGet = hg at *
    rw [e, List.length_flatMap, List.map_append, List.sum_append]
    simp [hz]
  rw [hsum]
  have ht : (ent τ (rows.any isGet) R).length ≤ if τ = 2 then 2 else 0 := by
    rcases hT with ⟨rfl, a, c, d, rfl⟩ | ⟨rfl, a, c, d, rfl⟩
    · simp [ent, rks]
    · simp [ent]
  cases hg : rows.any isGet with
  | false =>
    rw [hg] at ht
    have := sum3 (f := fun R => (ent τ false R).length) ht hil hRi fun R _ => (ent_le hτ false R).2.1 rfl
    rcases hτ with rfl | rfl <;> simp at this ⊢ <;> omega
  | true =>
    rw [hg] at ht
    obtain ⟨G, hG, hGg⟩ := List.any_eq_true.mp hg
    have hGi : G ∈ init := by
      rw [e] at hG
      rcases List.mem_append.mp hG with h | h
      · exact h
      · simp at h
        rw [h] at hGg
        rcases hl with rfl | ⟨a, rfl⟩ <;> cases hGg
    have hne : G ≠ R := fun h => by
      rw [h] at hGg
      rcases hT with ⟨_, a, c, d, h2⟩ | ⟨_, a, c, d, h2⟩ <;> rw [h2] at hGg <;> cases hGg
    have := sum3G (f := fun R => (ent τ true R).length) ht (Nat.le_of_eq ((ent_le hτ true G).2.2 hGg)) hne hil hRi hGi fun R _ => (ent_le hτ true R).1
    rcases hτ with rfl | rfl <;> simp at this ⊢ <;> omega
/-- a walk is a run with a bound, or a leak comes sooner -/
theorem walk_run (PO : PrOk sec rows) (hw : 0 ≤ w) (hb : arr b) (hb3 : arr b3) (h : Wk (Ed rows b m b3) x l y) : ∀ (S : ASt) (ls : List Lab) (j : Int), Pth sec rows (some w) ls S → S.place = x.p → Rl b m b3 x.k (S.v x.L) → (∀ d, S.depth = some d → d < j) → (∀ s a, (S.slot s).2.2 = some a → a < j) → 0 ≤ j → j + l.length ≤ w →
    HasLk sec rows (some w) ∨ ∃ ls' S', Pth sec rows (some w) ls' S' ∧ S'.place = y.p ∧ Rl b m b3 y.k (S'.v y.L) ∧ ∀ d, S'.depth = some d → d < w := by
  induction h with
  | nil =>
    intro S ls j hP hp hr hd ha hj hl
    refine .inr ⟨ls, S, hP, hp, hr, fun d e => ?_⟩
    have := hd d e
    simp at hl
    omega
  | @cons x x2 y l e h ih =>
    intro S ls j hP hp hr hd ha hj hl
    have hwv : ∀ v, (some w : Win) = some v → 0 ≤ v := fun v e => by cases e; exact hw
    obtain ⟨R, hrow, hN, hM⟩ := e
    have hS := pth_ok PO hwv hP
    have hR := PO.ok R (List.mem_of_getElem? hrow)
    rw [← hp] at hrow hN
    have hrT : KS.rowT rows S = R := by
      have := ok_row (n := 0) hS
      rw [hrow] at this
      exact (Option.some.inj this).symm
    simp only [List.length_cons] at hl
    rcases realize hS hR hd ha hj (by omega) hb hb3 hN hM hr with hlk | ⟨la, S', k1, k2, k3, k4, k5⟩
    · left
      refine ⟨ls, S, hP, ?_⟩
      unfold lkT
      rw [hrT]
      exact hlk
    · refine ih S' (ls ++ [la]) (j + 1) (.snoc hP ?_) k2 k3 k4 k5 (by omega) (by omega)
      unfold nextT
      rw [hrT]
      exact k1
end KS.X
namespace KS.X
open PySem PySem.Spec PyProof.Rows L2 Mi KP KQ
variable {B S S' C : ASt} {R : KP.Row} {sec : List Int} {rows : List KP.Row} {n n1 k k' : Nat} {w j : Int} {m : Bool} {b b3 : Int} {L L' : Loc} {x y z : Nd} {l : Lab} {ls : List Lab} {W : Win} {g : Int → Int}
theorem fence_out (hs : (l, S') ∈ stepsT .fence S W) : S.depth = none ∧ S'.depth = none ∧ (∀ s, (S'.slot s).2.2 = none) ∧ ∀ s, S'.v (.old s) = .zero := by
  obtain ⟨hc, hsh, c, hcm, e, hw⟩ := steps_case.1 hs
  have hd : S.depth = none := by
    have hc : S.depth.isNone = true := hc
    cases e : S.depth with
    | none => rfl
    | some d => rw [e] at hc; cases hc
  have hz : ∀ s, (gt (slotsT .fence S W) s slz).2 = (.zero, none) := fun s => by
    rw [gt_slots]
    split <;> rfl
  rcases hw with ⟨e1, e2⟩ | ⟨x, hx, _⟩
  · subst e2
    refine ⟨hd, ?_, fun s => ?_, fun s => ?_⟩
    · show deeperT S.depth W = none
      rw [hd]; rfl
    · rw [num_age, hz]
    · rw [num_v]
      show vk _ (gt (slotsT .fence S W) s slz).2.1 = _
      rw [hz]; rfl
  · cases hx
theorem rs_v (h : RS W g C S) : (∀ i, S.v (.reg i) = C.v (.reg i)) ∧ ∀ s, S.v (.pre s) = C.v (.pre s) := by
  have hk : ∀ {k : Kd}, (∀ n, k = .pub n → Kd.pub n ∈ C.regs ++ slKinds C.slots) → vk S.facts (gk g k) = vk C.facts k := fun {k} hm => by
    cases k with
    | zero => rfl
    | sec kn => rfl
    | pub n =>
      show Vw.pub (gt S.facts (g n) (none, none)) = Vw.pub _
      rw [h.f n (hm n rfl)]
  constructor
  · intro i
    show vk S.facts (S.reg i) = vk C.facts (C.reg i)
    rw [h.reg]
    exact hk old_reg
  · intro s
    show vk S.facts (gt S.slots s slz).1 = vk C.facts (gt C.slots s slz).1
    rw [h.p]
    exact hk (old_fst (S1 := C) (i := s))
theorem none_back (hs : (l, S') ∈ stepsT R S W) (hn : S'.depth = none) : S.depth = none := by
  obtain ⟨hc, hsh, c, hcm, e, hw⟩ := steps_case.1 hs
  rcases hw with ⟨e1, e2⟩ | ⟨x, hx, _, e2⟩
  · subst e2
    have hn : deeperT S.depth W = none := hn
    cases e : S.depth with
    | none => rfl
    | some d => rw [e] at hn; cases W <;> cases hn
  · subst e2
    have hn : openedT S.depth W = none := hn
    cases e : S.depth with
    | none => rfl
    | some d => rw [e] at hn; cases W <;> cases hn
theorem base (PO : PrOk sec rows) (hw : 0 ≤ w) (h : Pth sec rows none ls S) :
    (∃ B lsB, Pth sec rows (some w) lsB B ∧ B.depth = none ∧ (∀ s, (B.slot s).2.2 = none) ∧ Inv rows B S) ∧
    (S.depth = none → ∃ C lsC g, Pth sec rows (some w) lsC C ∧ RS none g C S ∧ C.depth = none ∧ C.place = S.place) := by
  have hwv : ∀ v, (some w : Win) = some v → 0 ≤ v := fun v e => by cases e; exact hw
  have hnv : ∀ v, (none : Win) = some v → 0 ≤ v := fun v e => by cases e
  induction h with
  | nil =>
    refine ⟨⟨_, [], .nil, rfl, fun s => ?_, Inv.start (fun L => .inl rfl) rfl⟩, fun _ => ⟨_, [], gid, .nil, RS.id _, rfl, rfl⟩⟩
    show (gt [slz, slz] s slz).2.2 = none
    have : gt [slz, slz] s slz = slz := by
      by_cases h0 : s = 0
      · subst h0; rfl
      · by_cases h1 : s = 1
        · subst h1; rfl
        · exact gt_out (by simp; omega)
    rw [this]; rfl
  | @snoc ls S S' la hp hs ih =>
    obtain ⟨⟨B, lsB, b1, b2, b3, b4⟩, ih2⟩ := ih
    have hS := pth_ok PO hnv hp
    have hrow := ok_row (n := 0) hS
    have hR : (KS.rowT rows S).ok rows.length := PO.ok _ (List.mem_of_getElem? hrow)
    have down : S'.depth = none → ∃ C C' lsC g, Pth sec rows (some w) lsC C ∧ (la, C') ∈ stepsT (KS.rowT rows S) C (some w) ∧ Pth sec rows (some w) (lsC ++ [la]) C' ∧ RS none g C' S' ∧ C'.depth = none ∧ C'.place = S'.place := fun hn => by
      have hd := none_back hs hn
      obtain ⟨C, lsC, g, c1, c2, c3, c4⟩ := ih2 hd
      have hC := pth_ok PO hwv c1
      obtain ⟨C', g', d1, d2, d3, d4, _⟩ := real_down (W1 := some w) (W2 := none) trivial c2 hC hS c3 hd c4 hs hn
      refine ⟨C, C', lsC, g', c1, d1, .snoc c1 ?_, d2, d3, d4⟩
      unfold nextT KS.rowT at *
      rw [c4]
      exact d1
    by_cases hf : KS.rowT rows S = .fence
    · have hs' := hs
      unfold nextT at hs'
      rw [hf] at hs'
      obtain ⟨f1, f2, f3, f4⟩ := fence_out hs'
      obtain ⟨C, C', lsC, g', d0, d1, d2, d3, d4, d5⟩ := down f2
      rw [hf] at d1
      obtain ⟨g1, g2, g3, g4⟩ := fence_out d1
      obtain ⟨v1, v2⟩ := rs_v d3
      refine ⟨⟨C', _, d2, d4, g3, Inv.start (fun L => ?_) d5.symm⟩, fun _ => ⟨C', _, g', d2, d3, d4, d5⟩⟩
      cases L with
      | reg i => exact .inl (v1 i)
      | pre s => exact .inl (v2 s)
      | old s => exact .inr (f4 s)
    · refine ⟨⟨B, lsB, b1, b2, b3, b4.step hS hrow hR hf hs⟩, fun hn => ?_⟩
      obtain ⟨C, C', lsC, g', d0, d1, d2, d3, d4, d5⟩ := down hn
      exact ⟨C', _, g', d2, d3, d4, d5⟩
theorem deep_ok {d : Option Int} (h : ∀ x, d = some x → x < w) : deepOk d (some w) = true := by
  cases d with
  | none => rfl
  | some x =>
    have := h x rfl
    show decide (x < w) = true
    rw [decide_eq_true_eq]; omega
/-- the window 39 is wide enough -/
theorem lk_39 (PO : PrOk sec rows) (hn : rows.length ≤ 4) (h : HasLk sec rows none) : HasLk sec rows (some 39) := by
  obtain ⟨ls, S, hP, hlk⟩ := h
  have hnv : ∀ v, (none : Win) = some v → 0 ≤ v := fun v e => by cases e
  have hwv : ∀ v, (some 39 : Win) = some v → 0 ≤ v := fun v e => by cases e; decide
  obtain ⟨⟨B, lsB, q1, q2, q3, q4⟩, _⟩ := base (w := 39) PO (by decide) hP
  have hS := pth_ok PO hnv hP
  have hB := pth_ok PO hwv q1
  have hrow := ok_row (n := 0) hS
  have hin := List.mem_of_getElem? hrow
  have hR : (KS.rowT rows S).ok rows.length := PO.ok _ hin
  have go : ∀ {τ : Nat} {L : Loc} {b : Int} {m : Bool} {b3 : Int}, arr b → arr b3 → Tg τ (KS.rowT rows S) → L.sl = false → Rc rows B b m b3 ⟨τ, S.place, L⟩ →
      (∀ S' : ASt, Rl b m b3 τ (S'.v L) → (∀ d, S'.depth = some d → d < 39) → leakT (KS.rowT rows S) S' (some 39) = true) → HasLk sec rows (some 39) := fun {τ L b m b3} hb hb3 hT hL hRc hend => by
    have hτ : τ = 2 ∨ τ = 3 := by rcases hT with h | h <;> omega
    obtain ⟨x, l, hx, hwk⟩ := hRc.walk
    have hx0 : 0 ≤ x.p := by rw [hx.1]; exact hB.p0
    obtain ⟨l', hwk', hlen⟩ := short_walk (P := (x.k, x.L) :: rows.flatMap (ent τ (rows.any isGet))) hτ PO.ok (fun R hR q hq => List.mem_cons_of_mem _ (List.mem_flatMap.mpr ⟨R, hR, hq⟩)) hwk hL rfl (by show S.place < _; exact hS.p1) List.mem_cons_self hx0
    have hpl := pairs_len hn PO hin hT
    have hl39 : l'.length ≤ 39 := by
      have h1 : ((x.k, x.L) :: rows.flatMap (ent τ (rows.any isGet))).length * rows.length ≤ 10 * 4 := Nat.mul_le_mul (by simp only [List.length_cons]; omega) hn
      omega
    rcases walk_run (w := 39) PO (by decide) hb hb3 hwk' B lsB 0 q1 hx.1.symm hx.2 (fun d e => by rw [q2] at e; cases e) (fun s a e => by rw [q3] at e; cases e) (Int.le_refl _) (by omega) with h | ⟨ls', S', k1, k2, k3, k4⟩
    · exact h
    · refine ⟨ls', S', k1, ?_⟩
      unfold lkT
      have e : KS.rowT rows S' = KS.rowT rows S := by
        unfold KS.rowT
        rw [k2]
      rw [e]
      exact hend S' k3 k4
  unfold lkT leakT at hlk
  rw [Bool.and_eq_true] at hlk
  have hsh := hlk.2
  generalize hRr : KS.rowT rows S = R at *
  cases R with
  | load a b c =>
    have hsh : (S.reg c).isSec = true := hsh
    cases hr : S.reg c with
    | zero => rw [hr] at hsh; cases hsh
    | pub n => rw [hr] at hsh; cases hsh
    | sec kn =>
      obtain ⟨b', m, hb, hi⟩ := q4.i2 0 (.reg c) kn (by show vk S.facts (S.reg c) = _; rw [hr]; rfl)
      refine go hb (.inl rfl) (.inl ⟨rfl, a, b, c, rfl⟩) rfl hi fun S' h1 h2 => ?_
      unfold leakT
      rw [Bool.and_eq_true]
      refine ⟨deep_ok h2, ?_⟩
      show (S'.reg c).isSec = true
      have hv : S'.v (.reg c) = vk S'.facts (S'.reg c) := rfl
      cases hq : S'.reg c with
      | zero => rw [hv, hq] at h1; exact h1.elim
      | pub n => rw [hv, hq] at h1; exact h1.elim
      | sec kn => rfl
  | test a b c =>
    have hsh : (match S.reg a with | .sec kn => !decide (b ∈ kn) | _ => false) = true := hsh
    cases hr : S.reg a with
    | zero => rw [hr] at hsh; cases hsh
    | pub n => rw [hr] at hsh; cases hsh
    | sec kn =>
      rw [hr] at hsh
      have hbk : b ∉ kn := by simpa using hsh
      have hba : arr b := asks_arr (R := .test a b c) hR rfl
      obtain ⟨b', m, hb, hi⟩ := q4.i3 b (.reg a) kn hba (by show vk S.facts (S.reg a) = _; rw [hr]; rfl) hbk
      refine go hb hba (.inr ⟨rfl, a, b, c, rfl⟩) rfl hi fun S' h1 h2 => ?_
      unfold leakT
      rw [Bool.and_eq_true]
      refine ⟨deep_ok h2, ?_⟩
      show (match S'.reg a with | .sec kn => !decide (b ∈ kn) | _ => false) = true
      have hv : S'.v (.reg a) = vk S'.facts (S'.reg a) := rfl
      cases hq : S'.reg a with
      | zero => rw [hv, hq] at h1; exact h1.elim
      | pub n => rw [hv, hq] at h1; exact h1.elim
      | sec kn' =>
        rw [hv, hq] at h1
        have h1 : b ∉ kn' := h1
        simpa using h1
  | _ => cases hsh
end KS.X
namespace K16
open PySem PySem.Spec PyProof.Rows L2 Mi KP KS KQ KR
variable {PP : Program} {ww : World} {st : Sx} {Pd : D → Sx → Prop} {Px : Str → Sx → Prop} {sec : List Int} {rows : List KP.Row} {w : Win}
def ktD (Us : List ASt) : List (D × D) := Us.map fun S => (S.d, .bl true)
theorem kt_get (S : ASt) : ∀ Us : List ASt, (getN (ktD Us) S.nk).isSome = decide (S ∈ Us)
  | [] => rfl
  | T :: Us => by
    have ih := kt_get S Us
    unfold ktD at ih ⊢
    rw [List.map_cons]
    unfold getN
    rw [st_nk]
    by_cases h : T = S
    · subst h
      simp
    · have hn : ¬ (some T.nk = some S.nk) := fun e => h (stnk_inj (Option.some.inj e))
      rw [if_neg hn, ih]
      have h' : ¬ S = T := fun e => h e.symm
      simp [h']
theorem kt_put {Us : List ASt} {S : ASt} (h : S ∉ Us) : putN (ktD Us) S.d (.bl true) S.nk = ktD (Us ++ [S]) := by
  have e := kt_get S Us
  rw [decide_eq_false h] at e
  unfold putN
  rw [if_neg (by rw [e]; exact Bool.false_ne_true)]
  simp [ktD]
def e_mn (sec : List Int) (rows : List KP.Row) (w : Win) (ma ka : Addr) (x4 x5 x6 : Option D) : E := [some (progD' (.kt (sec.map .int)) rows), some (oiD w), some (.adr ma), some (.adr ka), x4, x5, x6]
noncomputable abbrev w_mi (PP : Program) (ww : World) : WS := wsIf (wtOf (wInN PP ww true (wHid (eVar 6)) (wHid (eVar 3)))) (wsSeq (wsPutN PP ww (wHid (eVar 3)) (wHid (eVar 6)) (wHid (eC (.bl true))))
  (wsApp (wHid (eVar 2)) (wHid (eVar 6)))) (wsNext)
theorem many_in {ma ka : Addr} {x4 : Option D} (hne : ma ≠ ka) {Q : WOut → Prop} : ∀ (ts : List (Lab × ASt)) (Us : List ASt) (st : Sx) (x5 x6 : Option D), st ma = some (.l (Us.map ASt.d)) → st ka = some (.n PP ww ka (ktD Us)) → Us.length + ts.length < 90000 →
    (∀ (Vs : List ASt) (st' : Sx) (x5 x6 : Option D), st' ma = some (.l ((Us ++ Vs).map ASt.d)) → st' ka = some (.n PP ww ka (ktD (Us ++ Vs))) → Vs.length ≤ ts.length → (∀ p ∈ ts, p.2 ∈ Us ++ Vs) → (∀ V ∈ Vs, ∃ p ∈ ts, p.2 = V) → Q (.nx (e_mn sec rows w ma ka x4 x5 x6) st')) →
    forW (gT (gsC (gN 5) (gsC (gN 6) (gsN)))) (w_mi PP ww) (ts.map stepD) (e_mn sec rows w ma ka x4 x5 x6) st Q
  | [], Us, st, x5, x6, hm, hk, hl, hQ => hQ [] st x5 x6 (by simpa using hm) (by simpa using hk) (by simp) (by simp) (by simp)
  | (l, T) :: ts, Us, st, x5, x6, hm, hk, hl, hQ => by
    have hg := kt_get T Us
    refine ⟨[(5, labD l), (6, T.d)], rfl, ?_⟩
    refine ⟨T.d, rfl, .adr ka, rfl, ka, _, T.nk, rfl, hk, st_isN T, _, rfl, ?_⟩
    rw [hg]
    have hl' : Us.length + (ts.length + 1) < 90000 := by simpa using hl
    by_cases hT : T ∈ Us
    · rw [decide_eq_true hT]
      refine many_in hne ts Us st _ _ hm hk (by omega) fun Vs st' x5 x6 a1 a2 a3 a4 a5 => ?_
      refine hQ Vs st' x5 x6 a1 a2 (by simp; omega) (fun p hp => ?_) (fun V hV => ?_)
      · rcases List.mem_cons.mp hp with rfl | hp
        · exact List.mem_append_left _ hT
        · exact a4 p hp
      · obtain ⟨p, hp, e⟩ := a5 V hV
        exact ⟨p, List.mem_cons_of_mem _ hp, e⟩
    · rw [decide_eq_false hT]
      refine ⟨.bl true, rfl, .adr ka, rfl, T.d, rfl, ka, _, T.nk, rfl, hk, st_isN T, by simp [ktD]; omega, ?_⟩
      rw [kt_put hT]
      have hm2 : (sxU st ka (.n PP ww ka (ktD (Us ++ [T])))) ma = some (.l (Us.map ASt.d)) := by rw [sxU_ne hne]; exact hm
      refine ⟨.adr ma, rfl, isLc_l hm2, T.d, rfl, _, appW_l hm2 (by simp; omega), ?_⟩
      have e1 : (sxU (sxU st ka (.n PP ww ka (ktD (Us ++ [T])))) ma (.l (Us.map ASt.d ++ [T.d]))) ma = some (.l ((Us ++ [T]).map ASt.d)) := by rw [sxU_same]; simp
      have e2 : (sxU (sxU st ka (.n PP ww ka (ktD (Us ++ [T])))) ma (.l (Us.map ASt.d ++ [T.d]))) ka = some (.n PP ww ka (ktD (Us ++ [T]))) := by rw [sxU_ne (Ne.symm hne), sxU_same]
      refine many_in hne ts (Us ++ [T]) _ _ _ e1 e2 (by simp; omega) fun Vs st' x5 x6 a1 a2 a3 a4 a5 => ?_
      refine hQ (T :: Vs) st' x5 x6 (by simpa using a1) (by simpa using a2) (by simp; omega) (fun p hp => ?_) (fun V hV => ?_)
      · rcases List.mem_cons.mp hp with rfl | hp
        · simp
        · simpa using a4 p hp
      · rcases List.mem_cons.mp hV with rfl | hV
        · exact ⟨(l, V), by simp, rfl⟩
        · obtain ⟨p, hp, e⟩ := a5 V hV
          exact ⟨p, List.mem_cons_of_mem _ hp, e⟩
noncomputable abbrev w_mo (PP : Program) (ww : World) : WS := (wsSeq (wsIf (wtV (fOr (tB (e2 dGe (eVar 4) (eA (g1 dLen) (aCons (eVar 2) (aNil))))) (tB (e2 dGt (eA (g1 dLen) (aCons (eVar 2) (aNil))) (eC (.int 600)))))) (wsRet (wView (e2 dGt (eA (g1 dLen) (aCons (eVar 2) (aNil))) (eC (.int 600))))) (wsNext))
  (wsForI (wiSeq (wApp m_steps (waCons (wHid (eVar 0)) (waCons (wSub (wHid (eVar 2)) (wHid (eVar 4))) (waCons (wHid (eVar 1)) (waNil)))))) (gT (gsC (gN 5) (gsC (gN 6) (gsN)))) (w_mi PP ww)))
theorem cases_two' (R : KP.Row) (S : ASt) : (casesT R S).length ≤ 2 := by
  unfold casesT
  split
  · simp
  · split
    · simp
    · simp
    · split <;> simp
theorem case_two (R : KP.Row) (S : ASt) (w : Win) (c : Bool × Option (Int × Bool) × List Fc) : (caseT R S w c).length ≤ 2 := by
  unfold caseT
  split <;> simp
theorem steps_four (R : KP.Row) (S : ASt) (w : Win) : (stepsT R S w).length ≤ 4 := by
  unfold stepsT
  split
  · have h1 := cases_two' R S
    have h2 : ∀ l : List (Bool × Option (Int × Bool) × List Fc), (l.flatMap (caseT R S w)).length ≤ 2 * l.length := fun l => by
      induction l with
      | nil => simp
      | cons c l ih =>
        have := case_two R S w c
        rw [List.flatMap_cons, List.length_append, List.length_cons]
        omega
    have := h2 (casesT R S)
    omega
  · simp
theorem see_L {ma : Addr} {Us : List ASt} (hm : st ma = some (.l (Us.map ASt.d))) : see 7 st (.adr ma) = .lst (Us.map ASt.d) := by
  rw [seeL hm, List.map_map]
  congr 1
/-- what is told is right where some search met too many -/
def ManyB (sec : List Int) (rows : List KP.Row) (w : Win) (b : Bool) : Prop := ∀ M, Valid sec rows w M → 600 < M.length → b = true
theorem many_out {ma ka : Addr} {Q : WOut → Prop} (hne : ma ≠ ka) (PO : PrOk sec rows) (hw : ∀ v, w = some v → 0 ≤ v) (hQr : ∀ b st', ManyB sec rows w b → Q (.rt (.bl b) st')) (hQn : ∀ (Us : List ASt) st' x4 x5 x6, st' ma = some (.l (Us.map ASt.d)) → 600 < Us.length → Q (.nx (e_mn sec rows w ma ka x4 x5 x6) st')) :
    ∀ (n i : Nat) (Us : List ASt) (st : Sx) (x4 x5 x6 : Option D), i + n = 601 → i ≤ Us.length → Us.length ≤ 700 → st ma = some (.l (Us.map ASt.d)) → st ka = some (.n PP ww ka (ktD Us)) → firstT sec ∈ Us → (∀ j, j < i → ∀ S, Us[j]? = some S → ∀ p ∈ nextT rows w S, p.2 ∈ Us) → (∀ U ∈ Us, U.ok rows.length w) →
    forW (gN 4) (w_mo PP ww) ((List.range' i n).map fun j : Nat => D.int (0 + (j : Int))) (e_mn sec rows w ma ka x4 x5 x6) st Q := by
  intro n
  induction n with
  | zero =>
    intro i Us st x4 x5 x6 hi hU h7 hm hk h1 hd hok
    exact hQn Us st x4 x5 x6 hm (by omega)
  | succ n ih =>
    intro i Us st x4 x5 x6 hi hU h7 hm hk h1 hd hok
    have hs := see_L hm
    rw [List.range'_succ, List.map_cons]
    refine ⟨[(4, .int (0 + (i : Int)))], rfl, ?_⟩
    have h0 : (0 : Int) + (i : Int) = i := by omega
    rw [h0]
    by_cases hq : Us.length ≤ i ∨ 600 < Us.length
    · have hB : ManyB sec rows w (decide ((600 : Int) < Us.length)) := fun M hV h6 => by
        refine decide_eq_true ?_
        rcases hq with hq | hq
        · have hsub : ∀ S ∈ fsts M, S ∈ Us := by
            have cl : ∀ S ∈ Us, ∀ p ∈ nextT rows w S, p.2 ∈ Us := fun S hS => by
              obtain ⟨j, hj, e⟩ := List.getElem_of_mem hS
              exact hd j (by omega) S (by rw [List.getElem?_eq_getElem hj, e])
            clear h6
            induction hV with
            | one => intro S hS; simp [fsts] at hS; rw [hS]; exact h1
            | @add M S T l hV hS hl hn ih2 =>
              intro U hU
              rw [fsts_app] at hU
              rcases List.mem_append.mp hU with hU | hU
              · exact ih2 U hU
              · simp at hU
                subst hU
                exact cl S (ih2 S hS) (l, U) hl
          have := List.Nodup.length_le_of_subset hV.nodup hsub
          simp at this
          omega
        · omega
      refine ⟨true, ?_, ?_⟩
      · by_cases hq2 : (Us.length : Int) ≤ i
        · simp [e_mn, hs, hq2]
        · have h600' : (600 : Int) < Us.length := by
            rcases hq with hq | hq <;> omega
          simp [e_mn, hs, hq2, h600']
      · refine ⟨.bl (decide ((600 : Int) < Us.length)), ?_, rfl, hQr _ _ hB⟩
        simp [e_mn, hs]
    · have hq1 : i < Us.length := by omega
      have hq2 : ¬ 600 < Us.length := by omega
      refine ⟨false, ?_, ?_⟩
      · have c1 : ¬ (Us.length : Int) ≤ i := by omega
        have c2 : ¬ (600 : Int) < Us.length := by omega
        simp [e_mn, hs, c1, c2]
      have hS : Us[i] ∈ Us := List.getElem_mem hq1
      have hSok := hok _ hS
      have hrow := ok_row (n := 0) hSok
      have hRok : (KS.rowT rows Us[i]).ok rows.length := PO.ok _ (List.mem_of_getElem? hrow)
      have s4 := steps_ok (sec := .kt (sec.map .int)) hw hSok hRok hrow
      have hix : subW st (.adr ma) (.int (i : Int)) = some (Us[i]).d := by
        rw [subW_l hm, atN (xs := Us.map ASt.d) (j := i) (by simpa using hq1), List.getElem?_map, List.getElem?_eq_getElem hq1]
        rfl
      refine ⟨progD' (.kt (sec.map .int)) rows, rfl, .adr ma, rfl, .int (i : Int), rfl, (Us[i]).d, hix, oiD w, rfl, .lst ((stepsT (KS.rowT rows Us[i]) Us[i] w).map stepD), s4, _, rfl, ?_⟩
      have h4 := steps_four (KS.rowT rows Us[i]) Us[i] w
      refine many_in hne (nextT rows w Us[i]) Us st x5 x6 hm hk (by unfold KS.nextT; omega) fun Vs st' x5 x6 a1 a2 a3 a4 a5 => ?_
      refine ih (i + 1) (Us ++ Vs) st' _ _ _ (by omega) (by simp; omega) (by unfold KS.nextT at a3; simp; omega) a1 a2 (List.mem_append_left _ h1) (fun j hj S e p hp => ?_) (fun U hU' => ?_)
      · rw [List.getElem?_append_left (by omega)] at e
        by_cases hji : j = i
        · subst hji
          rw [List.getElem?_eq_getElem hq1] at e
          cases e
          exact a4 p hp
        · exact List.mem_append_left _ (hd j (by omega) S e p hp)
      · rcases List.mem_append.mp hU' with h | h
        · exact hok U h
        · obtain ⟨p, hp, rfl⟩ := a5 U h
          exact steps_inv PO hw hSok hrow p hp
theorem rng601 {ρ : E} : fRng1 (aCons (eC (.int 601)) (aNil)) ρ = some ((List.range' 0 601).map fun j : Nat => D.int (0 + (j : Int))) := by
  rw [v_rng1, show (aCons (eC (.int 601)) (aNil)) ρ = some [.int 601] by simp, Option.bind_some]
  simp only []
  rw [if_pos ⟨by decide, by decide⟩, ← List.range_eq_range']
  rfl
theorem many_gen (PO : PrOk sec rows) (hw : ∀ v, w = some v → 0 ≤ v) (hT : ∀ b st', ManyB sec rows w b → Pd (.bl b) st') : wf_law_many PP ww [progD' (.kt (sec.map .int)) rows, oiD w] st Pd Px := by
  have f1 := first_okK (sec := sec) (rows := rows)
  have hS : (firstT sec).ok rows.length w := first_inv PO.lo
  refine ⟨rfl, .l [(firstT sec).d], by simp [f1], fun ma hma => ?_⟩
  refine fun ka hka => ?_
  have hne : ma ≠ ka := fun z => by rw [← z, sxU_same] at hka; cases hka
  have hm1 : (sxU (sxU st ma (.l [(firstT sec).d])) ka (.n PP ww ka [])) ma = some (.l [(firstT sec).d]) := by rw [sxU_ne hne, sxU_same]
  have hix : subW (sxU (sxU st ma (.l [(firstT sec).d])) ka (.n PP ww ka [])) (.adr ma) (.int 0) = some (firstT sec).d := by
    rw [subW_l hm1]
    rfl
  refine ⟨.adr ma, rfl, .int 0, rfl, (firstT sec).d, hix, .bl true, rfl, (firstT sec).nk, st_isN _, sxU_same, ?_⟩
  rw [sxU_sxU]
  refine ⟨_, rng601, ?_⟩
  have hm2 : (sxU (sxU st ma (.l [(firstT sec).d])) ka (.n PP ww ka [((firstT sec).d, .bl true)])) ma = some (.l ([firstT sec].map ASt.d)) := by rw [sxU_ne hne, sxU_same]; rfl
  refine many_out (w := w) hne PO hw (fun b st' => hT b st') (fun Us st' x4 x5 x6 hm h => ?_) 601 0 [firstT sec] _ none none none rfl (by simp) (by simp) hm2 sxU_same (by simp) (fun j hj => by omega) (fun U hU => by simp at hU; subst hU; exact hS)
  have hs := see_L hm
  have h' : (600 : Int) < Us.length := by omega
  exact ⟨.bl true, by simp [e_mn, hs, h'], rfl, hT _ _ fun _ _ _ => rfl⟩
end K16
namespace K16
open PySem PySem.Spec PyProof.Rows L2 Mi KP KS KQ KR KS.X
variable {PP : Program} {ww : World} {L : D} {st : Sx} {t : Addr} {Pd : D → Sx → Prop} {Px : Str → Sx → Prop} {sec : List Int} {rows : List KP.Row} {w : Win} {M : Met}
theorem if_true_s {a b : Prop} (h : a) : if true = true then a else b := h
theorem if_false_s {a b : Prop} (h : b) : if false = true then a else b := by rw [if_neg (by simp)]; exact h
abbrev prg (sec : List Int) (rows : List KP.Row) : D := progD' (.kt (sec.map .int)) rows
theorem just_no {Us : List ASt} (h : Just rows sec w Us) : ¬ HasLk sec rows w := by
  rintro ⟨ls, S, hP, hlk⟩
  have : ∀ {ls : List Lab} {S : ASt}, Pth sec rows w ls S → S ∈ Us := by
    intro ls S hP
    induction hP with
    | nil => exact h.1
    | snoc hP hs ih => exact (h.2.2 _ ih).2 _ hs
  have h1 := (h.2.2 S (this hP)).1
  rw [h1] at hlk
  cases hlk
inductive Wd where
  | leak | many | table
deriving DecidableEq
def Wd.s : Wd → Str
  | .leak => "leak"
  | .many => "many"
  | .table => "table"
def wdR : Res → Wd
  | .leak _ _ => .leak
  | .many _ => .many
  | .table _ => .table
abbrev wd (sec : List Int) (rows : List KP.Row) (w : Win) : Wd := wdR (searchR sec rows w)
def Big (sec : List Int) (rows : List KP.Row) (w : Win) : Prop := ∃ M, Valid sec rows w M ∧ 600 < M.length
/-- what the word of a search says -/
structure Says (sec : List Int) (rows : List KP.Row) (w : Win) : Prop where
  leak : wd sec rows w = .leak → HasLk sec rows w
  table : wd sec rows w = .table → ¬ HasLk sec rows w
  many : wd sec rows w = .many → Big sec rows w
theorem word_ok (PO : PrOk sec rows) (hw : ∀ v, w = some v → 0 ≤ v) (hw1 : ∀ v, w = some v → v ≤ 100) (hT : ∀ st' x, Says sec rows w → Pd (.tup [.str (wd sec rows w).s, x]) st') : wf_search PP ww [progD' (.kt (sec.map .int)) rows, oiD w] st Pd Px := by
  refine search_okR (w := w) PO PO.lo PO.hi hw hw1 (fun d st' hF hE => ?_) fun M st' hr hV hM hk hd hE => ?_
  · have hT' := hT st'
    have hs : ∀ r, searchR sec rows w = r → Says sec rows w → True := fun _ _ _ => trivial
    generalize hres : searchR sec rows w = r at hF
    cases hF with
    | @leak M S ls hV hS hlk hP hls h6 =>
      have e : wd sec rows w = .leak := by unfold wd; rw [hres]; rfl
      have := hT' (.lst (ls.map labD)) ⟨fun _ => ⟨_, _, hP, hlk⟩, fun z => by (rw [e] at z; cases z), fun z => by (rw [e] at z; cases z)⟩
      rw [e] at this
      exact this
    | many hV h6 =>
      have e : wd sec rows w = .many := by unfold wd; rw [hres]; rfl
      have := hT' (.tup []) ⟨fun z => by (rw [e] at z; cases z), fun z => by (rw [e] at z; cases z), fun _ => ⟨_, hV, h6⟩⟩
      rw [e] at this
      exact this
  · have e : wd sec rows w = .table := by unfold wd; rw [hr]; rfl
    have := hT st' (.lst (sortTx (M.map fun m => m.1.d))) ⟨fun z => by (rw [e] at z; cases z), fun _ => just_no (just_found PO hw hw1 hV hk hd), fun z => by (rw [e] at z; cases z)⟩
    rw [e] at this
    exact this
def accW : Wd → D
  | .leak => .bl false
  | .many => .non
  | .table => .bl true
theorem accept_ok (PO : PrOk sec rows) (hw : ∀ v, w = some v → 0 ≤ v) (hw1 : ∀ v, w = some v → v ≤ 100) (hT : ∀ st', Says sec rows w → Pd (accW (wd sec rows w)) st') : wf_is_accepted PP ww [progD' (.kt (sec.map .int)) rows, oiD w] st Pd Px := by
  refine ⟨rfl, progD' (.kt (sec.map .int)) rows, rfl, oiD w, rfl, ?_⟩
  refine word_ok PO hw hw1 fun st' x hs => ?_
  have hT' := hT st' hs
  generalize wd sec rows w = q at *
  cases q with
  | leak => exact ⟨.int 0, rfl, .str "leak", rfl, .bl false, rfl, hT'⟩
  | many => exact ⟨.int 0, rfl, .str "many", rfl, .non, rfl, hT'⟩
  | table => exact ⟨.int 0, rfl, .str "table", rfl, .bl true, rfl, hT'⟩
def e_w (sec : List Int) (rows : List KP.Row) (x : Wd) (i : Int) : E := [some (prg sec rows), some (.str x.s), some (.int i)]
noncomputable abbrev b_w (P : Program) (w : World) : WS := (wsSeq (wsAsg 1 (wSub (wCall0 (wf_search P w) (waCons (wHid (eVar 0)) (waCons (wHid (eVar 2)) (waNil)))) (wHid (eC (.int 0)))))
  (wsSeq (wsIf (wtV (Mi.tB (e2 dEq (eVar 1) (eC (.str "leak"))))) (wsRet (wHid (eVar 2))) (wsNext))
  (wsAugV dAddI 2 (wHid (eC (.int 1))))))
theorem says_39 (PO : PrOk sec rows) (hn : rows.length ≤ 4) (h : HasLk sec rows none) {i : Int} (hi : ∀ v, 0 ≤ v → v < i → ¬ HasLk sec rows (some v)) : i ≤ 39 := by
  refine Classical.byContradiction fun hc => ?_
  exact hi 39 (by decide) (by omega) (lk_39 PO hn h)
theorem lw_loop (PO : PrOk sec rows) (hn : rows.length ≤ 4) (h : HasLk sec rows none) {Q : WOut → Prop}
    (hL : ∀ i st', 0 ≤ i → (∀ v, 0 ≤ v → v < i → ¬ HasLk sec rows (some v)) → HasLk sec rows (some i) → Q (.rt (.int i) st'))
    (hM : ∀ st' i j, 0 ≤ j → j < 40 → Big sec rows (some j) → Q (.nx (e_w sec rows .many i) st')) :
    ∀ (fuel : Nat) (i : Int) (x : Wd) (st : Sx), (x = .many → ∃ j, 0 ≤ j ∧ j < 40 ∧ Big sec rows (some j)) → (x ≠ .many → ∀ v, 0 ≤ v → v < i → ¬ HasLk sec rows (some v)) → 0 ≤ i → i ≤ 40 → i + fuel = 42 →
      whW (wtV (Mi.tB (e2 dNeS (eVar 1) (eC (.str "many"))))) (b_w PP ww) fuel (e_w sec rows x i) st Q
  | 0, i, x, st, h1, h2, h3, h4, h5 => by omega
  | fuel + 1, i, x, st, h1, h2, h3, h4, h5 => by
    by_cases hx : x = .many
    · subst hx
      obtain ⟨j, j0, j1, hj⟩ := h1 rfl
      exact ⟨false, rfl, if_false_s (hM st i j j0 j1 hj)⟩
    · have hi := says_39 PO hn h (h2 hx)
      refine ⟨true, by cases x <;> first | rfl | exact absurd rfl hx, if_true_s ?_⟩
      refine ⟨prg sec rows, rfl, .int i, rfl, ?_⟩
      refine word_ok (w := some i) PO (fun v e => by cases e; exact h3) (fun v e => by cases e; omega) fun st' y hs => ?_
      have ih := lw_loop PO hn h hL hM fuel (i + 1)
      cases hq : wd sec rows (some i) with
      | leak =>
        refine ⟨.int 0, rfl, .str "leak", rfl, true, rfl, if_true_s ⟨.int i, rfl, hL i st' h3 (h2 hx) (hs.leak hq)⟩⟩
      | many =>
        refine ⟨.int 0, rfl, .str "many", rfl, false, rfl, if_false_s ?_⟩
        exact ⟨.int i, rfl, .int 1, rfl, .int (i + 1), rfl, ih .many st' (fun _ => ⟨i, h3, by omega, hs.many hq⟩) (fun z => absurd rfl z) (by omega) (by omega) (by omega)⟩
      | table =>
        refine ⟨.int 0, rfl, .str "table", rfl, false, rfl, if_false_s ?_⟩
        refine ⟨.int i, rfl, .int 1, rfl, .int (i + 1), rfl, ih .table st' (fun z => by cases z) (fun _ v v0 v1 => ?_) (by omega) (by omega) (by omega)⟩
        by_cases e : v = i
        · subst e; exact hs.table hq
        · exact h2 hx v v0 (by omega)
/-- what least_window tells -/
structure Least (sec : List Int) (rows : List KP.Row) (d : D) : Prop where
  fine : wd sec rows none = .table → d = .non
  many : wd sec rows none = .many → d = .int (-1)
  leak : wd sec rows none = .leak → (d = .int (-1) ∧ ∃ j, 0 ≤ j ∧ j < 40 ∧ Big sec rows (some j)) ∨ ∃ i, d = .int i ∧ 0 ≤ i ∧ (∀ v, 0 ≤ v → v < i → ¬ HasLk sec rows (some v)) ∧ HasLk sec rows (some i)
theorem least_ok (PO : PrOk sec rows) (hn : rows.length ≤ 4) (hT : ∀ st' d, Least sec rows d → Says sec rows none → Pd d st') : wf_least_window PP ww [prg sec rows] st Pd Px := by
  refine ⟨rfl, prg sec rows, rfl, .non, rfl, ?_⟩
  refine word_ok (w := none) PO (fun v e => by cases e) (fun v e => by cases e) fun st' y hs => ?_
  cases hq : wd sec rows none with
  | table =>
    refine ⟨.int 0, rfl, .str "table", rfl, true, rfl, if_true_s ⟨.non, rfl, hT st' _ ⟨fun _ => rfl, fun z => by (rw [hq] at z; cases z), fun z => by (rw [hq] at z; cases z)⟩ hs⟩⟩
  | many =>
    refine ⟨.int 0, rfl, .str "many", rfl, false, rfl, if_false_s ?_⟩
    refine ⟨.int 0, rfl, 1, false, rfl, if_false_s ?_⟩
    exact ⟨.int (-1), rfl, hT st' _ ⟨fun z => by (rw [hq] at z; cases z), fun _ => rfl, fun z => by (rw [hq] at z; cases z)⟩ hs⟩
  | leak =>
    refine ⟨.int 0, rfl, .str "leak", rfl, false, rfl, if_false_s ?_⟩
    refine ⟨.int 0, rfl, 42, ?_⟩
    refine lw_loop PO hn (hs.leak hq) (fun i st2 i0 h1 h2 => ?_) (fun st2 i j j0 j1 hj => ?_) 42 0 .leak st' (fun z => by cases z) (fun _ v v0 v1 => by omega) (by decide) (by decide) (by decide)
    · exact hT st2 _ ⟨fun z => by (rw [hq] at z; cases z), fun z => by (rw [hq] at z; cases z), fun _ => .inr ⟨i, rfl, i0, h1, h2⟩⟩ hs
    · exact ⟨.int (-1), rfl, hT st2 _ ⟨fun z => by (rw [hq] at z; cases z), fun _ => rfl, fun _ => .inl ⟨rfl, j, j0, j1, hj⟩⟩ hs⟩
def e_lw (sec : List Int) (rows : List KP.Row) (x0 x1 : Option D) (le fr : D) (x5 x6 : Option D) : E := [x0, x1, some (prg sec rows), some le, some fr, x5, x6]
theorem big_b {b : Bool} (h : Big sec rows w) (hb : ManyB sec rows w b) : b = true := by
  obtain ⟨M, h1, h2⟩ := h
  exact hb M h1 h2
theorem many_list (PO : PrOk sec rows) {x0 x1 x5 x6 : Option D} {le fr : D} {j : Int} (hj : Big sec rows (some j)) {Q : List D → Sx → Prop} : ∀ (vs : List Int) (acc : List Int) (st : Sx), (∀ v ∈ vs, 0 ≤ v) → (j ∈ vs ∨ acc ≠ []) → (∀ (ys : List Int) st', ys ≠ [] → ys.length ≤ acc.length + vs.length → Q (ys.map .int) st') →
    lcSF (gN 5) (wtOf (wCall0 (wf_law_many PP ww) (waCons (wHid (eVar 2)) (waCons (wHid (eVar 5)) (waNil))))) (wHid (eVar 5)) (e_lw sec rows x0 x1 le fr x5 x6) (vs.map .int) (acc.map .int) st Q
  | [], acc, st, _, h, hQ => by
    refine hQ acc st ?_ (by simp)
    rcases h with h | h
    · cases h
    · exact h
  | v :: vs, acc, st, h0, h, hQ => by
    have hv := h0 v (by simp)
    refine ⟨[(5, .int v)], rfl, ?_⟩
    refine ⟨prg sec rows, rfl, .int v, rfl, many_gen (w := some v) PO (fun u e => by cases e; exact hv) fun b st' hb => ?_⟩
    refine ⟨b, rfl, ?_⟩
    cases b with
    | true =>
      refine if_true_s ⟨.int v, rfl, ?_⟩
      have ih := many_list PO (x0 := x0) (x1 := x1) (x5 := x5) (x6 := x6) (le := le) (fr := fr) hj vs (acc ++ [v]) st' (fun u hu => h0 u (by simp [hu])) (.inr (by simp)) (Q := Q) fun ys st2 h1 h2 => hQ ys st2 h1 (by simp at h2 ⊢; omega)
      rw [List.map_append] at ih
      exact ih
    | false =>
      refine if_false_s ?_
      refine many_list PO hj vs acc st' (fun u hu => h0 u (by simp [hu])) ?_ fun ys st2 h1 h2 => hQ ys st2 h1 (by simp at h2 ⊢; omega)
      rcases h with h | h
      · left
        rcases List.mem_cons.mp h with e | h
        · subst e
          exact absurd (big_b hj hb) (by simp)
        · exact h
      · exact .inr h
theorem rng40 {ρ : E} : fRng1 (aCons (eC (.int 40)) (aNil)) ρ = some (((List.range 40).map fun i : Nat => (i : Int)).map .int) := by
  rw [v_rng1, show (aCons (eC (.int 40)) (aNil)) ρ = some [.int 40] by simp, Option.bind_some]
  simp only []
  rw [if_pos ⟨by decide, by decide⟩]
  rfl
theorem rng8 {ρ : E} : fRng1 (aCons (eC (.int 8)) (aNil)) ρ = some (((List.range 8).map fun i : Nat => (i : Int)).map .int) := by
  rw [v_rng1, show (aCons (eC (.int 8)) (aNil)) ρ = some [.int 8] by simp, Option.bind_some]
  simp only []
  rw [if_pos ⟨by decide, by decide⟩]
  rfl
noncomputable abbrev b_l8 (P : Program) (w : World) : WS := (wsSeq (wsAsg 6 (wCall0 (wf_is_accepted P w) (waCons (wHid (eVar 2)) (waCons (wHid (eVar 5)) (waNil)))))
  (wsSeq (wsIf (wtAnd (wtV (Mi.tB (e2 dIs (eVar 6) (eC .non)))) (wtNot (wtOf (wCall0 (wf_law_many P w) (waCons (wHid (eVar 2)) (waCons (wHid (eVar 5)) (waNil))))))) (wsRet (wHid (eC (.bl false)))) (wsNext))
  (wsIf (wtV (fAnd (Mi.tB (e2 dIsn (eVar 6) (eC .non))) (Mi.tB (e2 dNeS (eVar 6) (fOrV (e2 dIs (eVar 3) (eC .non)) (e2 dLt (eVar 5) (eVar 3))))))) (wsRet (wHid (eC (.bl false)))) (wsNext))))
/-- what is told of a window, as the least window asks -/
def Told (le : D) (v : Int) (x : Wd) : Prop := match x with
  | .many => True
  | .table => (le = .non) ∨ ∃ i, le = .int i ∧ v < i
  | .leak => ∃ i, le = .int i ∧ ¬ v < i
theorem l8_loop (PO : PrOk sec rows) {x0 x1 : Option D} {le fr : D} {Q : WOut → Prop} (hQ : ∀ x5 x6 st', Q (.nx (e_lw sec rows x0 x1 le fr x5 x6) st')) : ∀ (vs : List Int) (x5 x6 : Option D) (st : Sx), (∀ v ∈ vs, 0 ≤ v ∧ v < 8 ∧ (Says sec rows (some v) → Told le v (wd sec rows (some v)))) →
    forW (gN 5) (b_l8 PP ww) (vs.map .int) (e_lw sec rows x0 x1 le fr x5 x6) st Q
  | [], x5, x6, st, _ => hQ _ _ _
  | v :: vs, x5, x6, st, h => by
    obtain ⟨v0, v1, ht⟩ := h v (by simp)
    have ih := fun x6 st' => l8_loop PO (x0 := x0) (x1 := x1) (fr := fr) hQ vs (some (.int v)) x6 st' fun u hu => h u (by simp [hu])
    have hv0 : ∀ u, (some v : Win) = some u → 0 ≤ u := fun u e => by cases e; exact v0
    refine ⟨[(5, .int v)], rfl, ?_⟩
    refine ⟨prg sec rows, rfl, .int v, rfl, accept_ok (w := some v) PO hv0 (fun u e => by cases e; omega) fun st' hs => ?_⟩
    have ht := ht hs
    generalize hq : wd sec rows (some v) = q at *
    cases q with
    | many =>
      refine ⟨true, rfl, if_true_s ?_⟩
      refine ⟨prg sec rows, rfl, .int v, rfl, many_gen (w := some v) PO hv0 fun b st2 hb => ?_⟩
      have hbt := big_b (hs.many hq) hb
      subst hbt
      refine ⟨true, rfl, if_false_s ?_⟩
      exact ⟨false, rfl, if_false_s (ih _ _)⟩
    | table =>
      refine ⟨false, rfl, if_false_s (if_false_s ?_)⟩
      rcases ht with rfl | ⟨i, rfl, hi⟩
      · exact ⟨false, rfl, if_false_s (ih _ _)⟩
      · refine ⟨false, ?_, if_false_s (ih _ _)⟩
        show (dNeS (.bl true) (.bl (decide (v < i)))).bind D.b? = some false
        rw [decide_eq_true hi]
        rfl
    | leak =>
      refine ⟨false, rfl, if_false_s (if_false_s ?_)⟩
      obtain ⟨i, rfl, hi⟩ := ht
      refine ⟨false, ?_, if_false_s (ih _ _)⟩
      show (dNeS (.bl false) (.bl (decide (v < i)))).bind D.b? = some false
      rw [decide_eq_false hi]
      rfl
theorem see_I {a : Addr} {ys : List Int} (h : st a = some (.l (ys.map .int))) : see 7 st (.adr a) = .lst (ys.map .int) := by
  unfold see
  rw [h]
  simp only [List.map_map]
  congr 1
noncomputable abbrev b_law (P : Program) (w : World) : WS := (wsSeq (wsIf (wtV (Mi.tB (e2 dIs (eVar 4) (eC .non)))) (wsRet (wAndV (wHid (e2 dEq (eVar 3) (e1 dNeg (eC (.int 1))))) (wCall0 (wf_law_many P w) (waCons (wHid (eVar 2)) (waCons (wHid (eC .non)) (waNil)))))) (wsNext))
  (wsSeq (wsIf (wtV (Mi.tB (e2 dEq (eVar 3) (e1 dNeg (eC (.int 1)))))) (wsRet (wAndV (wHid (fNotV (eVar 4))) (wOp dGt (wAppV (g1 dLen) (waCons (wLcSF (fRng1 (aCons (eC (.int 40)) (aNil))) (gN 5) (wtOf (wCall0 (wf_law_many P w) (waCons (wHid (eVar 2)) (waCons (wHid (eVar 5)) (waNil))))) (wHid (eVar 5)) ([("window", 5)].map (·.2))) (waNil))) (wHid (eC (.int 0)))))) (wsNext))
  (wsSeq (wsIf (wtV (Mi.tB (e2 dNeS (eVar 4) (e2 dIs (eVar 3) (eC .non))))) (wsRet (wHid (eC (.bl false)))) (wsNext))
  (wsSeq (wsFor (fRng1 (aCons (eC (.int 8)) (aNil))) (gN 5) (b_l8 P w))
  (wsRet (wHid (eC (.bl true))))))))
theorem law_b (PO : PrOk sec rows) (hn : rows.length ≤ 4) {le : D} (hle : Least sec rows le) (hs : Says sec rows none) {x0 x1 : Option D} : b_law PP ww (e_lw sec rows x0 x1 le (accW (wd sec rows none)) none none) st (rtP (fun d _ => d = .bl true) (fun _ _ => False)) := by
  have hnv : ∀ v, (none : Win) = some v → 0 ≤ v := fun v e => by cases e
  have small : ∀ {v : Int}, v ∈ (List.range 8).map (fun i : Nat => (i : Int)) → 0 ≤ v ∧ v < 8 := fun {v} h => by
    obtain ⟨i, hi, rfl⟩ := List.mem_map.mp h
    have := List.mem_range.mp hi
    omega
  have fin : ∀ {fr : D}, (∀ v, 0 ≤ v → v < 8 → Says sec rows (some v) → Told le v (wd sec rows (some v))) → (wsSeq (wsFor (fRng1 (aCons (eC (.int 8)) (aNil))) (gN 5) (b_l8 PP ww)) (wsRet (wHid (eC (.bl true))))) (e_lw sec rows x0 x1 le fr none none) st (rtP (fun d _ => d = .bl true) (fun _ _ => False)) := fun {fr} h => by
    refine ⟨_, rng8, ?_⟩
    refine l8_loop PO (fun x5 x6 st' => ⟨.bl true, rfl, rfl⟩) _ none none st fun v hv => ?_
    obtain ⟨a, b⟩ := small hv
    exact ⟨a, b, h v a b⟩
  cases hq : wd sec rows none with
  | many =>
    have e := hle.many hq
    subst e
    refine ⟨true, rfl, if_true_s ?_⟩
    refine ⟨.bl true, by simp (decide := true) [e_lw], true, rfl, if_true_s ?_⟩
    refine ⟨prg sec rows, rfl, .non, rfl, many_gen (w := none) PO hnv fun b st5 hb => ?_⟩
    show D.bl b = .bl true
    rw [big_b (hs.many hq) hb]
  | table =>
    have e := hle.fine hq
    subst e
    refine ⟨false, rfl, if_false_s ?_⟩
    refine ⟨false, rfl, if_false_s ?_⟩
    refine ⟨false, rfl, if_false_s ?_⟩
    refine fin fun v v0 v8 hv => ?_
    cases hx : wd sec rows (some v) with
    | many => trivial
    | table => exact .inl rfl
    | leak => exact absurd (lk_mono PO (W1 := some v) (W2 := none) trivial (fun u e => by cases e; exact v0) hnv (hv.leak hx)) (hs.table hq)
  | leak =>
    rcases hle.leak hq with ⟨rfl, j, j0, j1, hj⟩ | ⟨i, rfl, i0, h1, h2⟩
    · refine ⟨false, rfl, if_false_s ?_⟩
      refine ⟨true, by simp (decide := true) [e_lw], if_true_s ?_⟩
      refine ⟨.bl true, rfl, true, rfl, if_true_s ?_⟩
      refine ⟨_, rng40, by simp, ?_⟩
      refine many_list PO (x0 := x0) (x1 := x1) (x5 := none) (x6 := none) (le := .int (-1)) (fr := .bl false) hj ((List.range 40).map fun i : Nat => (i : Int)) [] st (fun v hv => ?_) (.inl ?_) fun ys st' hne hl a ha => ?_
      · obtain ⟨i, _, rfl⟩ := List.mem_map.mp hv
        omega
      · exact List.mem_map.mpr ⟨j.toNat, List.mem_range.mpr (by omega), by omega⟩
      · refine ⟨.int ys.length, ?_, rfl, ?_⟩
        · show g1 dLen [see 7 (sxU st' a (.l (ys.map .int))) (.adr a)] = _
          rw [see_I sxU_same]
          show some (D.int (((ys.map D.int).length : Nat) : Int)) = _
          rw [List.length_map]
        · have hpos : 0 < ys.length := List.length_pos_iff.mpr hne
          refine ⟨.int 0, rfl, .bl true, ?_, rfl⟩
          show some (D.bl (decide ((0 : Int) < ys.length))) = _
          rw [decide_eq_true (by omega)]
    · refine ⟨false, rfl, if_false_s ?_⟩
      have hne : ¬ i = -1 := by omega
      refine ⟨false, by simp (decide := true) [e_lw, hne], if_false_s ?_⟩
      refine ⟨false, rfl, if_false_s ?_⟩
      refine fin fun v v0 v8 hv => ?_
      have hvv : ∀ u, (some v : Win) = some u → 0 ≤ u := fun u e => by cases e; exact v0
      cases hx : wd sec rows (some v) with
      | many => trivial
      | table =>
        refine .inr ⟨i, rfl, ?_⟩
        refine Classical.byContradiction fun hc => hv.table hx ?_
        exact lk_mono PO (W1 := some i) (W2 := some v) (show i ≤ v by omega) (fun u e => by cases e; exact i0) hvv h2
      | leak => exact ⟨i, rfl, fun hc => h1 v v0 hc (hv.leak hx)⟩
theorem law_all (ns : List Int) (hl : ns.length ≤ 63) : wf_law PP ww [.sl (ns.map .int)] sx0 (fun d _ => d = .bl true) (fun _ _ => False) := by
  refine ⟨rfl, ?_⟩
  refine ⟨.l [.lst (ns.map .int), .int 0, .int 0, .int 5], ?_, fun t ht => ?_⟩
  · simp [dList]
  have T0 : Tape (.lst (ns.map .int)) (sxU sx0 t (tapC (.lst (ns.map .int)) 0 0 5)) t := ⟨⟨ns, rfl⟩, 0, 0, 5, by decide, by decide, sxU_same⟩
  refine ⟨.adr t, rfl, .tup [.int 2, .int 3, .int 4], by simp, .adr t, rfl, .int 3, rfl, law_next T0 (by decide) (by decide) fun k st1 k0 k1 t1 => ?_⟩
  have T1 := t1.tape T0
  obtain ⟨mo, hmo, m0, m1⟩ : ∃ mo : Int, dIx (.tup [.int 2, .int 3, .int 4]) (.int k) = some (.int mo) ∧ 2 ≤ mo ∧ mo ≤ 4 := by
    have : k = 0 ∨ k = 1 ∨ k = 2 := by omega
    rcases this with rfl | rfl | rfl
    · exact ⟨2, rfl, by decide, by decide⟩
    · exact ⟨3, rfl, by decide, by decide⟩
    · exact ⟨4, rfl, by decide, by decide⟩
  refine ⟨.int mo, hmo, law_programK T1 m0 (by omega) fun sec rows st2 PO h2 h7 T2 K2 => ?_⟩
  have hn : rows.length ≤ 4 := by omega
  refine ⟨prg sec rows, rfl, least_ok PO hn fun st3 le hle hs => ?_⟩
  refine ⟨prg sec rows, rfl, .non, rfl, accept_ok (w := none) PO (fun v e => by cases e) (fun v e => by cases e) fun st4 _ => ?_⟩
  exact law_b PO hn hle hs
theorem law_sp {P : Program} {w : World} {K : PySem.W.Frag} {H : Hp} {a : Addr} {ns : List Int} (hl : ns.length ≤ 63) (hS : SqL K H a (ns.map V.int)) : spW0 K 1 (wf_law P w) [.ref a] H (fun v _ => v = .bl true) fun _ _ _ => False :=
  ⟨H, [.sl (ns.map .int)], sx0, _, .refl H, .one (rep_sl.mpr ⟨a, _, rfl, hS, reps_ints.mpr rfl⟩), rfl, .nil, law_all ns hl, fun d st' v F' H' hd _ _ r => by subst hd; exact rep_bl.mp r⟩
end K16
namespace K16
open PySem PySem.Spec PyProof.Rows L2 Mi KP KS KQ KR
theorem all_mk {l : PySem.W.OpenLaw} {w : World} {K : PySem.W.Frag} {h : Heap} {mg : Str → Option Value} {fa : Addr} (X : K.In h) (G : h.Ns mainGlobals mg) (hfa : mg "law" = some (.ref fa))
    {f0 : Addr} {od0 an0 : Option Addr} {sl0 : Array (Option Value)} {oc0 kV0 dc0 pm0 cd0 ct0 : Value}
    (a0 : PySem.W.nsIn K mainGlobals "_law_next" = some (some (.ref f0))) (l0 : K.lookup f0 = some ⟨oc0, od0, .func (PySem.W.fnOf "_law_next" "_law_next" (defArgs s_law_next) (defBody s_law_next) (defScope s_law_next) .none kV0 dc0 pm0 an0 cd0 ct0), sl0⟩) (c0 : PySem.W.codeIn K cd0 "_law_next" = true) (k0 : PySem.W.keepIn K (.ref f0) = true)
    {f1 : Addr} {od1 an1 : Option Addr} {sl1 : Array (Option Value)} {oc1 kV1 dc1 pm1 cd1 ct1 : Value}
    (a1 : PySem.W.nsIn K mainGlobals "_law_row" = some (some (.ref f1))) (l1 : K.lookup f1 = some ⟨oc1, od1, .func (PySem.W.fnOf "_law_row" "_law_row" (defArgs s_law_row) (defBody s_law_row) (defScope s_law_row) .none kV1 dc1 pm1 an1 cd1 ct1), sl1⟩) (c1 : PySem.W.codeIn K cd1 "_law_row" = true) (k1 : PySem.W.keepIn K (.ref f1) = true)
    {f2 : Addr} {od2 an2 : Option Addr} {sl2 : Array (Option Value)} {oc2 kV2 dc2 pm2 cd2 ct2 : Value}
    (a2 : PySem.W.nsIn K mainGlobals "_law_program" = some (some (.ref f2))) (l2 : K.lookup f2 = some ⟨oc2, od2, .func (PySem.W.fnOf "_law_program" "_law_program" (defArgs s_law_programK) (defBody s_law_programK) (defScope s_law_programK) .none kV2 dc2 pm2 an2 cd2 ct2), sl2⟩) (c2 : PySem.W.codeIn K cd2 "_law_program" = true) (k2 : PySem.W.keepIn K (.ref f2) = true)
    {f3 : Addr} {od3 an3 : Option Addr} {sl3 : Array (Option Value)} {oc3 kV3 dc3 pm3 cd3 ct3 : Value}
    (a3 : PySem.W.nsIn K mainGlobals "text_of" = some (some (.ref f3))) (l3 : K.lookup f3 = some ⟨oc3, od3, .func (PySem.W.fnOf "text_of" "text_of" (defArgs s_text_of) (defBody s_text_of) (defScope s_text_of) .none kV3 dc3 pm3 an3 cd3 ct3), sl3⟩) (c3 : PySem.W.codeIn K cd3 "text_of" = true) (k3 : PySem.W.keepIn K (.ref f3) = true)
    {f4 : Addr} {od4 an4 : Option Addr} {sl4 : Array (Option Value)} {oc4 kV4 dc4 pm4 cd4 ct4 : Value}
    (a4 : PySem.W.nsIn K mainGlobals "first_state" = some (some (.ref f4))) (l4 : K.lookup f4 = some ⟨oc4, od4, .func (PySem.W.fnOf "first_state" "first_state" (defArgs s_first_state_states) (defBody s_first_state_states) (defScope s_first_state_states) .none kV4 dc4 pm4 an4 cd4 ct4), sl4⟩) (c4 : PySem.W.codeIn K cd4 "first_state" = true) (k4 : PySem.W.keepIn K (.ref f4) = true)
    {f5 : Addr} {od5 an5 : Option Addr} {sl5 : Array (Option Value)} {oc5 kV5 dc5 pm5 cd5 ct5 : Value}
    {dT5 : Addr} {dn5 : Nat} {ds5 : Array (Option Value)} {dt5_0 : Tok} (e5 : K.lookup dT5 = some ⟨.type "tuple", none, .seq #[.int 0 dt5_0] dn5, ds5⟩)
    (a5 : PySem.W.nsIn K mainGlobals "item_at" = some (some (.ref f5))) (l5 : K.lookup f5 = some ⟨oc5, od5, .func (PySem.W.fnOf "item_at" "item_at" (defArgs s_item_at) (defBody s_item_at) (defScope s_item_at) (.ref dT5) kV5 dc5 pm5 an5 cd5 ct5), sl5⟩) (c5 : PySem.W.codeIn K cd5 "item_at" = true) (k5 : PySem.W.keepIn K (.ref f5) = true)
    {f6 : Addr} {od6 an6 : Option Addr} {sl6 : Array (Option Value)} {oc6 kV6 dc6 pm6 cd6 ct6 : Value}
    (a6 : PySem.W.nsIn K mainGlobals "row_at" = some (some (.ref f6))) (l6 : K.lookup f6 = some ⟨oc6, od6, .func (PySem.W.fnOf "row_at" "row_at" (defArgs s_row_at) (defBody s_row_at) (defScope s_row_at) .none kV6 dc6 pm6 an6 cd6 ct6), sl6⟩) (c6 : PySem.W.codeIn K cd6 "row_at" = true) (k6 : PySem.W.keepIn K (.ref f6) = true)
    {f7 : Addr} {od7 an7 : Option Addr} {sl7 : Array (Option Value)} {oc7 kV7 dc7 pm7 cd7 ct7 : Value}
    (a7 : PySem.W.nsIn K mainGlobals "made_row" = some (some (.ref f7))) (l7 : K.lookup f7 = some ⟨oc7, od7, .func (PySem.W.fnOf "made_row" "made_row" (defArgs s_made_row) (defBody s_made_row) (defScope s_made_row) .none kV7 dc7 pm7 an7 cd7 ct7), sl7⟩) (c7 : PySem.W.codeIn K cd7 "made_row" = true) (k7 : PySem.W.keepIn K (.ref f7) = true)
    {f8 : Addr} {od8 an8 : Option Addr} {sl8 : Array (Option Value)} {oc8 kV8 dc8 pm8 cd8 ct8 : Value}
    (a8 : PySem.W.nsIn K mainGlobals "is_natural" = some (some (.ref f8))) (l8 : K.lookup f8 = some ⟨oc8, od8, .func (PySem.W.fnOf "is_natural" "is_natural" (defArgs s_is_natural) (defBody s_is_natural) (defScope s_is_natural) .none kV8 dc8 pm8 an8 cd8 ct8), sl8⟩) (c8 : PySem.W.codeIn K cd8 "is_natural" = true) (k8 : PySem.W.keepIn K (.ref f8) = true)
    {f9 : Addr} {od9 an9 : Option Addr} {sl9 : Array (Option Value)} {oc9 kV9 dc9 pm9 cd9 ct9 : Value}
    (a9 : PySem.W.nsIn K mainGlobals "is_window" = some (some (.ref f9))) (l9 : K.lookup f9 = some ⟨oc9, od9, .func (PySem.W.fnOf "is_window" "is_window" (defArgs s_is_window) (defBody s_is_window) (defScope s_is_window) .none kV9 dc9 pm9 an9 cd9 ct9), sl9⟩) (c9 : PySem.W.codeIn K cd9 "is_window" = true) (k9 : PySem.W.keepIn K (.ref f9) = true)
    {f10 : Addr} {od10 an10 : Option Addr} {sl10 : Array (Option Value)} {oc10 kV10 dc10 pm10 cd10 ct10 : Value}
    (a10 : PySem.W.nsIn K mainGlobals "kind_of" = some (some (.ref f10))) (l10 : K.lookup f10 = some ⟨oc10, od10, .func (PySem.W.fnOf "kind_of" "kind_of" (defArgs s_kind_of) (defBody s_kind_of) (defScope s_kind_of) .none kV10 dc10 pm10 an10 cd10 ct10), sl10⟩) (c10 : PySem.W.codeIn K cd10 "kind_of" = true) (k10 : PySem.W.keepIn K (.ref f10) = true)
    {f11 : Addr} {od11 an11 : Option Addr} {sl11 : Array (Option Value)} {oc11 kV11 dc11 pm11 cd11 ct11 : Value}
    (a11 : PySem.W.nsIn K mainGlobals "shows_secret" = some (some (.ref f11))) (l11 : K.lookup f11 = some ⟨oc11, od11, .func (PySem.W.fnOf "shows_secret" "shows_secret" (defArgs s_shows_secret) (defBody s_shows_secret) (defScope s_shows_secret) .none kV11 dc11 pm11 an11 cd11 ct11), sl11⟩) (c11 : PySem.W.codeIn K cd11 "shows_secret" = true) (k11 : PySem.W.keepIn K (.ref f11) = true)
    {f12 : Addr} {od12 an12 : Option Addr} {sl12 : Array (Option Value)} {oc12 kV12 dc12 pm12 cd12 ct12 : Value}
    (a12 : PySem.W.nsIn K mainGlobals "is_leak" = some (some (.ref f12))) (l12 : K.lookup f12 = some ⟨oc12, od12, .func (PySem.W.fnOf "is_leak" "is_leak" (defArgs s_is_leak) (defBody s_is_leak) (defScope s_is_leak) .none kV12 dc12 pm12 an12 cd12 ct12), sl12⟩) (c12 : PySem.W.codeIn K cd12 "is_leak" = true) (k12 : PySem.W.keepIn K (.ref f12) = true)
    {f13 : Addr} {od13 an13 : Option Addr} {sl13 : Array (Option Value)} {oc13 kV13 dc13 pm13 cd13 ct13 : Value}
    (a13 : PySem.W.nsIn K mainGlobals "changed" = some (some (.ref f13))) (l13 : K.lookup f13 = some ⟨oc13, od13, .func (PySem.W.fnOf "changed" "changed" (defArgs s_changed) (defBody s_changed) (defScope s_changed) .none kV13 dc13 pm13 an13 cd13 ct13), sl13⟩) (c13 : PySem.W.codeIn K cd13 "changed" = true) (k13 : PySem.W.keepIn K (.ref f13) = true)
    {f14 : Addr} {od14 an14 : Option Addr} {sl14 : Array (Option Value)} {oc14 kV14 dc14 pm14 cd14 ct14 : Value}
    (a14 : PySem.W.nsIn K mainGlobals "with_fact" = some (some (.ref f14))) (l14 : K.lookup f14 = some ⟨oc14, od14, .func (PySem.W.fnOf "with_fact" "with_fact" (defArgs s_with_fact) (defBody s_with_fact) (defScope s_with_fact) .none kV14 dc14 pm14 an14 cd14 ct14), sl14⟩) (c14 : PySem.W.codeIn K cd14 "with_fact" = true) (k14 : PySem.W.keepIn K (.ref f14) = true)
    {f15 : Addr} {od15 an15 : Option Addr} {sl15 : Array (Option Value)} {oc15 kV15 dc15 pm15 cd15 ct15 : Value}
    (a15 : PySem.W.nsIn K mainGlobals "cases" = some (some (.ref f15))) (l15 : K.lookup f15 = some ⟨oc15, od15, .func (PySem.W.fnOf "cases" "cases" (defArgs s_cases) (defBody s_cases) (defScope s_cases) .none kV15 dc15 pm15 an15 cd15 ct15), sl15⟩) (c15 : PySem.W.codeIn K cd15 "cases" = true) (k15 : PySem.W.keepIn K (.ref f15) = true)
    {f16 : Addr} {od16 an16 : Option Addr} {sl16 : Array (Option Value)} {oc16 kV16 dc16 pm16 cd16 ct16 : Value}
    (a16 : PySem.W.nsIn K mainGlobals "bounded" = some (some (.ref f16))) (l16 : K.lookup f16 = some ⟨oc16, od16, .func (PySem.W.fnOf "bounded" "bounded" (defArgs s_bounded) (defBody s_bounded) (defScope s_bounded) .none kV16 dc16 pm16 an16 cd16 ct16), sl16⟩) (c16 : PySem.W.codeIn K cd16 "bounded" = true) (k16 : PySem.W.keepIn K (.ref f16) = true)
    {f17 : Addr} {od17 an17 : Option Addr} {sl17 : Array (Option Value)} {oc17 kV17 dc17 pm17 cd17 ct17 : Value}
    (a17 : PySem.W.nsIn K mainGlobals "next_slot" = some (some (.ref f17))) (l17 : K.lookup f17 = some ⟨oc17, od17, .func (PySem.W.fnOf "next_slot" "next_slot" (defArgs s_next_slot) (defBody s_next_slot) (defScope s_next_slot) .none kV17 dc17 pm17 an17 cd17 ct17), sl17⟩) (c17 : PySem.W.codeIn K cd17 "next_slot" = true) (k17 : PySem.W.keepIn K (.ref f17) = true)
    {f18 : Addr} {od18 an18 : Option Addr} {sl18 : Array (Option Value)} {oc18 kV18 dc18 pm18 cd18 ct18 : Value}
    (a18 : PySem.W.nsIn K mainGlobals "next_place" = some (some (.ref f18))) (l18 : K.lookup f18 = some ⟨oc18, od18, .func (PySem.W.fnOf "next_place" "next_place" (defArgs s_next_place) (defBody s_next_place) (defScope s_next_place) .none kV18 dc18 pm18 an18 cd18 ct18), sl18⟩) (c18 : PySem.W.codeIn K cd18 "next_place" = true) (k18 : PySem.W.keepIn K (.ref f18) = true)
    {f19 : Addr} {od19 an19 : Option Addr} {sl19 : Array (Option Value)} {oc19 kV19 dc19 pm19 cd19 ct19 : Value}
    (a19 : PySem.W.nsIn K mainGlobals "masked" = some (some (.ref f19))) (l19 : K.lookup f19 = some ⟨oc19, od19, .func (PySem.W.fnOf "masked" "masked" (defArgs s_masked) (defBody s_masked) (defScope s_masked) .none kV19 dc19 pm19 an19 cd19 ct19), sl19⟩) (c19 : PySem.W.codeIn K cd19 "masked" = true) (k19 : PySem.W.keepIn K (.ref f19) = true)
    {f20 : Addr} {od20 an20 : Option Addr} {sl20 : Array (Option Value)} {oc20 kV20 dc20 pm20 cd20 ct20 : Value}
    (a20 : PySem.W.nsIn K mainGlobals "slot_of" = some (some (.ref f20))) (l20 : K.lookup f20 = some ⟨oc20, od20, .func (PySem.W.fnOf "slot_of" "slot_of" (defArgs s_slot_of) (defBody s_slot_of) (defScope s_slot_of) .none kV20 dc20 pm20 an20 cd20 ct20), sl20⟩) (c20 : PySem.W.codeIn K cd20 "slot_of" = true) (k20 : PySem.W.keepIn K (.ref f20) = true)
    {f21 : Addr} {od21 an21 : Option Addr} {sl21 : Array (Option Value)} {oc21 kV21 dc21 pm21 cd21 ct21 : Value}
    (a21 : PySem.W.nsIn K mainGlobals "given" = some (some (.ref f21))) (l21 : K.lookup f21 = some ⟨oc21, od21, .func (PySem.W.fnOf "given" "given" (defArgs s_given_states) (defBody s_given_states) (defScope s_given_states) .none kV21 dc21 pm21 an21 cd21 ct21), sl21⟩) (c21 : PySem.W.codeIn K cd21 "given" = true) (k21 : PySem.W.keepIn K (.ref f21) = true)
    {f22 : Addr} {od22 an22 : Option Addr} {sl22 : Array (Option Value)} {oc22 kV22 dc22 pm22 cd22 ct22 : Value}
    (a22 : PySem.W.nsIn K mainGlobals "real_step" = some (some (.ref f22))) (l22 : K.lookup f22 = some ⟨oc22, od22, .func (PySem.W.fnOf "real_step" "real_step" (defArgs s_real_step) (defBody s_real_step) (defScope s_real_step) .none kV22 dc22 pm22 an22 cd22 ct22), sl22⟩) (c22 : PySem.W.codeIn K cd22 "real_step" = true) (k22 : PySem.W.keepIn K (.ref f22) = true)
    {f23 : Addr} {od23 an23 : Option Addr} {sl23 : Array (Option Value)} {oc23 kV23 dc23 pm23 cd23 ct23 : Value}
    (a23 : PySem.W.nsIn K mainGlobals "wrong_guess" = some (some (.ref f23))) (l23 : K.lookup f23 = some ⟨oc23, od23, .func (PySem.W.fnOf "wrong_guess" "wrong_guess" (defArgs s_wrong_guess) (defBody s_wrong_guess) (defScope s_wrong_guess) .none kV23 dc23 pm23 an23 cd23 ct23), sl23⟩) (c23 : PySem.W.codeIn K cd23 "wrong_guess" = true) (k23 : PySem.W.keepIn K (.ref f23) = true)
    {f24 : Addr} {od24 an24 : Option Addr} {sl24 : Array (Option Value)} {oc24 kV24 dc24 pm24 cd24 ct24 : Value}
    (a24 : PySem.W.nsIn K mainGlobals "public_numbers" = some (some (.ref f24))) (l24 : K.lookup f24 = some ⟨oc24, od24, .func (PySem.W.fnOf "public_numbers" "public_numbers" (defArgs s_public_numbers) (defBody s_public_numbers) (defScope s_public_numbers) .none kV24 dc24 pm24 an24 cd24 ct24), sl24⟩) (c24 : PySem.W.codeIn K cd24 "public_numbers" = true) (k24 : PySem.W.keepIn K (.ref f24) = true)
    {f25 : Addr} {od25 an25 : Option Addr} {sl25 : Array (Option Value)} {oc25 kV25 dc25 pm25 cd25 ct25 : Value}
    (a25 : PySem.W.nsIn K mainGlobals "renamed" = some (some (.ref f25))) (l25 : K.lookup f25 = some ⟨oc25, od25, .func (PySem.W.fnOf "renamed" "renamed" (defArgs s_renamed) (defBody s_renamed) (defScope s_renamed) .none kV25 dc25 pm25 an25 cd25 ct25), sl25⟩) (c25 : PySem.W.codeIn K cd25 "renamed" = true) (k25 : PySem.W.keepIn K (.ref f25) = true)
    {f26 : Addr} {od26 an26 : Option Addr} {sl26 : Array (Option Value)} {oc26 kV26 dc26 pm26 cd26 ct26 : Value}
    (a26 : PySem.W.nsIn K mainGlobals "numbered" = some (some (.ref f26))) (l26 : K.lookup f26 = some ⟨oc26, od26, .func (PySem.W.fnOf "numbered" "numbered" (defArgs s_numbered) (defBody s_numbered) (defScope s_numbered) .none kV26 dc26 pm26 an26 cd26 ct26), sl26⟩) (c26 : PySem.W.codeIn K cd26 "numbered" = true) (k26 : PySem.W.keepIn K (.ref f26) = true)
    {f27 : Addr} {od27 an27 : Option Addr} {sl27 : Array (Option Value)} {oc27 kV27 dc27 pm27 cd27 ct27 : Value}
    (a27 : PySem.W.nsIn K mainGlobals "deeper" = some (some (.ref f27))) (l27 : K.lookup f27 = some ⟨oc27, od27, .func (PySem.W.fnOf "deeper" "deeper" (defArgs s_deeper) (defBody s_deeper) (defScope s_deeper) .none kV27 dc27 pm27 an27 cd27 ct27), sl27⟩) (c27 : PySem.W.codeIn K cd27 "deeper" = true) (k27 : PySem.W.keepIn K (.ref f27) = true)
    {f28 : Addr} {od28 an28 : Option Addr} {sl28 : Array (Option Value)} {oc28 kV28 dc28 pm28 cd28 ct28 : Value}
    (a28 : PySem.W.nsIn K mainGlobals "opened" = some (some (.ref f28))) (l28 : K.lookup f28 = some ⟨oc28, od28, .func (PySem.W.fnOf "opened" "opened" (defArgs s_opened) (defBody s_opened) (defScope s_opened) .none kV28 dc28 pm28 an28 cd28 ct28), sl28⟩) (c28 : PySem.W.codeIn K cd28 "opened" = true) (k28 : PySem.W.keepIn K (.ref f28) = true)
    {f29 : Addr} {od29 an29 : Option Addr} {sl29 : Array (Option Value)} {oc29 kV29 dc29 pm29 cd29 ct29 : Value}
    (a29 : PySem.W.nsIn K mainGlobals "steps" = some (some (.ref f29))) (l29 : K.lookup f29 = some ⟨oc29, od29, .func (PySem.W.fnOf "steps" "steps" (defArgs s_steps) (defBody s_steps) (defScope s_steps) .none kV29 dc29 pm29 an29 cd29 ct29), sl29⟩) (c29 : PySem.W.codeIn K cd29 "steps" = true) (k29 : PySem.W.keepIn K (.ref f29) = true)
    {f30 : Addr} {od30 an30 : Option Addr} {sl30 : Array (Option Value)} {oc30 kV30 dc30 pm30 cd30 ct30 : Value}
    (a30 : PySem.W.nsIn K mainGlobals "path_to" = some (some (.ref f30))) (l30 : K.lookup f30 = some ⟨oc30, od30, .func (PySem.W.fnOf "path_to" "path_to" (defArgs s_path_to) (defBody s_path_to) (defScope s_path_to) .none kV30 dc30 pm30 an30 cd30 ct30), sl30⟩) (c30 : PySem.W.codeIn K cd30 "path_to" = true) (k30 : PySem.W.keepIn K (.ref f30) = true)
    {f31 : Addr} {od31 an31 : Option Addr} {sl31 : Array (Option Value)} {oc31 kV31 dc31 pm31 cd31 ct31 : Value}
    (a31 : PySem.W.nsIn K mainGlobals "search" = some (some (.ref f31))) (l31 : K.lookup f31 = some ⟨oc31, od31, .func (PySem.W.fnOf "search" "search" (defArgs s_search) (defBody s_search) (defScope s_search) .none kV31 dc31 pm31 an31 cd31 ct31), sl31⟩) (c31 : PySem.W.codeIn K cd31 "search" = true) (k31 : PySem.W.keepIn K (.ref f31) = true)
    {f32 : Addr} {od32 an32 : Option Addr} {sl32 : Array (Option Value)} {oc32 kV32 dc32 pm32 cd32 ct32 : Value}
    (a32 : PySem.W.nsIn K mainGlobals "least_window" = some (some (.ref f32))) (l32 : K.lookup f32 = some ⟨oc32, od32, .func (PySem.W.fnOf "least_window" "least_window" (defArgs s_least_window) (defBody s_least_window) (defScope s_least_window) .none kV32 dc32 pm32 an32 cd32 ct32), sl32⟩) (c32 : PySem.W.codeIn K cd32 "least_window" = true) (k32 : PySem.W.keepIn K (.ref f32) = true)
    {f33 : Addr} {od33 an33 : Option Addr} {sl33 : Array (Option Value)} {oc33 kV33 dc33 pm33 cd33 ct33 : Value}
    (a33 : PySem.W.nsIn K mainGlobals "is_accepted" = some (some (.ref f33))) (l33 : K.lookup f33 = some ⟨oc33, od33, .func (PySem.W.fnOf "is_accepted" "is_accepted" (defArgs s_is_accepted) (defBody s_is_accepted) (defScope s_is_accepted) .none kV33 dc33 pm33 an33 cd33 ct33), sl33⟩) (c33 : PySem.W.codeIn K cd33 "is_accepted" = true) (k33 : PySem.W.keepIn K (.ref f33) = true)
    {f34 : Addr} {od34 an34 : Option Addr} {sl34 : Array (Option Value)} {oc34 kV34 dc34 pm34 cd34 ct34 : Value}
    (a34 : PySem.W.nsIn K mainGlobals "_law_many" = some (some (.ref f34))) (l34 : K.lookup f34 = some ⟨oc34, od34, .func (PySem.W.fnOf "_law_many" "_law_many" (defArgs s_law_many) (defBody s_law_many) (defScope s_law_many) .none kV34 dc34 pm34 an34 cd34 ct34), sl34⟩) (c34 : PySem.W.codeIn K cd34 "_law_many" = true) (k34 : PySem.W.keepIn K (.ref f34) = true)
    {f35 : Addr} {od35 an35 : Option Addr} {sl35 : Array (Option Value)} {oc35 kV35 dc35 pm35 cd35 ct35 : Value}
    (a35 : PySem.W.nsIn K mainGlobals "law" = some (some (.ref f35))) (l35 : K.lookup f35 = some ⟨oc35, od35, .func (PySem.W.fnOf "law" "law" (defArgs s_law) (defBody s_law) (defScope s_law) .none kV35 dc35 pm35 an35 cd35 ct35), sl35⟩) (c35 : PySem.W.codeIn K cd35 "law" = true) (k35 : PySem.W.keepIn K (.ref f35) = true)
    (z_abs : PySem.W.nsIn K mainGlobals "abs" = some none)
    (z_enumerate : PySem.W.nsIn K mainGlobals "enumerate" = some none)
    (z_int : PySem.W.nsIn K mainGlobals "int" = some none)
    (z_len : PySem.W.nsIn K mainGlobals "len" = some none)
    (z_list : PySem.W.nsIn K mainGlobals "list" = some none)
    (z_range : PySem.W.nsIn K mainGlobals "range" = some none)
    (z_repr : PySem.W.nsIn K mainGlobals "repr" = some none)
    (z_sorted : PySem.W.nsIn K mainGlobals "sorted" = some none)
    (z_tuple : PySem.W.nsIn K mainGlobals "tuple" = some none)
    (z_type : PySem.W.nsIn K mainGlobals "type" = some none)
    {t_REGISTERS : Tok} (g_REGISTERS : PySem.W.nsIn K mainGlobals "REGISTERS" = some (some (.int 4 t_REGISTERS)))
    {t_SLOTS : Tok} (g_SLOTS : PySem.W.nsIn K mainGlobals "SLOTS" = some (some (.int 2 t_SLOTS)))
    {t_ARRAYS : Tok} (g_ARRAYS : PySem.W.nsIn K mainGlobals "ARRAYS" = some (some (.int 2 t_ARRAYS)))
    {d_GIVING : Addr} (g_GIVING : PySem.W.nsIn K mainGlobals "GIVING" = some (some (.ref d_GIVING))) (q_GIVING : ∀ F, Rep K F (.kt [.str "ask", .str "mix", .str "load", .str "mask", .str "get"]) (.ref d_GIVING))
    {d_ZERO : Addr} (g_ZERO : PySem.W.nsIn K mainGlobals "ZERO" = some (some (.ref d_ZERO))) (q_ZERO : ∀ F, Rep K F (.kt [.str "zero"]) (.ref d_ZERO))
    {d_SECRET : Addr} (g_SECRET : PySem.W.nsIn K mainGlobals "SECRET" = some (some (.ref d_SECRET))) (q_SECRET : ∀ F, Rep K F (.kt [.str "secret", .kt []]) (.ref d_SECRET))
    {d_ASKING : Addr} (g_ASKING : PySem.W.nsIn K mainGlobals "ASKING" = some (some (.ref d_ASKING))) (T_ASKING : KTab K w d_ASKING tab_ASKING)
    {t_MOST_STATES : Tok} (g_MOST_STATES : PySem.W.nsIn K mainGlobals "MOST_STATES" = some (some (.int 600 t_MOST_STATES)))
    {c y fI : Addr} (G_c : PySem.W.nsIn K mainGlobals "GuessError" = some (some (.ref c))) (G_y : PySem.W.nsIn K mainGlobals "NotValid" = some (some (.ref y)))
    {nm qn : Str} {NN : Addr} {bs bm : List Value} {sn : List Str} {sub : List Value} {ab : Bool} {col : Option Bool} {dd : Option Addr} {kk0 kk1 kk2 kk3 kk5 : Option Value} (o_c : K.lookup y = some (excClassObj nm qn y NN bs bm true sn sub ab col dd kk0 kk1 kk2 kk3 kk5 "ValueError.__new__")) (o_m : PySem.HandSPX.refsVE bm = true)
    (o_s : PySem.W.findIn K (.ref y) "__setattr__" = some (some (.builtin "object.__setattr__"))) (o_x : PySem.W.subIn K (.ref y) (.type "BaseException") = some true) (o_t : PySem.W.typeIn K (.ref y) = some (.type "type")) (o_k : PySem.W.keepIn K (.ref y) = true)
    (i_c : PySem.W.findIn K (.ref y) "__init__" = some (some (.ref fI))) (i_t : PySem.W.typeIn K (.ref fI) = some (.type "function"))
    {odI anI : Option Addr} {slI : Array (Option Value)} {ocI kVI dcI pmI cdI ctI : Value} (i_l : K.lookup fI = some ⟨ocI, odI, .func (PySem.W.fnOf "__init__" "GuessError.__init__" (defArgs s_init) (defBody s_init) (defScope s_init) .none kVI dcI pmI anI cdI ctI), slI⟩) (i_d : PySem.W.codeIn K cdI "GuessError.__init__" = true) (i_k : PySem.W.keepIn K (.ref fI) = true)
    (z_VE : PySem.W.nsIn K mainGlobals "ValueError" = some none) (v_V : PySem.W.findCls K (.type "ValueError") (.type "type") "__init__" = some (.val (.builtin "ValueError.__init__")))
    (x_g : PySem.W.findIn K (.ref y) "__getattribute__" = some (some (.builtin "BaseException.__getattribute__"))) (x_k : PySem.W.findIn K (.ref y) "__getattr__" = some none) (x_d : PySem.W.hasDictIn K y = true) (x_a : PySem.W.findIn K (.ref y) "__class__" = some (some (.builtin "object.__class__"))) (x_n : PySem.W.specialIn K (.builtin "object.__class__") "__get__" = some (some (.builtin "getset_descriptor.__get__"))) (x_t : PySem.W.takesIn K (.builtin "object.__class__") = some true) (x_m : PySem.W.mroIn K y (.type "object") = some true)
    (c_b : PySem.W.subIn K (.ref c) (.type "BaseException") = some true) (c_d : PySem.W.hasDictIn K c = true) (c_t : PySem.W.typeIn K (.ref c) = some (.type "type")) (c_y : PySem.W.subIn K (.ref y) (.ref c) = some true) :
    ∃ fd : FuncData, (∀ (s : Shared) (v : Value), BindsTo s fd ⟨[v], []⟩ [("script", v)]) ∧ ∀ base : Heap, K.In base → base.Ns mainGlobals mg → FnG l.prog w K mg base CX0 13 fa fd ["script"] (spW0 K 1 (wf_law l.prog w)) := by
  have e := hfa.symm.trans (PySem.W.mg_of X G a35)
  cases e
  have B : Bn mg := ⟨PySem.W.mg_none_of X G z_abs, PySem.W.mg_none_of X G z_enumerate, PySem.W.mg_none_of X G z_int, PySem.W.mg_none_of X G z_len, PySem.W.mg_none_of X G z_list, PySem.W.mg_none_of X G z_range, PySem.W.mg_none_of X G z_repr, PySem.W.mg_none_of X G z_sorted, PySem.W.mg_none_of X G z_tuple, PySem.W.mg_none_of X G z_type⟩
  refine ⟨_, fun s v => BindsTo.of_eq (fd := PySem.W.fnOf "law" "law" (defArgs s_law) (defBody s_law) (defScope s_law) .none kV35 dc35 pm35 an35 cd35 ct35) rfl, fun base _ _ => ?_⟩
  have FI : Fun K "__init__" "GuessError.__init__" s_init fI _ := ⟨⟨ocI, odI, kVI, dcI, pmI, anI, cdI, ctI, slI, rfl, i_l, i_d⟩, i_k⟩
  have bI := FI.binds (ps := ["self"]) fun _ _ _ _ _ _ us hl => match us, hl with | [_], _ => rfl
  have Z : ExcZ l.prog w K mg base "NotValid" y fI _ := ⟨⟨⟨nm, qn, NN, bs, bm, sn, sub, ab, col, dd, kk0, kk1, kk2, kk3, kk5, o_c, o_m⟩, o_s, o_x, o_t, o_k⟩, i_c, i_t, fn_init FI (PySem.W.mg_none_of X G z_VE) v_V, bI, PySem.W.mg_of X G G_y⟩
  have Ct : Caught K mg yes c y := caught_mk (PySem.W.mg_of X G G_y) ⟨x_g, x_k, o_x, x_d, x_a, x_n, x_t, x_m⟩ c_b c_d c_t c_y
  have F0 := fun_mk (st := s_law_next) l0 c0 k0
  have b0 := F0.binds (ps := ["tape", "many"]) fun _ _ _ _ _ _ us hl => match us, hl with | [_, _], _ => rfl
  have X_law_next : FxW l.prog w K mg base (1) "_law_next" 2 wf_law_next := fx_law_next F0 (PySem.W.mg_of X G a0) b0 B
  have F1 := fun_mk (st := s_law_row) l1 c1 k1
  have b1 := F1.binds (ps := ["tape", "many", "plain"]) fun _ _ _ _ _ _ us hl => match us, hl with | [_, _, _], _ => rfl
  have X_law_row : FxW l.prog w K mg base (2) "_law_row" 3 wf_law_row := fx_law_row F1 (PySem.W.mg_of X G a1) b1 B X_law_next
  have F2 := fun_mk (st := s_law_programK) l2 c2 k2
  have b2 := F2.binds (ps := ["tape", "most"]) fun _ _ _ _ _ _ us hl => match us, hl with | [_, _], _ => rfl
  have X_law_programK : FxW l.prog w K mg base (3) "_law_program" 2 wf_law_programK := fx_law_programK F2 (PySem.W.mg_of X G a2) b2 B X_law_next X_law_row
  have F3 := fun_mk (st := s_text_of) l3 c3 k3
  have b3 := F3.binds (ps := ["state"]) fun _ _ _ _ _ _ us hl => match us, hl with | [_], _ => rfl
  have X_text_of : FxG l.prog w K mg base (1) "text_of" 1 m_text_of := fx_text_of F3 (PySem.W.mg_of X G a3) b3 B
  have X_tx : TxF l.prog w K mg base f3 := tx_text_of F3 b3 B
  have h_tx := PySem.W.mg_of X G a3
  have F4 := fun_mk (st := s_first_state_states) l4 c4 k4
  have b4 := F4.binds (ps := ["program"]) fun _ _ _ _ _ _ us hl => match us, hl with | [_], _ => rfl
  have X_first_state_states : Fx l.prog w K mg base (1) "first_state" 1 m_first_state_states := fx_first_state_states F4 (PySem.W.mg_of X G a4) b4 B (PySem.W.mg_of X G g_SLOTS) ⟨PySem.W.mg_of X G g_SECRET, q_SECRET⟩ ⟨PySem.W.mg_of X G g_ZERO, q_ZERO⟩ (PySem.W.mg_of X G g_REGISTERS)
  have F5 : FunD K "item_at" "item_at" (defArgs s_item_at) (defBody s_item_at) (defScope s_item_at) [.int 0] [] f5 _ := ⟨⟨oc5, od5, .ref dT5, kV5, dc5, pm5, an5, cd5, ct5, sl5, rfl, l5, c5, .inr ⟨by simp, dT5, _, [.int 0 dt5_0], dn5, rfl, e5, rfl, (.cons ⟨_, rfl⟩ .nil)⟩, .inl rfl⟩, k5⟩
  have b5 := F5.binds1 3 1 (ps := ["values", "k", "otherwise"]) (by simp) rfl (fun T kV doc pm an cdv ct us its hu hi => match us, its, hu, hi with | [_, _, _], [_], _, _ => ⟨_, rfl, rfl⟩)
  have bd5 := F5.binds1 2 0 (ps := ["values", "k", "otherwise"]) (by simp) rfl (fun T kV doc pm an cdv ct us its hu hi => match us, its, hu, hi with | [_, _], [_], _, _ => ⟨_, rfl, rfl⟩)
  have X_item_at : Fx l.prog w K mg base (1) "item_at" 3 m_item_at := fx_item_at F5 (PySem.W.mg_of X G a5) b5 B
  have XD_item_at : FxD l.prog w K mg base 1 "item_at" 2 [.int 0] [.int 0] m_item_at := fxd_item_at F5 (PySem.W.mg_of X G a5) bd5 B
  have F6 := fun_mk (st := s_row_at) l6 c6 k6
  have b6 := F6.binds (ps := ["program", "place"]) fun _ _ _ _ _ _ us hl => match us, hl with | [_, _], _ => rfl
  have X_row_at : Fx l.prog w K mg base (2) "row_at" 2 m_row_at := fx_row_at F6 (PySem.W.mg_of X G a6) b6 B X_item_at
  have F7 := fun_mk (st := s_made_row) l7 c7 k7
  have b7 := F7.binds (ps := ["program", "state", "window"]) fun _ _ _ _ _ _ us hl => match us, hl with | [_, _, _], _ => rfl
  have X_made_row : Fx l.prog w K mg base (3) "made_row" 3 m_made_row := fx_made_row F7 (PySem.W.mg_of X G a7) b7 B X_row_at
  have F8 := fun_mk (st := s_is_natural) l8 c8 k8
  have b8 := F8.binds (ps := ["value"]) fun _ _ _ _ _ _ us hl => match us, hl with | [_], _ => rfl
  have X_is_natural : Fx l.prog w K mg base (1) "is_natural" 1 m_is_natural := fx_is_natural F8 (PySem.W.mg_of X G a8) b8 B
  have F9 := fun_mk (st := s_is_window) l9 c9 k9
  have b9 := F9.binds (ps := ["value"]) fun _ _ _ _ _ _ us hl => match us, hl with | [_], _ => rfl
  have X_is_window : Fx l.prog w K mg base (2) "is_window" 1 m_is_window := fx_is_window F9 (PySem.W.mg_of X G a9) b9 B X_is_natural
  have F10 := fun_mk (st := s_kind_of) l10 c10 k10
  have b10 := F10.binds (ps := ["state", "r"]) fun _ _ _ _ _ _ us hl => match us, hl with | [_, _], _ => rfl
  have X_kind_of : Fx l.prog w K mg base (2) "kind_of" 2 m_kind_of := fx_kind_of F10 (PySem.W.mg_of X G a10) b10 B ⟨PySem.W.mg_of X G g_ZERO, q_ZERO⟩ X_item_at
  have F11 := fun_mk (st := s_shows_secret) l11 c11 k11
  have b11 := F11.binds (ps := ["row", "state"]) fun _ _ _ _ _ _ us hl => match us, hl with | [_, _], _ => rfl
  have X_shows_secret : Fx l.prog w K mg base (3) "shows_secret" 2 m_shows_secret := fx_shows_secret F11 (PySem.W.mg_of X G a11) b11 B X_kind_of
  have F12 := fun_mk (st := s_is_leak) l12 c12 k12
  have b12 := F12.binds (ps := ["program", "state", "window"]) fun _ _ _ _ _ _ us hl => match us, hl with | [_, _, _], _ => rfl
  have X_is_leak : Fx l.prog w K mg base (4) "is_leak" 3 m_is_leak := fx_is_leak F12 (PySem.W.mg_of X G a12) b12 B X_is_window X_made_row X_shows_secret
  have F13 := fun_mk (st := s_changed) l13 c13 k13
  have b13 := F13.binds (ps := ["values", "at", "value"]) fun _ _ _ _ _ _ us hl => match us, hl with | [_, _, _], _ => rfl
  have X_changed : Fx l.prog w K mg base (1) "changed" 3 m_changed := fx_changed F13 (PySem.W.mg_of X G a13) b13 B
  have F14 := fun_mk (st := s_with_fact) l14 c14 k14
  have b14 := F14.binds (ps := ["facts", "number", "array", "truth"]) fun _ _ _ _ _ _ us hl => match us, hl with | [_, _, _, _], _ => rfl
  have X_with_fact : Fx l.prog w K mg base (2) "with_fact" 4 m_with_fact := fx_with_fact F14 (PySem.W.mg_of X G a14) b14 B X_changed
  have F15 := fun_mk (st := s_cases) l15 c15 k15
  have b15 := F15.binds (ps := ["row", "state"]) fun _ _ _ _ _ _ us hl => match us, hl with | [_, _], _ => rfl
  have X_cases : Fx l.prog w K mg base (3) "cases" 2 m_cases := fx_cases F15 (PySem.W.mg_of X G a15) b15 B (PySem.W.mg_of X G g_ASKING) T_ASKING ⟨PySem.W.mg_of X G g_ZERO, q_ZERO⟩ X_item_at X_kind_of X_with_fact
  have F16 := fun_mk (st := s_bounded) l16 c16 k16
  have b16 := F16.binds (ps := ["present", "old", "age", "window"]) fun _ _ _ _ _ _ us hl => match us, hl with | [_, _, _, _], _ => rfl
  have X_bounded : Fx l.prog w K mg base (1) "bounded" 4 m_bounded := fx_bounded F16 (PySem.W.mg_of X G a16) b16 B ⟨PySem.W.mg_of X G g_ZERO, q_ZERO⟩
  have F17 := fun_mk (st := s_next_slot) l17 c17 k17
  have b17 := F17.binds (ps := ["row", "state", "window", "s"]) fun _ _ _ _ _ _ us hl => match us, hl with | [_, _, _, _], _ => rfl
  have X_next_slot : Fx l.prog w K mg base (3) "next_slot" 4 m_next_slot := fx_next_slot F17 (PySem.W.mg_of X G a17) b17 B ⟨PySem.W.mg_of X G g_ZERO, q_ZERO⟩ X_bounded X_kind_of
  have F18 := fun_mk (st := s_next_place) l18 c18 k18
  have b18 := F18.binds (ps := ["row", "place", "way"]) fun _ _ _ _ _ _ us hl => match us, hl with | [_, _, _], _ => rfl
  have X_next_place : Fx l.prog w K mg base (1) "next_place" 3 m_next_place := fx_next_place F18 (PySem.W.mg_of X G a18) b18 B
  have F19 := fun_mk (st := s_masked) l19 c19 k19
  have b19 := F19.binds (ps := ["kind", "array", "truth"]) fun _ _ _ _ _ _ us hl => match us, hl with | [_, _, _], _ => rfl
  have X_masked : Fx l.prog w K mg base (1) "masked" 3 m_masked := fx_masked F19 (PySem.W.mg_of X G a19) b19 B ⟨PySem.W.mg_of X G g_ZERO, q_ZERO⟩
  have F20 := fun_mk (st := s_slot_of) l20 c20 k20
  have b20 := F20.binds (ps := ["state", "s"]) fun _ _ _ _ _ _ us hl => match us, hl with | [_, _], _ => rfl
  have X_slot_of : Fx l.prog w K mg base (2) "slot_of" 2 m_slot_of := fx_slot_of F20 (PySem.W.mg_of X G a20) b20 B ⟨PySem.W.mg_of X G g_ZERO, q_ZERO⟩ X_item_at
  have F21 := fun_mk (st := s_given_states) l21 c21 k21
  have b21 := F21.binds (ps := ["row", "state", "truth"]) fun _ _ _ _ _ _ us hl => match us, hl with | [_, _, _], _ => rfl
  have X_given_states : Fx l.prog w K mg base (3) "given" 3 m_given_states := fx_given_states F21 (PySem.W.mg_of X G a21) b21 B ⟨PySem.W.mg_of X G g_SECRET, q_SECRET⟩ X_kind_of X_masked X_slot_of
  have F22 := fun_mk (st := s_real_step) l22 c22 k22
  have b22 := F22.binds (ps := ["row", "state", "truth"]) fun _ _ _ _ _ _ us hl => match us, hl with | [_, _, _], _ => rfl
  have X_real_step : Fx l.prog w K mg base (4) "real_step" 3 m_real_step := fx_real_step F22 (PySem.W.mg_of X G a22) b22 B ⟨PySem.W.mg_of X G g_GIVING, q_GIVING⟩ X_changed X_given_states X_next_place
  have F23 := fun_mk (st := s_wrong_guess) l23 c23 k23
  have b23 := F23.binds (ps := ["row", "state", "window", "truth"]) fun _ _ _ _ _ _ us hl => match us, hl with | [_, _, _, _], _ => rfl
  have X_wrong_guess : Fx l.prog w K mg base (3) "wrong_guess" 4 m_wrong_guess := fx_wrong_guess F23 (PySem.W.mg_of X G a23) b23 B X_changed X_next_place X_slot_of
  have F24 := fun_mk (st := s_public_numbers) l24 c24 k24
  have b24 := F24.binds (ps := ["registers", "slots"]) fun _ _ _ _ _ _ us hl => match us, hl with | [_, _], _ => rfl
  have XW_public_numbers : FxW l.prog w K mg base (1) "public_numbers" 2 wf_public_numbers := fx_public_numbers F24 (PySem.W.mg_of X G a24) b24 B
  have X_public_numbers : Fx l.prog w K mg base (1) "public_numbers" 2 m_public_numbers := fx_of_w XW_public_numbers pn_ok
  have F25 := fun_mk (st := s_renamed) l25 c25 k25
  have b25 := F25.binds (ps := ["kind", "numbers"]) fun _ _ _ _ _ _ us hl => match us, hl with | [_, _], _ => rfl
  have X_renamed : Fx l.prog w K mg base (1) "renamed" 2 m_renamed := fx_renamed F25 (PySem.W.mg_of X G a25) b25 B
  have F26 := fun_mk (st := s_numbered) l26 c26 k26
  have b26 := F26.binds (ps := ["place", "registers", "slots", "facts", "depth"]) fun _ _ _ _ _ _ us hl => match us, hl with | [_, _, _, _, _], _ => rfl
  have X_numbered : Fx l.prog w K mg base (2) "numbered" 5 m_numbered := fx_numbered F26 (PySem.W.mg_of X G a26) b26 B X_public_numbers X_renamed
  have F27 := fun_mk (st := s_deeper) l27 c27 k27
  have b27 := F27.binds (ps := ["depth", "window"]) fun _ _ _ _ _ _ us hl => match us, hl with | [_, _], _ => rfl
  have X_deeper : Fx l.prog w K mg base (1) "deeper" 2 m_deeper := fx_deeper F27 (PySem.W.mg_of X G a27) b27 B
  have F28 := fun_mk (st := s_opened) l28 c28 k28
  have b28 := F28.binds (ps := ["depth", "window"]) fun _ _ _ _ _ _ us hl => match us, hl with | [_, _], _ => rfl
  have X_opened : Fx l.prog w K mg base (2) "opened" 2 m_opened := fx_opened F28 (PySem.W.mg_of X G a28) b28 B X_deeper
  have F29 := fun_mk (st := s_steps) l29 c29 k29
  have b29 := F29.binds (ps := ["program", "state", "window"]) fun _ _ _ _ _ _ us hl => match us, hl with | [_, _, _], _ => rfl
  have X_steps : Fx l.prog w K mg base (5) "steps" 3 m_steps := fx_steps F29 (PySem.W.mg_of X G a29) b29 B (PySem.W.mg_of X G g_SLOTS) (PySem.W.mg_of X G g_ARRAYS) X_cases X_deeper X_is_window X_made_row X_next_slot X_numbered X_opened X_real_step X_shows_secret X_wrong_guess
  have F30 := fun_mk (st := s_path_to) l30 c30 k30
  have b30 := F30.binds (ps := ["met", "state"]) fun _ _ _ _ _ _ us hl => match us, hl with | [_, _], _ => rfl
  have X_path_to : FxW l.prog w K mg base (1) "path_to" 2 (wf_path_to l.prog w) := fx_path_to F30 (PySem.W.mg_of X G a30) b30 B
  have F31 := fun_mk (st := s_search) l31 c31 k31
  have b31 := F31.binds (ps := ["program", "window"]) fun _ _ _ _ _ _ us hl => match us, hl with | [_, _], _ => rfl
  have X_search : FxWG l.prog w K mg base (11) "search" 2 (wf_search l.prog w) := fx_search F31 (PySem.W.mg_of X G a31) b31 B (PySem.W.mg_of X G g_MOST_STATES) X_first_state_states X_is_leak X_path_to X_steps X_tx h_tx
  have F32 := fun_mk (st := s_least_window) l32 c32 k32
  have b32 := F32.binds (ps := ["program"]) fun _ _ _ _ _ _ us hl => match us, hl with | [_], _ => rfl
  have X_least_window : FxWG l.prog w K mg base (12) "least_window" 1 (wf_least_window l.prog w) := fx_least_window F32 (PySem.W.mg_of X G a32) b32 B X_search
  have F33 := fun_mk (st := s_is_accepted) l33 c33 k33
  have b33 := F33.binds (ps := ["program", "window"]) fun _ _ _ _ _ _ us hl => match us, hl with | [_, _], _ => rfl
  have X_is_accepted : FxWG l.prog w K mg base (12) "is_accepted" 2 (wf_is_accepted l.prog w) := fx_is_accepted F33 (PySem.W.mg_of X G a33) b33 B X_search
  have F34 := fun_mk (st := s_law_many) l34 c34 k34
  have b34 := F34.binds (ps := ["program", "window"]) fun _ _ _ _ _ _ us hl => match us, hl with | [_, _], _ => rfl
  have X_law_many : FxW l.prog w K mg base (6) "_law_many" 2 (wf_law_many l.prog w) := fx_law_many F34 (PySem.W.mg_of X G a34) b34 B X_first_state_states X_steps
  have F35 := fun_mk (st := s_law) l35 c35 k35
  exact fn_law F35 B X_law_many X_law_next X_law_programK X_is_accepted X_least_window
end K16
open PySem PySem.W PyProof.Rows
set_option maxHeartbeats 0 in
theorem PySem.Challenge.cw_guesshush_k16_whole_windows_holds : PySem.Challenge.rw_guesshush_k16_whole_windows.Holds := by
  w_on; o_law; k_head; (case hw => w_witness2)
  k_fill
  refine Mi.walk_ofG (l := PySem.Challenge.rw_guesshush_k16_whole_windows) (n := 63) (k := 13) (x := "script") (CX := fun _ => L2.CX0) (sp := fun w => Mi.spW0 _ 1 (K16.wf_law PySem.Challenge.rw_guesshush_k16_whole_windows.prog w)) rfl (by decide) rfl ⟨rfl, by decide, by decide⟩ (fun w h Y => PySem.W.kIn_of Y) ?F (fun w H a ns hl _ hS => K16.law_sp hl hS) (fun _ _ _ _ _ h => h)
  case F =>
    intro w mg fa h KX G hmg
    refine' K16.all_mk KX G hmg ?a0 ?l0 ?c0 ?k0 ?a1 ?l1 ?c1 ?k1 ?a2 ?l2 ?c2 ?k2 ?a3 ?l3 ?c3 ?k3 ?a4 ?l4 ?c4 ?k4 ?e5 ?a5 ?l5 ?c5 ?k5 ?a6 ?l6 ?c6 ?k6 ?a7 ?l7 ?c7 ?k7 ?a8 ?l8 ?c8 ?k8 ?a9 ?l9 ?c9 ?k9 ?a10 ?l10 ?c10 ?k10 ?a11 ?l11 ?c11 ?k11 ?a12 ?l12 ?c12 ?k12 ?a13 ?l13 ?c13 ?k13 ?a14 ?l14 ?c14 ?k14 ?a15 ?l15 ?c15 ?k15 ?a16 ?l16 ?c16 ?k16 ?a17 ?l17 ?c17 ?k17 ?a18 ?l18 ?c18 ?k18 ?a19 ?l19 ?c19 ?k19 ?a20 ?l20 ?c20 ?k20 ?a21 ?l21 ?c21 ?k21 ?a22 ?l22 ?c22 ?k22 ?a23 ?l23 ?c23 ?k23 ?a24 ?l24 ?c24 ?k24 ?a25 ?l25 ?c25 ?k25 ?a26 ?l26 ?c26 ?k26 ?a27 ?l27 ?c27 ?k27 ?a28 ?l28 ?c28 ?k28 ?a29 ?l29 ?c29 ?k29 ?a30 ?l30 ?c30 ?k30 ?a31 ?l31 ?c31 ?k31 ?a32 ?l32 ?c32 ?k32 ?a33 ?l33 ?c33 ?k33 ?a34 ?l34 ?c34 ?k34 ?a35 ?l35 ?c35 ?k35 ?z_abs ?z_enumerate ?z_int ?z_len ?z_list ?z_range ?z_repr ?z_sorted ?z_tuple ?z_type ?g_REGISTERS ?g_SLOTS ?g_ARRAYS ?g_GIVING ?q_GIVING ?g_ZERO ?q_ZERO ?g_SECRET ?q_SECRET ?g_ASKING ?T_ASKING ?g_MOST_STATES ?G_c ?G_y ?o_c ?o_m ?o_s ?o_x ?o_t ?o_k ?i_c ?i_t ?i_l ?i_d ?i_k ?z_VE ?v_V ?x_g ?x_k ?x_d ?x_a ?x_n ?x_t ?x_m ?c_b ?c_d ?c_t ?c_y
    (case a0 => k_is)
    (case l0 => k_is)
    (case c0 => k_is)
    (case k0 => k_is)
    (case a1 => k_is)
    (case l1 => k_is)
    (case c1 => k_is)
    (case k1 => k_is)
    (case a2 => k_is)
    (case l2 => k_is)
    (case c2 => k_is)
    (case k2 => k_is)
    (case a3 => k_is)
    (case l3 => k_is)
    (case c3 => k_is)
    (case k3 => k_is)
    (case a4 => k_is)
    (case l4 => k_is)
    (case c4 => k_is)
    (case k4 => k_is)
    (case a5 => k_is)
    (case l5 => k_is)
    (case c5 => k_is)
    (case k5 => k_is)
    (case a6 => k_is)
    (case l6 => k_is)
    (case c6 => k_is)
    (case k6 => k_is)
    (case a7 => k_is)
    (case l7 => k_is)
    (case c7 => k_is)
    (case k7 => k_is)
    (case a8 => k_is)
    (case l8 => k_is)
    (case c8 => k_is)
    (case k8 => k_is)
    (case a9 => k_is)
    (case l9 => k_is)
    (case c9 => k_is)
    (case k9 => k_is)
    (case a10 => k_is)
    (case l10 => k_is)
    (case c10 => k_is)
    (case k10 => k_is)
    (case a11 => k_is)
    (case l11 => k_is)
    (case c11 => k_is)
    (case k11 => k_is)
    (case a12 => k_is)
    (case l12 => k_is)
    (case c12 => k_is)
    (case k12 => k_is)
    (case a13 => k_is)
    (case l13 => k_is)
    (case c13 => k_is)
    (case k13 => k_is)
    (case a14 => k_is)
    (case l14 => k_is)
    (case c14 => k_is)
    (case k14 => k_is)
    (case a15 => k_is)
    (case l15 => k_is)
    (case c15 => k_is)
    (case k15 => k_is)
    (case a16 => k_is)
    (case l16 => k_is)
    (case c16 => k_is)
    (case k16 => k_is)
    (case a17 => k_is)
    (case l17 => k_is)
    (case c17 => k_is)
    (case k17 => k_is)
    (case a18 => k_is)
    (case l18 => k_is)
    (case c18 => k_is)
    (case k18 => k_is)
    (case a19 => k_is)
    (case l19 => k_is)
    (case c19 => k_is)
    (case k19 => k_is)
    (case a20 => k_is)
    (case l20 => k_is)
    (case c20 => k_is)
    (case k20 => k_is)
    (case a21 => k_is)
    (case l21 => k_is)
    (case c21 => k_is)
    (case k21 => k_is)
    (case a22 => k_is)
    (case l22 => k_is)
    (case c22 => k_is)
    (case k22 => k_is)
    (case a23 => k_is)
    (case l23 => k_is)
    (case c23 => k_is)
    (case k23 => k_is)
    (case a24 => k_is)
    (case l24 => k_is)
    (case c24 => k_is)
    (case k24 => k_is)
    (case a25 => k_is)
    (case l25 => k_is)
    (case c25 => k_is)
    (case k25 => k_is)
    (case a26 => k_is)
    (case l26 => k_is)
    (case c26 => k_is)
    (case k26 => k_is)
    (case a27 => k_is)
    (case l27 => k_is)
    (case c27 => k_is)
    (case k27 => k_is)
    (case a28 => k_is)
    (case l28 => k_is)
    (case c28 => k_is)
    (case k28 => k_is)
    (case a29 => k_is)
    (case l29 => k_is)
    (case c29 => k_is)
    (case k29 => k_is)
    (case a30 => k_is)
    (case l30 => k_is)
    (case c30 => k_is)
    (case k30 => k_is)
    (case a31 => k_is)
    (case l31 => k_is)
    (case c31 => k_is)
    (case k31 => k_is)
    (case a32 => k_is)
    (case l32 => k_is)
    (case c32 => k_is)
    (case k32 => k_is)
    (case a33 => k_is)
    (case l33 => k_is)
    (case c33 => k_is)
    (case k33 => k_is)
    (case a34 => k_is)
    (case l34 => k_is)
    (case c34 => k_is)
    (case k34 => k_is)
    (case a35 => k_is)
    (case l35 => k_is)
    (case c35 => k_is)
    (case k35 => k_is)
    (case z_abs => k_is)
    (case z_enumerate => k_is)
    (case z_int => k_is)
    (case z_len => k_is)
    (case z_list => k_is)
    (case z_range => k_is)
    (case z_repr => k_is)
    (case z_sorted => k_is)
    (case z_tuple => k_is)
    (case z_type => k_is)
    (case g_REGISTERS => k_is)
    (case g_SLOTS => k_is)
    (case g_ARRAYS => k_is)
    (case g_GIVING => k_is)
    (case q_GIVING =>
      refine' K16.tup_mk_GIVING ?xl_q
      (case xl_q => k_is))
    (case g_ZERO => k_is)
    (case q_ZERO =>
      refine' K16.tup_mk_ZERO ?xl_q
      (case xl_q => k_is))
    (case g_SECRET => k_is)
    (case q_SECRET =>
      refine' K16.tup_mk_SECRET ?xl_q ?xl_q_1
      (case xl_q => k_is)
      (case xl_q_1 => k_is))
    (case g_ASKING => k_is)
    (case T_ASKING =>
      refine' K16.tab_mk_ASKING ?fhl ?fhk ?flow ?xe0 ?xe1 ?xe2 ?xw0 ?xw1 ?xw2 ?xw3 ?xw4 ?xw5 ?xw6
      (case fhl => k_is)
      (case fhk => exact ⟨⟨_, _, rfl, rfl⟩, ⟨_, _, rfl, rfl⟩, ⟨_, _, rfl, rfl⟩, trivial⟩)
      (case flow => decide)
      (case xe0 => k_is)
      (case xe1 => k_is)
      (case xe2 => k_is)
      (case xw0 => k_is)
      (case xw1 => k_is)
      (case xw2 => k_is)
      (case xw3 => k_is)
      (case xw4 => k_is)
      (case xw5 => k_is)
      (case xw6 => k_is))
    (case g_MOST_STATES => k_is)
    (case G_c => k_is)
    (case G_y => k_is)
    (case o_c => k_is)
    (case o_m => decide +kernel)
    (case o_s => k_is)
    (case o_x => k_is)
    (case o_t => k_is)
    (case o_k => k_is)
    (case i_c => k_is)
    (case i_t => k_is)
    (case i_l => k_is)
    (case i_d => k_is)
    (case i_k => k_is)
    (case z_VE => k_is)
    (case v_V => k_is)
    (case x_g => k_is)
    (case x_k => k_is)
    (case x_d => k_is)
    (case x_a => k_is)
    (case x_n => k_is)
    (case x_t => k_is)
    (case x_m => k_is)
    (case c_b => k_is)
    (case c_d => k_is)
    (case c_t => k_is)
    (case c_y => k_is)
    (case e5 => k_is)
